import PyProof.Rows.All
import Wide.All
import OpenK.AllK
import Wide.FinOn
import Lean
import PyProof.EqAt
import PyProof.EqKinds
import PyProof.TupleCall
import PyProof.NeKinds
import PyProof.ZipIter
import PyProof.DictUpdate
import PyProof.FactsAll.dict_1
import PyProof.DictIter
import PyProof.DictWalks
import PySem.Challenge.RW_chanceduel_k21_plans_refused
set_option Elab.async false
set_option linter.all false
set_option maxRecDepth 100000
set_option maxHeartbeats 4000000
set_option compiler.extract_closed false
def aaa:=@List.getElem?_eq_getElem
def aac:=@List.getD_eq_getElem?_getD
def aae:=@List.length_map
def aaf:=@PySem.wpAny_bind
def aah:=@PySem.Heap.get?_push_of_some
def aai:=@List.mem_cons_of_mem
def aaj:=@List.getElem?_eq_some_iff
def aal:=@List.mem_cons_self
def aam:=@Nat.le_refl
def aan:=@List.getElem?_map
def aas:=@Int.le_of_lt
def aat:=@List.getElem?_append_right
def aau:=@PySem.Heap.lt_size
def aav:=@Option.some.inj
def aaw:=@PySem.wpAny_pure
def aax:=@decide_eq_true
def aay:=@Nat.lt_of_lt_of_le
def aaz:=@List.length_cons
def aaA:=@Bool.and_eq_true
def aaB:=@decide_eq_false
def aaC:=@List.length_append
def aaD:=@Int.mul_le_mul_of_nonneg_left
def aaE:=@if_neg
def aaF:=@List.getElem?_append_left
def aaG:=@if_pos
def aaH:=@List.mem_map
def aaI:=@List.mem_of_getElem?
def aaJ:=@Nat.le_trans
def aaK:=@Bool.false_ne_true
def aaL:=@List.mem_append_right
def aaM:=@List.size_toArray
def aaN:=@Nat.ne_of_lt
def aaO:=@absurd
def aaP:=@of_decide_eq_true
def aaQ:=@Int.mul_le_mul_of_nonneg_right
def aaR:=@List.mem_cons
def aaS:=@PySem.Heap.get?_push_size
def aaT:=@List.map_map
def aaU:=@List.getElem_mem
def aaV:=@List.getElem?_set_self
def aaW:=@decide_eq_true_iff
def aaX:=@List.getElem?_range
def aaY:=@Int.lt_of_le_of_lt
def aaZ:=@Int.eq_of_mul_eq_mul_left
def aa0:=@List.append_nil
def aa2:=@Int.emod_lt_of_pos
def aa3:=@List.mem_append
def aa4:=@List.nil_append
def aa5:=@Int.emod_nonneg
def aa6:=@Int.mul_pos
def aa7:=@List.length_set
def aa8:=@List.map_cons
def aa9:=@List.length_replicate
def aba:=@congrArg
def abb:=@List.map_append
def abc:=@Int.mul_comm
def abd:=@List.getElem?_set_ne
def abe:=@List.length_range
def abf:=@Nat.lt_of_le_of_lt
def abg:=@List.mem_range
def abh:=@beq_iff_eq
def abi:=@List.length_zip
def abj:=@List.mem_singleton
def abl:=@PySem.wpAny_mono
def abm:=@List.append_assoc
def abn:=@Int.mul_nonneg
def abo:=@Int.natAbs_mul
def abp:=@of_decide_eq_false
def abq:=@List.nodup_cons
def abt:=@List.replicate_succ
def abu:=@Rat.intCast_mul
def abv:=@Nat.lt_irrefl
def abw:=@Array.getElem?_eq_some_iff
def abx:=@List.zip_cons_cons
def aby:=@Option.map_eq_some_iff
def abA:=@List.drop_eq_getElem_cons
def abB:=@List.map_congr_left
def abC:=@Int.mul_ediv_cancel_left
def abD:=@Nat.not_lt_zero
def abE:=@List.mem_append_left
def abF:=@Int.natAbs_of_nonneg
def abG:=@Int.le_trans
def abH:=@List.ext_getElem
def abI:=@List.flatten_cons
def abJ:=@List.getElem_of_mem
def abK:=@List.getElem?_zip_eq_some
def abL:=@List.of_mem_zip
def abM:=@List.length_drop
def abN:=@List.lookup_cons
def abO:=@List.all_eq_true
def abP:=@Rat.mul_le_mul_of_nonneg_left
def abQ:=@List.set_append_left
def abR:=@Int.mul_le_mul
def abS:=@List.take_of_length_le
def abT:=@Int.fmod_eq_emod_of_nonneg
def abU:=@Nat.lt_succ_self
def abV:=@Nat.le_add_right
def abW:=@List.mem_filterMap
def abX:=@List.getElem?_eq_none
def abY:=@Int.pow_succ
def ab0:=@Int.ne_of_gt
def ab1:=@Int.pow_nonneg
def ab2:=@Int.mul_neg_of_pos_of_neg
def ab3:=@Option.isSome_iff_exists
def ab4:=@Int.natCast_add
def ab5:=@List.getElem?_replicate
def ab6:=@List.all_cons
def ab7:=@List.any_cons
def ab8:=@List.range_succ_eq_map
def ab9:=@List.drop_eq_nil_of_le
def aca:=@Nat.zero_le
def acb:=@Bool.or_eq_true
def acd:=@Nat.min_self
def ace:=@Int.lt_or_le
def acf:=@Int.le_of_dvd
def acg:=@Int.fdiv_eq_ediv_of_nonneg
def ach:=@Nat.pow_le_pow_right
def aci:=@Array.getElem?_eq_getElem
def acj:=@Int.le_of_mul_le_mul_left
def ack:=@List.length_take
def acm:=@beq_self_eq_true
def acn:=@Int.ediv_le_self
def aco:=@List.filterMap_cons
def acp:=@List.getElem?_take_of_lt
def acq:=@List.mem_of_mem_eraseIdx
def acr:=@List.mem_filter
def acs:=@List.foldl_cons
def acu:=@Nat.min_eq_left
def acv:=@Bool.false_or
def acw:=@Int.mul_assoc
def acx:=@List.map_take
def acy:=@List.map_drop
def acz:=@Int.toNat_natCast
def acA:=@List.nodup_append
def acB:=@List.ext_getElem?
def acC:=@Bool.and_false
def acD:=@List.drop_zero
def acE:=@Nat.ne_of_gt
def acF:=@Int.ofNat_lt
def acG:=@List.map_id'
def acH:=@Int.dvd_zero
def acI:=@Int.lt_trans
namespace Hd
open PySem PySem.W PyProof.Rows
def at_(i:Nat):Stmt:=PySem.Challenge.pw_chanceduel_k21_plans_refused.main.body.getD i (.Pass ⟨0,0,0,0⟩)
def QU:Stmt->Nat->Stmt
  | .ClassDef _ _ _ b _ _ _ _ _ _ _,j=>b.getD j (.Pass ⟨0,0,0,0⟩)
  | s,_=>s
def dA:Stmt->Arguments
  | .FunctionDef _ a _ _ _ _ _ _ _ _=>a
  | _=>⟨[],[],none,[],[],none,[]⟩
def dB:Stmt->List Stmt
  | .FunctionDef _ _ b _ _ _ _ _ _ _=>b
  | _=>[]
def dS:Stmt->Scope
  | .FunctionDef _ _ _ _ _ _ c _ _ _=>c
  | _=>{kind:= .function,names:=[],isGenerator:=false,isCoroutine:=false}
abbrev row:=PySem.Challenge.rw_chanceduel_k21_plans_refused.row
abbrev en(P:Params)(x:Str)(t:Tok)(v:Value):DictEntry:=⟨PyData.keyHash P x, .str x t,v⟩
def q:Program:={PySem.Challenge.pw_chanceduel_k21_plans_refused with main:={PySem.Challenge.pw_chanceduel_k21_plans_refused.main with body:=[at_ 1,at_ 2,at_ 3,at_ 4,at_ 5,at_ 6,at_ 7,at_ 8,at_ 9,at_ 10,at_ 11,at_ 13,at_ 14,at_ 15,at_ 16,at_ 17,at_ 18,at_ 20,at_ 21,at_ 22,at_ 23,at_ 24,at_ 25,at_ 26,at_ 27,at_ 28,at_ 29,at_ 31,at_ 32,at_ 33,at_ 34,at_ 35,at_ 36,at_ 37,at_ 38,at_ 40,at_ 41,at_ 42,at_ 43,at_ 44,at_ 45,at_ 46,at_ 47,at_ 49,at_ 50,at_ 51,at_ 52,at_ 53,at_ 54,at_ 55,at_ 56,at_ 57,at_ 58,at_ 59,at_ 61,at_ 62,at_ 64,at_ 67,at_ 68,at_ 69,at_ 70,at_ 71,at_ 72,at_ 73,at_ 74,at_ 75,at_ 76,at_ 77,at_ 78,at_ 79,at_ 80,at_ 81,at_ 82,at_ 83]}}
abbrev cO(x q:Str)(t l n f a m:Nat):Obj:=⟨.type "code",none, .fields #[.str x t, .str q (t+1), .str "/claim/cut.py" (t+2), .int l 0, .int n 0, .int 0 0, .int 0 0, .int f 0, .ref a, .bool true, .int 181 0, .ref (a+1), .none, .ref (a+2), .ref (a+3), .ref (a+4), .int m 0, .int l 0, .str "/claim/cut.py" (m+1)], #[]⟩
abbrev dO(x q:Str)(t l n f a m:Nat):Obj:=⟨.type "code",none, .fields #[.str x t, .str q (t+1), .str "/claim/cut.py" (t+2), .int l 0, .int n 0, .int 0 0, .int 0 0, .int f 0, .ref a, .bool true, .int 181 0, .ref (a+1), .none, .none, .none, .ref (a+2), .int m 0, .int l 0, .str "/claim/cut.py" (m+1)], #[]⟩
abbrev fO(x q:Str)(s:Stmt)(m:Value)(c:Nat):Obj:=⟨.type "function",none, .func ⟨x,q,(dA s), .stmts (dB s),(dS s),3,[], .none, .none, .none,m,none, .ref c, .none,0⟩, #[]⟩
abbrev m0:Value:= .str "chanceduel.errors" 187
abbrev m1:Value:= .str "chanceduel.parts" 414
abbrev m2:Value:= .str "chanceduel.places" 468
abbrev m3:Value:= .str "chanceduel.floors" 526
abbrev m4:Value:= .str "chanceduel.rows" 679
abbrev m5:Value:= .str "chanceduel.plans" 755
abbrev m6:Value:= .str "chanceduel.answers" 855
abbrev m7:Value:= .str "chanceduel.mending" 880
abbrev m8:Value:= .str "law_chanceduel_k21_plans_refused" 905
noncomputable def K:Params->Frag:=λP=>
(nat_lit 2,⟨.none,none,(.dict #[] 0), #[]⟩)::
(nat_lit 3,⟨(.type "dict"),none,(.dict #[(en P "__name__" 165 m8),(en P "__doc__" 166 .none),(en P "__package__" 167 .none),(en P "__loader__" 168 (.builtin "__main__.__loader__#opaque")),(en P "__spec__" 169 .none),(en P "__annotations__" 170 (.ref 6)),(en P "__builtins__" 171 (.ref 4)),(en P "__file__" 173 (.str "/claim/cut.py" 172)),(en P "__cached__" 174 .none),(en P "DuelError" 206 (.ref 24)),(en P "NoNumber" 222 (.ref 37)),(en P "NoText" 238 (.ref 49)),(en P "NoName" 254 (.ref 61)),(en P "NoFloor" 270 (.ref 73)),(en P "NoPlace" 295 (.ref 92)),(en P "NoAnswer" 320 (.ref 111)),(en P "ManyAnswers" 347 (.ref 130)),(en P "NoPlan" 372 (.ref 149)),(en P "NoGoal" 397 (.ref 168)),(en P "NoRow" 413 (.ref 180)),(en P "common_divisor" 426 (.ref 189)),(en P "fraction" 435 (.ref 196)),(en P "plus" 443 (.ref 203)),(en P "minus" 451 (.ref 210)),(en P "times" 459 (.ref 217)),(en P "under" 467 (.ref 224)),(en P "HANDS" 472 (.ref 225)),(en P "MOST_DOORS" 474 (.int 6 473)),(en P "MOST_BOTTOM" 476 (.int 1000000 475)),(en P "fits_pay" 483 (.ref 232)),(en P "fits_door" 491 (.ref 239)),(en P "common_bottom" 500 (.ref 246)),(en P "fits_chances" 506 (.ref 251)),(en P "fits_doors" 512 (.ref 256)),(en P "fits_row" 518 (.ref 261)),(en P "copied_row" 525 (.ref 268)),(en P "MOST_PLACES" 529 (.int 12 528)),(en P "MOST_SHARE_BOTTOM" 531 (.int 1000 530)),(en P "TURNED_KINDS" 541 (.ref 269)),(en P "fits_share" 548 (.ref 276)),(en P "weighed" 559 (.ref 283)),(en P "greatest" 568 (.ref 290)),(en P "least" 577 (.ref 297)),(en P "Floor" 678 (.ref 374)),(en P "with_weights" 691 (.ref 385)),(en P "number_of_head" 701 (.ref 392)),(en P "moved_ahead" 710 (.ref 399)),(en P "cleared_line" 716 (.ref 404)),(en P "cleared" 722 (.ref 409)),(en P "quotients" 735 (.ref 416)),(en P "still_of" 741 (.ref 421)),(en P "answer_of" 754 (.ref 428)),(en P "places_of" 762 (.ref 433)),(en P "first_plan" 772 (.ref 440)),(en P "has_door" 781 (.ref 447)),(en P "doors_of" 792 (.ref 454)),(en P "better_doors" 804 (.ref 461)),(en P "ways_from" 814 (.ref 468)),(en P "whole_row" 820 (.ref 473)),(en P "led_row" 833 (.ref 480)),(en P "row_of" 839 (.ref 485)),(en P "worths_by" 845 (.ref 490)),(en P "worths_of" 854 (.ref 497)),(en P "worths_against" 866 (.ref 504)),(en P "against" 879 (.ref 511)),(en P "started" 890 (.ref 518)),(en P "mended" 904 (.ref 526)),(en P "_law_at" 916 (.ref 533)),(en P "_law_stream" 927 (.ref 540)),(en P "_law_lowest" 937 (.ref 547)),(en P "_law_pay" 946 (.ref 554)),(en P "_law_doors" 952 (.ref 559)),(en P "_law_by_digits" 959 (.ref 566)),(en P "_law_things" 972 (.ref 573)),(en P "_law_share_of" 982 (.ref 580)),(en P "_law_floor" 1002 (.ref 587)),(en P "_law_copy" 1008 (.ref 592)),(en P "_law_plan" 1024 (.ref 599)),(en P "_law_first" 1030 (.ref 604)),(en P "_law_spoils" 1036 (.ref 609)),(en P "_law_spoiled" 1046 (.ref 616)),(en P "_law_caught" 1058 (.ref 623)),(en P "_law_refused" 1066 (.ref 630)),(en P "law" 1072 (.ref 635))] 84), #[]⟩)::
(nat_lit 23,⟨(.type "dict"),none,(.dict #[(en P "__module__" 196 m0),(en P "__firstlineno__" 200 (.int 2 199)),(en P "__static_attributes__" 201 (.ref 22)),(en P "__weakref__" 203 (.ref 25)),(en P "__doc__" 204 .none)] 3), #[]⟩)::
(nat_lit 24,⟨(.type "type"),none,(.cls ⟨"DuelError",[(.type "ValueError")],[(.ref 24),(.type "ValueError"),(.type "Exception"),(.type "BaseException"),(.type "object")],23,"DuelError",true,[],[(.ref 37),(.ref 49),(.ref 61),(.ref 73),(.ref 92),(.ref 111),(.ref 130),(.ref 149),(.ref 168),(.ref 180)],false,none,false⟩), #[(some (.ref 15)),none,(some (.str "DuelError" 189)),(some (.str "DuelError" 197)),(some (.builtin "ValueError.__new__")),(some (.bool true))]⟩)::
(nat_lit 36,⟨(.type "dict"),none,(.dict #[(en P "__module__" 214 m0),(en P "__firstlineno__" 218 (.int 4 217)),(en P "__static_attributes__" 219 (.ref 35)),(en P "__doc__" 220 .none)] 2), #[]⟩)::
(nat_lit 37,⟨(.type "type"),none,(.cls ⟨"NoNumber",[(.ref 24)],[(.ref 37),(.ref 24),(.type "ValueError"),(.type "Exception"),(.type "BaseException"),(.type "object")],36,"NoNumber",true,[],[],false,none,false⟩), #[(some (.ref 28)),none,(some (.str "NoNumber" 207)),(some (.str "NoNumber" 215)),(some (.builtin "ValueError.__new__")),(some (.bool true))]⟩)::
(nat_lit 49,⟨(.type "type"),none,(.cls ⟨"NoText",[(.ref 24)],[(.ref 49),(.ref 24),(.type "ValueError"),(.type "Exception"),(.type "BaseException"),(.type "object")],48,"NoText",true,[],[],false,none,false⟩), #[(some (.ref 40)),none,(some (.str "NoText" 223)),(some (.str "NoText" 231)),(some (.builtin "ValueError.__new__")),(some (.bool true))]⟩)::
(nat_lit 61,⟨(.type "type"),none,(.cls ⟨"NoName",[(.ref 24)],[(.ref 61),(.ref 24),(.type "ValueError"),(.type "Exception"),(.type "BaseException"),(.type "object")],60,"NoName",true,[],[],false,none,false⟩), #[(some (.ref 52)),none,(some (.str "NoName" 239)),(some (.str "NoName" 247)),(some (.builtin "ValueError.__new__")),(some (.bool true))]⟩)::
(nat_lit 72,⟨(.type "dict"),none,(.dict #[(en P "__module__" 262 m0),(en P "__firstlineno__" 266 (.int 10 265)),(en P "__static_attributes__" 267 (.ref 71)),(en P "__doc__" 268 .none)] 2), #[]⟩)::
(nat_lit 73,⟨(.type "type"),none,(.cls ⟨"NoFloor",[(.ref 24)],[(.ref 73),(.ref 24),(.type "ValueError"),(.type "Exception"),(.type "BaseException"),(.type "object")],72,"NoFloor",true,[],[],false,none,false⟩), #[(some (.ref 64)),none,(some (.str "NoFloor" 255)),(some (.str "NoFloor" 263)),(some (.builtin "ValueError.__new__")),(some (.bool true))]⟩)::
(nat_lit 92,⟨(.type "type"),none,(.cls ⟨"NoPlace",[(.ref 24)],[(.ref 92),(.ref 24),(.type "ValueError"),(.type "Exception"),(.type "BaseException"),(.type "object")],91,"NoPlace",true,[],[],false,none,false⟩), #[(some (.ref 76)),none,(some (.str "NoPlace" 271)),(some (.str "NoPlace" 279)),(some (.builtin "ValueError.__new__")),(some (.bool true))]⟩)::
(nat_lit 111,⟨(.type "type"),none,(.cls ⟨"NoAnswer",[(.ref 24)],[(.ref 111),(.ref 24),(.type "ValueError"),(.type "Exception"),(.type "BaseException"),(.type "object")],110,"NoAnswer",true,[],[],false,none,false⟩), #[(some (.ref 95)),none,(some (.str "NoAnswer" 296)),(some (.str "NoAnswer" 304)),(some (.builtin "ValueError.__new__")),(some (.bool true))]⟩)::
(nat_lit 130,⟨(.type "type"),none,(.cls ⟨"ManyAnswers",[(.ref 24)],[(.ref 130),(.ref 24),(.type "ValueError"),(.type "Exception"),(.type "BaseException"),(.type "object")],129,"ManyAnswers",true,[],[],false,none,false⟩), #[(some (.ref 114)),none,(some (.str "ManyAnswers" 321)),(some (.str "ManyAnswers" 329)),(some (.builtin "ValueError.__new__")),(some (.bool true))]⟩)::
(nat_lit 145,cO "__init__" "NoPlan.__init__" 360 30 2 3 140 365)::
(nat_lit 146,fO "__init__" "NoPlan.__init__" (QU (at_ 9) 0) m0 145)::
(nat_lit 148,⟨(.type "dict"),none,(.dict #[(en P "__module__" 355 m0),(en P "__firstlineno__" 359 (.int 28 358)),(en P "__init__" 367 (.ref 146)),(en P "__static_attributes__" 369 (.ref 147)),(en P "__doc__" 370 .none)] 2), #[]⟩)::
(nat_lit 149,⟨(.type "type"),none,(.cls ⟨"NoPlan",[(.ref 24)],[(.ref 149),(.ref 24),(.type "ValueError"),(.type "Exception"),(.type "BaseException"),(.type "object")],148,"NoPlan",true,[],[],false,none,false⟩), #[(some (.ref 133)),none,(some (.str "NoPlan" 348)),(some (.str "NoPlan" 356)),(some (.builtin "ValueError.__new__")),(some (.bool true))]⟩)::
(nat_lit 168,⟨(.type "type"),none,(.cls ⟨"NoGoal",[(.ref 24)],[(.ref 168),(.ref 24),(.type "ValueError"),(.type "Exception"),(.type "BaseException"),(.type "object")],167,"NoGoal",true,[],[],false,none,false⟩), #[(some (.ref 152)),none,(some (.str "NoGoal" 373)),(some (.str "NoGoal" 381)),(some (.builtin "ValueError.__new__")),(some (.bool true))]⟩)::
(nat_lit 180,⟨(.type "type"),none,(.cls ⟨"NoRow",[(.ref 24)],[(.ref 180),(.ref 24),(.type "ValueError"),(.type "Exception"),(.type "BaseException"),(.type "object")],179,"NoRow",true,[],[],false,none,false⟩), #[(some (.ref 171)),none,(some (.str "NoRow" 398)),(some (.str "NoRow" 406)),(some (.builtin "ValueError.__new__")),(some (.bool true))]⟩)::
(nat_lit 188,cO "common_divisor" "common_divisor" 416 41 2 3 183 424)::
(nat_lit 189,fO "common_divisor" "common_divisor" (at_ 13) m1 188)::
(nat_lit 195,cO "fraction" "fraction" 427 49 2 3 190 433)::
(nat_lit 196,fO "fraction" "fraction" (at_ 14) m1 195)::
(nat_lit 202,cO "plus" "plus" 436 56 2 3 197 441)::
(nat_lit 203,fO "plus" "plus" (at_ 15) m1 202)::
(nat_lit 209,cO "minus" "minus" 444 58 2 3 204 449)::
(nat_lit 210,fO "minus" "minus" (at_ 16) m1 209)::
(nat_lit 216,cO "times" "times" 452 60 2 3 211 457)::
(nat_lit 217,fO "times" "times" (at_ 17) m1 216)::
(nat_lit 225,⟨(.type "tuple"),none,(.seq #[(.str "one" 470),(.str "other" 471)] 0), #[]⟩)::
(nat_lit 231,cO "fits_pay" "fits_pay" 477 68 1 3 226 481)::
(nat_lit 232,fO "fits_pay" "fits_pay" (at_ 23) m2 231)::
(nat_lit 238,cO "fits_door" "fits_door" 484 70 2 3 233 489)::
(nat_lit 239,fO "fits_door" "fits_door" (at_ 24) m2 238)::
(nat_lit 245,cO "common_bottom" "common_bottom" 492 72 1 3 240 498)::
(nat_lit 246,fO "common_bottom" "common_bottom" (at_ 25) m2 245)::
(nat_lit 250,dO "fits_chances" "fits_chances" 501 77 1 3 247 504)::
(nat_lit 251,fO "fits_chances" "fits_chances" (at_ 26) m2 250)::
(nat_lit 255,dO "fits_doors" "fits_doors" 507 83 2 3 252 510)::
(nat_lit 256,fO "fits_doors" "fits_doors" (at_ 27) m2 255)::
(nat_lit 260,dO "fits_row" "fits_row" 513 87 2 3 257 516)::
(nat_lit 261,fO "fits_row" "fits_row" (at_ 28) m2 260)::
(nat_lit 267,cO "copied_row" "copied_row" 519 96 1 3 262 523)::
(nat_lit 268,fO "copied_row" "copied_row" (at_ 29) m2 267)::
(nat_lit 269,⟨(.type "dict"),none,(.dict #[(en P "one" 532 (.str "other" 533)),(en P "other" 534 (.str "one" 535)),(en P "chance" 536 (.str "chance" 537))] 3), #[]⟩)::
(nat_lit 275,cO "fits_share" "fits_share" 542 104 1 3 270 546)::
(nat_lit 276,fO "fits_share" "fits_share" (at_ 34) m3 275)::
(nat_lit 282,cO "weighed" "weighed" 549 106 2 3 277 557)::
(nat_lit 283,fO "weighed" "weighed" (at_ 35) m3 282)::
(nat_lit 308,dO "__init__" "Floor.__init__" 590 125 3 3 305 593)::
(nat_lit 309,fO "__init__" "Floor.__init__" (QU (at_ 38) 0) m3 308)::
(nat_lit 315,cO "size" "Floor.size" 596 136 1 3 310 600)::
(nat_lit 316,fO "size" "Floor.size" (QU (at_ 38) 1) m3 315)::
(nat_lit 322,cO "share" "Floor.share" 603 139 1 3 317 607)::
(nat_lit 323,fO "share" "Floor.share" (QU (at_ 38) 2) m3 322)::
(nat_lit 329,cO "kind" "Floor.kind" 610 142 2 3 324 615)::
(nat_lit 330,fO "kind" "Floor.kind" (QU (at_ 38) 3) m3 329)::
(nat_lit 336,cO "doors" "Floor.doors" 618 145 2 3 331 623)::
(nat_lit 337,fO "doors" "Floor.doors" (QU (at_ 38) 4) m3 336)::
(nat_lit 343,cO "pay" "Floor.pay" 626 150 2 3 338 631)::
(nat_lit 344,fO "pay" "Floor.pay" (QU (at_ 38) 5) m3 343)::
(nat_lit 373,⟨(.type "dict"),none,(.dict #[(en P "__module__" 585 m3),(en P "__firstlineno__" 589 (.int 123 588)),(en P "__init__" 595 (.ref 309)),(en P "size" 602 (.ref 316)),(en P "share" 609 (.ref 323)),(en P "kind" 617 (.ref 330)),(en P "doors" 625 (.ref 337)),(en P "pay" 633 (.ref 344)),(en P "rows" 639 (.ref 349)),(en P "shown" 650 (.ref 356)),(en P "all_shown" 656 (.ref 361)),(en P "look" 662 (.ref 366)),(en P "best" 668 (.ref 371)),(en P "__static_attributes__" 671 (.ref 372)),(en P "__dict__" 673 (.ref 375)),(en P "__weakref__" 675 (.ref 376)),(en P "__doc__" 676 .none)] 4), #[]⟩)::
(nat_lit 374,⟨(.type "type"),none,(.cls ⟨"Floor",[(.type "object")],[(.ref 374),(.type "object")],373,"Floor",true,[],[],false,none,false⟩), #[none,none,(some (.str "Floor" 578)),(some (.str "Floor" 586)),(some (.builtin "object.__new__")),(some (.bool true))]⟩)::
(nat_lit 384,cO "with_weights" "with_weights" 681 181 1 3 379 689)::
(nat_lit 385,fO "with_weights" "with_weights" (at_ 40) m4 384)::
(nat_lit 391,cO "number_of_head" "number_of_head" 692 188 3 3 386 699)::
(nat_lit 392,fO "number_of_head" "number_of_head" (at_ 41) m4 391)::
(nat_lit 398,cO "moved_ahead" "moved_ahead" 702 193 3 3 393 708)::
(nat_lit 399,fO "moved_ahead" "moved_ahead" (at_ 42) m4 398)::
(nat_lit 403,dO "cleared_line" "cleared_line" 711 195 4 3 400 714)::
(nat_lit 404,fO "cleared_line" "cleared_line" (at_ 43) m4 403)::
(nat_lit 408,dO "cleared" "cleared" 717 197 2 3 405 720)::
(nat_lit 409,fO "cleared" "cleared" (at_ 44) m4 408)::
(nat_lit 415,cO "quotients" "quotients" 723 214 4 3 410 733)::
(nat_lit 416,fO "quotients" "quotients" (at_ 45) m4 415)::
(nat_lit 427,cO "answer_of" "answer_of" 742 224 1 3 422 752)::
(nat_lit 428,fO "answer_of" "answer_of" (at_ 47) m4 427)::
(nat_lit 432,dO "places_of" "places_of" 757 237 2 3 429 760)::
(nat_lit 433,fO "places_of" "places_of" (at_ 49) m5 432)::
(nat_lit 439,cO "first_plan" "first_plan" 763 239 2 3 434 770)::
(nat_lit 440,fO "first_plan" "first_plan" (at_ 50) m5 439)::
(nat_lit 446,cO "has_door" "has_door" 773 244 3 3 441 779)::
(nat_lit 447,fO "has_door" "has_door" (at_ 51) m5 446)::
(nat_lit 453,cO "doors_of" "doors_of" 782 246 2 3 448 790)::
(nat_lit 454,fO "doors_of" "doors_of" (at_ 52) m5 453)::
(nat_lit 467,cO "ways_from" "ways_from" 805 263 3 3 462 812)::
(nat_lit 468,fO "ways_from" "ways_from" (at_ 54) m5 467)::
(nat_lit 472,dO "whole_row" "whole_row" 815 268 1 3 469 818)::
(nat_lit 473,fO "whole_row" "whole_row" (at_ 55) m5 472)::
(nat_lit 479,cO "led_row" "led_row" 821 271 5 3 474 831)::
(nat_lit 480,fO "led_row" "led_row" (at_ 56) m5 479)::
(nat_lit 484,dO "row_of" "row_of" 834 277 3 3 481 837)::
(nat_lit 485,fO "row_of" "row_of" (at_ 57) m5 484)::
(nat_lit 489,dO "worths_by" "worths_by" 840 283 2 3 486 843)::
(nat_lit 490,fO "worths_by" "worths_by" (at_ 58) m5 489)::
(nat_lit 496,cO "worths_of" "worths_of" 846 285 3 3 491 852)::
(nat_lit 497,fO "worths_of" "worths_of" (at_ 59) m5 496)::
(nat_lit 510,cO "against" "against" 867 292 3 3 505 877)::
(nat_lit 511,fO "against" "against" (at_ 62) m6 510)::
(nat_lit 517,cO "started" "started" 882 303 3 3 512 888)::
(nat_lit 518,fO "started" "started" (at_ 64) m7 517)::
(nat_lit 519,⟨(.type "tuple"),none,(.seq #[(.str "one" 891), .none] 0), #[]⟩)::
(nat_lit 525,cO "mended" "mended" 892 307 3 3 520 902)::
(nat_lit 526,⟨(.type "function"),none,(.func ⟨"mended","mended",(dA (at_ 65)),(.stmts (dB (at_ 65))),(dS (at_ 65)),3,[],(.ref 519), .none, .none,m7,none,(.ref 525), .none,0⟩), #[]⟩)::
(nat_lit 532,cO "_law_at" "_law_at" 907 318 2 3 527 914)::
(nat_lit 533,fO "_law_at" "_law_at" (at_ 67) m8 532)::
(nat_lit 539,cO "_law_stream" "_law_stream" 917 325 2 3 534 925)::
(nat_lit 540,fO "_law_stream" "_law_stream" (at_ 68) m8 539)::
(nat_lit 546,cO "_law_lowest" "_law_lowest" 928 332 2 3 541 935)::
(nat_lit 547,fO "_law_lowest" "_law_lowest" (at_ 69) m8 546)::
(nat_lit 553,cO "_law_pay" "_law_pay" 938 337 2 3 548 944)::
(nat_lit 554,fO "_law_pay" "_law_pay" (at_ 70) m8 553)::
(nat_lit 558,dO "_law_doors" "_law_doors" 947 342 4 3 555 950)::
(nat_lit 559,fO "_law_doors" "_law_doors" (at_ 71) m8 558)::
(nat_lit 565,cO "_law_by_digits" "_law_by_digits" 953 351 1 3 560 957)::
(nat_lit 566,fO "_law_by_digits" "_law_by_digits" (at_ 72) m8 565)::
(nat_lit 572,cO "_law_things" "_law_things" 960 353 4 3 567 970)::
(nat_lit 573,fO "_law_things" "_law_things" (at_ 73) m8 572)::
(nat_lit 579,cO "_law_share_of" "_law_share_of" 973 362 2 3 574 980)::
(nat_lit 580,fO "_law_share_of" "_law_share_of" (at_ 74) m8 579)::
(nat_lit 586,cO "_law_floor" "_law_floor" 983 366 1 3 581 1000)::
(nat_lit 587,fO "_law_floor" "_law_floor" (at_ 75) m8 586)::
(nat_lit 591,dO "_law_copy" "_law_copy" 1003 388 1 3 588 1006)::
(nat_lit 592,fO "_law_copy" "_law_copy" (at_ 76) m8 591)::
(nat_lit 598,cO "_law_plan" "_law_plan" 1009 390 4 3 593 1022)::
(nat_lit 599,fO "_law_plan" "_law_plan" (at_ 77) m8 598)::
(nat_lit 603,dO "_law_first" "_law_first" 1025 401 3 3 600 1028)::
(nat_lit 604,fO "_law_first" "_law_first" (at_ 78) m8 603)::
(nat_lit 608,dO "_law_spoils" "_law_spoils" 1031 410 2 3 605 1034)::
(nat_lit 609,fO "_law_spoils" "_law_spoils" (at_ 79) m8 608)::
(nat_lit 615,cO "_law_spoiled" "_law_spoiled" 1037 420 2 3 610 1044)::
(nat_lit 616,fO "_law_spoiled" "_law_spoiled" (at_ 80) m8 615)::
(nat_lit 622,cO "_law_caught" "_law_caught" 1047 428 4 3 617 1056)::
(nat_lit 623,fO "_law_caught" "_law_caught" (at_ 81) m8 622)::
(nat_lit 629,cO "_law_refused" "_law_refused" 1059 440 2 3 624 1064)::
(nat_lit 630,fO "_law_refused" "_law_refused" (at_ 82) m8 629)::
(nat_lit 634,dO "law" "law" 1067 450 1 3 631 1070)::
(nat_lit 635,fO "law" "law" (at_ 83) m8 634)::[]
noncomputable abbrev H:Hook:=kHook K [2,3,23,24,36,37,49,61,72,73,92,111,130,145,146,148,149,168,180,188,189,195,196,202,203,209,210,216,217,225,231,232,238,239,245,246,250,251,255,256,260,261,267,268,269,275,276,282,283,308,309,315,316,322,323,329,330,336,337,343,344,373,374,384,385,391,392,398,399,403,404,408,409,415,416,427,428,432,433,439,440,446,447,453,454,467,468,472,473,479,480,484,485,489,490,496,497,510,511,517,518,519,525,526,532,533,539,540,546,547,553,554,558,559,565,566,572,573,579,580,586,587,591,592,598,599,603,604,608,609,615,616,622,623,629,630,634,635] (λ_=>by kernel_rfl)
abbrev Xt:Shared->Bool:=λs=>xlAt q [] s&&recOk (RowW.records row.toRowW) s
structure Z where
  o:List (List Obj)
  n:Nat
  t:Nat
  g:List DictEntry
  c:List (List Value)
  m:Value
  s:List Value
noncomputable def tu(l:List Value):Obj:=⟨.type "tuple",none, .seq ⟨l⟩ 0, #[]⟩
noncomputable def fl(c:Value)(l:List Value):Obj:=⟨c,none, .fields ⟨l⟩, #[]⟩
noncomputable def ss:List Str->Nat->List Value
  | [],_=>[]
  | x::r,t=> .str x t::ss r (t+1)
noncomputable def lo:List (Str×NameKind)->List Str
  | []=>[]
  | (x, .local)::r=>x::lo r
  | _::r=>lo r
noncomputable def cd(x q:Str)(t l a k b:Nat)(f:Bool)(v w z:Value)(e:Nat):Obj:=fl (.type "code") [.str x t, .str q (t+1), .str "/claim/cut.py" (t+2), .int l 0, .int a 0, .int 0 0, .int 0 0, .int k 0, .ref b, .bool f, .int 181 0, .ref (b+1), .none,v,w,z, .int e 0, .int l 0, .str "/claim/cut.py" (e+1)]
noncomputable def dfO (d:Value) (x q:Str) (a:Arguments) (b:List Stmt) (s:Scope) (l:Nat) (m:Value) (n t:Nat):List Obj×Nat:=
  let f (c:Value) (g:Nat) (d m h:Value):Obj:=⟨c,none, .func ⟨x,q,a, .stmts b,s,g,[],d, .none, .none,m,none,h, .none,0⟩, #[]⟩
  match s.more with
  | []=>let v:=lo s.names
    ([tu [],fl .none [],tu (ss v (t+3)),tu [],f .none 0 .none .none .none,cd x q t l a.args.length 3 n true (.ref (n+2)) (.ref (n+3)) (.ref (n+4)) (t+3+v.length),f (.type "function") 3 d m (.ref (n+5))],t+5+v.length)
  | _=>([tu [],fl .none [],f .none 0 .none .none .none,cd x q t l a.args.length 3 n true .none .none (.ref (n+2)) (t+3),f (.type "function") 3 d m (.ref (n+3))],t+5)
noncomputable def mt (P:Params) (x:Str) (m:Value):List Stmt->Nat->Nat->List Obj×List DictEntry×List Value×Nat×Nat
  | .FunctionDef y a b _ _ _ s _ _ p::r,n,t=>match dfO .none y (x++"."++y) a b s p.line m n t with
    | (os,k)=>match mt P x m r (n+os.length) (k+1) with
      | (o,e,c,w)=>(os++o,en P y k (.ref (n+os.length - 1))::e, .int p.line 0:: .int p.col 0:: .ref (n+os.length - 2)::c,w)
  | _::r,n,t=>mt P x m r n t
  | [],n,t=>([],[],[],n,t)
noncomputable def ty(x:Str)(bs mro:List Value)(d t:Nat)(b:Option Value)(w:String)(s:List Value):Obj:=⟨.type "type",none, .cls ⟨x,bs, .ref (d+1)::mro,d,x,true,[],s,false,none,false⟩, #[b,none,some (.str x t),some (.str x (t+8)),some (.builtin w),some (.bool true)]⟩
noncomputable abbrev VE:List Value:=[.type "ValueError", .type "Exception", .type "BaseException", .type "object"]
noncomputable def clO (P:Params) (x:Str) (bs:List Expr) (b:List Stmt) (sa:List Str) (l:Nat) (m:Value) (n t:Nat):List Obj×Nat×Nat:=
  match mt P x m b (n+7) (t+12) with
  | (mo,me,mc,n2,t2)=>
    let k:=t2+sa.length
    let e1:=en P "__module__" (t+7) m
    let e2:=en P "__firstlineno__" (t+11) (.int l (t+10))
    let e3:=en P "__static_attributes__" k (.ref n2)
    let ds (w k:Nat) (x:List DictEntry):Obj:=⟨.type "dict",none, .dict ⟨e1::e2::(me++e3::(x++[en P "__doc__" k .none]))⟩ w, #[]⟩
    let de (x:Str) (t:Nat) (u:String) (v:Value):Obj:=fl (.type "getset_descriptor") [.str x t, .ref (n2+2), .builtin u,v]
    let h (bt:List Value) (r:List Obj):List Obj:=tu bt::fl (.type "builtin_function_or_method") [.builtin "type.__prepare__", .type "type"]::⟨.type "dict",none, .dict ⟨e1::en P "__qualname__" (t+9) (.str x (t+8))::e2::(me++[e3])⟩ (4+me.length), #[]⟩::tu []::fl .none mc::cd x x (t+2) l 0 0 (n+3) false .none .none .none (t+5)::⟨.type "frame",none, .plain, #[some (.ref (n+5)),some (.ref 3),some (.ref (n+2)),none,some m,none,some (.ref 0)]⟩::(mo++tu (ss sa t2)::(r++[fl (.type "super") [.ref (n2+2), .ref (n2+2), .ref (n2+2)],fl (.type "builtin_function_or_method") [.builtin "object.__init_subclass__", .ref (n2+2)]]))
    match bs with
    | []=>(h [] [ds 4 (k+5) [en P "__dict__" (k+2) (.ref (n2+3)),en P "__weakref__" (k+4) (.ref (n2+4))],ty x [.type "object"] [.type "object"] (n2+1) t none "object.__new__" [],de "__dict__" (k+1) "function.__dict__" (.builtin "function.__dict__#set"),de "__weakref__" (k+3) "ExceptionGroup.__weakref__" .none],k+7,n2+2)
    | _=>match n with
      | 15=>(h [.type "ValueError"] [ds 3 (k+3) [en P "__weakref__" (k+2) (.ref (n2+3))],ty x [.type "ValueError"] VE (n2+1) t (some (.ref n)) "ValueError.__new__" [],de "__weakref__" (k+1) "ExceptionGroup.__weakref__" .none],k+5,n2+2)
      | _=>(h [.ref 24] [ds 2 (k+1) [],ty x [.ref 24] (.ref 24::VE) (n2+1) t (some (.ref n)) "ValueError.__new__" []],k+3,n2+2)
noncomputable def ls:List Expr->Nat->List Value×Nat
  | .Constant (.str z) _ _::r,t=>match ls r (t+1) with
    | (v,k)=>(.str z t::v,k)
  | .Constant (.int z) _ _::r,t=>match ls r (t+1) with
    | (v,k)=>(.int z t::v,k)
  | .Constant .none _ _::r,t=>match ls r t with
    | (v,k)=>(.none::v,k)
  | _,t=>([],t)
noncomputable def gv(x:Str):List DictEntry->Value
  | ⟨_, .str y _,v⟩::r=>if x=y then v else gv x r
  | _=> .none
noncomputable def dv (P:Params) (g:List DictEntry):List (Option Expr)->List Expr->Nat->List DictEntry×Nat
  | some (.Constant (.str z) _ _)::r, .Name x _::u,t=>match dv P g r u (t+1) with
    | (e,k)=>(en P z t (gv x g)::e,k+1)
  | some (.Constant (.str z) _ _)::r,c::u,t=>match ls [c] (t+1) with
    | (v,k)=>match dv P g r u k with
      | (e,k)=>(en P z t (v.headD .none)::e,k+1)
  | _,_,t=>([],t)
noncomputable def stp (P:Params) (z:Z):Stmt->Z
  | .FunctionDef x a b _ _ _ s _ _ p=>match a.defaults with
    | []=>match dfO .none x x a b s p.line z.m z.n z.t with
      | (os,k)=>{z with o:=os::z.o,n:=z.n+os.length,t:=k+1,g:=en P x k (.ref (z.n+os.length - 1))::z.g,c:=[.int p.line 0, .int p.col 0, .ref (z.n+os.length - 2)]::z.c}
    | ds=>match ls ds z.t with
      | (v,k)=>match dfO (.ref z.n) x x a b s p.line z.m (z.n+1) k with
        | (os,k)=>{z with o:=os::[tu v]::z.o,n:=z.n+1+os.length,t:=k+1,g:=en P x k (.ref (z.n+os.length))::z.g,c:=[.int p.line 0, .int p.col 0, .ref (z.n+os.length - 1)]::z.c}
  | .ClassDef x bs _ b _ _ _ _ _ sa p=>match clO P x bs b sa p.line z.m z.n z.t with
    | (os,k,d)=>{z with o:=os::z.o,n:=z.n+os.length,t:=k+1,g:=en P x k (.ref d)::z.g,c:=[.int p.line 0, .int p.col 0, .ref (z.n+5)]::z.c,s:=match z.n with
        | 15=>[]
        | _=>match bs with
          | []=>z.s
          | _=> .ref d::z.s}
  | .Assign [.Name x _] (.Tuple es _ _) _=>match ls es z.t with
    | (v,k)=>{z with o:=[tu v]::z.o,n:=z.n+1,t:=k+1,g:=en P x k (.ref z.n)::z.g}
  | .Assign [.Name x _] (.Dict ks vs _) _=>match dv P z.g ks vs z.t with
    | (e,k)=>{z with o:=[⟨.type "dict",none, .dict ⟨e⟩ e.length, #[]⟩]::z.o,n:=z.n+1,t:=k+1,g:=en P x k (.ref z.n)::z.g}
  | .Assign [.Name x _] c _=>match ls [c] z.t with
    | (v,k)=>if x="__name__" then {z with t:=k+1,m:=v.headD .none} else {z with t:=k+1,g:=en P x k (v.headD .none)::z.g}
  | _=>z
noncomputable def z0:Z:=⟨[],15,187,[],[], .str "__main__" 164,[]⟩
noncomputable def zs(P:Params)(k:Nat):Z:=((behindTheImports row.prog).take k).foldl (stp P) z0
noncomputable def g9(P:Params)(m:Value):List DictEntry:=[en P "__name__" 165 m,en P "__doc__" 166 .none,en P "__package__" 167 .none,en P "__loader__" 168 (.builtin "__main__.__loader__#opaque"),en P "__spec__" 169 .none,en P "__annotations__" 170 (.ref 6),en P "__builtins__" 171 (.ref 4),en P "__file__" 173 (.str "/claim/cut.py" 172),en P "__cached__" 174 .none]
noncomputable def zl(P:Params)(z:Z):List Obj:=boot_o_0 P::boot_o_1 P::boot_o_2 P::⟨.type "dict",none, .dict ⟨g9 P z.m++z.g.reverse⟩ (z.g.length+9), #[]⟩::boot_o_4 P::boot_o_5 P::boot_o_6 P::boot_o_7 P::boot_o_8 P::boot_o_9 P::boot_o_10 P::tu []::fl .none z.c.reverse.flatten::cd "<module>" "<module>" 182 1 0 0 11 false .none .none .none 185::⟨.type "frame",none, .plain, #[some (.ref 13),some (.ref 3),some (.ref 3),none,some (.str "__main__" 164),none,some (.ref 0)]⟩::(z.o.reverse.flatten.set 9 (ty "DuelError" [.type "ValueError"] VE 23 189 (some (.ref 15)) "ValueError.__new__" z.s.reverse))
noncomputable def od:List Obj->List Obj
  | x::_::r=>x::od r
  | l=>l
noncomputable def mkT:Nat->List Obj->BT
  | 0,_=> .nil
  | _,[]=> .nil
  | n+1,x::r=> .node x (mkT n (od r)) (mkT n (od r.tail))
noncomputable def T(P:Params)(k:Nat):BT:=mkT 12 (zl P (zs P k))
noncomputable abbrev S(k n t:Nat)(w:World)(os:OsState):SharedT:=⟨T w.params k,n,{}, #[],{},t,os⟩
noncomputable def env:Env:={scope:=row.prog.main.scope,locals:=mainNs,globals:=mainNs,cells:=[],code:= .ref 13,frame:=some 14}
noncomputable abbrev bI:List Stmt:=behindTheImports row.prog
noncomputable def cE:Code:= .body bI env
noncomputable abbrev tF:List Frame:=[topFrame ⟨0,0,0,0⟩]
noncomputable abbrev sg(w:World)(os:OsState)(N k n t:Nat)(p:Pos)(l:Nat):=segRunT treeTable row.prog w 11 (some (.ref 6)) 1 N (S k n t w os) (piecesOf ((bI.drop k).take l) env cE p tF)
noncomputable abbrev sr(w:World)(os:OsState)(k n t:Nat)(p:Pos):Option (Flow×SharedT×Code×Pos):=some (.next,S k n t w os,cE,p)
noncomputable abbrev se(w:World)(N k n t:Nat)(p:Pos)(l:Nat)(k' n' t':Nat)(p':Pos):Prop:=(λos=>sg w os N k n t p l)=λos=>sr w os k' n' t' p'
theorem lw:looseW q ["TURNED_KINDS","mended"]=(["TURNED_KINDS","mended","HANDS"]:List Str):=by kernel_rfl
theorem s0(w:World):se w 2621 0 15 187 ⟨0,0,0,0⟩ 17 17 211 452 ⟨58,0,59,77⟩:=by kernel_rfl
theorem s17(w:World):se w 324 17 211 452 ⟨58,0,59,77⟩ 16 33 269 532 ⟨102,0,102,17⟩:=by kernel_rfl
theorem s33f(w:World):se (w.withFollow "special-get-raises" false) 56 33 269 532 ⟨102,0,102,17⟩ 1 34 270 542 ⟨103,0,103,12⟩:=by kernel_rfl
theorem s33t(w:World):se (w.withFollow "special-get-raises" true) 56 33 269 532 ⟨102,0,102,17⟩ 1 34 270 542 ⟨103,0,103,12⟩:=by kernel_rfl
theorem s33(w:World):se w 56 33 269 532 ⟨102,0,102,17⟩ 1 34 270 542 ⟨103,0,103,12⟩:=byRow2 "special-get-raises" (P:=λw=>se w 56 33 269 532 ⟨102,0,102,17⟩ 1 34 270 542 ⟨103,0,103,12⟩) s33f s33t w
theorem s34(w:World):se w 1935 34 270 542 ⟨103,0,103,12⟩ 50 84 636 1073 ⟨450,0,471,93⟩:=by kernel_rfl
theorem pre(w:World)(os:OsState):topGo treeTable row.prog w 11 (some (.ref 6)) 12 ⟨boot_heap w.params, #[],boot_drawn,boot_toks,os⟩ (topStub row.prog)=some ((S 0 15 187 w os).abs,⟨denote treeTable cE,cE,⟨0,0,0,0⟩,tF⟩):=by kernel_rfl
theorem blk(w:World)(os:OsState):segRun treeTable row.prog w 11 (some (.ref 6)) 1 1 (S 0 15 187 w os).abs (blockOf bI env cE ⟨0,0,0,0⟩ tF)=some (.next,(S 0 15 187 w os).abs,cE,⟨0,0,0,0⟩):=by kernel_rfl
theorem fin(w:World)(s:Shared)(p:Pos):topRun treeTable row.prog w 11 (some (.ref 6)) 2 s (restOf (bI.drop 84) env cE p tF)=some s:=by rewrite [show bI.drop 84=[] by kernel_rfl];rfl
theorem siz(w:World):((boot_heap w.params).isNs mainGlobals&&(#[]:Array GenState).size==0,(boot_heap w.params).objs.size,(boot_heap w.params).nsMap mainGlobals "__annotations__")=(true,11,some (.ref 6)):=by kernel_rfl
theorem opn:opening row.prog=plainProg row.prog.main.scope.names:=by kernel_rfl
theorem fen(s:Shared):fenceModules? row.prog s=some s:=by kernel_rfl
theorem pc{w:World}{n N k l:Nat}{s s':SharedT}{r:Shared}{p p':Pos}(h:segRunT treeTable row.prog w 11 (some (.ref 6)) 1 n s (piecesOf ((bI.drop k).take l) env cE p tF)=some (.next,s',cE,p'))(g:topRun treeTable row.prog w 11 (some (.ref 6)) N s'.abs (restOf (bI.drop (k+l)) env cE p' tF)=some r):topRun treeTable row.prog w 11 (some (.ref 6)) (n+N) s.abs (restOf (bI.drop k) env cE p tF)=some r:=by
  have e:(bI.drop k).take l++bI.drop (k+l)=bI.drop k:=by rw [<-List.drop_drop,List.take_append_drop]
  rewrite [<-e];exact piece_app (segRun_of h) g
theorem run(w:World)(os:OsState):topRun treeTable row.prog w 11 (some (.ref 6)) (12+(1+(2621+(324+(56+(1935+(2))))))) ⟨boot_heap w.params, #[],boot_drawn,boot_toks,os⟩ (topStub row.prog)=some (S 84 636 1073 w os).abs:=go_top (pre w os) (piece_block (blk w os) (pc (congrFun (s0 w) os) (pc (congrFun (s17 w) os) (pc (congrFun (s33 w) os) (pc (congrFun (s34 w) os) (fin w _ _))))))
noncomputable abbrev sE(w:World)(os:OsState):Shared:=(S 84 636 1073 w os).abs
theorem l1(w:World)(os:OsState):(staticsOk (importedModules row.prog.main.body) (boot_heap w.params) (sE w os).heap&&namesBound row.prog (sE w os).heap&&gensDone (sE w os)&&laidKept (boot_heap w.params) (sE w os).heap)=true:=by kernel_rfl
section
variable{A B D E F G I J:Type}{u t:A×B×Bool×D×E×F×G×I×J}
noncomputable def p1:A×B×Bool×D×E×F×G×I×J->A
  | (a,_,_,_,_,_,_,_,_)=>a
noncomputable def p2:A×B×Bool×D×E×F×G×I×J->B
  | (_,b,_,_,_,_,_,_,_)=>b
noncomputable def p4:A×B×Bool×D×E×F×G×I×J->Bool
  | (_,_,c,_,_,_,_,_,_)=>c
noncomputable def p3:A×B×Bool×D×E×F×G×I×J->D
  | (_,_,_,d,_,_,_,_,_)=>d
noncomputable def p5:A×B×Bool×D×E×F×G×I×J->E
  | (_,_,_,_,e,_,_,_,_)=>e
noncomputable def p6:A×B×Bool×D×E×F×G×I×J->F
  | (_,_,_,_,_,f,_,_,_)=>f
noncomputable def p7:A×B×Bool×D×E×F×G×I×J->G
  | (_,_,_,_,_,_,g,_,_)=>g
noncomputable def p8:A×B×Bool×D×E×F×G×I×J->I
  | (_,_,_,_,_,_,_,g,_)=>g
noncomputable def p9:A×B×Bool×D×E×F×G×I×J->J
  | (_,_,_,_,_,_,_,_,g)=>g
theorem q6{a b c d e f g i j}:p6 ((a,b,c,d,e,f,g,i,j):A×B×Bool×D×E×F×G×I×J)=f:=rfl
theorem pr(h:p1 u=t.1)(g:p2 u=t.2.1)(g1:p4 u=true)(g2:t.2.2.1=true)(k:p3 u=t.2.2.2.1)(k1:p5 u=t.2.2.2.2.1)(k2:p6 u=t.2.2.2.2.2.1)(k3:p7 u=t.2.2.2.2.2.2.1)(k4:p8 u=t.2.2.2.2.2.2.2.1)(k5:p9 u=t.2.2.2.2.2.2.2.2):u=t:=Prod.ext h (Prod.ext g (Prod.ext (g1.trans g2.symm) (Prod.ext k (Prod.ext k1 (Prod.ext k2 (Prod.ext k3 (Prod.ext k4 k5)))))))
end
noncomputable abbrev sn(w:World)(os:OsState):=openSeen q ["TURNED_KINDS","mended"] (importedModules row.prog.main.body) Xt true (sE w os)
noncomputable abbrev gd:=openGood q ["TURNED_KINDS","mended"]
variable(w:World)(os:OsState)
theorem la:p1 (sn w os)=gd.1:=by kernel_rfl
theorem lb:p2 (sn w os)=gd.2.1:=by kernel_rfl
theorem lp:(sE w os).heap.keysOk (looseW q ["TURNED_KINDS","mended"]) ((recsOf q).map (·.name)) ((litsOf q).map (·.1)) ((clssOf q (looseW q ["TURNED_KINDS","mended"])).map (·.name))=true:=by rw[lw];kernel_rfl
theorem lq:(sE w os).heap.accountedOkI (importedModules row.prog.main.body)=true:=by kernel_rfl
theorem lr:(sE w os).heap.isNs mainGlobals=true:=by kernel_rfl
theorem lt:(sE w os).heap.isNs builtinsNs=true:=by kernel_rfl
theorem lu:tablesOk q (sE w os).heap=true:=by kernel_rfl
theorem lv:Xt (sE w os)=true:=by kernel_rfl
theorem p4e(s:Shared):p4 (openSeen q ["TURNED_KINDS","mended"] (importedModules row.prog.main.body) Xt true s)=(s.heap.keysOk (looseW q ["TURNED_KINDS","mended"]) ((recsOf q).map (·.name)) ((litsOf q).map (·.1)) ((clssOf q (looseW q ["TURNED_KINDS","mended"])).map (·.name))&&s.heap.accountedOkI (importedModules row.prog.main.body)&&s.heap.isNs mainGlobals&&s.heap.isNs builtinsNs&&tablesOk q s.heap&&Xt s&&(s.gens.size==0)):=rfl
theorem ld:p4 (sn w os)=true:=(p4e _).trans (look_both (look_both (look_both (look_both (look_both (look_both (lp w os) (lq w os)) (lr w os)) (lt w os)) (lu w os)) (lv w os)) rfl)
theorem na:(((recsOf q).take 50).all λd=>(sE w os).heap.tab0Ok d.name)=true:=by kernel_rfl
theorem ne:(((recsOf q).drop 50).all λd=>(sE w os).heap.tab0Ok d.name)=true:=by kernel_rfl
theorem nt{α}{l:List α}{f}(h:(l.take 50).all f=true)(g:(l.drop 50).all f=true):l.all f=true:=by rw[<-l.take_append_drop 50,List.all_append,h,g];rfl
theorem nb:(sE w os).heap.bmainOk=true:=by kernel_rfl
theorem nc:valsOk q (sE w os).heap=true:=by kernel_rfl
theorem nd:(!importsNone q||(sE w os).heap.noSeerOk)=true:=by kernel_rfl
theorem p3e(s:Shared):p3 (openSeen q ["TURNED_KINDS","mended"] (importedModules row.prog.main.body) Xt true s)=tabsOk q s:=rfl
theorem lc:p3 (sn w os)=gd.2.2.2.1:=(p3e _).trans (look_both (look_both (look_both (nt (na w os) (ne w os)) (nb w os)) (nc w os)) (nd w os))
theorem le:p5 (sn w os)=gd.2.2.2.2.1:=by kernel_rfl
theorem p6e(s:Shared):p6 (openSeen q ["TURNED_KINDS","mended"] (importedModules row.prog.main.body) Xt true s)=plainSeenE q (looseW q ["TURNED_KINDS","mended"]) s:=by delta openSeen;exact q6
theorem ga:plainSeenE q (looseW q ["TURNED_KINDS","mended"]) (sE w os)=plainGoodE q (looseW q ["TURNED_KINDS","mended"]):=by rw[lw];kernel_rfl
theorem lg:p6 (sn w os)=gd.2.2.2.2.2.1:=(p6e _).trans (ga w os)
theorem lh:p7 (sn w os)=gd.2.2.2.2.2.2.1:=by kernel_rfl
theorem lj:p8 (sn w os)=gd.2.2.2.2.2.2.2.1:=by kernel_rfl
theorem lm:p9 (sn w os)=gd.2.2.2.2.2.2.2.2:=by kernel_rfl
theorem l2:sn w os=gd:=pr (la w os) (lb w os) (ld w os) rfl (lc w os) (le w os) (lg w os) (lh w os) (lj w os) (lm w os)
theorem l3:H.obs (sE w os)=H.val w:=by kernel_rfl
theorem left:LeftO row.prog q ["TURNED_KINDS","mended"] Xt H.obs H.val 9990:=LeftO.of_pieces (H₀:=boot_heap) (H₁:=λP=>absHeap (T P 84) 636 {}) (gs₀:= #[]) (gs₁:= #[]) (d₀:=boot_drawn) (d₁:={}) (k₀:=boot_toks) (k₁:=1073) (boot_open opn rfl fen) siz run rfl λw=>funext λos=>looks_pair (l1 w os) (looks_pair (l2 w os) (l3 w os))
end Hd
local macro_rules|`(())=>`(by omega)
local macro_rules|`(@_)=>`(by decide)
open Lean in
def rpt:Nat → Term → MacroM (TSyntax `rcasesPat)
|0,_=>Macro.throwUnsupported
|n+1,t=>match t with
|`(($c,$d,*))=>do rpt n (←`(⟨$c,$d,*⟩))
|`(⟨$a,*⟩)=>do
 let b←a.getElems.mapM (rpt n)
 let b←b.mapM λp=>`(Lean.Parser.Tactic.rcasesPatLo|$p:rcasesPat)
 `(rcasesPat|⟨$b,*⟩)
|`(_)=>`(rcasesPat|_)
|`($x:ident)=>`(rcasesPat|$x:ident)
|_=>Macro.throwUnsupported
open Lean in
local macro_rules|`(tactic|have ⟨$a,*⟩:=$e)=>do
 let p←rpt 99 (←`(⟨$a,*⟩))
 `(tactic|obtain $p:rcasesPat:=$e)
open Lean in
local macro_rules|`(λ$xs*=>$b)=>do
 let mut ys:=#[]
 let mut ts:=#[]
 if (←MonadRef.getRef)[0].isToken "fun" then Macro.throwUnsupported
 for x in xs do
  if x.1.isOfKind `Lean.Parser.Term.anonymousCtor||x.1.isOfKind `Lean.Parser.Term.tuple then
   let p←rpt 99 ⟨x.1⟩
   let y←withFreshMacroScope `(h)
   ys:=ys.push y
   ts:=ts.push (←`(tactic|obtain $p:rcasesPat:=$y))
  else ys:=ys.push ⟨x.1⟩
 if ts.isEmpty then Macro.throwUnsupported
 `(λ$ys*=>by{$[$ts]*;exact $b})
set_option hygiene false in
local macro_rules|`($g &&& ($F,$a,$n))=>`(mc $g (($F).binds λ_ _ _ _ _ _=>$n) (mg_of X G $a) ($F).kp)
set_option hygiene false in
local macro_rules|`($g ||| ($F,$a,$i,$n))=>`(⟨$g,(($F).binds λ_ _ _ _ _ _=>$n),⟨kq,ky,ku,kE⟩,⟨$a,$i,($F).kp⟩⟩)
set_option genSizeOf false
set_option bootstrap.genMatcherCode false
noncomputable def PySem.W.Fast.tw16745752278563010429:=PySem.Challenge.pw_chanceduel_k21_plans_refused
theorem PySem.W.Fast.te16745752278563010429:PySem.Challenge.pw_chanceduel_k21_plans_refused=PySem.W.Fast.tw16745752278563010429:=rfl
section
open Lean in
def og(t:Syntax):MacroM Unit:=match t.getHeadInfo with
|.original _ _ t _=>if t.bsize>0 then Macro.throwUnsupported else pure .unit
|_=>Macro.throwUnsupported
open Lean in
def oh(t:Syntax):MacroM Unit:=match t.getHeadInfo with
|.original _ _ t _=>if t.bsize>1 then Macro.throwUnsupported else pure .unit
|_=>Macro.throwUnsupported
local macro_rules|`(($a,%$t$b,*))=>do og t;`(⟨$a,$b,*⟩)
def xu(h:True:=by rfl):=h
def xv(h:True:=by decide):=h
def xw(h:True:=by intro _;rfl):=h
local macro_rules|`($a|>1)=>`(autoParam $a xu._auto_1)|`($a|>2)=>`(autoParam $a xv._auto_1)|`($a|>3)=>`(autoParam $a xw._auto_1)
local macro_rules|`(-%$t$a)=>do og t;`(($a).length)
local macro_rules|`(!%$t$a)=>do og t;`(some $a)
local macro_rules|`(tactic|show%$t $e)=>do oh t;`(tactic|refine $e)
local macro_rules|`(tactic|let%$t $e:letDecl)=>do oh t;`(tactic|have $e:letDecl)
open Lean in
local macro_rules|`(tactic|let ($a,$b,*):=$e)=>do
 let p←rpt 99 (←`(⟨$a,$b,*⟩))
 `(tactic|obtain $p:rcasesPat:=$e)
def D2:2<=PySem.sizeLine:=@_
abbrev gV:=PySem.W.Frag
namespace L2
open PySem PySem.Spec PyProof.Rows
variable{us:List Value}{a b dx C:Addr}{P prog:Program}{w:World}{h h' base:Heap}{δ:List (Addr×Obj)}{s:Shared}{g':Array GenState}{ch fp:List Addr}{i:Nat}{x:Str}{M:Model}{A:Around}{E Q:Value->Shared->Prop}{u:Value}{pos:Pos}{e c tg:Expr}{es:List Expr}{body:List Stmt}{f:Value->Value->Sem Value}{op:CmpOp}{mA mg:Str->Option Value}{kw:List (Str×Value)}{outer:List Env}{ps:List Str}
abbrev Key:=Sum Int Str
def uh:Key->Value->Bool
 | .inl k,v=>Value.isInt k v
 | .inr x,v=>Value.isStrOf x v
def ZK(w:World):Key->Int
 | .inl k=>hashInt k
 | .inr x=>hashStr w x
def ba:∀{k:Key} {v:Value},uh k v=true->(∃i t,k=Sum.inl i/\v=Value.int i t)\/(∃x t,k=Sum.inr x/\v=Value.str x t)
 | .inl i,v,h=>by let(t,e):=Value.isInt_shape (k:=i) (v:=v) h;show .inl (i,t,rfl,e)
 | .inr x,v,h=>by let(t,e):=Value.isStrOf_shape (x:=x) (v:=v) h;show .inr (x,t,rfl,e)
def E6(i:Int)(t:Tok):uh (.inl i) (.int i t)=true:=by simp[uh,Value.isInt]
def GZ(x:Str)(t:Tok):uh (.inr x) (.str x t)=true:=by simp[uh,Value.isStrOf]
def P1(a b:Int):decide ((Sum.inl a:Key)=Sum.inl b)=(a==b):=by
 by_cases e:a=b
 .subst e;simp
 .let h:¬(Sum.inl a:Key)=Sum.inl b:=λq=>e (Sum.inl.inj q);rw[aaB h];show(beq_eq_false_iff_ne.mpr e).symm
def Pz(a b:Str):decide ((Sum.inr a:Key)=Sum.inr b)=decide (a=b):=by
 by_cases e:a=b
 .subst e;simp
 .let h:¬(Sum.inr a:Key)=Sum.inr b:=λq=>e (Sum.inr.inj q);rw[aaB h,aaB e]
def QW(a:Int)(b:Str):decide ((Sum.inl a:Key)=Sum.inr b)=false:=aaB nofun
def RR(a:Str)(b:Int):decide ((Sum.inr a:Key)=Sum.inl b)=false:=aaB nofun
def bF(prog:Program)(w:World):PySem.KeyKind prog w Key where
 is:=uh
 hash:=ZK w
 inj:=λv a b ha hb=>by
  rcases ba ha with ⟨i,t,rfl,rfl⟩| ⟨x,t,rfl,rfl⟩
  .rcases ba hb with ⟨j,u,rfl,e⟩| ⟨y,u,rfl,e⟩
   .injection e with e1 _;rw[e1]
   .show nomatch e
  .rcases ba hb with ⟨j,u,rfl,e⟩| ⟨y,u,rfl,e⟩
   .show nomatch e
   .injection e with e1 _;rw[e1]
 byValue:=λk v h=>by rcases ba h with ⟨i,t,rfl,rfl⟩| ⟨x,t,rfl,rfl⟩ <;> rfl
 pyHash:=λhv h=>by
  rcases ba hv with ⟨i,t,rfl,rfl⟩| ⟨x,t,rfl,rfl⟩
  .show wpAny_pyHash_int h
  .show wpAny_pyHash_str h
 eqBool:=λhu hv h=>by
  rcases ba hu with ⟨i,t,rfl,rfl⟩| ⟨x,t,rfl,rfl⟩
  .rcases ba hv with ⟨j,u,rfl,rfl⟩| ⟨y,u,rfl,rfl⟩
   .rw[P1]at h;show wpAny_eqBool_int h
   .rw[QW]at h;show SeqAt.EqAt.int_str i t y u _ _ _ _ h
  .rcases ba hv with ⟨j,u,rfl,rfl⟩| ⟨y,u,rfl,rfl⟩
   .rw[RR]at h;show SeqAt.EqAt.str_int x t j u _ _ _ _ h
   .rw[Pz]at h;show wpAny_eqBool_str h
 «strs»:=λk x t v h=>by
  rcases ba h with ⟨i,u,rfl,e⟩| ⟨y,u,rfl,e⟩
  .show nomatch e
  .injection e with e1 _
   subst e1;cases v <;> rfl
def x9(prog:Program)(w:World)(i:Int)(t:Tok):(bF prog w).is (.inl i) (.int i t)=true:=E6 i t
def yY(prog:Program)(w:World)(x:Str)(t:Tok):(bF prog w).is (.inr x) (.str x t)=true:=GZ x t
inductive V where
 | aV| bl (b:Bool)| int (i:Int)| str (x:Str)| Hr (b:Array UInt8)| Qb (b:UInt64)| ref (a:Addr)| ty (n:String)
 deriving DecidableEq
variable{v:V}
def aj:V->Value->Prop
 | .aV,u=>u=Value.none
 | .bl b,u=>u=Value.bool b
 | .int i,u=>∃t,u=Value.int i t
 | .str x,u=>∃t,u=Value.str x t
 | .Hr b,u=>∃t,u=Value.bytes b t
 | .Qb b,u=>∃t,u=Value.float b t
 | .ref a,u=>u=Value.ref a
 | .ty n,u=>u=Value.type n
abbrev af:List V->List Value->Prop:=Paired aj
def af.length{xs:List V}(r:af xs us):-xs=-us:=Paired.length r
def af.get:∀{xs:List V} {us:List Value} {i:Nat} {x:V},af xs us->xs[i]? =!x->∃u,us[i]? =!u/\aj x u
 | _,_,_,_,.nil,e=>by simp at e
 | _,_,0,_,.cons r _,e=>by simp at e;subst e;show(_,rfl,r)
 | _,_,i+1,x,.cons _ t,e=>by let(u,h1,h2):=af.get (i:=i) (x:=x) t (by simpa using e);show(u,by simpa using h1,h2)
def af.set{x:V}{u:Value}(r:aj x u):∀{xs:List V} {us:List Value} (i:Nat),af xs us->af (xs.set i x) (us.set i u)
 | _,_,_,.nil=>.nil
 | _,_,0,.cons _ t=>.cons r t
 | _,_,i+1,.cons q t=>.cons q (af.set r i t)
def af.append:∀{xs ys:List V} {us ws:List Value},af xs us->af ys ws->af (xs++ys) (us++ws)
 | _,_,_,_,.nil,s=>s
 | _,_,_,_,.cons r t,s=>.cons r (af.append t s)
def af.take:∀{xs:List V} {us:List Value} (n:Nat),af xs us->af (xs.take n) (us.take n)
 | _,_,0,_=>.nil
 | _,_,_+1,.nil=>.nil
 | _,_,n+1,.cons r t=>.cons r (af.take n t)
def af.drop:∀{xs:List V} {us:List Value} (n:Nat),af xs us->af (xs.drop n) (us.drop n)
 | _,_,0,r=>r
 | _,_,_+1,.nil=>.nil
 | _,_,n+1,.cons _ t=>af.drop n t
def gQ:Option V->Option Value->Prop
 | some v,!u=>aj v u
 | none,none=>True
 | _,_=>False
def KV{κ:Type}:List (κ×V)->List (κ×Value)->Prop:=Paired λ(p:κ×V) (q:κ×Value)=>p.1=q.1/\aj p.2 q.2
def kV:Key->V
 | .inl i=>.int i
 | .inr x=>.str x
inductive HO where
 | lst (xs:List V)
 | tup (xs:List V)
 | dK (Γ:List (Key×V))| dT (Γ:List (List Key×V))
 | set (S:Int->Bool) (n:Nat)
 | ins (C dx:Addr) (fs:List (Str×V))
 | own (x:Addr)
 | xd (fs:List (Str×V))
 | met (f x:Addr)
 | WE (lo hi:Int)
 | tX (o:Obj) (u:HO)
 | LA (ps:Array Value)
 | ext (φ:Heap->Prop)
variable{o:HO}
abbrev Hp:=Addr->Option HO
def upd(H:Hp)(a:Addr)(o:HO):Hp:=λb=>if b=a then !o else H b
def Ζ{H:Hp}:upd H a o a=!o:=by unfold upd;rw[if_pos rfl]
def υ{H:Hp}(h:b≠a):upd H a o b=H b:=by unfold upd;rw[if_neg h]
def SS{H:Hp}{u:HO}(h:H a=!o)(h':H b=!u)(d:o≠u):a≠b:=by intro e;subst e;rw[h]at h';show d (aav h')
def aF{H:Hp}(h:H a=!o)(h':H b=none):a≠b:=by intro e;subst e;rw[h]at h';cases h'
section
variable(P:Program)(w:World)
def aH(H:Hp)(h:Heap)(a:Addr):HO->Prop
 | .lst xs=>-xs<=sizeLine/\∃(its:List Value) (n:Nat),af xs its/\h.get? a=some {cls:=.type "list",data:=.seq its.toArray n}
 | .tup xs=>-xs<=sizeLine/\∃its:List Value,af xs its/\IsTup h a its.toArray
 | .dK Γ=>-Γ<=sizeLine/\(a==sysModules)=false/\∃vs,KV Γ vs/\h.DictOf (bF P w) a vs
 | .dT Γ=>-Γ<=sizeLine/\(a==sysModules)=false/\∃xs:List (List Key×Addr×Value),
   Paired (λ(p:List Key×V) (q:List Key×Addr×Value)=>p.1=q.1/\H q.2.1=!(.tup (p.1.map kV))/\aj p.2 q.2.2) Γ xs/\
   ∃o es ep,h.get? a=!o/\o.ExactDict/\o.data= .dict es ep/\es.toList=xs.map (entryOfKey (tupleKind (bF P w)))/\(xs.map (·.1)).Nodup
 | .set S n=>h.SetOf (intKind P w) a S n
 | .ins C dx fs=>H dx=!(.own a)/\-fs<=1000/\dx≠a/\h.get? a=!(PySem.W.instObj C dx)/\
   ∃mA,h.Ns1 dx mA/\(∀f,gQ (fs.lookup f) (mA f))/\PySem.Within mA (fs.map (·.1))
 | .own _=>∃o,h.get? a=!o
 | .xd fs=>∃mA,h.Ns1 a mA/\∀f,gQ (fs.lookup f) (mA f)
 | .WE lo hi=>∃t u v,h.get? a=some {cls:=.type "range",data:=.fields #[.int lo t,.int hi u,.int 1 v]}
 | .tX o u=>h.get? a=!o/\aH H h a u
 | .LA ps=>h.get? a=some {cls:=.none,data:=.fields ps}
 | .met f x=>h.get? a=!(PySem.W.methodObj (.ref f) (.ref x))
 | .ext φ=>φ h/\(∃o,h.get? a=!o)/\∀h1 h2:Heap,φ h1->(∀o,h1.get? a=!o->h2.get? a=!o)->φ h2
def je(H:Hp)(h:Heap):Prop:=∀a o,H a=!o->aH P w H h a o
end
section
variable{H H':Hp}
def aH.lt(x:aH P w H h a o):a < h.objs.size:=by
 cases o with
 | lst xs=>let(_,_,_,_,e):=x;show aau e
 | tup xs=>let(_,_,_,p):=x;show p.lt
 | dK Γ=>let(_,_,_,_,o,_,_,e,_):=x;show aau e
 | dT Γ=>let(_,_,_,_,o,_,_,e,_):=x;show aau e
 | set S n=>let(o,_,_,_,e,_):=x;show aau e
 | ins C dx fs=>let(_,_,_,e,_):=x;show aau e
 | own y=>let(_,e):=x;show aau e
 | xd fs=>let(_,(_,_,_,e,_),_):=x;show aau e
 | WE lo hi=>let(_,_,_,e):=x;show aau e
 | tX ob u=>let(e,_):=x;show aau e
 | LA ps=>show aau (show h.get? a=!_ from x)
 | met f y=>show aau (show h.get? a=!_ from x)
 | ext φ=>have⟨_,⟨_,e⟩,_⟩:=x;show aau e
def Paired.QQ{α β:Type}{F G:α->β->Prop}:∀{l₁:List α} {l₂:List β},Paired F l₁ l₂->(∀a b,F a b->G a b)->Paired G l₁ l₂
 | _,_,.nil,_=>.nil
 | _,_,.cons r t,f=>.cons (f _ _ r) (Paired.QQ t f)
def aH.pB(x:aH P w H h a o)(k:∀b u,(b=a\/H b=!(.own a))->h.get? b=!u->h'.get? b=!u)
  (ho:∀b,H b=!(.own a)->H' b=!(.own a)) (ht:∀b xs,H b=!(.tup xs)->H' b=!(.tup xs)):aH P w H' h' a o:=by
 induction o with
 | lst xs=>let(z,its,n,r,e):=x;show(z,its,n,r,k _ _ (.inl rfl) e)
 | tup xs=>let(z,its,r,ob,e,c):=x;show(z,its,r,ob,k _ _ (.inl rfl) e,c)
 | dK Γ=>let(z,y,vs,r,ob,es,ep,e,c):=x;show(z,y,vs,r,ob,es,ep,k _ _ (.inl rfl) e,c)
 | dT Γ=>
  let(z,y,xs,r,ob,es,ep,e,c):=x;show(z,y,xs,Paired.QQ r λp q z=>(z.1,ht _ _ z.2.1,z.2.2),ob,es,ep,k _ _ (.inl rfl) e,c)
 | set S n=>let(ob,es,ep,t,e,c):=x;show(ob,es,ep,t,k _ _ (.inl rfl) e,c)
 | ins C dx fs=>
  let(d,z,ne,e,mA,(od,es,ep,e2,c),r):=x;show(ho _ d,z,ne,k _ _ (.inl rfl) e,mA,(od,es,ep,k _ _ (.inr d) e2,c),r)
 | own y=>let(ob,e):=x;show(ob,k _ _ (.inl rfl) e)
 | xd fs=>let(mA,(od,es,ep,e,c),r):=x;show(mA,(od,es,ep,k _ _ (.inl rfl) e,c),r)
 | WE lo hi=>let(t,u,v,e):=x;show(t,u,v,k _ _ (.inl rfl) e)
 | tX ob u ih=>let(e,q):=x;show(k _ _ (.inl rfl) e,ih q)
 | LA ps=>
  let e:h.get? a=some {cls:=.none,data:=.fields ps}:=x;change h'.get? a=some {cls:=.none,data:=.fields ps};show k a _ (.inl rfl) e
 | met f y=>
  let e:h.get? a=!(PySem.W.methodObj (.ref f) (.ref y)):=x;change h'.get? a=!(PySem.W.methodObj (.ref f) (.ref y));show k a _ (.inl rfl) e
 | ext φ=>have⟨p,⟨o,e⟩,st⟩:=x;show(st _ _ p λo q=>k _ _ (.inl rfl) q,(o,k _ _ (.inl rfl) e),st)
def je.lt(x:je P w H h)(e:H a=!o):a < h.objs.size:=(x a o e).lt
def je.fresh(x:je P w H h)(e:h.objs.size<=a):H a=none:=by
 cases q:H a with
 | none=>rfl
 | some u=>show aaO (aay (x.lt q) e) (abv _)
def je.kept(x:je P w H h)(k:∀b u,h.get? b=!u->h'.get? b=!u):je P w H h':=λa o e=>
 (x a o e).pB (λb u _ q=>k b u q) (λ_ q=>q) λ_ _ q=>q
def je.laid(x:je P w H h)(k:∀b u,h.get? b=!u->h'.get? b=!u)(hp:h.objs.size<=a)(new:aH P w (upd H a o) h' a o):je P w (upd H a o) h':=λb u e=>by
 let hn:=x.fresh hp;by_cases hb:b=a
 .subst hb;rw[Ζ]at e;cases e;show new
 .rw[υ hb]at e;show(x b u e).pB (λc v _ q=>k c v q) (λc q=>by rw[υ (aF q hn)];show q) λc xs q=>by rw[υ (aF q hn)];show q
end
def Rd(H:Hp)(a:Addr)(u:HO):Prop:=H a=!u\/∃o,H a=!(.tX o u)
def Rd.ok{H:Hp}{u:HO}(r:Rd H a u)(x:je P w H h):aH P w H h a u:=by
 rcases r with r| ⟨o,r⟩
 .show x a u r
 .let(_,q):=x a _ r;show q
def Sk:Option HO->Prop
 | some (.lst _)=>True
 | some (.dK _)=>True
 | some (.dT _)=>True
 | some (.set _ _)=>True
 | some (.ins _ _ _)=>True
 | some (.ext _)=>True
 | _=>False
section
variable{H:Hp}{x e:Addr}{o':HO}
def je.write(ok:je P w H h)(mu:Sk (H x))(he:e=x\/H e=!(.own x))(k:∀b u,b≠e->h.get? b=!u->h'.get? b=!u)(O4:∃u,h'.get? e=!u)
  (new:aH P w (upd H x o') h' x o'):je P w (upd H x o') h':=λb u q=>by
 let UZ:∀c y,H c=!(.own y)->c≠x:=λc y r z=>by subst z;rw[r]at mu;show mu
 let Yp:∀c xs,H c=!(.tup xs)->c≠x:=λc xs r z=>by subst z;rw[r]at mu;show mu
 by_cases hb:b=x
 .subst hb;rw[Ζ]at q;cases q;show new
 .rw[υ hb]at q;by_cases IY:b=e
  .let q':H b=!(.own x):=by
    rcases he with z| z
    .show aaO (IY.trans z) hb
    .rw[IY];show z
   rw[q]at q';cases q';let(v,hv):=O4;show(v,by rw[IY];show hv)
  .show(ok b u q).pB (λc v hc r=>k c v ?_ r) (λc r=>by rw[υ (UZ c b r)];show r) λc xs r=>by rw[υ (Yp c xs r)];show r
   rcases hc with rfl| hc
   .show IY
   .rintro rfl;rcases he with z| z
    .show UZ c b hc z
    .rw[hc]at z;cases z;show hb rfl
end
structure Un(fs ex:List Addr)(H H':Hp)(h h':Heap):Prop where
 keep:∀b o,h.get? b=!o->H b=none->b∉fs->b∉ex->h'.get? b=!o
 slot:∀b o,h.get? b=!o->H b=none->b∈fs->b∉ex->∃sl,h'.get? b=some {o with slots:=sl}
 free:∀b o,h.get? b=!o->H b=none->b∉ex->H' b=none
 there:∀b o,h.get? b=!o->b∉ex->∃o',h'.get? b=!o'
 kI:∀b xs,H b=!(.tup xs)->H' b=!(.tup xs)
 jO:∀b o u,H b=!(.tX o u)->H' b=!(.tX o u)
 kJ:∀b ps,H b=!(.LA ps)->∃more,H' b=!(.LA (ps++more))
section
variable{fs Ho ex ex':List Addr}{H H1 H2:Hp}{h1 h2:Heap}{x e:Addr}
def Un.any(u:Un fs ex H H1 h h1){ob:Obj}(q:h.get? b=!ob)(n:H b=none)(hx:b∉ex):∃sl,h1.get? b=some {ob with slots:=sl}:=by
 by_cases hb:b∈fs
 .show u.slot b ob q n hb hx
 .show(ob.slots,u.keep b ob q n hb hx)
def Un.kept(k:∀b u,h.get? b=!u->h'.get? b=!u):Un fs ex H H h h':=
 (λb ob q _ _ _=>k b ob q,λb ob q _ _ _=>(ob.slots,k b ob q),λ_ _ _ n _=>n,λb ob q _=>(ob,k b ob q),λ_ _ q=>q,λ_ _ _ q=>q,λ_ ps q=>(#[],by rw[q];simp))
def Un.refl:Un fs ex H H h h:=Un.kept λ_ _ q=>q
def Un.laid(k:∀b u,h.get? b=!u->h'.get? b=!u)(hp:h.objs.size<=a)(hn:H a=none):Un fs ex H (upd H a o) h h' where
 keep:=λb u q _ _ _=>k b u q
 slot:=λb u q _ _ _=>(u.slots,k b u q)
 free:=λb u q n _=>by rw[υ (aaN (aay (aau q) hp))];show n
 there:=λb u q _=>(u,k b u q)
 kI:=λb xs q=>by rw[υ (aF q hn)];show q
 jO:=λb u xs q=>by rw[υ (aF q hn)];show q
 kJ:=λb ps q=>(#[],by rw[υ (aF q hn),q];simp)
def Un.write(mu:Sk (H x))(he:e=x\/H e=!(.own x))(k:∀b u,b≠e->h.get? b=!u->h'.get? b=!u)(O4:∃u,h'.get? e=!u):Un fs ex H (upd H x o) h h':=by
 let hx:∀b,H b=none->b≠x:=λb n z=>by subst z;rw[n]at mu;show mu
 let hb:∀b,H b=none->b≠e:=λb n z=>by
  subst z;rcases he with r| r
  .show hx b n r
  .rw[n]at r;cases r
 let hm:∀b u,H b=!u->¬Sk (!u)->b≠x:=λb u q nm z=>by subst z;rw[q]at mu;show nm mu
 show(λb u q n _ _=>k b u (hb b n) q,λb u q n _ _=>(u.slots,k b u (hb b n) q),λb u q n _=>by rw[υ (hx b n)];show n,λb u q _=>?_,
  λb xs q=>by rw[υ (hm b _ q λz=>z)];show q,λb u xs q=>by rw[υ (hm b _ q λz=>z)];show q,λb ps q=>(#[],by rw[υ (hm b _ q λz=>z),q];simp))
 by_cases IY:b=e
 .subst IY;show O4
 .show(u,k b u IY q)
end
def WI(h:Heap)(H:Hp):List Addr:=(List.range h.objs.size).filter λa=>(H a).isSome
def w8(h:Heap)(H:Hp):Heap:=PySem.W.hideAll h (WI h H)
def GN(h:Heap)(H:Hp):(w8 h H).objs.size=h.objs.size:=PySem.W.hideAll_size _ _
def Kw{H:Hp}{o:Obj}(e:h.get? b=!o)(n:H b=none):(w8 h H).get? b=!o:=
 PySem.W.hideAll_get _ e λhm=>by let q:(H b).isSome=true:=(acr.mp hm).2;rw[n]at q;simp at q
def MB{H:Hp}{o:Obj}(e:(w8 h H).get? b=!o):h.get? b=!o/\H b=none:=by
 let e':h.get? b=!o:=PySem.W.of_hideAll (WI h H) e;show(e',?_);cases q:H b with
 | none=>rfl
 | some x=>
  let hm:b∈WI h H:=List.mem_filter.mpr (List.mem_range.mpr (Heap.lt_size e'),by simp[q]);let z:(w8 h H).get? b=none:=PySem.W.hideAll_none (WI h H) hm;rw[z]at e;cases e
structure Mod(K:gV)(mg:Str->Option Value)(base:Heap):Prop where
 T2:K.In base
 glob:base.Ns mainGlobals mg
 blt:∃mb,base.Ns builtinsNs mb/\∀x:Str,x≠"__name__"->mb x=bootBuiltins x
 nolimit:base.NoLimit
structure Cx where
 prog:Program
 w:World
 K:gV
 mg:Str->Option Value
 base:Heap
 A:Around
 N:List Str
 s₀:Shared
 H₀:Hp
 env:Env
 outer:List Env
 stack:List Env
 ex:List Addr
 fn:Str->Bool
 calm:Bool
 pn:List (Addr×Obj)
 xe:Value->Shared->Prop
variable{X:Cx}
def kX(l:List Env):List Addr:=l.filterMap (·.frame)
abbrev Cx.fs(X:Cx):List Addr:=kX X.outer
def Vz(sc:Scope)(x:Str):Prop:=sc.names.lookup x=some .local\/sc.names.lookup x=some .cell\/sc.names.lookup x=some .free
def Loc(sc:Scope)(x:Str):Prop:=sc.names.lookup x=some .local\/sc.names.lookup x=some .cell
def aap(env:Env)(h:Heap)(m:Str->Option Value)(x:Str)(u:Value):Prop:=
 (env.kindOf x=some .local/\m x=!u)\/((env.kindOf x=some .cell\/env.kindOf x=some .free)/\∃c,env.cells.lookup x=!c/\h.IsCell c (!u))
structure Cx.Ok(X:Cx):Prop where
 mod:Mod X.K X.mg X.base
 kind:X.env.scope.kind= .function
 glob:X.env.globals=mainGlobals
 blt:X.env.builtins=builtinsNs
 above:X.s₀.heap.objs.size<=X.env.locals
 inj:∀x y c,X.env.cells.lookup x=!c->X.env.cells.lookup y=!c->x=y
 has:∀x,(X.env.kindOf x=some .cell\/X.env.kindOf x=some .free)->∃c,X.env.cells.lookup x=!c
 RU:∀x c,X.fn x=true->X.env.cells.lookup x=!c->X.s₀.heap.objs.size<=c
 hd:X.calm=true->X.A.handled=none
 frames:X.A.frames=!X.stack
 NH:X.stack=X.outer\/(X.stack=X.env::X.outer/\X.env.frame=!X.env.locals)
 R8:∀b∈X.ex,b≠X.env.locals/\∀x c,X.env.cells.lookup x=!c->c≠b
 bs:∀b o,X.base.get? b=!o->X.s₀.heap.get? b=!o/\X.H₀ b=none
 vk:X.base.objs.size<=X.s₀.heap.objs.size
 AR:∀b o,X.base.get? b=!o->b∉X.ex
 A4:∀b∈X.ex,b∉X.fs
 nz:X.s₀.heap.FunFrames X.base X.outer
 MN:∀b∈X.fs,X.H₀ b=none
structure Inv(X:Cx)(δ:List (Addr×Obj))(σ:List (Option V))(H:Hp)(s:Shared):Prop where
 ok:X.Ok
 os:s.os=X.s₀.os
 bare:AllBare s.gens
 base:Un X.fs X.ex X.H₀ H X.s₀.heap s.heap
 loc:∃m,s.heap.Ns X.env.locals m/\∀(i:Nat) (x:Str) (v:V),X.N[i]? =!x->σ[i]? =!(!v)->Vz X.env.scope x->∃u,aj v u/\aap X.env s.heap m x u
 cell:∀x c,X.env.cells.lookup x=!c->∃v,s.heap.IsCell c v
 free:H X.env.locals=none
 fC:∀x c,X.env.cells.lookup x=!c->H c=none
 pin:∀p∈X.pn++δ,s.heap.get? p.1=!p.2/\H p.1=none/\p.1≠X.env.locals/\p.1∉X.fs/\∀v,p.2.data≠ .cell v
 au:je X.prog X.w H s.heap
 len:-σ=-X.N
section
variable{σ:List (Option V)}{H H':Hp}
def Cx.Ok.XO(ok:X.Ok){o:Obj}(e:X.base.get? b=!o):b∉X.fs:=λhb=>by have:=(ok.nz.mem hb).1;rw[e]at this;cases this
def Inv.bs(I:Inv X δ σ H s):∀b o,X.base.get? b=!o->s.heap.get? b=!o/\H b=none:=λb o e=>
 (I.base.keep b o (I.ok.bs b o e).1 (I.ok.bs b o e).2 (I.ok.XO e) (I.ok.AR b o e),I.base.free b o (I.ok.bs b o e).1 (I.ok.bs b o e).2 (I.ok.AR b o e))
def Inv.bk(I:Inv X δ σ H s):∀b o,X.base.get? b=!o->s.heap.get? b=!o:=λb o e=>(I.bs b o e).1
def Inv.mod(I:Inv X δ σ H s):Mod X.K X.mg X.base:=I.ok.mod
def Inv.iL(I:Inv X δ σ H s):X.K.In s.heap:=I.ok.mod.T2.keeps I.bk
def Inv.lt(I:Inv X δ σ H s):X.env.locals < s.heap.objs.size:=let (_,hn,_):=I.loc;hn.lt
def Inv.sz(I:Inv X δ σ H s):X.s₀.heap.objs.size<=s.heap.objs.size:=aaJ I.ok.above (Nat.le_of_lt I.lt)
def Inv.Zj(I:Inv X δ σ H s)(h:s.heap.objs.size<=a):a∉X.fs:=λhb=>by let(_,o,ho,_):=I.ok.nz.mem hb;show aaO (aay (aau ho) (aaJ I.sz h)) (abv _)
def Inv.KC(I:Inv X δ σ H s):∀x c,X.env.cells.lookup x=!c->c≠X.env.locals:=λx c e z=>by let(v,o,ho,hd):=I.cell x c e;let(m,(o',es,ep,mJ,GA,_),_):=I.loc;rw[z,mJ]at ho;cases ho;rw[GA]at hd;cases hd
def Inv.nz(I:Inv X δ σ H s):s.heap.FunFrames X.base X.outer:=by
 let all:∀(l:List Env),(∀b∈kX l,b∈X.fs)->X.s₀.heap.FunFrames X.base l->s.heap.FunFrames X.base l:=by
  intro l
  induction l with
  | nil=>intro _ _;trivial
  | cons env r ih=>
   intro hs hl;let(hk,(L,o,hf,hn,ho,hd),hr):=hl;let hL:L∈X.fs:=hs L (by unfold kX;rw[List.filterMap_cons,hf];show List.mem_cons_self);let(sl,e):=I.base.slot L o ho (I.ok.MN L hL) hL λz=>I.ok.A4 L z hL;show(hk,(L,_,hf,hn,e,hd),ih (λb hb=>hs b (by unfold kX;rw[List.filterMap_cons,hf];show List.mem_cons_of_mem _ hb)) hr)
 show all X.outer (λ_ hb=>hb) I.ok.nz
def Inv.stack(I:Inv X δ σ H s):s.heap.FunFrames X.base X.stack:=by
 rcases I.ok.NH with e| ⟨e,hf⟩
 .rw[e];show I.nz
 .rw[e];let(m,hn,_):=I.loc;show .cons (by rw[I.ok.kind];decide) hf hn ?_ I.nz;show Heap.get?_none_of_le (aaJ I.ok.vk I.ok.above)
def Inv.vo(I:Inv X δ σ H s):∀b∈kX X.stack,b∈X.env.locals::X.fs:=λb hb=>by
 rcases I.ok.NH with e| ⟨e,hf⟩
 .rw[e]at hb;show aai _ hb
 .rw[e]at hb;unfold kX at hb;rw[aco,hf]at hb;show hb
def Inv.pO(I:Inv X δ σ H s):∀b∈kX X.stack,H b=none:=λb hb=>by
 rcases aaR.mp (I.vo b hb) with e| hb
 .rw[e];show I.free
 .let(_,o,ho,_):=I.ok.nz.mem hb;show I.base.free b o ho (I.ok.MN b hb) λz=>I.ok.A4 b z hb
def Inv.step{t':Nat}{d':Drawn}(I:Inv X δ σ H s)
  (AF:∀b∈ch,(b∈X.ex\/X.s₀.heap.objs.size<=b)/\b≠X.env.locals/\(∀x c,X.env.cells.lookup x=!c->c≠b)/\∀p∈X.pn++δ,p.1≠b)
  (keep:∀b o,b≠X.env.locals->b∉X.fs->b∉ch->s.heap.get? b=!o->H b=none->h'.get? b=!o)
  (slot:∀b o,b≠X.env.locals->b∈X.fs->b∉ch->s.heap.get? b=!o->H b=none->∃sl,h'.get? b=some {o with slots:=sl}) (free:∀b o,b∉ch->s.heap.get? b=!o->H b=none->H' b=none)
  (there:∀b o,b∉ch->s.heap.get? b=!o->∃o',h'.get? b=!o')
  (kI:∀b xs,H b=!(.tup xs)->H' b=!(.tup xs)) (jO:∀b o u,H b=!(.tX o u)->H' b=!(.tX o u)) (kJ:∀b ps,H b=!(.LA ps)->∃more,H' b=!(.LA (ps++more)))
  (ns:∀m,s.heap.Ns X.env.locals m->h'.Ns X.env.locals m) (au:je X.prog X.w H' h') (hg:AllBare g'):
  Inv X δ σ H' {s with heap:=h',gens:=g',drawn:=d',toks:=t'}:=by
 let neL:∀b o,X.s₀.heap.get? b=!o->b≠X.env.locals:=λb o e=>aaN (aay (aau e) I.ok.above);let Wv:∀b o,X.s₀.heap.get? b=!o->b∉X.ex->b∉ch:=λb o e hx hb=>by
  rcases(AF b hb).1 with z| z
  .show hx z
  .show aaO (aay (aau e) z) (abv _)
 let cellK:∀x c,X.env.cells.lookup x=!c->∀v,s.heap.IsCell c v->h'.IsCell c v:=λx c e v (o,ho,hd)=>by
  let Vb:c∉ch:=λz=>(AF c z).2.2.1 x c e rfl;by_cases hc:c∈X.fs
  .let(sl,q):=slot c o (I.KC x c e) hc Vb ho (I.fC x c e);show(_,q,hd)
  .show(o,keep c o (I.KC x c e) hc Vb ho (I.fC x c e),hd)
 show(I.ok,I.os,hg,(λb o e n hb hx=>?_,λb o e n hb hx=>?_,λb o e n hx=>?_,λb o e hx=>?_,λb xs e=>kI b xs (I.base.kI b xs e),λb o xs e=>jO b o xs (I.base.jO b o xs e),λb ps e=>?_),?_,λx c e=>?_,?_,λx c e=>?_,λp hp=>?_,au,I.len)
 .show keep b o (neL b o e) hb (Wv b o e hx) (I.base.keep b o e n hb hx) (I.base.free b o e n hx)
 .let(sl,e1):=I.base.slot b o e n hb hx;let(XD,e2):=slot b _ (neL b o e) hb (Wv b o e hx) e1 (I.base.free b o e n hx);show(XD,e2)
 .let(o',e1):=I.base.there b o e hx;show free b o' (Wv b o e hx) e1 (I.base.free b o e n hx)
 .let(o',e1):=I.base.there b o e hx;show there b o' (Wv b o e hx) e1
 .let(m1,e1):=I.base.kJ b ps e;let(m2,e2):=kJ b _ e1;show(m1++m2,by rw[e2,Array.append_assoc])
 .let(m,hn,hl):=I.loc;show(m,ns m hn,λi x v e1 e2 e3=>?_);let(u,r,l):=hl i x v e1 e2 e3;show(u,r,?_);rcases l with l| ⟨k,c,e,z⟩
  .show .inl l
  .show .inr (k,c,e,cellK x c e _ z)
 .let(v,z):=I.cell x c e;show(v,cellK x c e v z)
 .let(m,(o,_,_,ho,_),_):=I.loc;show free _ o (λz=>(AF _ z).2.1 rfl) ho I.free
 .let(v,o,ho,hd):=I.cell x c e;show free c o (λz=>(AF c z).2.2.1 x c e rfl) ho (I.fC x c e)
 .let(e,n,ne,nf,d):=I.pin p hp;let Vb:p.1∉ch:=λz=>(AF p.1 z).2.2.2 p hp rfl;show(keep p.1 p.2 ne nf Vb e n,free p.1 p.2 Vb e n,ne,nf,d)
def Inv.un{t':Nat}(I:Inv X δ σ H s)(u:Un X.fs [] H H' s.heap h')(au:je X.prog X.w H' h'):Inv X δ σ H' {s with heap:=h',toks:=t'}:=by
 let(m,(o,es,ep,ho,r),_):=id I.loc;let(sl,hL):=u.any ho I.free (by simp)
 show I.step (g':=s.gens) (d':=s.drawn) (ch:=[]) (λ_ z=>nomatch z) (λb o _ hb _ e n=>u.keep b o e n hb (by simp)) (λb o _ hb _ e n=>u.slot b o e n hb (by simp)) (λb o _ e n=>u.free b o e n (by simp)) (λb o _ e=>u.there b o e (by simp)) u.kI u.jO u.kJ (λm' hm=>by
  let(o',Wf,X6,mJ,r'):=hm;rw[ho]at mJ;cases mJ
  show(_,Wf,X6,hL,r')) au I.bare
def Inv.call{t':Nat}{d':Drawn}(I:Inv X δ σ H s)(u:Un (kX X.stack) ch H H' s.heap h')(au:je X.prog X.w H' h')(hg:AllBare g')
  (AF:∀b∈ch,(b∈X.ex\/X.s₀.heap.objs.size<=b)/\b≠X.env.locals/\(∀x c,X.env.cells.lookup x=!c->c≠b)/\∀p∈X.pn++δ,p.1≠b):
  Inv X δ σ H' {s with heap:=h',gens:=g',drawn:=d',toks:=t'}:=by
 let(m,(o,es,ep,ho,r),_):=id I.loc;let(sl,hL):=u.any ho I.free λz=>(AF _ z).2.1 rfl
 show I.step (ch:=ch) AF (λb o hL hb hc e n=>u.keep b o e n (λz=>(aaR.mp (I.vo b z)).elim hL hb) hc) (λb o _ _ hc e n=>u.any e n hc) (λb o hc e n=>u.free b o e n hc) (λb o hc e=>u.there b o e hc) u.kI u.jO u.kJ (λm' hm=>by
  let(o',Wf,X6,mJ,r'):=hm;rw[ho]at mJ;cases mJ
  show(_,Wf,X6,hL,r')) au hg
def Inv.turned{t':Nat}{it:Addr}(I:Inv X δ σ H s)(k:∀b o,b≠it->s.heap.get? b=!o->h'.get? b=!o)(hn:H it=none)(hL:it≠X.env.locals)
  (h1:it∈X.ex\/X.s₀.heap.objs.size<=it) (h2:∀x c,X.env.cells.lookup x=!c->c≠it) (h3:∀p∈X.pn++δ,p.1≠it):Inv X δ σ H {s with heap:=h',toks:=t'}:=by
 let nit:∀b u,H b=!u->b≠it:=λb u e z=>by rw[z,hn]at e;cases e
 show I.step (g':=s.gens) (d':=s.drawn) (ch:=[it]) (λb hb=>?_) (λb o _ _ hc e _=>k b o (λz=>hc (by simp[z])) e) (λb o _ _ hc e _=>(o.slots,k b o (λz=>hc (by simp[z])) e)) (λ_ _ _ _ n=>n)
  (λb o hc e=>(o,k b o (λz=>hc (by simp[z])) e)) (λ_ _ e=>e) (λ_ _ _ e=>e) (λb ps e=>(#[],by rw[e];simp)) (λm hm=>?_) (λb u e=>?_) I.bare
 .let e:b=it:=by simpa using hb
  subst e;show(h1,hL,h2,h3)
 .let(o,es,ep,ho,r):=hm;show(o,es,ep,k _ o (Ne.symm hL) ho,r)
 .show(I.au b u e).pB (λc v hc q=>k c v ?_ q) (λ_ q=>q) λ_ _ q=>q;rcases hc with z| z
  .rw[z];show nit b u e
  .show nit c _ z
def Inv.tok(I:Inv X δ σ H s)(t:Nat):Inv X δ σ H {s with toks:=t}:=I.un (h':=s.heap) (t':=t) Un.refl I.au
def Inv.kept{t':Nat}(I:Inv X δ σ H s)(k:∀b u,s.heap.get? b=!u->h'.get? b=!u):Inv X δ σ H {s with heap:=h',toks:=t'}:=I.un (Un.kept k) (I.au.kept k)
def Inv.laid{t':Nat}(I:Inv X δ σ H s)(k:∀b u,s.heap.get? b=!u->h'.get? b=!u)(hp:s.heap.objs.size<=a)(new:aH X.prog X.w (upd H a o) h' a o):
  Inv X δ σ (upd H a o) {s with heap:=h',toks:=t'}:=I.un (Un.laid k hp (I.au.fresh hp)) (I.au.laid k hp new)
def Inv.write{x e:Addr}{t':Nat}(I:Inv X δ σ H s)(mu:Sk (H x))(he:e=x\/H e=!(.own x))(k:∀b u,b≠e->s.heap.get? b=!u->h'.get? b=!u)(O4:∃u,h'.get? e=!u)
  (new:aH X.prog X.w (upd H x o) h' x o):Inv X δ σ (upd H x o) {s with heap:=h',toks:=t'}:=I.un (Un.write mu he k O4) (I.au.write mu he k O4 new)
def Inv.EL{rD:List (Addr×Obj)}(I:Inv X δ σ H s)(h:∀p∈rD,s.heap.get? p.1=!p.2/\H p.1=none/\p.1≠X.env.locals/\p.1∉X.fs/\∀v,p.2.data≠ .cell v):Inv X rD σ H s:=
 (I.ok,I.os,I.bare,I.base,I.loc,I.cell,I.free,I.fC,λp hp=>(aa3.mp hp).elim (λz=>I.pin p (abE _ z)) (h p),I.au,I.len)
def qD{N:List Str}(hN:N.Nodup){j:Nat}(a:N[i]? =!x)(b:N[j]? =!x):i=j:=by let(h1,e1):=aaj.mp a;let(h2,e2):=aaj.mp b;show(List.getElem_inj hN).mp (e1.trans e2.symm)
def uD{Q:Unit->Shared->Prop}(I:Inv X δ σ H s)(hN:X.N.Nodup)(hi:X.N[i]? =!x)(hx:Loc X.env.scope x)(r:aj v u)
  (h:∀s',Inv X δ (σ.set i (!v)) H s'->(∃a,Heap.SameBut a s.heap s'.heap/\(a=X.env.locals\/X.env.cells.lookup x=!a))->Q Unit.unit s') (hf:X.fn x=true\/X.env.scope.names.lookup x=some .local:=by first| exact .inl rfl| exact .inr rfl| assumption):wpAny M A (storeName X.env x u) Q E s:=by
 let(m,hn,hl):=id I.loc;let Kt:(X.env.scope.kind== .class|| (X.env.scope.kind== .module&&X.env.locals != X.env.globals))=false:=by rw[I.ok.kind];rfl
 let V3:i < -σ:=by rw[I.len];show(aaj.mp hi).1
 let KC:=I.KC;let tracked:∀{a:Addr} {h':Heap},(∃o,s.heap.get? a=!o/\H a=none)->Heap.SameBut a s.heap h'->je X.prog X.w H h':=λ{a h'} ha hs b ob e=>by
  let(_,_,O1):=ha;show(I.au b ob e).pB (λc w' hc q=>(hs.2 c ?_).trans q) (λ_ q=>q) λ_ _ q=>q;rintro rfl;rcases hc with rfl| hc
  .rw[O1]at e;cases e
  .rw[O1]at hc;cases hc
 rcases hx with hk| hk
 .show wpAny_storeName_local hk hn (λh' FU hs=>?_) Kt;let(oL,_,_,hoL,_):=id hn;show h _ (I.ok,I.os,I.bare,(λb o e n hb hx=>?_,λb o e n hb hx=>?_,I.base.free,λb o e hx=>?_,I.base.kI,I.base.jO,I.base.kJ),(_,FU,λj y v' e1 e2 e3=>?_),λy c e=>?_,I.free,I.fC,λp hp=>?_,tracked (oL,hoL,I.free) hs,by simpa using I.len) (_,hs,.inl rfl)
  .show(hs.2 b (aaN (aay (aau e) I.ok.above))).trans (I.base.keep b o e n hb hx)
  .let(sl,e1):=I.base.slot b o e n hb hx;show(sl,(hs.2 b (aaN (aay (aau e) I.ok.above))).trans e1)
  .let(o',e1):=I.base.there b o e hx;show(o',(hs.2 b (aaN (aay (aau e) I.ok.above))).trans e1)
  .by_cases hj:j=i
   .subst hj;rw[hi]at e1;cases e1;rw[aaV V3]at e2;cases e2;show(u,r,.inl (hk,by simp))
   .rw[abd (Ne.symm hj)]at e2;let(u',r',q):=hl j y v' e1 e2 e3;show(u',r',?_);rcases q with ⟨k,e⟩| ⟨k,c,e,z⟩
    .show .inl (k,?_);have:y≠x:=λe=>hj (qD hN e1 (e▸hi));simp[this,e]
    .show .inr (k,c,e,z.sameBut hs (KC y c e))
  .let(w',z):=I.cell y c e;show(w',z.sameBut hs (KC y c e))
  .let(e,n,ne,nf,d):=I.pin p hp;show((hs.2 p.1 ne).trans e,n,ne,nf,d)
 .let VT:X.fn x=true:=by
   rcases hf with z| z
   .show z
   .rw[z]at hk;cases hk
  let(c,hc):=I.ok.has x (.inl hk);let(w',z):=I.cell x c hc;show wpAny_storeName_cell I.ok.kind hk hc z (λh' BV hs=>?_);let(oc,hoc,Zs):=id z;show h {s with heap:=h'} (I.ok,I.os,I.bare,(λb o e n hb hx=>?_,λb o e n hb hx=>?_,I.base.free,λb o e hx=>?_,I.base.kI,I.base.jO,I.base.kJ),(m,hn.sameBut hs (Ne.symm (KC x c hc)),λj y v' e1 e2 e3=>?_),λy c' e=>?_,I.free,I.fC,λp hp=>?_,tracked (oc,hoc,I.fC x c hc) hs,by simpa using I.len) (c,hs,.inr hc)
  .show(hs.2 b (aaN (aay (aau e) (I.ok.RU x c VT hc)))).trans (I.base.keep b o e n hb hx)
  .let(sl,e1):=I.base.slot b o e n hb hx;show(sl,(hs.2 b (aaN (aay (aau e) (I.ok.RU x c VT hc)))).trans e1)
  .let(o',e1):=I.base.there b o e hx;show(o',(hs.2 b (aaN (aay (aau e) (I.ok.RU x c VT hc)))).trans e1)
  .by_cases hj:j=i
   .subst hj;rw[hi]at e1;cases e1;rw[aaV V3]at e2;cases e2;show(u,r,.inr (.inl hk,c,hc,BV))
   .rw[abd (Ne.symm hj)]at e2;let(u',r',q):=hl j y v' e1 e2 e3;show(u',r',?_);rcases q with q| ⟨k,c',e,z'⟩
    .show .inl q
    .show .inr (k,c',e,z'.sameBut hs ?_);rintro rfl;show hj (qD hN e1 (I.ok.inj _ _ _ e hc▸hi))
  .by_cases RB:c'=c
   .subst RB;show(_,BV)
   .let(w2,z2):=I.cell y c' e;show(w2,z2.sameBut hs RB)
  .let(e,n,ne,nf,d):=I.pin p hp;show((hs.2 p.1 ?_).trans e,n,ne,nf,d);intro q;rw[q,hoc]at e;let q':oc=p.2:=aav e;show d w' (by rw[<-q'];show Zs)
def iz{Q:Unit->Shared->Prop}(I:Inv X δ σ H s)(hN:X.N.Nodup)(hi:X.N[i]? =!x)(hx:Loc X.env.scope x)(r:aj v u)
  (h:∀s',Inv X δ (σ.set i (!v)) H s'->Q Unit.unit s') (hf:X.fn x=true\/X.env.scope.names.lookup x=some .local:=by first| exact .inl rfl| exact .inr rfl| assumption):wpAny M A (storeName X.env x u) Q E s:=
 uD I hN hi hx r (λs' I' _=>h s' I') hf
def Inv.N9{s':Shared}(I:Inv X δ σ H s)(ho:s'.os=s.os)(u:Un (kX X.stack) ch H H' s.heap s'.heap)(au:je X.prog X.w H' s'.heap)(hg:AllBare s'.gens)
  (AF:∀b∈ch,(b∈X.ex\/X.s₀.heap.objs.size<=b)/\b≠X.env.locals/\(∀x c,X.env.cells.lookup x=!c->c≠b)/\∀p∈X.pn++δ,p.1≠b):Inv X δ σ H' s':=by
 let(h',g',d',t',o'):=s';let e:o'=s.os:=ho;subst e;show I.call (g':=g') (t':=t') (d':=d') u au hg AF
end
abbrev XK:=Value->Option Addr->Hp->Prop
abbrev St:=List (Option V)
variable{σ:St}
abbrev VK:=V->Hp->Prop
abbrev TE:=St->Hp->VK->Prop
variable{ta te:TE}
abbrev TT:=St->Hp->(Bool->Hp->Prop)->Prop
abbrev TA:=St->Hp->(List V->Hp->Prop)->Prop
structure oW where
 nx:St->Hp->Prop
 rt:VK
 bk:St->Hp->Prop:=λ_ _=>False
 ct:St->Hp->Prop:=λ_ _=>False
abbrev TS:=oW->St->Hp->Prop
def EP(X:Cx)(δ:List (Addr×Obj))(σ:St)(Q:VK)(u:Value)(s':Shared):Prop:=∃v H',Inv X δ σ H' s'/\aj v u/\Q v H'
def TP(X:Cx)(δ:List (Addr×Obj))(σ:St)(Q:Bool->Hp->Prop)(b:Bool)(s':Shared):Prop:=∃H',Inv X δ σ H' s'/\Q b H'
def AP(X:Cx)(δ:List (Addr×Obj))(σ:St)(Q:List V->Hp->Prop)(us:List Value)(s':Shared):Prop:=∃vs H',Inv X δ σ H' s'/\af vs us/\Q vs H'
def SP(X:Cx)(δ:List (Addr×Obj))(D:oW)(f:Flow)(s':Shared):Prop:=
 match f with
 | .next=>∃σ' H',Inv X δ σ' H' s'/\D.nx σ' H'
 | .brk=>∃σ' H',Inv X δ σ' H' s'/\D.bk σ' H'
 | .cont=>∃σ' H',Inv X δ σ' H' s'/\D.ct σ' H'
 | .ret u=>∃v σ' H',Inv X δ σ' H' s'/\aj v u/\D.rt v H'
def PE(X:Cx)(e:Expr)(t:TE):Prop:=
 ∀(δ:List (Addr×Obj)) (s:Shared) (σ:St) (H:Hp) (Q:VK),Inv X δ σ H s->t σ H Q->wpAny (model X.prog X.w) X.A (eval e X.env) (EP X δ σ Q) X.xe s
def PT(X:Cx)(e:Expr)(t:TT):Prop:=
 ∀(δ:List (Addr×Obj)) (s:Shared) (σ:St) (H:Hp) (Q:Bool->Hp->Prop),Inv X δ σ H s->t σ H Q->wpAny (model X.prog X.w) X.A (isTrue e X.env (eval e X.env)) (TP X δ σ Q) X.xe s
def PW(X:Cx)(e:Expr)(t:TT):Prop:=
 ∀(whole:Sem Value) (δ:List (Addr×Obj)) (s:Shared) (σ:St) (H:Hp) (Q:Bool->Hp->Prop),Inv X δ σ H s->t σ H Q->wpAny (model X.prog X.w) X.A (isTrue e X.env whole) (TP X δ σ Q) X.xe s
def PA(X:Cx)(es:List Expr)(t:TA):Prop:=
 ∀(pos:Pos) (δ:List (Addr×Obj)) (s:Shared) (σ:St) (H:Hp) (Q:List V->Hp->Prop),Inv X δ σ H s->t σ H Q->wpAny (model X.prog X.w) X.A (spliced (backTo pos (starEach es X.env))) (AP X δ σ Q) X.xe s
def PS(X:Cx)(st:Stmt)(t:TS):Prop:=
 ∀(δ:List (Addr×Obj)) (s:Shared) (σ:St) (H:Hp) (D:oW),Inv X δ σ H s->t D σ H->wpAny (model X.prog X.w) X.A (exec st X.env) (SP X δ D) X.xe s
def xT(X:Cx)(st:List Stmt)(t:TS):Prop:=
 ∀(δ:List (Addr×Obj)) (s:Shared) (σ:St) (H:Hp) (D:oW),Inv X δ σ H s->t D σ H->wpAny (model X.prog X.w) X.A (execs st X.env) (SP X δ D) X.xe s
def a_{α:Type}{t:Sem α}{Q Q':α->Shared->Prop}(h:wpAny M A t Q E s)(hQ:∀a s,Q a s->Q' a s):wpAny M A t Q' E s:=abl h hQ λ_ _ x=>x
section
def Zo(i:Nat):TE:=λσ H Q=>∃v,σ[i]? =!(!v)/\Q v H
def tC(v:V):TE:=λ_ H Q=>Q v H
def Cw(hN:X.N[i]? =!x)(hv:Vz X.env.scope x)(hd:(x==("__debug__":Str))=false|>2)(xS:(x==("__classdict__":Str))=false|>2):PE X (.Name x pos) (Zo i):=by
 intro δ s σ H Q I h;let(v,e,h):=h;let(m,hn,hl):=I.loc;let(u,r,l):=hl i x v hN e hv;let fin:EP X δ σ Q u s:=(v,H,I,r,h);rcases l with ⟨hk,hm⟩| ⟨hk,c,hc,O7⟩
 .show wpAny_Name (wpAny_loadName_local I.ok.kind hk hn hm fin) hd
 .rcases hk with hk| hk
  .show wpAny_Name (wpAny_loadName_cell I.ok.kind hk hc O7 fin) hd
  .show wpAny_Name (wpAny_loadName_free I.ok.kind hk hc O7 fin xS) hd
def Ph{i j pos}:PE X (.Constant (.int i) j pos) (tC (.int i)):=λ_ _ _ H _ I h=>wpAny_Constant_int (.int i,H,I.tok _,(_,rfl),h)
def U'{b j pos}:PE X (.Constant (.bool b) j pos) (tC (.bl b)):=λ_ _ _ H _ I h=>Constant_bool (.bl b,H,I,rfl,h)
def Pe{j pos}:PE X (.Constant .none j pos) (tC .aV):=λ_ _ _ H _ I h=>Constant_none (.aV,H,I,rfl,h)
def Hu{x j pos}:PE X (.Constant (.str x) j pos) (tC (.str x)):=λ_ _ _ H _ I h=>Calls.Constant_str (.str x,H,I.tok _,(_,rfl),h)
def Gl(X:Cx)(x:Str):Prop:=X.env.kindOf x=some .globalImplicit
def kB{H:Hp}(I:Inv X δ σ H s)(hg:Gl X x)(hm:X.mg x=!u)(h:Q u s)
  (hd:(x==("__debug__":Str))=false|>2):wpAny (model X.prog X.w) X.A (eval (.Name x pos) X.env) Q E s:=
 Calls.Name_function_global I.ok.kind hg (Calls.loadGlobal_global (by rw[I.ok.glob];show I.mod.glob.keeps I.bk) hm h) hd
def lJ{H:Hp}(I:Inv X δ σ H s)(hg:Gl X x)(hm:X.mg x=none)(hv:bootBuiltins x=!u)(h:Q u s)
  (hn:x≠"__name__"|>2) (hd:(x==("__debug__":Str))=false|>2):wpAny (model X.prog X.w) X.A (eval (.Name x pos) X.env) Q E s:=by
 let(mb,h1,h2):=I.mod.blt;show Calls.Name_function_global I.ok.kind hg (Calls.loadGlobal_builtin (by rw[I.ok.glob];show I.mod.glob.keeps I.bk) hm (by rw[I.ok.blt];show h1.keeps I.bk) ((h2 x hn).trans hv) h) hd
def wN(hg:Gl X x)(hm:X.mg x=!u)(r:aj v u)(hd:(x==("__debug__":Str))=false|>2):PE X (.Name x pos) (tC v):=
 λ_ _ _ H _ I h=>kB I hg hm (v,H,I,r,h) hd
def Mp(hg:Gl X x)(hm:X.mg x=none)(hv:bootBuiltins x=!u)(r:aj v u)(hn:x≠"__name__"|>2)(hd:(x==("__debug__":Str))=false|>2):PE X (.Name x pos) (tC v):=
 λ_ _ _ H _ I h=>lJ I hg hm hv (v,H,I,r,h) hn hd
variable{a b:Expr}{tb:TE}
def tB(t:TE):TT:=λσ H Q=>t σ H λx H1=>∃c,x= .bl c/\Q c H1
def Rj{t:TE}(h:PE X e t)(he:(∀whole,isTrue e X.env whole=(do let  v<-whole;standAt e.pos;holding [v] (truthy v)))|>3):PT X e (tB t):=by intro δ s σ H Q I hw;show isTrue_plain (a_ (h δ s σ H _ I hw) λv s1 xz=>?_) (he _);let(x,H1,I1,r1,q1):=xz;let(d,rfl,q):=q1;cases r1;show wpAny_truthy_bool (H1,I1,q)
variable{tA VR:TT}{rest:List Expr}
def Xy(t u:TT):TT:=λσ H Q=>t σ H λc H1=>if c=true then u σ H1 Q else Q false H1
def tOr(t u:TT):TT:=λσ H Q=>t σ H λc H1=>if c=true then Q true H1 else u σ H1 Q
def Z7(t:TT):TT:=λσ H Q=>t σ H λc H1=>Q (! c) H1
def pw_and1(ha:PT X a tA):PW X (.BoolOp .And [a] pos) tA:=by
 intro wh δ s σ H Q I h;show isTrue_and (a_ (ha δ s σ H Q I h) λc s1 e=>?_);cases c with
 | true=>show isTrue_and_nil e
 | false=>show e
def pw_or1(ha:PT X a tA):PW X (.BoolOp .Or [a] pos) tA:=by
 intro wh δ s σ H Q I h;show isTrue_or (a_ (ha δ s σ H Q I h) λc s1 e=>?_);cases c with
 | false=>show isTrue_or_nil e
 | true=>show e
def pw_and(ha:PT X a tA)(hb:PW X (.BoolOp .And (b::rest) pos) VR):PW X (.BoolOp .And (a::b::rest) pos) (Xy tA VR):=by
 intro wh δ s σ H Q I h;show isTrue_and (a_ (ha δ s σ H _ I h) λc s1 xz=>?_);let(H1,I1,q1):=xz;cases c with
 | true=>show hb wh δ s1 σ H1 Q I1 q1
 | false=>show(H1,I1,q1)
def pw_or(ha:PT X a tA)(hb:PW X (.BoolOp .Or (b::rest) pos) VR):PW X (.BoolOp .Or (a::b::rest) pos) (tOr tA VR):=by
 intro wh δ s σ H Q I h;show isTrue_or (a_ (ha δ s σ H _ I h) λc s1 xz=>?_);let(H1,I1,q1):=xz;cases c with
 | true=>show(H1,I1,q1)
 | false=>show hb wh δ s1 σ H1 Q I1 q1
def Rh(ha:PT X a tA):PT X (.UnaryOp .Not a pos) (Z7 tA):=by intro δ s σ H Q I h;show isTrue_not (ha δ s σ H (λc H1=>Q (! c) H1) I h)
def Tn(ta tb:TE):TE:=λσ H Q=>ta σ H λx H1=>∃c,x= .bl c/\if c=true then tb σ H1 Q else Q (.bl false) H1
def S2(ta:TE):TE:=λσ H Q=>ta σ H λx H1=>∃c,x= .bl c/\Q (.bl (! c)) H1
def Qs{op}{t:TE}(h:PE X a t):PE X (.BoolOp op [a] pos) t:=λδ s σ H Q I hw=>BoolOp_one (h δ s σ H Q I hw)
def Py(ha:PE X a ta)(hb:PE X (.BoolOp .And (b::rest) pos) tb):PE X (.BoolOp .And (a::b::rest) pos) (Tn ta tb):=by
 intro δ s σ H Q I h;show BoolOp_and (a_ (ha δ s σ H _ I h) λv s1 xz=>?_);let(x,H1,I1,r1,q1):=xz;let(c,rfl,q1):=q1;cases r1;show wpAny_truthy_bool ?_;cases c with
 | true=>show hb δ s1 σ H1 Q I1 q1
 | false=>show(.bl false,H1,I1,rfl,q1)
def RQ(ha:PE X a ta):PE X (.UnaryOp .Not a pos) (S2 ta):=by intro δ s σ H Q I h;show UnaryOp_ (a_ (ha δ s σ H _ I h) λv s1 xz=>?_);let(x,H1,I1,r1,q1):=xz;let(c,rfl,q1):=q1;cases r1;show not_of (wpAny_truthy_bool (.bl (! c),H1,I1,rfl,q1))
def tIf(t:TT)(ta tb:TE):TE:=λσ H Q=>t σ H λc H1=>if c=true then ta σ H1 Q else tb σ H1 Q
def J0(hc:PT X c tA)(ha:PE X a ta)(hb:PE X b tb):PE X (.IfExp c a b pos) (tIf tA ta tb):=by
 intro δ s σ H Q I h;show wpAny_IfExp (a_ (hc δ s σ H _ I h) λd s1 xz=>?_);let(H1,I1,q1):=xz;cases d with
 | true=>show ha δ s1 σ H1 Q I1 q1
 | false=>show hb δ s1 σ H1 Q I1 q1
end
def fQ(K:gV)(H:Hp)(a:Addr)(xs:List V):Prop:=
 Rd H a (.lst xs)\/
  ∃(o:Obj) (its:Array Value) (n:Nat),K.lookup a=!o/\o.cls= .type "list"/\o.dict=none/\o.data= .seq its n/\its.size<=sizeLine/\af xs its.toList
def mH(K:gV)(H:Hp)(a:Addr)(xs:List V):Prop:=
 Rd H a (.tup xs)\/
  ∃(o:Obj) (its:Array Value) (n:Nat),K.lookup a=!o/\o.cls= .type "tuple"/\o.data= .seq its n/\its.size<=sizeLine/\af xs its.toList
def X5:Value->Option V
 | .none=>some .aV
 | .bool b=>!(.bl b)
 | .int i _=>!(.int i)
 | .str x _=>!(.str x)
 | .bytes b _=>!(.Hr b)
 | .float b _=>!(.Qb b)
 | .ref a=>!(.ref a)
 | .type n=>!(.ty n)
 | _=>none
def aj.abs{x:V}(r:aj x u):X5 u=!x:=by
 cases x with
 | aV=>cases r;rfl
 | bl _=>cases r;rfl
 | int _=>let(t,rfl):=r;rfl
 | str _=>let(t,rfl):=r;rfl
 | Hr _=>let(t,rfl):=r;rfl
 | Qb _=>let(t,rfl):=r;rfl
 | ref _=>cases r;rfl
 | ty _=>cases r;rfl
def aj.inj{x y:V}{u:Value}(r:aj x u)(q:aj y u):x=y:=aav (r.abs.symm.trans q.abs)
def af.inj:∀{xs ys:List V} {us:List Value},af xs us->af ys us->xs=ys
 | _,_,_,.nil,.nil=>rfl
 | _,_,_,.cons r t,.cons r' t'=>by rw[r.inj r',af.inj t t']
section
variable{H:Hp}{xs ys:List V}
def fQ.of{K:gV}(h:H a=!(.lst xs)):fQ K H a xs:=.inl (.inl h)
def mH.of{K:gV}(h:H a=!(.tup xs)):mH K H a xs:=.inl (.inl h)
def Inv.list(I:Inv X δ σ H s)(h:fQ X.K H a xs):∃its:List Value,af xs its/\PlainL s.heap a its.toArray/\-xs<=sizeLine:=by
 rcases h with h| ⟨o,its,n,hk,hc,hd,hs,hz,r⟩
 .let(z,its,n,r,e):=h.ok I.au;show(its,r,(_,n,e,rfl,rfl,rfl),z)
 .show(its.toList,r,(o,n,I.iL a o hk,hc,hd,by simpa using hs),?_);let e:=-r;simp only[Array.length_toList]at e;omega
def Inv.tuple(I:Inv X δ σ H s)(h:mH X.K H a xs):∃its:List Value,af xs its/\IsTup s.heap a its.toArray/\-xs<=sizeLine:=by
 rcases h with h| ⟨o,its,n,hk,hc,hs,hz,r⟩
 .let(z,its,r,p):=h.ok I.au;show(its,r,p,z)
 .show(its.toList,r,(o,I.iL a o hk,hc,n,by simpa using hs),?_);let e:=-r;simp only[Array.length_toList]at e;omega
def Inv.gA(I:Inv X δ σ H s)(h:fQ X.K H a xs)(h':fQ X.K H a ys):xs=ys:=by
 let(its,r,(o,n,e,_,_,d),_):=I.list h;let(its',r',(o',n',e',_,_,d'),_):=I.list h';rw[e]at e';cases e';rw[d]at d';injection d' with d1 _
 have:its=its':=by simpa using congrArg Array.toList d1
 subst this;show r.inj r'
def Inv.uw(I:Inv X δ σ H s)(h:mH X.K H a xs)(h':mH X.K H a ys):xs=ys:=by
 let(its,r,(o,e,_,n,d),_):=I.tuple h;let(its',r',(o',e',_,n',d'),_):=I.tuple h';rw[e]at e';cases e';rw[d]at d';injection d' with d1 _
 have:its=its':=by simpa using congrArg Array.toList d1
 subst this;show r.inj r'
end
section
variable{st:Stmt}{rest:List Stmt}{t u:TS}
def T6:TS:=λD σ H=>D.nx σ H
def YF(t u:TS):TS:=λD σ H=>t {D with nx:=u D} σ H
def Nw:xT X [] T6:=λ_ _ σ H _ I h=>wpAny_execs_nil (σ,H,I,h)
def yd(h1:PS X st t)(h2:xT X rest u):xT X (st::rest) (YF t u):=by
 intro δ s σ H D I h;show wpAny_execs_cons (a_ (h1 δ s σ H {D with nx:=u D} I h) λf s1 q=>?_);cases f with
 | next=>
  let(σ',H',I',q):=q;show h2 δ s1 σ' H' D I' q
 | ret v=>show q
 | brk=>show q
 | cont=>show q
def C6(h1:PS X st t):xT X [st] t:=by
 intro δ s σ H D I h;show wpAny_execs_cons (a_ (h1 δ s σ H D I h) λf s1 q=>?_);cases f with
 | next=>show wpAny_execs_nil q
 | ret v=>show q
 | brk=>show q
 | cont=>show q
def Ts:TS:=λD σ H=>D.ct σ H
def yt:PS X (.Continue pos) Ts:=λ_ _ σ H _ I h=>wpAny_Continue (σ,H,I,h)
def Inv.quiet{H:Hp}(I:Inv X δ σ H s):interactive X.env=false:=by simp[interactive,I.ok.kind]
def UH(te:TE):TS:=λD σ H=>te σ H λ_ H1=>D.nx σ H1
def D9(he:PE X e te)(hs:swapsWith e none pos.line X.env=pure false|>1):PS X (.Expr e pos) (UH te):=by intro δ s σ H D I h;show wpAny_Expr_any (a_ (he δ s σ H _ I h) λv s1 (x,H1,I1,r1,q1)=>(σ,H1,I1,q1)) I.quiet hs
def Xg(te:TE):TS:=λD σ H=>te σ H D.rt
def PD(he:PE X e te):PS X (.Return (!e) pos) (Xg te):=by intro δ s σ H D I h;show wpAny_Return_some (a_ (he δ s σ H _ I h) λv s1 (x,H1,I1,r1,q1)=>(x,σ,H1,I1,r1,q1))
def Xn(c:TT)(t u:TS):TS:=λD σ H=>c σ H λb H1=>if b=true then t D σ H1 else u D σ H1
def Uq{a b:List Stmt}{tc:TT}(hc:PT X c tc)(ha:xT X a t)(hb:xT X b u):PS X (.If c a b pos) (Xn tc t u):=by
 intro δ s σ H D I h;show wpAny_If (a_ (hc δ s σ H _ I h) λd s1 xz=>?_);let(H1,I1,q1):=xz;cases d with
 | true=>show ha δ s1 σ H1 D I1 q1
 | false=>show hb δ s1 σ H1 D I1 q1
end
abbrev TG:=V->St->Hp->(St->Hp->Prop)->Prop
abbrev Qi:=List V->St->Hp->(St->Hp->Prop)->Prop
def PG(X:Cx)(target:Expr)(t:TG):Prop:=
 ∀(δ:List (Addr×Obj)) (s:Shared) (σ:St) (H:Hp) (v:V) (u:Value) (Q:St->Hp->Prop),Inv X δ σ H s->aj v u->t v σ H Q->
  wpAny (model X.prog X.w) X.A (assign target X.env u) (λ_ s'=>∃σ' H',Inv X δ σ' H' s'/\Q σ' H') X.xe s
def Wz(X:Cx)(ts:List Expr)(t:Qi):Prop:=
 ∀(δ:List (Addr×Obj)) (s:Shared) (σ:St) (H:Hp) (vs:List V) (us:List Value) (Q:St->Hp->Prop),Inv X δ σ H s->af vs us->t vs σ H Q->
  wpAny (model X.prog X.w) X.A (assignInOrder ((assignEach ts X.env).map (·.2)) us) (λ_ s'=>∃σ' H',Inv X δ σ' H' s'/\Q σ' H') X.xe s
abbrev QZ:=V->V->V->Hp->(Hp->Prop)->Prop
def TB(X:Cx)(t:QZ):Prop:=
 ∀(δ:List (Addr×Obj)) (s:Shared) (σ:St) (H:Hp) (o i v:V) (ov iv u:Value) (Q:Hp->Prop),Inv X δ σ H s->aj o ov->aj i iv->aj v u->t o i v H Q->
  wpAny (model X.prog X.w) X.A (setItem ov iv u) (λ_ s'=>∃H',Inv X δ σ H' s'/\Q H') X.xe s
section
def iq(i:Nat):TG:=λv σ H Q=>Q (σ.set i (!v)) H
def ag(hN:X.N.Nodup)(hi:X.N[i]? =!x)(hx:Loc X.env.scope x)(hf:X.fn x=true\/X.env.scope.names.lookup x=some .local:=by first| exact .inl rfl| exact .inr rfl| assumption):PG X (.Name x pos) (iq i):=by intro δ s σ H v u Q I r h;show wpAny_assign_Name (iz I hN hi hx r (λs' I'=>(_,H,I',h)) hf)
def K5:Qi:=λvs σ H Q=>vs=[]/\Q σ H
def mO(t:TG)(u:Qi):Qi:=λvs σ H Q=>∃v r,vs=v::r/\t v σ H λσ' H'=>u r σ' H' Q
def i8:Wz X [] K5:=by intro δ s σ H vs us Q I r h;let(e,h):=h;subst e;cases r;show assignInOrder_nil (σ,H,I,h)
def bH{t:TG}{u:Qi}(h1:PG X e t)(h2:Wz X es u)
  (hs:(assignEach (e::es) X.env).map (·.2)=assign e X.env::(assignEach es X.env).map (·.2)|>1):Wz X (e::es) (mO t u):=by
 intro δ s σ H vs us Q I r h;let(v,vr,e1,h):=h;subst e1;cases r with
 | cons r rr=>
  rw[hs];show assignInOrder_cons (a_ (h1 δ s σ H _ _ _ I r h) λ_ s1 xz=>?_);let(σ1,H1,I1,q1):=xz;show h2 δ s1 σ1 H1 _ _ Q I1 rr q1
def JF(K:gV)(n:Nat)(t:Qi):TG:=λv σ H Q=>∃a xs,v= .ref a/\mH K H a xs/\-xs=n/\t xs σ H Q
def k_{k:Nat}{t:Qi}{n:Nat}(hc:X.calm=true)(h:Wz X es t)
  (hn:-(assignEach es X.env)=n|>1) (uQ:(assignEach es X.env).findIdx? (·.1)=none|>1):PG X (.Tuple es k pos) (JF X.K n t):=by
 intro δ s σ H v u Q I r hw;let(a,xs,e1,hq,hl,hw):=hw;subst e1;cases r;let(its,rv,ht,hz):=I.tuple hq;show assign_Tuple_tuple (I.ok.hd hc) ht (by simp[hn,<-hl,(-rv)]) uQ λh' hx=>?_;let I1:Inv X δ σ H {s with heap:=h'}:=I.kept (t':=s.toks) λb o e=>hx b o (aaN (aau e)) e;show h δ _ σ H xs _ Q I1 (by simpa using rv) hw
def YZ(to ti:TE)(t:QZ):TG:=λv σ H Q=>to σ H λo H1=>ti σ H1 λi H2=>t o i v H2 λH3=>Q σ H3
def Rv{o i:Expr}{to ti:TE}{t:QZ}(ho:PE X o to)(hi:PE X i ti)(hs:TB X t)
  (ha:(∀v,assign (.Subscript o i pos) X.env v=(do
   let  ov<-holding [v] (eval o X.env)
   let  iv<-holding [v,ov] (eval i X.env)
   standAt pos
   holding [v,ov,iv] (setItem ov iv v)
   release [v,ov,iv] []))|>3):PG X (.Subscript o i pos) (YZ to ti t):=by
 intro δ s σ H v u Q I r h;rw[ha];show aaf (wpAny_holding (a_ (ho δ s σ H _ I h) λov s1 xz=>?_));let(x,H1,I1,r1,q1):=xz;show aaf (wpAny_holding (a_ (hi δ s1 σ H1 _ I1 q1) λiv s2 xz=>?_));let(y,H2,I2,r2,q2):=xz;show aaf (wpAny_standAt (aaf (wpAny_holding (a_ (hs δ s2 σ H2 x y v ov iv u _ I2 r1 r2 r q2) λ_ s3 xz=>?_))));let(H3,I3,q3):=xz;show wpAny_release (σ,H3,I3,q3)
def TV(te:TE)(g:TG):TS:=λD σ H=>te σ H λx H1=>g x σ H1 D.nx
def IE{g:TG}(he:PE X e te)(hg:PG X tg g)(hs:swapsWithSole [tg] e pos.line X.env=pure false|>1)(hw:swappedStores [tg] e X.env=pure none|>1)
  (h1:(assignEach [tg] X.env).map (·.2)=[assign tg X.env]|>1):PS X (.Assign [tg] e pos) (TV te g):=by
 intro δ s σ H D I h;show wpAny_Assign_stores (a_ (he δ s σ H _ I h) λv s1 xz=>?_) hs hw;let(x,H1,I1,r1,q1):=xz;rw[h1];show a_ (hg δ s1 σ H1 x v _ I1 r1 q1) λ_ s2 q=>q
def Ra{pos':Pos}(hN:X.N.Nodup)(hi:X.N[i]? =!x)(hx:Loc X.env.scope x)(he:PE X e te)(hs:swapsWith e (!(.Name x pos')) pos.line X.env=pure false|>1)(hf:X.fn x=true\/X.env.scope.names.lookup x=some .local:=by first| exact .inl rfl| exact .inr rfl| assumption):
  PS X (.Assign [.Name x pos'] e pos) (TV te (iq i)):=by
 intro δ s σ H D I h;show wpAny_Assign_Name (a_ (he δ s σ H _ I h) λv s1 xz=>?_) hs;let(y,H1,I1,r1,q1):=xz;show iz I1 hN hi hx r1 (λs2 I2=>(_,H1,I2,q1)) hf
def XY(i j:Nat)(ta:TA):TS:=λD σ H=>ta σ H λvs H1=>∃v w,vs=[v,w]/\D.nx ((σ.set i (!v)).set j (!w)) H1
def Qo{j:Nat}{y:Str}{a b:Expr}{ta:TA}{px py pt:Pos}{kt k2 Qm}(hc:X.calm=true)(hN:X.N.Nodup)(hi:X.N[i]? =!x)(hj:X.N[j]? =!y)(Yu:i≠j)
  (hx:X.env.scope.names.lookup x=some .local) (hy:X.env.scope.names.lookup y=some .local) (ha:PA X [a,b] ta)
  (hw:swappedStores [.Tuple [.Name x px,.Name y py] kt pt] (.Tuple [a,b] k2 Qm) X.env=pure (![x,y]))
  (hs:swapsWithSole [.Tuple [.Name x px,.Name y py] kt pt] (.Tuple [a,b] k2 Qm) pos.line X.env=pure false|>1):
  PS X (.Assign [.Tuple [.Name x px,.Name y py] kt pt] (.Tuple [a,b] k2 Qm) pos) (XY i j ta):=by
 intro δ s σ H D I h;rw[exec_Assign_arm];show aaf (wpAny_standAt ?_);rw[hs];show aaf (aaw ?_);rw[aaE @_];show aaf (Tuple_ (a_ (ha _ δ s σ H _ I h) λus s1 xz=>?_));let(vs,H1,I1,r1,q1):=xz;let(v,w,e1,q1):=q1;subst e1;obtain⟨u1,u2,rfl,rv,AD⟩:∃u1 u2,us=[u1,u2]/\aj v u1/\aj w u2:=by
  cases r1 with
  | cons p q=>
   cases q with
   | cons p' q'=>
    cases q';show(_,_,rfl,p,p')
 show wpAny_newObj_type ?_ D2;let I2:Inv X δ σ H1 {s1 with heap:=s1.heap.push {cls:=.type "tuple",data:=.seq [u1,u2].toArray}}:=I1.kept (t':=s1.toks) λb o e=>aah _ e;rw[hw];show aaf (aaw ?_);change wpAny (model X.prog X.w) X.A (do rule "assign.swapped-stores";let  items<-unpackItems (.ref s1.heap.objs.size) 2 none;assignInOrder [λv=>bindName X.env y v,λv=>bindName X.env x v] items.reverse;pure Flow.next) _ _ _;show aaf (wpAny_rule (aaf (unpackItems_tuple (items:= #[u1,u2]) (I.ok.hd hc) (IsTup.new s1.heap _) λh' V7=>?_)));let I3:=I2.kept (h':=h') (t':=s1.toks) λb o e=>V7 b o (aaN (aau e)) e;change wpAny _ _ (assignInOrder [λv=>bindName X.env y v,λv=>bindName X.env x v] [u2,u1] >>= λ_=>pure Flow.next) _ _ _;show aaf (assignInOrder_cons (wpAny_bindName (iz I3 hN hj (.inl hy) AD (λs2 I4=>?_) (.inr hy))));show assignInOrder_cons (wpAny_bindName (iz I4 hN hi (.inl hx) rv (λs3 I5=>assignInOrder_nil (aaw ?_)) (.inr hx)));rw[List.set_comm _ _ (Ne.symm Yu)]at I5;show(_,H1,I5,q1)
end
section
def P2(c:TT)(tb:TS):TS:=λD σ H=>∃W:Nat->St->Hp->Prop,(∃m,W m σ H)/\∀m σ H,W m σ H->
 c σ H λb H1=>if b=true then∃N:St->Hp->Prop,(∀σ' H',N σ' H'->∃m',m' < m/\W m' σ' H')/\tb {D with nx:=N,ct:=N,bk:=D.nx} σ H1 else D.nx σ H1
def IP{tc:TT}{tb:TS}(hp:PassesOwn (model X.prog X.w) X.A X.env X.xe)(hc:PT X c tc)(hb:xT X body tb):PS X (.While c body [] pos) (P2 tc tb):=by
 intro δ s σ H D I h;let(W,(m0,w0),turn):=h;show wpAny_While (codeAny_whileLoop (λn s'=>∃σ' H',Inv X δ σ' H' s'/\W n σ' H') ?_ m0 (σ,H,I,w0));rintro n s1 ⟨σ1,H1,I1,w1⟩;show wpAny_passesOwn hp (a_ (hc δ s1 σ1 H1 _ I1 (turn n σ1 H1 w1)) λb s2 xz=>?_);let(H2,I2,q2):=xz;cases b with
 | true=>
  let(N,hN,q2):=q2;rw[aaG rfl];show wpAny_passesOwn hp (a_ (hb δ s2 σ1 H2 _ I2 q2) λf s3 q3=>?_);cases f with
  | next=>
   let(σ3,H3,I3,n3):=q3;let(m',hm,w3):=hN σ3 H3 n3;show(m',hm,σ3,H3,I3,w3)
  | cont=>
   let(σ3,H3,I3,n3):=q3;let(m',hm,w3):=hN σ3 H3 n3;show(m',hm,σ3,H3,I3,w3)
  | brk=>show q3
  | ret v=>show q3
 | false=>
  rw[aaE aaK];show wpAny_execs_nil (σ1,H2,I2,q2)
end
structure It where
 go:Nat->Hp->Prop
 T_:Nat->Hp->V->Hp->Prop
 stop:Nat->Hp->Prop
def qW(X:Cx)(δ:List (Addr×Obj))(H:Hp)(b:Addr):Prop:=
 H b=none/\b≠X.env.locals/\b∉X.fs/\(b∈X.ex\/X.s₀.heap.objs.size<=b)/\(∀x c,X.env.cells.lookup x=!c->c≠b)/\∀p∈X.pn++δ,p.1≠b
def Inv.Bs{H H':Hp}(I:Inv X δ σ H s)(hb:s.heap.objs.size<=b)(hn:H' b=none):qW X δ H' b:=by
 show(hn,acE (aay I.lt hb),I.Zj hb,.inr (aaJ I.sz hb),λx c e z=>?_,λp hp z=>?_)
 .let(v,q):=I.cell x c e;show aaO (aay q.lt (by rw[z];show hb)) (abv _)
 .show aaO (aay (aau (I.pin p hp).1) (by rw[z];show hb)) (abv _)
structure Turn(P:Program)(w:World)(K:gV)(tg:Expr)(J:It)(fp:List Addr)(it:Addr)(tn:Nat->Heap->Prop):Prop where
 mem:it∈fp
 obj:∀i h,tn i h->∀b∈fp,∃o,h.get? b=!o/\∀v,o.data≠ .cell v
 keep:∀i h h',tn i h->(∀b∈fp,∀o,h.get? b=!o->h'.get? b=!o)->tn i h'
 item:∀(X:Cx),X.prog=P->X.w=w->X.K=K->X.calm=true->∀(i:Nat) (δ:List (Addr×Obj)) (s:Shared) (σ:St) (H:Hp) (E:Value->Shared->Prop),Inv X δ σ H s->(∀b∈fp,qW X δ H b)->tn i s.heap->J.go i H->
  wpAny (model P w) X.A (pyNext (.ref it)) (λr s1=>∃u,r=!u/\
   wpAny (model P w) X.A (letOwnedTupleGo tg (.ref it) u) (λ_ s2=>∃x H',Inv X δ σ H' s2/\aj x u/\J.T_ i H x H'/\tn (i+1) s2.heap/\∀b∈fp,H' b=none) E s1) E s
 done:∀(X:Cx),X.prog=P->X.w=w->X.K=K->X.calm=true->∀(i:Nat) (δ:List (Addr×Obj)) (s:Shared) (σ:St) (H:Hp) (E:Value->Shared->Prop),Inv X δ σ H s->(∀b∈fp,qW X δ H b)->tn i s.heap->J.stop i H->
  wpAny (model P w) X.A (pyNext (.ref it)) (λr s1=>r=none/\Inv X δ σ H s1) E s
 self:∀(A:Around) (i:Nat) (s:Shared) (Q:Value->Shared->Prop) (E:Value->Shared->Prop),tn i s.heap->Q (.ref it) s->wpAny (model P w) A (pyIter (.ref it)) Q E s
abbrev TI:=St->Hp->(It->Hp->Prop)->Prop
def LG(X:Cx)(δ:List (Addr×Obj))(σ:St)(tg:Expr)(R:It->Hp->Prop)(WO:Value)(s2:Shared):Prop:=
 ∃(it:Addr) (fp:List Addr) (tn:Nat->Heap->Prop) (J:It) (H':Hp),WO= .ref it/\Inv X δ σ H' s2/\Turn X.prog X.w X.K tg J fp it tn/\tn 0 s2.heap/\(∀b∈fp,qW X δ H' b)/\R J H'
def PI(X:Cx)(tg iter:Expr)(wi:TI):Prop:=
 ∀(δ:List (Addr×Obj)) (s:Shared) (σ:St) (H:Hp) (R:It->Hp->Prop),Inv X δ σ H s->wi σ H R->
  wpAny (model X.prog X.w) X.A (eval iter X.env) (λv s1=>wpAny (model X.prog X.w) X.A (pyIter v) (LG X δ σ tg R) X.xe s1) X.xe s
def uW   {E : Value -> Shared -> Prop}   {it : Addr}  {o : Obj} {n : String} {vs : Array Value} {Q : Unit -> Shared -> Prop} (ho : s.heap.get? it = !o) (hc : o.cls = .type n) (hd : o.data = .fields vs)
    (hn : ["enumerate","zip","dict_itemiterator","dict_reverseitemiterator","odict_iterator","itertools.zip_longest","itertools.pairwise"].contains n = false) (hQ : Q Unit.unit s) : wpAny M A (letOwnedTupleGo tg (.ref it) u) Q E s :=by
  unfold letOwnedTupleGo
  cases tg <;> first
    | show aaw hQ
    | (cases u <;> first
        | show aaw hQ
        | (show aaf (wpAny_load ho ?_)
           rw[hc,hd];change wpAny M A (if (["enumerate","zip","dict_itemiterator","dict_reverseitemiterator","odict_iterator","itertools.zip_longest","itertools.pairwise"].contains n && vs[0]? == !(rawInt _)) = true then _ else _) Q E s;rw[aaE (by intro h;rw[hn,Bool.false_and]at h;cases h)]
           show aaw hQ))
def Wx(K:gV)(a:Addr):It:=
 ⟨λi H=>∃xs x,fQ K H a xs/\xs[i]? =!x,λi H x H'=>H'=H/\∀xs,fQ K H a xs->xs[i]? =!x,λi H=>∃xs,fQ K H a xs/\-xs<=i⟩
def Zm(K:gV)(a:Addr):It:=
 ⟨λi H=>∃xs x,mH K H a xs/\xs[i]? =!x,λi H x H'=>H'=H/\∀xs,mH K H a xs->xs[i]? =!x,λi H=>∃xs,mH K H a xs/\-xs<=i⟩
def U8(lo:Int)(n:Nat):It:=(λi _=>i < n,λi H x H'=>H'=H/\x= .int (lo+i),λi _=>n<=i)
def Fv{K:gV}(a it:Addr):Turn P w K tg (Wx K a) [it] it (λi h=>h.IsListIter it a i) where
 mem:=by simp
 obj:=λi h st b hb=>by
  let e:b=it:=by simpa using hb
  subst e;let(o,e,c,d):=st;show(o,e,λv z=>by rw[d]at z;cases z)
 keep:=λi h h' st k=>st.at λo e=>k it (by simp) o e
 item:=by intro X hP hw hK hc i δ s σ H E I hf st hg;subst hP hw hK;let(xs,x,hq,hx):=hg;let(its,rv,p,hz):=I.list hq;let(u,hu,ru):=rv.get hx;let(f0,f1,f2,f3,f4,f5):=hf it (by simp);show wpAny_pyNext_list_item st p.isList (x:=u) (by simpa using hu) λh' wD sb=>?_;let I1:Inv X δ σ H {s with heap:=h'}:=I.turned (t':=s.toks) (λb o hb e=>(sb.2 b hb).trans e) f0 f1 f3 f4 f5;let(o,e,c,d):=id wD;show(u,rfl,uW (s:={s with heap:=h'}) e c d @_ (x,H,I1,ru,(rfl,λys hy=>by rw[I.gA hy hq];show hx),wD,λb hb=>(hf b hb).1))
 done:=by intro X hP hw hK hc i δ s σ H E I hf st hg;subst hP hw hK;let(xs,hq,hx):=hg;let(its,rv,p,hz):=I.list hq;let(f0,f1,f2,f3,f4,f5):=hf it (by simp);let hl:=-rv;show wpAny_pyNext_list_end (I.ok.hd hc) st p.isList (by simp;omega) λh' eb=>(rfl,I.turned (t':=s.toks) (λb o hb e=>eb b o hb e) f0 f1 f3 f4 f5)
 self:=λ_ _ _ _ _ st h=>wpAny_pyIter_listiter st h
def Bx{K:gV}(a it:Addr):Turn P w K tg (Zm K a) [it] it (λi h=>h.IsTupleIter it a i) where
 mem:=by simp
 obj:=λi h st b hb=>by
  let e:b=it:=by simpa using hb
  subst e;let(o,e,c,d):=st;show(o,e,λv z=>by rw[d]at z;cases z)
 keep:=λi h h' st k=>st.at λo e=>k it (by simp) o e
 item:=by intro X hP hw hK hc i δ s σ H E I hf st hg;subst hP hw hK;let(xs,x,hq,hx):=hg;let(its,rv,p,hz):=I.tuple hq;let(u,hu,ru):=rv.get hx;let(f0,f1,f2,f3,f4,f5):=hf it (by simp);show wpAny_pyNext_tuple_item st (show s.heap.IsTuple a its.toArray from p) (x:=u) (by simpa using hu) λh' wD sb=>?_;let I1:Inv X δ σ H {s with heap:=h'}:=I.turned (t':=s.toks) (λb o hb e=>(sb.2 b hb).trans e) f0 f1 f3 f4 f5;let(o,e,c,d):=id wD;show(u,rfl,uW (s:={s with heap:=h'}) e c d @_ (x,H,I1,ru,(rfl,λys hy=>by rw[I.uw hy hq];show hx),wD,λb hb=>(hf b hb).1))
 done:=by intro X hP hw hK hc i δ s σ H E I hf st hg;subst hP hw hK;let(xs,hq,hx):=hg;let(its,rv,p,hz):=I.tuple hq;let(f0,f1,f2,f3,f4,f5):=hf it (by simp);let hl:=-rv;show wpAny_pyNext_tuple_end (I.ok.hd hc) st (show s.heap.IsTuple a its.toArray from p) (by simp;omega) λh' eb=>(rfl,I.turned (t':=s.toks) (λb o hb e=>eb b o hb e) f0 f1 f3 f4 f5)
 self:=λ_ _ _ _ _ st h=>wpAny_pyIter_tupleiter st h
def By{K:gV}(it:Addr)(lo:Int)(n:Nat):Turn P w K tg (U8 lo n) [it] it (λi h=>IsRangeIter h it (lo+(i:Nat) * 1) ((n:Int) - (i:Nat)) 1) where
 mem:=by simp
 obj:=λi h st b hb=>by
  let e:b=it:=by simpa using hb
  subst e
  show(_,st,λv z=>by
   let z':Data.fields _=Data.cell v:=z
   cases z')
 keep:=λi h h' st k=>k it (by simp) _ st
 item:=by intro X hP hw hK hc i δ s σ H E I hf st hg;subst hP hw hK;let(f0,f1,f2,f3,f4,f5):=hf it (by simp);let W:=Walks.range (prog:=X.prog) (w:=X.w) (I.ok.hd hc) it lo 1 n;show W.item i s _ _ hg st λv h' tk hv wD kk=>?_;let(t,rfl):=hv;let I1:Inv X δ σ H {s with heap:=h',toks:=tk}:=I.turned (λb o hb e=>kk b o (by simpa using hb) e) f0 f1 f3 f4 f5;show(_,rfl,uW (s:={s with heap:=h',toks:=tk}) (n:="range_iterator") wD rfl rfl @_ (.int (lo+i),H,I1,(t,?_),(rfl,rfl),wD,λb hb=>(hf b hb).1));rw[Int.mul_one]
 done:=by intro X hP hw hK hc i δ s σ H E I hf st hg;subst hP hw hK;let(f0,f1,f2,f3,f4,f5):=hf it (by simp);show wpAny_pyNext_range_end (I.ok.hd hc) st (by have:n<=i:=hg;omega) λh' eb=>(rfl,I.turned (t':=s.toks) (λb o hb e=>eb b o hb e) f0 f1 f3 f4 f5)
 self:=λ_ _ _ _ _ st h=>wpAny_pyIter_rangeiter st h
section
def Ae{H:Hp}{R:It->Hp->Prop}{lo hi:Int}{t u v:Tok}{tk:Nat}(I:Inv X δ σ H s)(h1: - (2 ^ 62)<=lo)(h2:lo < 2 ^ 62)(h3: - (2 ^ 62)<=hi)(h4:hi < 2 ^ 62)
  (q:R (U8 lo (hi - lo).toNat) H):wpAny (model X.prog X.w) X.A (pyIter (.ref s.heap.objs.size)) (LG X δ σ tg R) E {s with heap:=s.heap.push {cls:=.type "range",data:=.fields #[.int lo t,.int hi u,.int 1 v]},toks:=tk}:=by
 show wpAny_pyIter_range (IsRange.new ..) (small_one h1 h2 h3 h4) ?_;let I1:Inv X δ σ H {s with heap:=s.heap.push {cls:=.type "range",data:=.fields #[.int lo t,.int hi u,.int 1 v]},toks:=tk}:=I.kept λb o e=>aah _ e
 show((s.heap.push {cls:=.type "range",data:=.fields #[.int lo t,.int hi u,.int 1 v]}).objs.size,[(s.heap.push {cls:=.type "range",data:=.fields #[.int lo t,.int hi u,.int 1 v]}).objs.size],_,_,H,rfl,
  I1.kept (t':=tk) λb o e=>aah _ e,By _ lo (hi - lo).toNat,?_,λb hb=>?_,q)
 .let e1:lo+((0:Nat):Int) * 1=lo:=by simp
  let e2:(((hi - lo).toNat:Nat):Int) - ((0:Nat):Int)=Builtin.Range.rangeSize lo hi 1:=by rw[rangeSize_one];split <;> omega
  change IsRangeIter _ _ (lo+((0:Nat):Int) * 1) ((((hi - lo).toNat:Nat):Int) - ((0:Nat):Int)) 1;rw[e1,e2];show aaS _ rfl
 .let e:b=(s.heap.push {cls:=.type "range",data:=.fields #[.int lo t,.int hi u,.int 1 v]}).objs.size:=by simpa using hb
  subst e;show I1.Bs (aam _) (I1.au.fresh (aam _))
def VD(ta:TA):TI:=λσ H R=>ta σ H λvs H1=>∃j:Int,vs=[.int j]/\ - (2 ^ 62)<=j/\j < 2 ^ 62/\R (U8 0 j.toNat) H1
def U4(ta:TA):TI:=λσ H R=>ta σ H λvs H1=>∃i j:Int,vs=[.int i,.int j]/\(- (2 ^ 62)<=i/\i < 2 ^ 62/\ - (2 ^ 62)<=j/\j < 2 ^ 62)/\R (U8 i (j - i).toNat) H1
def GC{a:Expr}{ta:TA}{p:Pos}(hg:Gl X "range")(hm:X.mg "range"=none)(ha:PA X [a] ta)(hs:starEach [a] X.env=[(false, eval a X.env)]|>1):PI X tg (.Call (.Name "range" p) [a] [] pos) (VD ta):=by
 intro δ s σ H R I h;show Call_ (lJ I hg hm boot_range (PyProof.Rows.callWith_type1 (a_ (ha pos δ s σ H _ I h) λus s1 xz=>?_) hs rfl));let(vs,H1,I1,r1,q1):=xz;let(j,e,q1,q2,q):=q1;subst e;cases r1 with
 | cons r rr=>
  cases rr;let(t,rfl):=r;show call_range_1 (Ae I1 () () q1 q2 (by simpa using q))
def FN{a b:Expr}{ta:TA}{p:Pos}(hg:Gl X "range")(hm:X.mg "range"=none)(ha:PA X [a,b] ta)(hs:starEach [a,b] X.env=[(false, eval a X.env),(false, eval b X.env)]|>1)(Qd:starEach [b] X.env=[(false, eval b X.env)]|>1):
  PI X tg (.Call (.Name "range" p) [a,b] [] pos) (U4 ta):=by
 intro δ s σ H R I h;show Call_ (lJ I hg hm boot_range (PyProof.Rows.callWith_type1 (a_ (ha pos δ s σ H _ I h) fun us s1 (vs,H1,I1,r1,q1)=>?_) (by rw[hs,Qd]) (by rw[Qd];rfl)));let(i,j,e,(q1,q2,q3,q4),q):=q1;subst e;cases r1 with
 | cons r rr=>
  cases rr with
  | cons r' rr=>
   cases rr;let(t,rfl):=r;let(t',rfl):=r';show call_range_2 (Ae I1 q1 q2 q3 q4 q)
def YC(wi:TI)(g:TG)(tb:TS):TS:=λD σ H=>wi σ H λJ H1=>∃W:Nat->Nat->St->Hp->Prop,(∃m,W 0 m σ H1)/\∀i m σ H,W i m σ H->
 (J.stop i H/\D.nx σ H)\/(J.go i H/\∃N:St->Hp->Prop,(∀σ' H',N σ' H'->∃m',m' < m/\W (i+1) m' σ' H')/\∀x H',J.T_ i H x H'->g x σ H' λσ2 H2=>tb {D with nx:=N,ct:=N,bk:=D.nx} σ2 H2)
def xI(fp:List Addr)(h:Heap):List (Addr×Obj):=fp.filterMap λb=>(h.get? b).map λo=>(b, o)
def eW{o:Obj}(hb:b∈fp)(e:h.get? b=!o):(b, o)∈xI fp h:=abW.mpr (b,hb,by rw[e];rfl)
def Gh{p:Addr×Obj}(hp:p∈xI fp h):p.1∈fp/\h.get? p.1=!p.2:=by
 let(b,hb,e):=abW.mp hp;cases q:h.get? b with
 | none=>rw[q]at e;cases e
 | some o=>
  rw[q]at e;let e':(b, o)=p:=aav e;subst e';show(hb,q)
def Inv.pinned{H:Hp}(I:Inv X δ σ H s)(hf:∀b∈fp,qW X δ H b)(ho:∀b∈fp,∃o,s.heap.get? b=!o/\∀v,o.data≠ .cell v):Inv X (δ++xI fp s.heap) σ H s:=
 I.EL λp hp=>(aa3.mp hp).elim (λz=>I.pin p (aaL _ z)) λz=>by let(hb,e):=Gh z;let(f0,f1,f2,_):=hf p.1 hb;let(o,e',d):=ho p.1 hb;rw[e]at e';cases e';show(e,f0,f1,f2,d)
def Inv.jP{pl:List (Addr×Obj)}{H:Hp}(I:Inv X (δ++pl) σ H s):Inv X δ σ H s:=I.EL λp hp=>I.pin p (aaL _ (abE _ hp))
def Cp{iter:Expr}{wi:TI}{g:TG}{tb:TS}(hp:PassesOwn (model X.prog X.w) X.A X.env X.xe)(hc:X.calm=true)(hi:PI X tg iter wi)(hg:PG X tg g)(hb:xT X body tb)
  (hs:(∀x,foldedSetIterable iter X.env x=pure x)|>3):PS X (.For tg iter body [] pos) (YC wi g tb):=by
 intro δ s σ H D I h;show wpAny_For (a_ (hi δ s σ H _ I h) λv s1 h1=>a_ h1 λWO s2 h2=>?_) hs;let(it,fp,tn,J,H2,e,I2,T,Wl,f2,W,(m0,w0),turn):=h2;subst e;let PK:∀{H':Hp},(∀b∈fp,H' b=none)->∀b∈fp,qW X δ H' b:=λhn b hb=>(hn b hb,(f2 b hb).2);show codeAny_forLoop_any (λn s'=>∃i σ' H',Inv X δ σ' H' s'/\tn i s'.heap/\(∀b∈fp,H' b=none)/\W i n σ' H') ?_ m0 (0,σ,H2,I2,Wl,λb hb=>(f2 b hb).1,w0);rintro n s3 ⟨i,σ3,H3,I3,st3,fr3,w3⟩;rcases turn i n σ3 H3 w3 with ⟨stop,qn⟩| ⟨go,N,hN,step⟩
 .show wpAny_passesOwn hp (a_ (T.done X rfl rfl rfl hc i δ s3 σ3 H3 X.xe I3 (PK fr3) st3 stop) λr s4 xz=>?_);let(hr,I4):=xz;subst hr;show wpAny_execs_nil (σ3,H3,I4,qn)
 .show wpAny_passesOwn hp (a_ (T.item X rfl rfl rfl hc i δ s3 σ3 H3 X.xe I3 (PK fr3) st3 go) λr s4 xz=>?_);let(u,hr,h4):=xz;subst hr;show wpAny_passesOwn hp (a_ h4 λ_ s5 xz=>?_);let(x,H5,I5,r5,y5,X7,Wb):=xz;let I5':=I5.pinned (PK Wb) (T.obj _ _ X7);show wpAny_passesOwn hp (a_ (hg _ s5 σ3 H5 x u _ I5' r5 (step x H5 y5)) λ_ s6 xz=>?_);let(σ6,H6,I6,q6):=xz;show wpAny_passesOwn hp (a_ (hb _ s6 σ6 H6 _ I6 q6) λf s7 q7=>?_);let again:∀{σ7:St} {H7:Hp},Inv X (δ++xI fp s5.heap) σ7 H7 s7->N σ7 H7->∃m,m < n/\∃i σ' H',Inv X δ σ' H' s7/\tn i s7.heap/\(∀b∈fp,H' b=none)/\W i m σ' H':=λ{σ7 H7} I7 n7=>by let(m',hm,w7):=hN σ7 H7 n7;show(m',hm,i+1,σ7,H7,I7.jP,T.keep _ _ _ X7 λb hb o e=>(I7.pin (b, o) (aaL _ (aaL _ (eW hb e)))).1,λb hb=>?_,w7);let(o,e,d):=T.obj _ _ X7 b hb;show(I7.pin (b, o) (aaL _ (aaL _ (eW hb e)))).2.1
  cases f with
  | next=>let(σ7,H7,I7,n7):=q7;show again I7 n7
  | cont=>let(σ7,H7,I7,n7):=q7;show again I7 n7
  | brk=>let(σ7,H7,I7,q7):=q7;show(σ7,H7,I7.jP,q7)
  | ret v=>let(x7,σ7,H7,I7,r7,q7):=q7;show(x7,σ7,H7,I7.jP,r7,q7)
end
abbrev R2:=V->V->Hp->VK->Prop
def ji(X:Cx)(f:Value->Value->Sem Value)(r:R2):Prop:=
 ∀(δ:List (Addr×Obj)) (s:Shared) (σ:St) (H:Hp) (x y:V) (v u:Value) (Q:VK),Inv X δ σ H s->aj x v->aj y u->r x y H Q->
  wpAny (model X.prog X.w) X.A (f v u) (EP X δ σ Q) X.xe s
def Wm(X:Cx)(f:Value->Sem Value)(r:V->Hp->VK->Prop):Prop:=
 ∀(δ:List (Addr×Obj)) (s:Shared) (σ:St) (H:Hp) (x:V) (v:Value) (Q:VK),Inv X δ σ H s->aj x v->r x H Q->
  wpAny (model X.prog X.w) X.A (f v) (EP X δ σ Q) X.xe s
def cj(X:Cx)(f:Value)(r:List V->Hp->VK->Prop):Prop:=
 ∀(δ:List (Addr×Obj)) (s:Shared) (σ:St) (H:Hp) (xs:List V) (us:List Value) (Q:VK),Inv X δ σ H s->af xs us->r xs H Q->
  wpAny (model X.prog X.w) X.A (call f us) (EP X δ σ Q) X.xe s
def SE(r:R2)(ta tb:TE):TE:=λσ H Q=>ta σ H λx H1=>tb σ H1 λy H2=>r x y H2 Q
def tUn(r:V->Hp->VK->Prop)(ta:TE):TE:=λσ H Q=>ta σ H λx H1=>r x H1 Q
def rI(C:Int->Int->Prop)(g:Int->Int->V):R2:=λx y H Q=>∃i j,x= .int i/\y= .int j/\C i j/\Q (g i j) H
def Ge(g:Int->Int->V):R2:=λx y H Q=>∃i j,x= .int i/\y= .int j/\Q (g i j) H
def rU(g:Int->V):V->Hp->VK->Prop:=λx H Q=>∃i,x= .int i/\Q (g i) H
section
variable{a b:Expr}{tb tc:TE}
def PL(ha:PE X a ta)(hb:PE X b tb){H:Hp}{R:V->V->Hp->Prop}(I:Inv X δ σ H s)
  (h:ta σ H λx H1=>tb σ H1 λy H2=>R x y H2)
  (hf:∀v u s2 x y H2,Inv X δ σ H2 s2->aj x v->aj y u->R x y H2->wpAny (model X.prog X.w) X.A (f v u) Q X.xe s2):
  wpAny (model X.prog X.w) X.A (eval a X.env) (λv s₁=>wpAny (model X.prog X.w) X.A (eval b X.env) (λu s₂=>wpAny (model X.prog X.w) X.A (f v u) Q X.xe s₂) X.xe s₁) X.xe s:=by
 show a_ (ha δ s σ H _ I h) λv s1 xz=>?_;let(x,H1,I1,r1,q1):=xz;show a_ (hb δ s1 σ H1 _ I1 q1) λu s2 xz=>?_;let(y,H2,I2,r2,q2):=xz;show hf v u s2 x y H2 I2 r1 r2 q2
def Tr{op:Operator}{r:R2}(ho:ji X (binaryOp op) r)(ha:PE X a ta)(hb:PE X b tb):PE X (.BinOp a op b pos) (SE r ta tb):=by intro δ s σ H Q I h;show wpAny_BinOp (PL ha hb I h λv u s2 x y H2 I2 rx ry q=>ho δ s2 σ H2 x y v u Q I2 rx ry q)
def SX{op:UnaryOp}{r:V->Hp->VK->Prop}(ho:Wm X (unaryOp op) r)(ha:PE X a ta):PE X (.UnaryOp op a pos) (tUn r ta):=by intro δ s σ H Q I h;show UnaryOp_ (a_ (ha δ s σ H _ I h) λv s1 (x,H1,I1,r1,q1)=>ho δ s1 σ H1 x v Q I1 r1 q1)
def Wu{C:Int->Int->Prop}{g:Int->Int->Int}
  (rule:∀(i j:Int) (t u:Tok) (s:Shared) (Q:Value->Shared->Prop) (E:Value->Shared->Prop),C i j->Q (.int (g i j) s.toks) {s with toks:=s.toks+1}->wpAny (model X.prog X.w) X.A (f (.int i t) (.int j u)) Q E s):
  ji X f (rI C λi j=>.int (g i j)):=by
 intro δ s σ H x y v u Q I rx ry h;let(i,j,rfl,rfl,hc,q):=h;let(t,rfl):=rx;let(t',rfl):=ry;show rule i j t t' s _ _ hc (.int (g i j),H,I.tok _,(_,rfl),q)
def UW{g:Int->Int->Int}
  (rule:∀(i j:Int) (t u:Tok) (s:Shared) (Q:Value->Shared->Prop) (E:Value->Shared->Prop),Q (.int (g i j) s.toks) {s with toks:=s.toks+1}->wpAny (model X.prog X.w) X.A (f (.int i t) (.int j u)) Q E s):
  ji X f (Ge λi j=>.int (g i j)):=by
 intro δ s σ H x y v u Q I rx ry h;let(i,j,rfl,rfl,q):=h;let(t,rfl):=rx;let(t',rfl):=ry;show rule i j t t' s _ _ (.int (g i j),H,I.tok _,(_,rfl),q)
def MT{g:Int->Int->Bool}
  (rule:∀(i j:Int) (t u:Tok) (s:Shared) (Q:Value->Shared->Prop) (E:Value->Shared->Prop),Q (.bool (g i j)) s->wpAny (model X.prog X.w) X.A (f (.int i t) (.int j u)) Q E s):
  ji X f (Ge λi j=>.bl (g i j)):=by
 intro δ s σ H x y v u Q I rx ry h;let(i,j,rfl,rfl,q):=h;let(t,rfl):=rx;let(t',rfl):=ry;show rule i j t t' s _ _ (.bl (g i j),H,I,rfl,q)
def yP(i j:Int):Prop:=0<=j/\j<=1000000/\i.natAbs < 2 ^ 64
def Rn:ji X (binaryOp .Add) (Ge λi j=>.int (i+j)):=UW λ_ _ _ _ _ _ _ q=>add_int q
def RJ:ji X (binaryOp .Sub) (Ge λi j=>.int (i - j)):=UW λ_ _ _ _ _ _ _ q=>sub_int q
def Qy:ji X (binaryOp .Mod) (rI (λ_ j=>0 < j) λi j=>.int (i % j)):=Wu λi j _ _ _ _ _ hc q=>by let h1:(0:Int) < j:=hc;show mod_int' () (by rw[abT i ()];show q)
def RY:ji X (binaryOp .Pow) (rI yP λi j=>.int (i ^ j.toNat)):=Wu λ_ _ _ _ _ _ _ hc q=>pow_int_small hc.1 hc.2.1 hc.2.2 q
def unI{f:Value->Sem Value}{g:Int->Int}
  (rule:∀(i:Int) (t:Tok) (s:Shared) (Q:Value->Shared->Prop) (E:Value->Shared->Prop),Q (.int (g i) s.toks) {s with toks:=s.toks+1}->wpAny (model X.prog X.w) X.A (f (.int i t)) Q E s):
  Wm X f (rU λi=>.int (g i)):=by
 intro δ s σ H x v Q I rx h;let(i,rfl,q):=h;let(t,rfl):=rx;show rule i t s _ _ (.int (g i),H,I.tok _,(_,rfl),q)
def Ri:Wm X (unaryOp .USub) (rU λi=>.int (- i)):=unI λ_ _ _ _ _ q=>neg_int q
end
def Ug:V->V->Bool
 | .aV,.aV=>true| .aV,.int _=>true| .int _,.aV=>true| .aV,.bl _=>true| .bl _,.aV=>true| .aV,.str _=>true| .str _,.aV=>true
 | .int _,.int _=>true| .bl _,.bl _=>true| .str _,.str _=>true| .Hr _,.Hr _=>true
 | .int _,.str _=>true| .str _,.int _=>true| .bl _,.str _=>true| .str _,.bl _=>true
 | _,_=>false
def rEq:R2:=λx y H Q=>Ug x y=true/\Q (.bl (decide (x=y))) H
def rNe:R2:=λx y H Q=>Ug x y=true/\Q (.bl (! decide (x=y))) H
def C_{i j:Int}:decide (V.int i=V.int j)=(i==j):=by rw[Bool.eq_iff_iff];simp
def Ii{i j:Bool}:decide (V.bl i=V.bl j)=(i==j):=by rw[Bool.eq_iff_iff];simp
def EH{i j:Str}:decide (V.str i=V.str j)=(i==j):=by rw[Bool.eq_iff_iff];simp
def Ee{i j:Array UInt8}:decide (V.Hr i=V.Hr j)=(i.toList==j.toList):=by rw[Bool.eq_iff_iff];cases i;cases j;simp
section
variable{a b:Expr}{tb tc:TE}
def aD{H:Hp}{Q:VK}{k k':Bool}(I:Inv X δ σ H s)(q:Q (.bl k) H)(e:k=k'):EP X δ σ Q (.bool k') s:=by subst e;show(.bl k,H,I,rfl,q)
def OL:ji X (compareOp .Eq) rEq:=by
 intro δ s σ H x y v u Q I rx ry h;let(hs,q):=h;cases x with
 | aV=>
  cases rx;cases y with
  | aV=>cases ry;show PySem.EqNone.eq_none_none (aD I q (by simp))
  | bl j=>cases ry;show PySem.EqNone.eq_none_bool (aD I q (by simp))
  | int j=>let(t',rfl):=ry;show PySem.EqNone.eq_none_int (aD I q (by simp))
  | str j=>let(t',rfl):=ry;show PySem.EqNone.eq_none_str (aD I q (by simp))
  | _=>show aaO (show false=true from hs) aaK
 | bl i=>
  cases rx;cases y with
  | aV=>cases ry;show PySem.EqNone.eq_bool_none (aD I q (by simp))
  | bl j=>cases ry;show eq_bool (aD I q Ii)
  | str j=>let(t',rfl):=ry;show PySem.EqMixed.eq_bool_str (aD I q (by simp))
  | _=>show aaO (show false=true from hs) aaK
 | int i=>
  let(t,rfl):=rx;cases y with
  | aV=>cases ry;show PySem.EqNone.eq_int_none (aD I q (by simp))
  | int j=>let(t',rfl):=ry;show eq_int (aD I q C_)
  | str j=>let(t',rfl):=ry;show PySem.EqMixed.eq_int_str (aD I q (by simp))
  | _=>show aaO (show false=true from hs) aaK
 | str i=>
  let(t,rfl):=rx;cases y with
  | aV=>cases ry;show PySem.EqNone.eq_str_none (aD I q (by simp))
  | bl j=>cases ry;show PySem.EqMixed.eq_str_bool (aD I q (by simp))
  | int j=>let(t',rfl):=ry;show PySem.EqMixed.eq_str_int (aD I q (by simp))
  | str j=>let(t',rfl):=ry;show eq_str (aD I q EH)
  | _=>show aaO (show false=true from hs) aaK
 | Hr i=>
  let(t,rfl):=rx;cases y with
  | Hr j=>let(t',rfl):=ry;show PySem.W.eq_bytes (aD I q Ee)
  | _=>show aaO (show false=true from hs) aaK
 | _=>cases y <;> show aaO (show false=true from hs) aaK
def V6:ji X (compareOp .NotEq) rNe:=by
 intro δ s σ H x y v u Q I rx ry h;let(hs,q):=h;cases x with
 | aV=>
  cases rx;cases y with
  | aV=>cases ry;show PySem.EqNone.ne_none_none (aD I q (by simp))
  | bl j=>cases ry;show PySem.EqNone.ne_none_bool (aD I q (by simp))
  | int j=>let(t',rfl):=ry;show PySem.EqNone.ne_none_int (aD I q (by simp))
  | str j=>let(t',rfl):=ry;show PySem.EqNone.ne_none_str (aD I q (by simp))
  | _=>show aaO (show false=true from hs) aaK
 | bl i=>
  cases rx;cases y with
  | aV=>cases ry;show PySem.EqNone.ne_bool_none (aD I q (by simp))
  | bl j=>cases ry;show ne_bool (aD I q (aba not Ii))
  | str j=>let(t',rfl):=ry;show PySem.EqMixed.ne_bool_str (aD I q (by simp))
  | _=>show aaO (show false=true from hs) aaK
 | int i=>
  let(t,rfl):=rx;cases y with
  | aV=>cases ry;show PySem.EqNone.ne_int_none (aD I q (by simp))
  | int j=>let(t',rfl):=ry;show ne_int (aD I q (aba not C_))
  | str j=>let(t',rfl):=ry;show PySem.EqMixed.ne_int_str (aD I q (by simp))
  | _=>show aaO (show false=true from hs) aaK
 | str i=>
  let(t,rfl):=rx;cases y with
  | aV=>cases ry;show PySem.EqNone.ne_str_none (aD I q (by simp))
  | bl j=>cases ry;show PySem.EqMixed.ne_str_bool (aD I q (by simp))
  | int j=>let(t',rfl):=ry;show PySem.EqMixed.ne_str_int (aD I q (by simp))
  | str j=>let(t',rfl):=ry;show ne_str (aD I q (aba not EH))
  | _=>show aaO (show false=true from hs) aaK
 | Hr i=>
  let(t,rfl):=rx;cases y with
  | Hr j=>let(t',rfl):=ry;show PySem.W.ne_bytes (aD I q (aba not Ee))
  | _=>show aaO (show false=true from hs) aaK
 | _=>cases y <;> show aaO (show false=true from hs) aaK
def Ot:ji X (compareOp .Lt) (Ge λi j=>.bl (decide (i < j))):=MT λ_ _ _ _ _ _ _ q=>lt_int q
def VJ:ji X (compareOp .LtE) (Ge λi j=>.bl (decide (i<=j))):=MT λ_ _ _ _ _ _ _ q=>le_int q
def TK:ji X (compareOp .Gt) (Ge λi j=>.bl (decide (j < i))):=MT λ_ _ _ _ _ _ _ q=>gt_int q
def O3:ji X (compareOp .GtE) (Ge λi j=>.bl (decide (j<=i))):=MT λ_ _ _ _ _ _ _ q=>ge_int q
def Km:ji X (compareOp .Is) (λx y H Q=>y= .aV/\Q (.bl (decide (x= .aV))) H):=by
 intro δ s σ H x y v u Q I rx ry h;let(rfl,q):=h;cases ry;show is_none_gen (aD I q ?_)
 cases x <;> first
  | (cases rx;rfl)
  | (let(t,rfl):=rx;rfl)
def NK:ji X (compareOp .IsNot) (λx y H Q=>y= .aV/\Q (.bl (! decide (x= .aV))) H):=by
 intro δ s σ H x y v u Q I rx ry h;let(rfl,q):=h;cases ry;show isnot_none_gen (aD I q ?_)
 cases x <;> first
  | (cases rx;rfl)
  | (let(t,rfl):=rx;rfl)
def ji.or{r r':R2}(h:ji X f r)(h':ji X f r'):ji X f (λx y H Q=>r x y H Q\/r' x y H Q):=by
 intro δ s σ H x y v u Q I rx ry q;rcases q with q| q
 .show h δ s σ H x y v u Q I rx ry q
 .show h' δ s σ H x y v u Q I rx ry q
def fG(b:Expr)(h:op≠ .In|>2)(h2:op≠ .NotIn|>2):behindInMarks op b=false:=by
 let e1:(op==CmpOp.In)=false:=by cases op <;> first| rfl| show aaO rfl h
 let e2:(op==CmpOp.NotIn)=false:=by cases op <;> first| rfl| show aaO rfl h2
 cases b <;> simp[behindInMarks,e1,e2]
def LV{r:R2}(ho:ji X (compareOp op) r)(ha:PE X a ta)(hb:PE X b tb)(hm:behindInMarks op b=false):PE X (.Compare a [op] [b] pos) (SE r ta tb):=by intro δ s σ H Q I h;show wpAny_Compare1 (PL ha hb I h λv u s2 x y H2 I2 rx ry q=>ho δ s2 σ H2 x y v u Q I2 rx ry q) hm
def V9(t:TE):TT:=λσ H Q=>t σ H λx H'=>∃k,x= .bl k/\Q k H'
def MG{r:R2}(ho:ji X (compareOp op) r)(ha:PE X a ta)(hb:PE X b tb)(hm:behindInMarks op b=false):PT X (.Compare a [op] [b] pos) (V9 (SE r ta tb)):=by
 intro δ s σ H Q I h
 show wpAny_isTrue_Compare1 (a_ (ha δ s σ H _ I h) fun v s1 (x,H1,I1,r1,q1)=>a_ (hb δ s1 σ H1 _ I1 q1) fun u s2 (y,H2,I2,r2,q2)=>
  a_ (ho δ s2 σ H2 x y v u _ I2 r1 r2 q2) fun c s3 (z,H3,I3,r3,k,e,q3)=>?_) hm
 subst e;cases r3;show wpAny_truthy_bool (H3,I3,q3)
def oE:(sizeLine:Nat) < 2 ^ 63:=by rw[sizeLine_eq];decide
def BO:ji X (binaryOp .Add) (λx y H Q=>∃i j,x= .str i/\y= .str j/\-i+-j<=sizeLine/\Q (.str (i++j)) H):=by intro δ s σ H x y v u Q I rx ry h;let(i,j,rfl,rfl,hz,q):=h;let(t,rfl):=rx;let(t',rfl):=ry;show add_str (λt' tk=>(.str (i++j),H,I.tok _,(_,rfl),q)) hz
def iI{x:V}(r:af [x] us):∃u,us=[u]/\aj x u:=by
 cases r with
 | cons r1 r2=>cases r2;show(_,rfl,r1)
def Lk{x y:V}(r:af [x,y] us):∃u w',us=[u,w']/\aj x u/\aj y w':=by
 cases r with
 | cons r1 r2=>
  cases r2 with
  | cons r3 r4=>cases r4;show(_,_,rfl,r1,r3)
def Hz:cj X (.builtin "abs") (λxs H Q=>∃i,xs=[.int i]/\Q (.int (if i < 0 then - i else i)) H):=by intro δ s σ H xs us Q I r h;let(i,rfl,q):=h;let(u,rfl,t,rfl):=iI r;show call_abs_int λu tk=>(.int (if i < 0 then - i else i),H,I.tok _,(_,rfl),q)
def Fz(hc:X.calm=true):cj X (.builtin "min") (λxs H Q=>∃i j,xs=[.int i,.int j]/\Q (.int (if j < i then j else i)) H):=by
 intro δ s σ H xs us Q I r h;let(i,j,rfl,q):=h;let(u,w',rfl,(t,rfl),(t',rfl)):=Lk r;show min_two_ints (I.ok.hd hc) λh' tk k=>(_,H,I.kept k,?_,q);by_cases hj:j < i
 .rw[aaG hj,aaG hj];show(_,rfl)
 .rw[aaE hj,aaE hj];show(_,rfl)
def FR:cj X (.type "int") (λxs H Q=>(∃i,xs=[.int i]/\Q (.int i) H)\/∃k,xs=[.bl k]/\Q (.int (if k then 1 else 0)) H):=by
 intro δ s σ H xs us Q I r h;rcases h with ⟨i,rfl,q⟩| ⟨k,rfl,q⟩
 .let(u,rfl,t,rfl):=iI r;show call_int_int (.int i,H,I,(_,rfl),q)
 .let(u,rfl,r1):=iI r;cases r1;show call_int_bool (.int (if k then 1 else 0),H,I.tok _,(_,rfl),q)
end
structure CB(h:Heap)(x dx C:Addr)(mA:Str->Option Value):Prop where
 obj:h.get? x=!(PySem.W.instObj C dx)
 ns:h.Ns1 dx mA
 ne:dx≠x
def uV(n:h.Ns1 dx mA):∃od,h.get? dx=!od/\∀name,PySem.W.lookIn name od=!(mA name):=by
 let(o,es,ep,ho,hd,hk,_,hm):=n;show(o,ho,λname=>?_);let e:=hm name;unfold nsFind findBy at e;rw[<-Array.find?_toList]at e;unfold PySem.W.lookIn;rw[hd];dsimp only;split
 .rename_i y q;rw[q]at e;show aba some e
 .rename_i q;rw[q]at e;let a:es.toList.any (·.refKey)=false:=by rw[List.any_eq_false];intro y hy;let(z,t,Yi):=hk y (Array.mem_toList_iff.mp hy);simp[DictEntry.refKey,Yi]
  let a':¬es.toList.any (·.refKey)=true:=by rw[a];show aaK
  rw[aaE a'];show aba some e
def CB.look{x:Addr}(I:CB h x dx C mA):∃od,PySem.W.InstAt h x (PySem.W.instObj C dx) C (!od)/\∀name,PySem.W.lookIn name od=!(mA name):=
 let (od,ho,hl):=uV I.ns
 (od,(I.obj,rfl,rfl,ho),hl)
section
variable{K:gV}{x f:Addr}{name:Str}{v:Value}
def p_{expr:Bool}(X:K.In s.heap)(I:CB s.heap x dx C mA)(hg:PySem.W.plainGet K C name=true)(hh:PySem.W.hasDictIn K C=true)
  (ha:PySem.W.findIn K (.ref C) name=!none) (hv:mA name=!v) (hv':PySem.W.handedIn v=true) (h:Q v {s with toks:=s.toks+1}):
  wpAny (model prog w) A (getAttr (.ref x) name expr) Q E s:=by
 let(od,J,hl):=I.look;show PySem.W.get_value X J (PySem.W.plainGet_of hg).1 (PySem.W.findObj_own hh ha rfl (by rw[hl,hv])) hv' h
def Jh{pl:Sem Bool}{Q:Value×List Value->Shared->Prop}(X:K.In s.heap)(I:CB s.heap x dx C mA)(hg:PySem.W.plainGet K C name=true)
  (hf:PySem.W.findIn K (.ref C) name=!(!(.ref f))) (ht:PySem.W.isFn K (.ref f)=true) (hv:mA name=none) (h:Q (.ref f, [.ref x]) s):
  wpAny (model prog w) A (getMethod (.ref x) name pl) Q E s:=by
 let(od,J,hl):=I.look;show PySem.W.method_fn X J (PySem.W.plainGet_of hg).1 (PySem.W.plainGet_of hg).2 hf (abh.mp ht) (by change(PySem.W.lookIn name od).map (·.isSome)=!false;rw[hl,hv];rfl) h
def NA{ns:List Str}{Q:Unit->Shared->Prop}(X:K.In s.heap)(I:CB s.heap x dx C mA)
  (hs:PySem.W.findIn K (.ref C) "__setattr__"=!(!(.builtin "object.__setattr__"))) (hp:PySem.W.plainOver K C=true) (ht:PySem.W.takerIn K C name=!none) (hh:PySem.W.hasDictIn K C=true)
  (hw:PySem.Within mA ns) (hsz:-ns<=sizeLine)
  (h:∀h',CB h' x dx C (λy=>if y=name then !v else mA y)->Heap.SameBut dx s.heap h'->Q Unit.unit {s with heap:=h',toks:=s.toks+2}):
  wpAny (model prog w) A (setAttr (.ref x) name v) Q E s:=by
 let(od,J,hl):=I.look;show PySem.W.set_plain X J hs (PySem.W.osa_open (s:={s with toks:=s.toks+1}) (r:=none) X J hp ht λb=>?_);let(cd,hc,GA):=PySem.W.any_some hh;let hx:s.heap.get? x=!(.ref C,!dx,.plain,#[]):=I.obj;show aaf (aaw (aaf (aaf (wpAny_loadPart hx (aaf (PySem.W.Looks.here (s:={s with toks:=s.toks+1}) (PySem.W.looks_clsIn X hc) ?_))))));rw[GA];show aaw (a:=!dx) (aaf (aaw (aaf ?_)));show wpAny_nsSet1 (s:={s with toks:=s.toks+1}) I.ns λh' WH Qd=>?_;let(oD,esD,epD,TL,Sv,P9):=WH.count (PySem.Within.cons name v hw);show aaf (wpAny_lookBehind TL (by rw[Sv];show pastItsLine_dict (aaJ P9 (by rw[aaz];omega))) ?_);show aaw (h _ ((Qd.2 _ (Ne.symm I.ne)).trans I.obj,WH,I.ne) Qd)
def KA{R:Result->Shared->Prop}{vs:List Value}(X:K.In s.heap)(hm:PySem.W.makesIn K C=true)
  (hi:PySem.W.findIn K (.ref C) "__init__"=!(!(.ref f))) (hf:PySem.W.typeIn K (.ref f)=!(.type "function"))
  (h:codeAny (model prog w) (A.under (.builtin "type.__call__" (.ref C::vs,kw))) (.call (.ref f) (.ref (s.heap.objs.size+1)::vs,kw)) (PySem.W.InitBack (s.heap.objs.size+1) R)
   {s with heap:=(s.heap.push PySem.W.emptyDict).push (PySem.W.instObj C s.heap.objs.size)}):
  codeAny (model prog w) A (.call (.ref C) (vs,kw)) R s:=by
 let(hh,g,d,t,os):=s;show PySem.W.make_core (PySem.W.makes_of X hm) (PySem.W.looks_findIn X hi) (λself=>PySem.W.bind_fn X self hf) (.inl rfl) h
end
def hU(f:Str)(v:V):List (Str×V)->List (Str×V)
 | []=>[(f, v)]
 | (g, x)::r=>if g=f then (g, v)::r else (g, x)::hU f v r
def jW(f g:Str)(v:V):∀fs:List (Str×V),(hU f v fs).lookup g=if g=f then !v else fs.lookup g
 | []=>by
  change List.lookup g [(f, v)]=_;by_cases h:g=f
  .let hb:(g==f)=true:=abh.mpr h;simp only[List.lookup,hb,if_pos h]
  .let hb:(g==f)=false:=beq_eq_false_iff_ne.mpr h;simp only[List.lookup,hb,if_neg h]
 | (k, x)::r=>by
  let ih:=jW f g v r;rw[show hU f v ((k, x)::r)=(if k=f then (k, v)::r else (k, x)::hU f v r) from rfl];by_cases hk:k=f
  .rw[aaG hk];by_cases h:g=k
   .let hb:(g==k)=true:=abh.mpr h;simp only[List.lookup,hb,if_pos (h.trans hk)]
   .let hb:(g==k)=false:=beq_eq_false_iff_ne.mpr h;simp only[List.lookup,hb,if_neg (λe:g=f=>h (e.trans hk.symm))]
  .rw[aaE hk];by_cases h:g=k
   .let hb:(g==k)=true:=abh.mpr h;simp only[List.lookup,hb,if_neg (λe:g=f=>hk (h.symm.trans e))]
   .let hb:(g==k)=false:=beq_eq_false_iff_ne.mpr h;simp only[List.lookup,hb];show ih
def oa(f:Str)(v:V):∀fs:List (Str×V),f∈(hU f v fs).map (·.1)/\∀g,g∈fs.map (·.1)->g∈(hU f v fs).map (·.1)
 | []=>(by simp[hU],λg h=>by simp at h)
 | (k, x)::r=>by
  let(i1,i2):=oa f v r;rw[show hU f v ((k, x)::r)=(if k=f then (k, v)::r else (k, x)::hU f v r) from rfl];by_cases hk:k=f
  .rw[aaG hk];subst hk;show(by simp,λg h=>by simpa using h)
  .rw[aaE hk];show(?_,λg h=>?_)
   .rw[aa8];show aai _ i1
   .rw[aa8]at h⊢;rcases aaR.mp h with e| e
    .show aaR.mpr (.inl e)
    .show aai _ (i2 g e)
def pk(f:Str)(v:V):∀fs:List (Str×V),-(hU f v fs)<=-fs+1
 | []=>by simp[hU]
 | (k, x)::r=>by
  let ih:=pk f v r;rw[show hU f v ((k, x)::r)=(if k=f then (k, v)::r else (k, x)::hU f v r) from rfl];by_cases hk:k=f
  .rw[aaG hk,aaz,aaz];omega
  .rw[aaE hk,aaz,aaz];omega
def gQ.some_of{o:Option Value}(r:gQ (!v) o):∃u,o=!u/\aj v u:=by
 cases o with
 | none=>show(show False from r).elim
 | some u=>show(u,rfl,r)
def gQ.none_of{o:Option Value}(r:gQ none o):o=none:=by
 cases o with
 | none=>rfl
 | some u=>show(show False from r).elim
def ug(r:aj v u):PySem.W.handedIn u=true:=by
 cases v with
 | aV=>cases(show u=Value.none from r);rfl
 | bl b=>cases(show u=Value.bool b from r);rfl
 | int i=>let(t,e):=(show∃t,u=Value.int i t from r);cases e;rfl
 | str x=>let(t,e):=(show∃t,u=Value.str x t from r);cases e;rfl
 | Hr b=>let(t,e):=(show∃t,u=Value.bytes b t from r);cases e;rfl
 | Qb b=>let(t,e):=(show∃t,u=Value.float b t from r);cases e;rfl
 | ref a=>cases(show u=Value.ref a from r);rfl
 | ty n=>cases(show u=Value.type n from r);rfl
section
variable{H H':Hp}{fs Ho:List (Str×V)}
def pT(au:je P w H h)(e:H a=!(.ins C dx fs)):∃mA,CB h a dx C mA/\(∀f,gQ (fs.lookup f) (mA f))/\PySem.Within mA (fs.map (·.1))/\-fs<=1000/\H dx=!(.own a):=by let(d,z,ne,ob,mA,n,r,q):=(show aH P w H h a (.ins C dx fs) from au a _ e);show(mA,(ob,n,ne),r,q,z,d)
end
structure Dm(K:gV)(C:Addr):Prop where
 pg:PySem.W.plainGet K C Str.empty=true
 hd:PySem.W.hasDictIn K C=true
 po:PySem.W.plainOver K C=true
 sa:PySem.W.findIn K (.ref C) "__setattr__"=!(!(.builtin "object.__setattr__"))
def Dm.get{K:gV}{C:Addr}(c:Dm K C)(f:Str):PySem.W.plainGet K C f=true:=c.pg
def hZ(K:gV)(C:Addr)(f:Str):Prop:=PySem.W.findIn K (.ref C) f=!none
def hZ.U1{K:gV}{f:Str}(n:hZ K C f):PySem.W.takerIn K C f=!none:=by unfold PySem.W.takerIn;rw[show PySem.W.findIn K (.ref C) f=!none from n];rfl
structure NW(K:gV)(C:Addr)(m:Str)(f:Addr):Prop where
 at_:PySem.W.findIn K (.ref C) m=!(!(.ref f))
 fn:PySem.W.isFn K (.ref f)=true
 kp:PySem.W.keepIn K (.ref f)=true
section
variable{H:Hp}{fs:List (Str×V)}{f:Str}
def A8{b:Bool}(I:Inv X δ σ H s)(e:H a=!(.ins C dx fs))(c:Dm X.K C)(n:hZ X.K C f)(l:fs.lookup f=!v)
  (h:∀u s',Inv X δ σ H s'->aj v u->Q u s'):wpAny (model X.prog X.w) A (getAttr (.ref a) f b) Q E s:=by
 let(mA,O,r,_,_,_):=pT I.au e;let(u,hu,ru):=gQ.some_of (v:=v) (o:=mA f) (by rw[<-l];show r f);show p_ I.iL O (c.get f) c.hd n hu (ug ru) (h u _ (I.tok _) ru)
def sI{m:Str}{g:Addr}{pl:Sem Bool}{Q:Value×List Value->Shared->Prop}(I:Inv X δ σ H s)(e:H a=!(.ins C dx fs))(c:Dm X.K C)(k:NW X.K C m g)(l:fs.lookup m=none)
  (h:Q (.ref g, [.ref a]) s):wpAny (model X.prog X.w) A (getMethod (.ref a) m pl) Q E s:=by
 let(mA,O,r,_,_,_):=pT I.au e;let hn:mA m=none:=gQ.none_of (by rw[<-l];show r m);show Jh I.iL O (c.get m) k.at_ k.fn hn h
def Cs{y:V}{Q:Unit->Shared->Prop}(I:Inv X δ σ H s)(e:H a=!(.ins C dx fs))(c:Dm X.K C)(n:hZ X.K C f)(hl:-fs < 1000)(ry:aj y u)
  (h:∀s',Inv X δ σ (upd H a (.ins C dx (hU f y fs))) s'->Q Unit.unit s'):wpAny (model X.prog X.w) A (setAttr (.ref a) f u) Q E s:=by
 let(mA,O,r,wi,_,ho):=pT I.au e;let hz:-(fs.map (·.1))<=sizeLine:=by rw[aae,sizeLine_eq];omega
 show NA I.iL O c.sa c.po n.U1 c.hd wi hz λh' O' sb=>h _ ?_;let hd:∃o,h'.get? dx=!o:=let (o,_,_,e',_):=O'.ns;(o,e')
 show I.write (x:=a) (e:=dx) (by rw[e];show True.intro) (.inr ho) (λb q hb z=>(sb.2 b hb).trans z) hd ?_;show(by rw[υ O.ne];show ho,?_,O.ne,O'.obj,_,O'.ns,λg=>?_,λg hg=>?_)
 .have:=pk f y fs;omega
 .change gQ ((hU f y fs).lookup g) (if g=f then !u else mA g);rw[jW];by_cases q:g=f
  .rw[aaG q,aaG q];show ry
  .rw[aaE q,aaE q];show r g
 .by_cases q:g=f
  .rw[q];show(oa f y fs).1
  .show(oa f y fs).2 g (wi g λz=>hg ?_);change(if g=f then !u else mA g)=none;rw[aaE q];show z
def Inv.made(I:Inv X δ σ H s):Inv X δ σ (upd (upd H s.heap.objs.size (.own (s.heap.objs.size+1))) (s.heap.objs.size+1) (.ins C s.heap.objs.size []))
  {s with heap:=(s.heap.push PySem.W.emptyDict).push (PySem.W.instObj C s.heap.objs.size)}:=by
 let e1:(s.heap.push PySem.W.emptyDict).get? s.heap.objs.size=!PySem.W.emptyDict:=aaS s.heap rfl;let e2:((s.heap.push PySem.W.emptyDict).push (PySem.W.instObj C s.heap.objs.size)).get? (s.heap.objs.size+1)=!(PySem.W.instObj C s.heap.objs.size):=by have:=aaS (s.heap.push PySem.W.emptyDict) (o:=PySem.W.instObj C s.heap.objs.size) rfl;rwa[Heap.size_push]at this
 let e3:(s.heap.push PySem.W.emptyDict).Ns s.heap.objs.size (λ_=>none):=(PySem.W.emptyDict,#[],_,e1,rfl,(λe he=>absurd he (by simp)),λ_=>rfl);let I1:=I.laid (a:=s.heap.objs.size) (o:=.own (s.heap.objs.size+1)) (h':=s.heap.push PySem.W.emptyDict) (t':=s.toks) (λb u q=>aah _ q) (aam _) (_,e1);show I1.laid (a:=s.heap.objs.size+1) (o:=.ins C s.heap.objs.size []) (t':=s.toks) (λb u q=>aah _ q) (Nat.le_of_eq (Heap.size_push _ _)) ?_;let ne:s.heap.objs.size≠s.heap.objs.size+1:=aaN (abU _);show(by rw[υ ne,Ζ],aca _,ne,e2,λ_=>none,(Heap.Ns1.of_empty e3).at λo q=>aah _ q,λ_=>True.intro,λy hy=>aaO rfl hy)
def EN{env:Env}{f:Str}(hb:attributeBase e f env (eval e env)=eval e env)
  (h:wpAny (model prog w) A (eval e env) (λo s₁=>wpAny (model prog w) A (getAttr o f true) Q E s₁) E s):wpAny (model prog w) A (eval (.Attribute e f pos) env) Q E s:=
 Attribute_any_ h (by rw[arm_eval_Attribute,hb])
end
def Zp(K:gV)(ta:TE)(f:Str):TE:=λσ H Q=>ta σ H λx H1=>∃a C dx fs v,x= .ref a/\H1 a=!(.ins C dx fs)/\Dm K C/\hZ K C f/\fs.lookup f=!v/\Q v H1
def Y2(K:gV)(ta tv:TE)(f:Str):TS:=λD σ H=>tv σ H λy H1=>ta σ H1 λx H2=>∃a C dx fs,x= .ref a/\H2 a=!(.ins C dx fs)/\Dm K C/\hZ K C f/\-fs < 1000/\
 D.nx σ (upd H2 a (.ins C dx (hU f y fs)))
section
variable{o value:Expr}{f:Str}{pos' tO:Pos}{tv:TE}
def Po(he:PE X e ta)(hb:attributeBase e f X.env (eval e X.env)=eval e X.env):PE X (.Attribute e f pos) (Zp X.K ta f):=by intro δ s σ H Q I h;show EN hb (a_ (he δ s σ H _ I h) λu s1 xz=>?_);let(x,H1,I1,rx,a,C,dx,fs,v,ex,ea,c,n,l,q):=xz;subst ex;obtain rfl:u=Value.ref a:=rx;show A8 I1 ea c n l λu' s2 I2 ru=>(v,H1,I2,ru,q)
def Rb(ha:PE X o ta)(hv:PE X value tv)(hs:swapsWith value (!(.Attribute o f pos')) pos.line X.env=pure false):PS X (.Assign [.Attribute o f pos'] value pos) (Y2 X.K ta tv f):=by intro δ s σ H D I h;show plainObj_wpAny_Assign_Attribute (a_ (hv δ s σ H _ I h) fun u s1 (y,H1,I1,ry,q)=>a_ (ha δ s1 σ H1 _ I1 q) λov s2 xz=>?_) hs;let(x,H2,I2,rx,a,C,dx,fs,ex,ea,c,n,l,q2):=xz;subst ex;obtain rfl:ov=Value.ref a:=rx;show Cs I2 ea c n l ry λs3 I3=>(σ,_,I3,q2)
end
section
variable{H:Hp}{c:Value}{b:Bool}
inductive iV(K:gV)(H:Hp):V->Value->Prop where
 | aV:iV K H .aV (.type "NoneType")
 | bl (x:Bool):iV K H (.bl x) (.type "bool")
 | int (i:Int):iV K H (.int i) (.type "int")
 | str (x:Str):iV K H (.str x) (.type "str")
 | Qb (x:UInt64):iV K H (.Qb x) (.type "float")
 | lst {a:Addr} {xs:List V} (e:H a=!(.lst xs)):iV K H (.ref a) (.type "list")
 | tX {a:Addr} {o:Obj} {xs:List V} (e:H a=!(.tX o (.lst xs))):iV K H (.ref a) (.type "list")
 | tup {a:Addr} {xs:List V} (e:H a=!(.tup xs)):iV K H (.ref a) (.type "tuple")
 | dK {a:Addr} {Γ:List (Key×V)} (e:H a=!(.dK Γ)):iV K H (.ref a) (.type "dict")
 | dT {a:Addr} {Γ:List (List Key×V)} (e:H a=!(.dT Γ)):iV K H (.ref a) (.type "dict")
 | ins {a C dx:Addr} {fs:List (Str×V)} (e:H a=!(.ins C dx fs)) (cl:Dm K C) (ha:PySem.W.findIn K (.ref C) "__class__"=!(!(.builtin "object.__class__")))
   (hn:PySem.W.specialIn K (.builtin "object.__class__") "__get__"=!(!(.builtin "getset_descriptor.__get__"))) (htk:PySem.W.takesIn K (.builtin "object.__class__")=!true)
   (hm:PySem.W.mroIn K C (.type "object")=!true):iV K H (.ref a) (.ref C)
def E_{x:V}{t:Value}(I:Inv X δ σ H s)(rx:aj x u)(ty:iV X.K H x t)(e:PySem.W.kitOne X.K t c=!b)(h:∀tk,Q (.bool b) {s with toks:=tk}):
  wpAny (model X.prog X.w) A (call (.builtin "isinstance") [u,c]) Q E s:=by
 cases ty with
 | aV=>cases(show u=Value.none from rx);show PySem.W.kia_one PySem.W.kitx_none I.iL True.intro e nofun h
 | bl y=>cases(show u=Value.bool y from rx);show PySem.W.kia_one PySem.W.kitx_bool I.iL True.intro e nofun h
 | int i=>let(t,q):=(show∃t,u=Value.int i t from rx);cases q;show PySem.W.kia_one PySem.W.kitx_int I.iL True.intro e nofun h
 | str y=>let(t,q):=(show∃t,u=Value.str y t from rx);cases q;show PySem.W.kia_one PySem.W.kitx_str I.iL True.intro e nofun h
 | Qb y=>let(t,q):=(show∃t,u=Value.float y t from rx);cases q;show PySem.W.kia_one PySem.W.kitx_float I.iL True.intro e nofun h
 | @lst a xs ea=>
  cases(show u=Value.ref a from rx);let(_,_,n,_,h1):=(show aH X.prog X.w H s.heap a (.lst xs) from I.au a _ ea);show PySem.W.kia_one PySem.W.kitx_list I.iL (_,h1,rfl) e nofun h
 | @tX a ob xs ea=>
  cases(show u=Value.ref a from rx);let(_,_,_,n,_,h1):=(show aH X.prog X.w H s.heap a (.tX ob (.lst xs)) from I.au a _ ea);show PySem.W.kia_one PySem.W.kitx_list I.iL (_,h1,rfl) e nofun h
 | @tup a xs ea=>
  cases(show u=Value.ref a from rx);let(_,_,_,p):=(show aH X.prog X.w H s.heap a (.tup xs) from I.au a _ ea);let(o,h1,h2,_):=p;show PySem.W.kia_one PySem.W.kitx_tuple I.iL (o,h1,h2) e nofun h
 | @dK a Γ ea=>
  cases(show u=Value.ref a from rx);let(_,_,vs,_,p):=(show aH X.prog X.w H s.heap a (.dK Γ) from I.au a _ ea);let(o,es,ep,h1,h2,_):=p;show PySem.W.kia_one PySem.W.kitx_dict I.iL (o,h1,h2.1) e nofun h
 | @dT a Γ ea=>
  cases(show u=Value.ref a from rx);let(_,_,xs,_,o,es,ep,h1,h2,_):=(show aH X.prog X.w H s.heap a (.dT Γ) from I.au a _ ea);show PySem.W.kia_one PySem.W.kitx_dict I.iL (o,h1,h2.1) e nofun h
 | @ins a C dx fs ea cl ha hn htk hm=>
  cases(show u=Value.ref a from rx);let(mA,O,_):=pT I.au ea;let(od,J,_):=O.look;show PySem.W.kia_one (PySem.W.kitx_own (cl.get _) cl.hd ha hn htk hm) I.iL J e nofun h
end
structure bf(k:Nat)(A:Around):Prop where
 hd:A.handled=none
 dp:A.depth+3 * k+5 < recursionLimit
 un:A.units+16 * k+200 < cLine
def bf.mono{j k:Nat}(r:bf k A)(h:j<=k):bf j A:=(r.hd,by have:=r.dp;omega,by have:=r.un;omega)
def bf.deeper{k:Nat}(r:bf (k+1) A)(env:Env):bf k (A.deeper env):=
 (r.hd,by have:=r.dp;change A.depth+1+3 * k+5 < _;omega,by have:=r.un;change A.units+3+16 * k+200 < _;omega)
def Bt:(A.under (.builtin "type.__call__" (.ref C::us,kw))).depth=A.depth+1:=by
 first| rfl| simp[Around.under,Code.weight,Code.isCreation,Code.isGuard,Code.isCaller,Code.frames,Code.isFrame,guardIds]
def BA:(A.under (.builtin "type.__call__" (.ref C::us,kw))).units=A.units+1:=by
 first| rfl| simp[Around.under,Code.cUnits,Code.frames,Code.isFrame]
def bf.make{k:Nat}(r:bf (k+1) A)(C:Addr)(us:List Value)(kw:List (Str×Value)):bf k (A.under (.builtin "type.__call__" (.ref C::us,kw))):=
 (r.hd,by have:=r.dp;rw[Bt];omega,by have:=r.un;rw[BA];omega)
def bf.depth{k:Nat}(r:bf k A):A.depth < recursionLimit:=by have:=r.dp;omega
def bf.units{k:Nat}(r:bf k A):A.units+64 < cLine:=by have:=r.un;omega
def bf.Bo{k:Nat}(r:bf k A):A.units < cLine:=by have:=r.un;omega
def Uw:TA:=λ_ H Q=>Q [] H
def T'(ta:TE)(tr:TA):TA:=λσ H Q=>ta σ H λx H1=>tr σ H1 λxs H2=>Q (x::xs) H2
section
variable{t:TA}
def JG:PA X [] Uw:=λ_ _ _ _ H Q I h=>Calls.spliced_nil ([],H,I,.nil,h)
def vm(ha:PE X e te)(hr:PA X es t)(hs:starEach (e::es) X.env=(false, eval e X.env)::starEach es X.env|>1):PA X (e::es) (T' te t):=by intro pos δ s σ H Q I h;rw[hs];change wpAny _ _ (spliced ((false, eval e X.env)::backTo pos (starEach es X.env))) _ _ s;show Calls.spliced_cons (a_ (ha δ s σ H _ I h) λu s1 xz=>?_);let(x,H1,I1,r1,q1):=xz;show a_ (hr pos δ s1 σ H1 _ I1 q1) λus s2 (xs,H2,I2,r2,q2)=>(x::xs,H2,I2,.cons r1 r2,q2)
def Ys(t:TA):TE:=λσ H Q=>t σ H λxs H1=>-xs<=sizeLine/\∀p,H1 p=none->Q (.ref p) (upd H1 p (.tup xs))
def Xa(t:TA):TE:=λσ H Q=>t σ H λxs H1=>-xs<=sizeLine/\∀p,H1 p=none->Q (.ref p) (upd H1 p (.lst xs))
def Qj{x1}(h:PA X es t):PE X (.Tuple es x1 pos) (Ys t):=by intro δ s σ H Q I hq;show wpAny_Tuple_spliced (a_ (h pos δ s σ H _ I hq) fun us s1 (xs,H1,I1,r,z,q)=>(by rw[<--r];show z,?_));let hf:H1 s1.heap.objs.size=none:=I1.au.fresh (aam _);show(.ref s1.heap.objs.size,upd H1 s1.heap.objs.size (.tup xs),I1.laid (t':=s1.toks) (λb u e=>aah _ e) (aam _) ?_,rfl,q _ hf);show(z,us,r,(_,aaS _ rfl,rfl,_,rfl))
def Jz(h:PA X es t):PE X (.List es pos) (Xa t):=by intro δ s σ H Q I hq;show wpAny_List_spliced (a_ (h pos δ s σ H _ I hq) fun us s1 (xs,H1,I1,r,z,q)=>(by rw[<--r];show z,?_));let hf:H1 s1.heap.objs.size=none:=I1.au.fresh (aam _);show(.ref s1.heap.objs.size,upd H1 s1.heap.objs.size (.lst xs),I1.laid (t':=s1.toks) (λb u e=>aah _ e) (aam _) ?_,rfl,q _ hf);show(z,us,0,r,aaS _ rfl)
end
abbrev Sp:=List V->Hp->VK->XK->Prop
abbrev AG:=List Env->Hp->Shared->XK->Value->Shared->Prop
structure AS(P:Program)(w:World)(K:gV)(mg:Str->Option Value)(base:Heap)(A:Around)(outer:List Env)(s:Shared)(H:Hp):Prop where
 frames:A.frames=!outer
 mod:Mod K mg base
 bs:∀b o,base.get? b=!o->s.heap.get? b=!o/\H b=none
 vk:base.objs.size<=s.heap.objs.size
 nz:s.heap.FunFrames base outer
 MN:∀b∈kX outer,H b=none
 au:je P w H s.heap
 bare:AllBare s.gens
def CE(outer:List Env)(P:Program)(w:World)(H:Hp)(s:Shared)(Q:VK)(u:Value)(s':Shared):Prop:=
 ∃v H',s'.os=s.os/\AllBare s'.gens/\Un (kX outer) [] H H' s.heap s'.heap/\je P w H' s'.heap/\aj v u/\Q v H'
def CR(CX:AG)(outer:List Env)(P:Program)(w:World)(H:Hp)(s:Shared)(Q:VK)(E:XK)(r:Result)(s':Shared):Prop:=
 match r with
 | .ok (.ret u)=>CE outer P w H s Q u s'
 | .ok _=>False
 | .error e=>CX outer H s E e s'
structure ae(P:Program)(w:World)(K:gV)(mg:Str->Option Value)(base:Heap)(CX:AG)(k:Nat)(f:Addr)(fd:FuncData)(ps:List Str)(sp:Sp):Prop where
 len:∀vs H Q E,sp vs H Q E->-vs=-ps
 run:∀(A:Around) (outer:List Env) (s:Shared) (H:Hp) (args:Args) (us:List Value) (vs:List V) (Q:VK) (E:XK),bf k A->AS P w K mg base A outer s H->BindsTo s fd args (ps.zip us)->af vs us->sp vs H Q E->
  codeAny (model P w) A (.call (.ref f) args) (CR CX outer P w H s Q E) s
def AS.make{K:gV}{H:Hp}(e:AS P w K mg base A outer s H)(C:Addr)(us:List Value)(kw:List (Str×Value)):
  AS P w K mg base (A.under (.builtin "type.__call__" (.ref C::us,kw))) outer s H:=(by first| show e.frames| (simpa [Around.under,Code.envs,Code.isFrame,pushEnvs] using e.frames),e.mod,e.bs,e.vk,e.nz,e.MN,e.au,e.bare)
section
variable{H:Hp}{s':Shared}
def Inv.Pt(I:Inv X δ σ H s):AS X.prog X.w X.K X.mg X.base X.A X.stack s H:=
 (I.ok.frames,I.ok.mod,I.bs,aaJ I.ok.vk I.sz,I.stack,I.pO,I.au,I.bare)
def Inv.after{Q:VK}(I:Inv X δ σ H s)(h:CE X.stack X.prog X.w H s Q u s'):EP X δ σ Q u s':=by let(v,H',os,bare,un,au,r,q):=h;let(hh,g,d,t,WS):=s';obtain rfl:WS=s.os:=os;show(v,H',I.call (h':=hh) (g':=g) (d':=d) (t':=t) (ch:=[]) un au bare (λb z=>absurd z (by simp)),r,q)
end
def fK(K:gV)(fd:FuncData)(ps:List Str)(ds:List Value):Prop:=
 ∀(s:Shared) (us:List Value),K.In s.heap->-(us++ds)=-ps->BindsTo s fd (us,[]) (ps.zip (us++ds))
def fK.all{K:gV}{fd:FuncData}(h:∀us:List Value,-us=-ps->bindArgs fd (us,[])=pure (ps.zip us)):fK K fd ps []:=λs us _ hl=>by rw[aa0]at hl⊢;show .of_eq (h us hl)
section
variable{CX:AG}{k:Nat}{f:Addr}{fd:FuncData}{sp:Sp}{nF:List V}{ds:List Value}{E:XK}{m:Str}{p apos:Pos}{o:Expr}{t:TA}
structure Mk(K:gV)(C f:Addr):Prop where
 makes:PySem.W.makesIn K C=true
 init:PySem.W.findIn K (.ref C) "__init__"=!(!(.ref f))
 fn:PySem.W.isFn K (.ref f)=true
 kp:PySem.W.keepIn K (.ref C)=true
end
structure Β(N P:List Str)(sc:Scope):Prop where
 kind:sc.kind= .function
 co:sc.isCoroutine=false
 gen:sc.isGenerator=false
 nd:N.Nodup
 pre:N.take (-P)=P
 par:∀x∈P,sc.names.lookup x=some .local\/sc.names.lookup x=some .cell
 PZ:∀y∈sc.names,y.2≠ .free
def uU{kindOf:Str->Option NameKind}{x:Str}:∀{binds:List (Str×Value)} {m:Str->Option Value},(∀v,(x, v)∉binds)->bindL kindOf binds m x=m x
 | [],_,_=>rfl
 | (n, v)::r,m,h=>by
  unfold bindL;rw[uU λw hw=>h w (aai _ hw)];split
  .have:x≠n:=by rintro rfl;show h v aal
   simp[this]
  .rfl
def ur{kindOf:Str->Option NameKind}{x:Str}:∀{binds:List (Str×Value)} {m:Str->Option Value},(∀v,(x, v)∉binds)->bindC kindOf binds m x=m x
 | [],_,_=>rfl
 | (n, v)::r,m,h=>by
  unfold bindC;rw[ur λw hw=>h w (aai _ hw)];split
  .rfl
  .have:x≠n:=by rintro rfl;show h v aal
   simp[this]
def vd{kindOf:Str->Option NameKind}{x:Str}{v:Value}:∀{P:List Str} {vs:List Value} {i:Nat} {m:Str->Option Value},P.Nodup->P[i]? =!x->vs[i]? =!v->kindOf x=some .local->
  bindL kindOf (P.zip vs) m x=!v
 | [],_,_,_,_,h,_,_=>by simp at h
 | _::_,[],_,_,_,_,h,_=>by simp at h
 | p::P,w::vs,0,m,nd,h1,h2,hk=>by simp at h1 h2;subst h1;subst h2;change bindL kindOf ((p, w)::P.zip vs) m p=_;unfold bindL;rw[uU λv hv=>(abq.mp nd).1 (abL hv).1,aaG hk];simp
 | p::P,w::vs,i+1,m,nd,h1,h2,hk=>by change bindL kindOf ((p, w)::P.zip vs) m x=_;unfold bindL;show vd (i:=i) (List.nodup_cons.mp nd).2 (by simpa using h1) (by simpa using h2) hk
def u_{kindOf:Str->Option NameKind}{x:Str}{v:Value}:∀{P:List Str} {vs:List Value} {i:Nat} {m:Str->Option Value},P.Nodup->P[i]? =!x->vs[i]? =!v->kindOf x≠some .local->
  bindC kindOf (P.zip vs) m x=!v
 | [],_,_,_,_,h,_,_=>by simp at h
 | _::_,[],_,_,_,_,h,_=>by simp at h
 | p::P,w::vs,0,m,nd,h1,h2,hk=>by simp at h1 h2;subst h1;subst h2;change bindC kindOf ((p, w)::P.zip vs) m p=_;unfold bindC;rw[ur λv hv=>(abq.mp nd).1 (abL hv).1,aaE hk];simp
 | p::P,w::vs,i+1,m,nd,h1,h2,hk=>by change bindC kindOf ((p, w)::P.zip vs) m x=_;unfold bindC;show u_ (i:=i) (List.nodup_cons.mp nd).2 (by simpa using h1) (by simpa using h2) hk
def start(N:List Str)(vs:List V):St:=vs.map some++List.replicate (-N - -vs) none
def jN(CX:AG)(P:Program)(w:World)(K:gV)(mg:Str->Option Value)(base:Heap)(N:List Str)(qual:Str)(scope:Scope)(f:Addr)(cd:Value)(A:Around)(outer:List Env)(s:Shared)(H:Hp)(E:XK):Cx where
 prog:=P
 w:=w
 K:=K
 mg:=mg
 base:=base
 A:=A.deeper (envOfC qual scope s.heap.objs.size f cd)
 N:=N
 s₀:=s
 H₀:=H
 env:=envOfC qual scope s.heap.objs.size f cd
 outer:=outer
 stack:=envOfC qual scope s.heap.objs.size f cd::outer
 ex:=[]
 calm:=true
 fn:=λ_=>true
 pn:=[]
 xe:=λe s'=>wpAny (model P w) (A.deeper (envOfC qual scope s.heap.objs.size f cd)) (leaving (envOfC qual scope s.heap.objs.size f cd) e) (λ_ Sn=>CX outer H s E e Sn) (λe' Sn=>CX outer H s E e' Sn) s'
def zH{sc:Scope}{n:Nat}(h:sc.names.lookup x=some .cell):∃c,(cellsFrom n sc.names []).lookup x=!c:=by let q:=PySem.W.cellsFrom_some sc.names n [] (.inl h);show ab3.mp q
def Gd{CX:AG}{K:gV}{N:List Str}{qual:Str}{scope:Scope}{f:Addr}{cd:Value}{s1:Shared}{H:Hp}{E:XK}{vs:List V}
  (S:Β N ps scope) (hd:A.handled=none) (e0:AS P w K mg base A outer s H) (hl:-vs=-ps) (r:af vs us)
  (x:InCallC s s.heap.objs.size (bindL (envOfC qual scope s.heap.objs.size f cd).kindOf (ps.zip us) λ_=>none) (cellsFrom (s.heap.objs.size+1) scope.names []) (bindC (envOfC qual scope s.heap.objs.size f cd).kindOf (ps.zip us) λ_=>none) s1):
  Inv (jN CX P w K mg base N qual scope f cd A outer s H E) [] (start N vs) H s1:=by
 let dq:-ps<=-N:=by have:=aba List.length S.pre;rw[ack]at this;omega
 let(h1,tk,rfl,hk):=x.done;let VZ:∀b:Addr,b∉(jN CX P w K mg base N qual scope f cd A outer s H E).ex:=λb z=>absurd (show b∈([]:List Addr) from z) (by simp)
 show⟨(e0.mod,S.kind,rfl,rfl,aam _,λy z c h1 h2=>?_,λy hy=>?_,λy c _ h=>?_,λ_=>hd,Around.frames_deeper e0.frames,.inr (rfl,rfl),λb z=>aaO z (VZ b),e0.bs,e0.vk,λb _ _=>VZ b,λb z=>aaO z (VZ b),e0.nz,e0.MN),
  rfl,e0.bare,Un.kept hk,(_,x.toInCall.ns,λi y v h1 h2 h3=>?_),λy c h=>(_,x.cell y c h),e0.au.fresh (Nat.le_refl _),λy c h=>?_,λp hp=>absurd (show p∈([]:List (Addr×Obj)) from hp) (by simp),e0.au.kept hk,?_⟩
 .show name_of_addr x.apart (PySem.mem_of_lookup h1) (PySem.mem_of_lookup h2)
 .let hy:scope.names.lookup y=some .cell\/scope.names.lookup y=some .free:=hy;rcases hy with hy| hy
  .show zH hy
  .show aaO rfl (S.PZ _ (PySem.mem_of_lookup hy))
 .show Nat.le_of_lt (x.above y c (PySem.mem_of_lookup h))
 .let hi:i < -vs:=by
   unfold start at h2;by_cases hi:i < -vs
   .show hi
   .rw[List.getElem?_append_right (by simpa using hi)]at h2;rw[ab5]at h2;split at h2 <;> cases h2
  let ha:vs[i]? =!v:=by
   unfold start at h2;rw[List.getElem?_append_left (by simpa using hi),List.getElem?_map]at h2;cases e:vs[i]? with
   | none=>rw[e]at h2;cases h2
   | some a=>rw[e]at h2;cases h2;rfl
  let(u,hu,rv):=r.get ha;let hp:ps[i]? =!y:=by rw[<-S.pre,acp ()];show h1
  let ndP:ps.Nodup:=by rw[<-S.pre];show S.nd.sublist (List.take_sublist _ _)
  show(u,rv,?_);rcases S.par y (aaI hp) with k| k
  .show .inl (k,vd ndP hp hu k)
  .let(c,e):=zH (n:=s.heap.objs.size+1) k;show .inr (.inl k,c,e,?_);let q:=x.cell y c e;rw[u_ ndP hp hu (by change scope.names.lookup y≠_;rw[k];decide)]at q;show q
 .show e0.au.fresh (Nat.le_of_lt (x.above y c (PySem.mem_of_lookup h)))
 .unfold start;change _=-N;rw[aaC,aae,aa9];omega
def OT{CX:AG}{K:gV}{k:Nat}{f:Addr}{name qual:Str}{params:Arguments}{scope:Scope}{dV kV doc pm aP ct oc:Value}{an od:Option Addr}
  {uy:Array (Option Value)} {N:List Str} {sp:Sp} (lk:K.lookup f=!(oc,od,.func (PySem.W.fnOf name qual params body scope dV kV doc pm an aP ct),uy)) (xS:PySem.W.codeIn K aP qual=true) (S:Β N ps scope)
  (len:∀vs H Q E,sp vs H Q E->-vs=-ps)
  (mG:∀(A:Around) (outer:List Env) (s:Shared) (H:Hp) (vs:List V) (Q:VK) (E:XK),bf k (A.deeper (envOfC qual scope s.heap.objs.size f aP))->sp vs H Q E->
   ∃t,xT (jN CX P w K mg base N qual scope f aP A outer s H E) body t/\t {nx:=λ_ H'=>Q .aV H',rt:=Q} (start N vs) H):
  ae P w K mg base CX (k+1) f (PySem.W.fnOf name qual params body scope dV kV doc pm an aP ct) ps sp:=by
 show(len,λA outer s H args us vs Q E hr e0 hb r G_=>?_);let hl:=len _ _ _ _ G_;let KX:K.In s.heap:=e0.mod.T2.keeps λb o e=>(e0.bs b o e).1;let lim:s.heap.NoLimit:=e0.mod.nolimit.keeps λb o e=>(e0.bs b o e).1;let Uh:∀y∈ps.zip us,scope.names.lookup y.1=some .local\/(scope.names.lookup y.1=some .cell/\((cellsFrom (s.heap.objs.size+1) scope.names []).lookup y.1).isSome=true):=λ(n,v) hy=>by
  rcases S.par n (abL hy).1 with q| q
  .show .inl q
  .show .inr (q,PySem.W.cellsFrom_some _ _ _ (.inl q))
 show codeAny_call_function hr.depth (KX _ _ lk) rfl S.co S.gen rfl (PySem.W.codeRec_of KX xS) (hb _ _ _ _ ?_);show wpAny_newFunctionEnv_cells S.kind Uh λenv he s1 x=>?_;subst he;show(lim.keeps x.toInCall.keep,codeAny_func ?_);let(t,ht,hq):=mG A outer s H vs Q E (hr.deeper _) G_;let I:Inv (jN CX P w K mg base N qual scope f aP A outer s H E) [] (start N vs) H s1:=Gd S hr.hd e0 hl r x;show abl (ht [] s1 (start N vs) H _ I hq) (λfl s' hs=>?_) λe s' hs=>hs
 let fin:∀{σ':St} {H':Hp} {v:V} {u:Value},Inv (jN CX P w K mg base N qual scope f aP A outer s H E) [] σ' H' s'->aj v u->Q v H'->CE outer P w H s Q u s':=
  λ{σ' H' v u} J rv q=>(v,H',J.os,J.bare,J.base,J.au,rv,q)
 cases fl with
 | ret u=>
  let(v,σ',H',J,rv,q):=hs;show fin J rv q
 | next=>
  let(σ',H',J,q):=hs;show fin (v:=V.aV) (u:=Value.none) J rfl q
 | brk=>
  let(_,_,_,q):=hs;show False.elim q
 | cont=>
  let(_,_,_,q):=hs;show False.elim q
section
variable{p:Pos}{t:TA}{id T:String}{r:List V->Hp->VK->Prop}
def Xc(r:List V->Hp->VK->Prop)(t:TA):TE:=λσ H Q=>t σ H λvs H1=>r vs H1 Q
def IS(hc:cj X (.builtin id) r)(hg:Gl X x)(hm:X.mg x=none)(hv:bootBuiltins x=!(.builtin id))(ha:PA X (e::es) t)(hn:x≠"__name__"|>2)(jn:(x==("__debug__":Str))=false|>2)
  (he:starEach (e::es) X.env=(false, eval e X.env)::starEach es X.env|>1) (dq:(backTo pos (starEach es X.env)).any (·.1)=false|>1):PE X (.Call (.Name x p) (e::es) [] pos) (Xc r t):=by
 intro δ s σ H Q I h;show wpAny_Call_Name_kw (lJ I hg hm hv ?_ hn jn);show PyProof.Rows.callWith_builtin1 (a_ (ha pos δ s σ H _ I h) λus s1 (vs,H1,I1,r1,q1)=>hc δ s1 σ H1 vs us Q I1 r1 q1) he dq
def Gp(hc:cj X (.type T) r)(hg:Gl X x)(hm:X.mg x=none)(hv:bootBuiltins x=!(.type T))(ha:PA X (e::es) t)(hn:x≠"__name__"|>2)(jn:(x==("__debug__":Str))=false|>2)
  (he:starEach (e::es) X.env=(false, eval e X.env)::starEach es X.env|>1) (dq:(backTo pos (starEach es X.env)).any (·.1)=false|>1):PE X (.Call (.Name x p) (e::es) [] pos) (Xc r t):=by
 intro δ s σ H Q I h;show wpAny_Call_Name_kw (lJ I hg hm hv ?_ hn jn);show PyProof.Rows.callWith_type1 (a_ (ha pos δ s σ H _ I h) λus s1 (vs,H1,I1,r1,q1)=>hc δ s1 σ H1 vs us Q I1 r1 q1) he dq
end
end L2
namespace HT
open PySem PyProof.Rows
section
variable{prog:Program}{w:World}{A:Around}{E:Value->Shared->Prop}{s:Shared}
def NL{t b:Addr}{vs ws:List Value}{Q:Value->Shared->Prop}(ht:IsTup s.heap t vs.toArray)(hb:IsTup s.heap b ws.toArray)(hv:vs≠[])
  (h1:ws=[]->Q (.ref t) s) (h2:ws≠[]->Q (.ref s.heap.objs.size) {s with heap:=s.heap.push {cls:=.type "tuple",data:=.seq (vs++ws).toArray}})
  (hsz:-vs+-ws<=sizeLine):wpAny (model prog w) A (binaryOp .Add (.ref t) (.ref b)) Q E s:=by
 let((cls,dd,data,sl),ho,hc,n,hd):=id ht;let((ahL,dd2,data2,Sf),Ws,hc2,n2,hd2):=id hb;simp only at hc hd hc2 hd2;subst hc hd hc2 hd2;let e:vs.toArray++ws.toArray=(vs++ws).toArray:=by simp
 by_cases hw:ws=[]
 .show concat_meets (_,ho,rfl) (_,Ws,rfl) noFill_tuple_add seq_tuple_add PySem.F.slot_tuple_add PySem.F.entry_tuple_add (PySem.F.args_tuple_add_2 _ _)
   (tuple_addW1 t b vs.toArray ws.toArray n n2 dd dd2 sl Sf (by simpa using hv) (by simp[hw])) (ho,Ws,h1 hw)
 .show concat_meets (_,ho,rfl) (_,Ws,rfl) noFill_tuple_add seq_tuple_add PySem.F.slot_tuple_add PySem.F.entry_tuple_add (PySem.F.args_tuple_add_2 _ _)
   (tuple_addW2 t b vs.toArray ws.toArray n n2 dd dd2 sl Sf (by simpa using hv) (by simpa using hw) (by rw[List.size_toArray,List.size_toArray];show hsz)) (ho,Ws,?_)
  rw[e];show h2 hw
def y4(n d:Nat):Option Int->Nat
 | none=>d
 | some v=>if v < 0 then (v+(n:Int)).toNat else min v.toNat n
def ym(n d:Nat):y4 n d none=d:=rfl
def pL(n d k:Nat):y4 n d (!(k:Int))=min k n:=by change(if (k:Int) < 0 then ((k:Int)+(n:Int)).toNat else min (k:Int).toNat n)=min k n;rw[aaE (),acz]
end
end HT
namespace L2
open PySem PySem.Spec PyProof.Rows
variable{X:Cx}{n:Nat}{δ:List (Addr×Obj)}{s:Shared}{its:List Value}
abbrev TO:=St->Hp->(Option Int->Hp->Prop)->Prop
def PO(X:Cx)(e:Option Expr)(t:TO):Prop:=
 ∀(δ:List (Addr×Obj)) (s:Shared) (σ:St) (H:Hp) (Q:Option Int->Hp->Prop),Inv X δ σ H s->t σ H Q->
  wpAny (model X.prog X.w) X.A (evalPart e X.env) (λu s'=>∃o H',Inv X δ σ H' s'/\IsPart u o/\Q o H') X.xe s
def Ml:TO:=λ_ H Q=>Q none H
def VA(t:TE):TO:=λσ H Q=>t σ H λx H1=>∃i,x= .int i/\Q (!i) H1
section
variable{e:Expr}{te:TE}{lo hi:Option Expr}{tl th:TO}{pos p2:Pos}
def Ea:PO X none Ml:=by intro δ s σ H Q I h;rw[evalPart_none];show aaw (none,H,I,.none,h)
def kD(h:PE X e te):PO X (!e) (VA te):=by intro δ s σ H Q I hw;rw[evalPart_some];show a_ (h δ s σ H _ I hw) λu s1 xz=>?_;let(x,H1,I1,r1,q1):=xz;let(i,rfl,q):=q1;let(t,rfl):=r1;show(!i,H1,I1,.int i t,q)
def SlR(X:Cx)(r:V->Option Int->Option Int->Hp->VK->Prop):Prop:=
 ∀(δ:List (Addr×Obj)) (s:Shared) (σ:St) (H:Hp) (x:V) (v vl vu:Value) (lo hi:Option Int) (sl:Addr) (Q:VK),Inv X δ σ H s->aj x v->s.heap.IsSliceOf sl vl vu .none->IsPart vl lo->IsPart vu hi->r x lo hi H Q->
  ∃T id,typeLookup (.type T) "__getitem__"=pure (!(.builtin id))/\s.TypeIs v T/\wpAny (model X.prog X.w) X.A (getItem v (.ref sl)) (EP X δ σ Q) X.xe s
def tSl(r:V->Option Int->Option Int->Hp->VK->Prop)(te:TE)(tl th:TO):TE:=λσ H Q=>te σ H λx H1=>tl σ H1 λl H2=>th σ H2 λu H3=>r x l u H3 Q
def qh{r:V->Option Int->Option Int->Hp->VK->Prop}(hr:SlR X r)(he:PE X e te)(hl:PO X lo tl)(hu:PO X hi th):PE X (.Subscript e (.Slice lo hi none p2) pos) (tSl r te tl th):=by intro δ s σ H Q I h;show Subscript_ (a_ (he δ s σ H _ I h) λv s1 xz=>?_);let(x,H1,I1,r1,q1):=xz;show wpAny_Slice (a_ (hl δ s1 σ H1 _ I1 q1) fun vl s2 (l,H2,I2,pl,q2)=>a_ (hu δ s2 σ H2 _ I2 q2) λvu s3 xz=>?_);let(u,H3,I3,pu,q3):=xz;rw[evalPart_none];show aaw ?_;let I4:Inv X δ σ H3 {s3 with heap:=s3.heap.push {cls:=.type "slice",data:=.fields #[vl,vu,.none]}}:=I3.kept (t':=s3.toks) λb ob q=>aah _ q;let(T,id,hT,ht,hg):=hr δ {s3 with heap:=s3.heap.push {cls:=.type "slice",data:=.fields #[vl,vu,.none]}} σ H3 x v vl vu l u s3.heap.objs.size Q I4 r1 (Heap.IsSliceOf.new ..) pl pu q3;change wpAny (model X.prog X.w) X.A (subscriptTail e (.Slice lo hi none p2) v (.ref s3.heap.objs.size)) (EP X δ σ Q) X.xe {s3 with heap:=s3.heap.push {cls:=.type "slice",data:=.fields #[vl,vu,.none]}};show tail_any (ops:=[.ref s3.heap.objs.size,v]) ht hT hg (by with_unfolding_all rfl)
def tR(xs:List V)(lo hi:Option Int):List V:=(xs.drop (HT.y4 (-xs) 0 lo)).take (HT.y4 (-xs) (-xs) hi - HT.y4 (-xs) 0 lo)
def xX(xs:List V)(lo hi:Option Int):-(tR xs lo hi)<=-xs:=by unfold tR;rw[ack,abM];omega
def N3(K:gV):R2:=λx y H Q=>∃a b xs ys,x= .ref a/\y= .ref b/\mH K H a xs/\mH K H b ys/\xs≠[]/\-xs+-ys<=sizeLine/\
 (ys=[]->Q (.ref a) H)/\(ys≠[]->∀p,H p=none->Q (.ref p) (upd H p (.tup (xs++ys))))
def af.xb{xs:List V}{us:List Value}(r:af xs us):us=[]↔xs=[]:=by
 cases r with
 | nil=>simp
 | cons _ _=>simp
def Mt:ji X (binaryOp .Add) (N3 X.K):=by intro δ s σ H x y v u Q I rx ry h;let(a,b,xs,ys,rfl,rfl,ha,hb,hx,hz,q1,q2):=h;cases rx;cases ry;let(its,r1,p1,_):=I.tuple ha;let(I_,r2,p2,_):=I.tuple hb;show HT.NL p1 p2 (λz=>hx (r1.xb.mp z)) (λz=>(.ref a,H,I,rfl,q1 (r2.xb.mp z))) (λz=>?_) (by rw[<--r1,<--r2];show hz);show(.ref s.heap.objs.size,_,I.laid (t':=s.toks) (o:=.tup (xs++ys)) (λb ob q=>aah _ q) (aam _) ?_,rfl,q2 (λw=>z (r2.xb.mpr w)) _ (I.au.fresh (aam _)));show(by rw[aaC];show hz,_,r1.append r2,IsTup.new _ _)
end
def Ik(n:Nat)(i:Int):Option Nat:=if 0<=i then (if i < n then !i.toNat else none) else if - (n:Int)<=i then !(i+n).toNat else none
def kU{α:Type}(xs:List α)(i:Int):Option α:=(Ik (-xs) i).bind λj=>xs[j]?
def ED{i:Int}{j:Nat}(h:Ik n i=!j):seqIndex? i n=!j/\j < n/\ - (n:Int)<=i/\i < n:=by
 unfold Ik at h;by_cases h0:0<=i
 .rw[aaG h0]at h;by_cases h1:i < n
  .rw[aaG h1]at h;let e:i.toNat=j:=aav h;show(by rw[seqIndex_of h0 h1,e],(),(),h1)
  .rw[aaE h1]at h;cases h
 .rw[aaE h0]at h;by_cases h1: - (n:Int)<=i
  .rw[aaG h1]at h;let e:(i+n).toNat=j:=aav h;show(by rw[seqIndex_neg () h1,e],(),h1,())
  .rw[aaE h1]at h;cases h
def vG{α:Type}{xs:List α}{i:Int}{v:α}(h:kU xs i=!v):∃j,seqIndex? i (-xs)=!j/\xs[j]? =!v/\j < -xs/\ - (-xs:Int)<=i/\i < -xs:=by
 unfold kU at h;cases e:Ik (-xs) i with
 | none=>rw[e]at h;cases h
 | some j=>
  rw[e]at h;let(h1,h2,h3,h4):=ED e;show(j,h1,h,h2,h3,h4)
def Ε{α:Type}{xs:List α}{j:Nat}{v:α}(h:xs[j]? =!v):kU xs (j:Int)=!v:=by
 let hj:j < -xs:=(aaj.mp h).1;let e:Ik (-xs) (j:Int)=!j:=by unfold Ik;rw[if_pos (),if_pos ()];simp
 unfold kU;rw[e];show h
def xo(b:Expr):Prop:=∀o i,subscripted b false o i=operate [o,i] (getItem o i)
def Ly(X:Cx)(r:R2):Prop:=
 ∀(value slice:Expr) (δ:List (Addr×Obj)) (s:Shared) (σ:St) (H:Hp) (x y:V) (v u:Value) (Q:VK),Inv X δ σ H s->aj x v->aj y u->r x y H Q->
  subscripted slice false v u=operate [v,u] (getItem v u)->wpAny (model X.prog X.w) X.A (subscriptTail value slice v u) (EP X δ σ Q) X.xe s
def MtR(X:Cx)(id:String)(r:V->List V->Hp->VK->Prop):Prop:=
 ∀(δ:List (Addr×Obj)) (s:Shared) (σ:St) (H:Hp) (x:V) (xs:List V) (v:Value) (us:List Value) (Q:VK),Inv X δ σ H s->aj x v->af xs us->r x xs H Q->
  wpAny (model X.prog X.w) X.A (call (.builtin id) (v::us)) (EP X δ σ Q) X.xe s
section
variable{a b:Expr}{ta tb:TE}{pos:Pos}
def Ly.or{r r':R2}(h:Ly X r)(h':Ly X r'):Ly X (λx y H Q=>r x y H Q\/r' x y H Q):=by
 intro value slice δ s σ H x y v u Q I rx ry q hs;rcases q with q| q
 .show h value slice δ s σ H x y v u Q I rx ry q hs
 .show h' value slice δ s σ H x y v u Q I rx ry q hs
def T8{r:R2}(hr:Ly X r)(ha:PE X a ta)(hb:PE X b tb)(hs:xo b):PE X (.Subscript a b pos) (SE r ta tb):=by intro δ s σ H Q I h;show Subscript_ (PL ha hb I h λv u s2 x y H2 I2 rx ry q=>hr a b δ s2 σ H2 x y v u Q I2 rx ry q (hs _ _))
def UB(K:gV):R2:=λx y H Q=>∃p xs i v,x= .ref p/\y= .int i/\fQ K H p xs/\kU xs i=!v/\Q v H
def S_(K:gV):R2:=λx y H Q=>∃p xs i v,x= .ref p/\y= .int i/\mH K H p xs/\kU xs i=!v/\Q v H
def UM:R2:=λx y H Q=>∃z i c,x= .str z/\y= .int i/\-z<=sizeLine/\kU z.cps.toList i=!c/\Q (.str ⟨#[c]⟩) H
def Me:Ly X (UB X.K):=by
 intro value slice δ s σ H x y v u Q I rx ry h hs;let(p,xs,i,z,rfl,rfl,hq,he,q):=h;cases rx;let(t,rfl):=ry;let(its,r,pl,hz):=I.list hq;let(j,h1,h2,h3,h4,h5):=vG he;let(w,ew,AD):=r.get h2;let hl:=-r;let hn:=oE;let fin:EP X δ σ Q w s:=(z,H,I,AD,q);by_cases h0:0<=i
 .let hj:i.toNat=j:=by rw[seqIndex_of h0 h5]at h1;show aav h1
  show item_listR pl.isList h0 () (by rw[hj];simpa using ew) fin hs
 .let hj:(i+(its.toArray.size:Int)).toNat=j:=by rw[seqIndex_neg () h4]at h1;rw[aaM,<-hl];show aav h1
  show subscriptTail_builtinR (x:=w) pl.isList.typeIs slot_list_getitem.lookup
   (wpAny_getItem_list_neg (Q:=λr s'=>r=w/\EP X δ σ Q r s') pl.isList () (by rw[List.size_toArray] <;> omega) () (by rw[hj];simpa using ew) (rfl,fin)) hs
def Ru:Ly X (S_ X.K):=by
 intro value slice δ s σ H x y v u Q I rx ry h hs;let(p,xs,i,z,rfl,rfl,hq,he,q):=h;cases rx;let(t,rfl):=ry;let(its,r,pl,hz):=I.tuple hq;let(j,h1,h2,h3,h4,h5):=vG he;let(w,ew,AD):=r.get h2;let hl:=-r;let hn:=oE;let fin:EP X δ σ Q w s:=(z,H,I,AD,q)
 show subscriptTail_builtinR (x:=w) pl.typeIs slot_tuple_getitem.lookup
  (getItem_tuple (j:=j) (Q:=λr s'=>r=w/\EP X δ σ Q r s') pl () () (by rw[List.size_toArray,<-hl];show h1) (by simpa using ew) (rfl,fin)) hs
def Q2:Ly X UM:=by
 intro value slice δ s σ H x y v u Q I rx ry h hs;let(z,i,c,rfl,rfl,hz,he,q):=h;let(t,rfl):=rx;let(t',rfl):=ry;let(j,h1,h2,h3,h4,h5):=vG he;let hl:-z.cps.toList=-z:=by simp[Str.length]
 rw[hl]at h1 h4 h5;let hn:=oE
 show tail_any (typeIs_str s z t) slot_str_getitem.lookup (getItem_str (c:=c) (by
  let e1:decide (i < - (2 ^ 63:Int))=false:=aaB ();let e2:decide (i ≥ 2 ^ 63)=false:=aaB ()
  rw[e1,e2,Bool.or_false]) (by rw[h1];simpa using h2) (.str ⟨#[c]⟩,H,I.tok _,(_,rfl),q)) hs
def rIx(K:gV):R2:=λx y H Q=>UB K x y H Q\/S_ K x y H Q\/UM x y H Q
def PU:Ly X (rIx X.K):=Me.or (Ru.or Q2)
def AZ(its:List Value)(n j:Nat)(u:Value):Obj.mapSeq (·.setIfInBounds j u) {cls:=.type "list",data:=.seq its.toArray n}={cls:=.type "list",data:=.seq (its.set j u).toArray n}:=by simp[Obj.mapSeq]
def Inv.lst{δ:List (Addr×Obj)}{σ:St}{H:Hp}{s:Shared}{p:Addr}{xs:List V}(I:Inv X δ σ H s)(h:H p=!(.lst xs)):
  ∃(its:List Value) (n:Nat),af xs its/\s.heap.get? p=some {cls:=.type "list",data:=.seq its.toArray n}/\-xs<=sizeLine:=by
 let(z,its,n,r,e):=I.au p _ h;show(its,n,r,e,z)
def Inv.QJ{σ:St}{H:Hp}{p:Addr}{xs ys:List V}{its':List Value}{n':Nat}{f:Obj->Obj}(I:Inv X δ σ H s)(h:H p=!(.lst xs))
  (ho:s.heap.get? p=some {cls:=.type "list",data:=.seq its.toArray n}) (hf:f {cls:=.type "list",data:=.seq its.toArray n}={cls:=.type "list",data:=.seq its'.toArray n'}) (r:af ys its') (hz:-ys<=sizeLine) (t:Nat):
  Inv X δ σ (upd H p (.lst ys)) {s with heap:=s.heap.update p f,toks:=t}:=by
 let e:(s.heap.update p f).get? p=some {cls:=.type "list",data:=.seq its'.toArray n'}:=by rw[Heap.get?_update_self f ho (by rw[hf] <;> rfl),hf]
 show I.write (x:=p) (e:=p) (by rw[h];trivial) (.inl rfl) (λb u hb q=>(Heap.get?_update_other _ _ (Ne.symm hb)).trans q) (_,e) ?_;show(hz,its',n',r,e)
def Ol:V->V->V->Hp->(Hp->Prop)->Prop:=λo i v H Q=>∃p xs k j,o= .ref p/\i= .int k/\H p=!(.lst xs)/\Ik (-xs) k=!j/\Q (upd H p (.lst (xs.set j v)))
def Ll:TB X Ol:=by
 intro δ s σ H o i v ov iv u Q I ro ri rv h;let(p,xs,k,j,rfl,rfl,hp,hj,q):=h;cases ro;let(t,rfl):=ri;let(its,n,r,ho,hz):=I.lst hp;let(h1,h2,h3,h4):=ED hj;let hl:=-r;let hn:=oE
 let I':Inv X δ σ (upd H p (.lst (xs.set j v))) {s with heap:=s.heap.update p (Obj.mapSeq (·.setIfInBounds j u))}:=
  I.QJ hp ho (AZ its n j u) (r.set rv j) (by rw[aa7];show hz) s.toks
 by_cases h0:0<=k
 .let hk:k.toNat=j:=by rw[seqIndex_of h0 h4]at h1;show aav h1
  show PySem.W.ki_setAt ho h0 () (by rw[aaM,<-hl];show h4) (by rw[hk];show(_,I',q))
 .let hk:(k+(its.toArray.size:Int)).toNat=j:=by rw[seqIndex_neg () h3]at h1;rw[aaM,<-hl];show aav h1
  show PySem.W.ki_setBack ho () (by rw[aaM,<-hl];show h3) () (by rw[hk];show(_,I',q))
def xq(lo hi:Option Int)(n:Nat):(sliceBounds lo hi none n).1=((HT.y4 n 0 lo:Nat):Int)/\(sliceBounds lo hi none n).2.1=((HT.y4 n n hi:Nat):Int)/\(sliceBounds lo hi none n).2.2=1:=by
 show(?_,?_,rfl)
 .cases lo with
  | none=>simp[sliceBounds,HT.y4]
  | some i=>
   simp only[sliceBounds,HT.y4,Option.getD_none,show(1:Int) > 0 by decide,if_true];by_cases h:i < 0
   .simp only[h,if_true] <;> omega
   .simp only[h,if_false] <;> omega
 .cases hi with
  | none=>simp[sliceBounds,HT.y4]
  | some i=>
   simp only[sliceBounds,HT.y4,Option.getD_none,show(1:Int) > 0 by decide,if_true];by_cases h:i < 0
   .simp only[h,if_true] <;> omega
   .simp only[h,if_false] <;> omega
def tT(its:List Value)(lo hi:Option Int):slicePick its.toArray lo hi none=((its.drop (HT.y4 (-its) 0 lo)).take (HT.y4 (-its) (-its) hi - HT.y4 (-its) 0 lo)).toArray:=by let(h1,h2,h3):=xq lo hi its.toArray.size;unfold slicePick;rw[h1,h2,h3];simp only[sliceRange_one,pick_run,List.size_toArray] <;> rfl
def Xf(K:gV):V->Option Int->Option Int->Hp->VK->Prop:=λx lo hi H Q=>∃a xs,x= .ref a/\fQ K H a xs/\∀p,H p=none->Q (.ref p) (upd H p (.lst (tR xs lo hi)))
def vv:SlR X (Xf X.K):=by intro δ s σ H x v vl vu lo hi sl Q I rx hs pl pu h;let(a,xs,rfl,hx,q):=h;cases rx;let(its,r,ht,hz):=I.list hx;let hlen:=-r;show("list",_,slot_list_getitem.lookup,ht.isList.typeIs,?_);show wpAny_getItem_list_slice ht.isList hs pl pu .none (by simp) ?_ (by rw[List.size_toArray] <;> omega);rw[tT,<-hlen];show(.ref s.heap.objs.size,_,I.laid (t':=s.toks) (o:=.lst (tR xs lo hi)) (λb ob q=>aah _ q) (aam _) ?_,rfl,q _ (I.au.fresh (aam _)));show(aaJ (xX xs lo hi) hz,_,0,(r.drop (HT.y4 (-xs) 0 lo)).take (HT.y4 (-xs) (-xs) hi - HT.y4 (-xs) 0 lo),aaS _ rfl)
def dt:V->Bool
 | .aV=>true
 | .bl _=>true
 | .int _=>true
 | .str _=>true
 | _=>false
def sT:V->V->Bool
 | .aV,.aV=>true
 | .bl a,.bl b=>a==b
 | .bl a,.int b=>(if a then 1 else 0)==b
 | .int a,.bl b=>a==(if b then 1 else 0)
 | .int a,.int b=>a==b
 | .str a,.str b=>a==b
 | _,_=>false
def qf{A:Around}{y x:V}{u v:Value}(ry:aj y u)(rx:aj x v)(fy:dt y=true)(fx:dt x=true):SeqAt.EqAt A s u v (sT y x):=by
 cases y with
 | aV=>
  cases ry;cases x with
  | aV=>cases rx;show SeqAt.EqAt.same _
  | bl b=>cases rx;show SeqAt.EqAt.none_bool b
  | int b=>let(t,rfl):=rx;show SeqAt.EqAt.none_int b t
  | str b=>let(t,rfl):=rx;show SeqAt.EqAt.none_str b t
  | _=>show aaO (show false=true from fx) aaK
 | bl a=>
  cases ry;cases x with
  | aV=>cases rx;show SeqAt.EqAt.bool_none a
  | bl b=>cases rx;show SeqAt.EqAt.bool_bool a b
  | int b=>let(t,rfl):=rx;show SeqAt.EqAt.bool_int a b t
  | str b=>let(t,rfl):=rx;show SeqAt.EqAt.bool_str a b t
  | _=>show aaO (show false=true from fx) aaK
 | int a=>
  let(t',rfl):=ry;cases x with
  | aV=>cases rx;show SeqAt.EqAt.int_none a t'
  | bl b=>cases rx;show SeqAt.EqAt.int_bool a t' b
  | int b=>let(t,rfl):=rx;show SeqAt.EqAt.int_int a t' b t
  | str b=>let(t,rfl):=rx;show SeqAt.EqAt.int_str a t' b t
  | _=>show aaO (show false=true from fx) aaK
 | str a=>
  let(t',rfl):=ry;cases x with
  | aV=>cases rx;show SeqAt.EqAt.str_none a t'
  | bl b=>cases rx;show SeqAt.EqAt.str_bool a t' b
  | int b=>let(t,rfl):=rx;show SeqAt.EqAt.str_int a t' b t
  | str b=>let(t,rfl):=rx;show SeqAt.EqAt.str_str a t' b t
  | _=>show aaO (show false=true from fx) aaK
 | _=>show aaO (show false=true from fy) aaK
def MJ(x:V)(u:Value):Bool:=match u with
 | .none=>sT .aV x
 | .bool b=>sT (.bl b) x
 | .int i _=>sT (.int i) x
 | .str z _=>sT (.str z) x
 | _=>false
def J8{x y:V}{u:Value}(r:aj y u)(f:dt y=true):MJ x u=sT y x:=by
 cases y with
 | aV=>cases r;rfl
 | bl b=>cases r;rfl
 | int i=>let(t,rfl):=r;rfl
 | str z=>let(t,rfl):=r;rfl
 | _=>show aaO (show false=true from f) aaK
def wL{x:V}:∀{xs:List V} {us:List Value},af xs us->xs.all dt=true->us.any (MJ x)=xs.any λy=>sT y x
 | _,_,.nil,_=>rfl
 | y::xs,u::us,.cons r t,f=>by rw[ab6,aaA]at f;rw[ab7,ab7,J8 r f.1,wL t f.2]
def rQ{A:Around}{s:Shared}{x:V}{v:Value}(rx:aj x v)(fx:dt x=true):∀{xs:List V} {us:List Value},af xs us->xs.all dt=true->∀u∈us,SeqAt.EqAt A s u v (MJ x u)
 | _,_,.nil,_=>λu hu=>by cases hu
 | y::xs,u::us,.cons r t,f=>λu' hu=>by
  rw[ab6,aaA]at f;rcases aaR.mp hu with rfl| hu
  .rw[J8 r f.1];show qf r rx f.1 fx
  .show rQ rx fx t f.2 u' hu
def Wy(x:V)(xs:List V):Bool:=xs.any λy=>sT y x
def rIn(K:gV)(neg:Bool):R2:=λx y H Q=>∃p xs,y= .ref p/\(fQ K H p xs\/mH K H p xs)/\dt x=true/\xs.all dt=true/\Q (.bl (if neg then ! Wy x xs else Wy x xs)) H
def EZ:ji X (compareOp .In) (rIn X.K false):=by
 intro δ s σ H x y v u Q I rx ry h;let(p,xs,rfl,hq,fx,fs,q):=h;cases ry;rcases hq with hq| hq
 .let(its,r,pl,hz):=I.list hq;show SeqAt.in_listAt (MJ x) pl.isList (λw hw=>rQ rx fx r fs w (by simpa using hw)) (.bl _,H,I,rfl,?_);rw[show its.toArray.any (MJ x)=its.any (MJ x) by simp,wL r fs];show q
 .let(its,r,pl,hz):=I.tuple hq;show SeqAt.in_tupleAt (MJ x) pl (λw hw=>rQ rx fx r fs w (by simpa using hw)) (.bl _,H,I,rfl,?_);rw[show its.toArray.any (MJ x)=its.any (MJ x) by simp,wL r fs];show q
def vN:cj X (.builtin "len") (λxs H Q=>∃p ys,xs=[.ref p]/\(fQ X.K H p ys\/mH X.K H p ys)/\Q (.int (-ys)) H):=by
 intro δ s σ H xs us Q I r h;let(p,ys,rfl,hq,q):=h;let(u,rfl,rx):=iI r;cases rx;let hn:=oE;rcases hq with hq| hq
 .let(its,r',pl,hz):=I.list hq;let hlen:=-r';show Calls.call_len_list pl.isList (by simp only[List.size_toArray] <;> omega) (.int (-ys),H,I.tok _,(s.toks+1,by rw[List.size_toArray,hlen]),q)
 .let(its,r',pl,hz):=I.tuple hq;let hlen:=-r';show len_tuple pl (by simp only[List.size_toArray] <;> omega) (.int (-ys),H,I.tok _,(s.toks+1,by rw[List.size_toArray,hlen]),q)
def xQ:cj X (.builtin "len") (λxs H Q=>∃z,xs=[.str z]/\-z<=sizeLine/\Q (.int (-z)) H):=by intro δ s σ H xs us Q I r h;let(z,rfl,hz,q):=h;let(u,rfl,t,rfl):=iI r;let hn:=oE;show len_str () (.int (-z),H,I.tok _,(_,rfl),q)
def cj.or{f:Value}{r r':List V->Hp->VK->Prop}(h:cj X f r)(h':cj X f r'):cj X f (λxs H Q=>r xs H Q\/r' xs H Q):=by
 intro δ s σ H xs us Q I rs q;rcases q with q| q
 .show h δ s σ H xs us Q I rs q
 .show h' δ s σ H xs us Q I rs q
def vX:cj X (.type "list") (λxs H Q=>∃p ys,xs=[.ref p]/\(fQ X.K H p ys\/mH X.K H p ys)/\∀l,H l=none->Q (.ref l) (upd H l (.lst ys))):=by
 intro δ s σ H xs us Q I r h;let(p,ys,rfl,hq,q):=h;let(u,rfl,rx):=iI r;cases rx
 let fin:∀(its:List Value),af ys its->-ys<=sizeLine->∀(h':Heap) (c':Nat),(∀b o',s.heap.get? b=!o'->h'.get? b=!o')->
   h'.get? s.heap.objs.size=some {cls:=.type "list",dict:=none,data:=.seq its.toArray c',slots:= #[]}->EP X δ σ Q (.ref s.heap.objs.size) {s with heap:=h'}:=λits r' hz h' c' kp e=>
  (.ref s.heap.objs.size,_,I.laid (t':=s.toks) kp (aam _) (show aH X.prog X.w _ h' _ (.lst ys) from(hz,its,c',r',e)),rfl,q _ (I.au.fresh (aam _)))
 rcases hq with hq| hq
 .let(its,r',pl,hz):=I.list hq;let hlen:=-r';let(o,ho,hc,n,hd):=pl.isList;show call_list_seq p (.inl rfl) ho hc hd (λh' c' kp e=>fin its r' hz h' c' kp e) (by simp only[List.size_toArray] <;> omega)
 .let(its,r',pl,hz):=I.tuple hq;let hlen:=-r';let(o,ho,hc,n,hd):=pl;show call_list_seq p (.inr rfl) ho hc hd (λh' c' kp e=>fin its r' hz h' c' kp e) (by simp only[List.size_toArray] <;> omega)
def tyV(K:gV)(T:String)(x:V)(H:Hp):Prop:=match x with
 | .str _=>T="str"
 | .int _=>T="int"
 | .ref p=>(T="list"/\∃xs,fQ K H p xs)\/(T="tuple"/\∃o,K.lookup p=!o/\o.cls= .type "tuple"/\o.dict=none)\/
   (T="dict"/\((∃Γ,H p=!(.dK Γ))\/∃Γ,H p=!(.dT Γ)))\/(T="set"/\∃S n,H p=!(.set S n))
 | _=>False
def RX{σ:St}{H:Hp}{T:String}{x:V}{v:Value}(I:Inv X δ σ H s)(r:aj x v)(ty:tyV X.K T x H):
  s.TypeIs v T/\∀a,v= .ref a->∃ob,s.heap.get? a=!ob/\ob.dict=none:=by
 cases x with
 | str z=>
  let(t,rfl):=r;cases(show T="str" from ty);show(typeIs_str s z t,λ_ e=>nomatch e)
 | int i=>
  let(t,rfl):=r;cases(show T="int" from ty);show(typeIs_int s i t,λ_ e=>nomatch e)
 | ref p=>
  cases r;rcases ty with ⟨rfl,xs,hq⟩| ⟨rfl,o,hk,hc,hd⟩| ⟨rfl,hk⟩| ⟨rfl,S,n,hk⟩
  .let(its,_,pl,_):=I.list hq;show(pl.isList.typeIs,λa e=>?_);cases e;let(o,n,e,c,hd,_):=pl;show(o,e,hd)
  .show((o,I.iL p o hk,hc),λa e=>?_);cases e;show(o,I.iL _ o hk,hd)
  .let z:∃o,s.heap.get? p=!o/\o.ExactDict:=by
    rcases hk with ⟨Γ,hk⟩| ⟨Γ,hk⟩
    .let(_,_,_,_,o,_,_,e,ex,_):=I.au p _ hk;show(o,e,ex)
    .let(_,_,_,_,o,_,_,e,ex,_):=I.au p _ hk;show(o,e,ex)
   let(o,e,ex):=z;show((o,e,ex.1),λa e2=>?_);cases e2;show(o,e,ex.2.1)
  .let(o,_,_,_,e,ex,_):=I.au p _ hk;show((o,e,ex.1),λa e2=>?_);cases e2;show(o,e,ex.2.1)
 | _=>show False.elim ty
def tBM(K:gV)(T:String)(r:V->List V->Hp->VK->Prop)(to:TE)(t:TA):TE:=λσ H Q=>to σ H λx H1=>tyV K T x H1/\t σ H1 λxs H2=>r x xs H2 Q
variable{o e:Expr}{es:List Expr}{to:TE}{t:TA}{name:Str}{apos cn:Pos}{T id:String}{r:V->List V->Hp->VK->Prop}
def Uk(pa:PlainAttrs T)(slot:Slot T name id)(hty:typeOf (.builtin id)=pure (.type "method_descriptor"))(hm:MtR X id r)(ho:PE X o to)(ha:PA X (e::es) t)
  (my:attributeBase o name X.env (eval o X.env)=eval o X.env|>1)
  (RA:((backTo cn (starEach (e::es) X.env)).all (λx=> ! x.1)&&(backToKw cn (keywordEach [] X.env)).all (λx=>x.1.isSome)
   &&decide (-(e::es)+-([]:List Keyword)+(if ([]:List Keyword).isEmpty then 0 else 1) < 30))=true|>1)
  (K':(apos.endLine==cn.line)=true|>1) (hs:starEach (e::es) X.env=(false, eval e X.env)::starEach es X.env|>1) (sv:(backTo cn (starEach es X.env)).any (·.1)=false|>1):
  PE X (.Call (.Attribute o name apos) (e::es) [] cn) (tBM X.K T r to t):=by
 intro δ s σ H Q I h;show wpAny_Call_method_late my RA K' rfl (a_ (ho δ s σ H _ I h) λv s1 xz=>?_);let(x,H1,I1,r1,ty,q1):=xz;let(h1,h2):=RX I1 r1 ty;show(T,id,pa,slot,hty,h1,h2,?_);let hA:=ha cn δ s1 σ H1 _ I1 q1;rw[hs]at hA⊢;show Calls.callWith_builtin (by change(false|| (backTo cn (starEach es X.env)).any (·.1))=false;rw[sv] <;> rfl) (Calls.evalArgs_plain ?_);show a_ hA λus s2 (vs,H2,I2,r2,q2)=>hm δ s2 σ H2 x vs v us Q I2 r1 r2 q2
end
def MtM(X:Cx)(id:String)(r:V->List V->Hp->VK->Prop):Prop:=
 ∀(δ:List (Addr×Obj)) (s:Shared) (σ:St) (H:Hp) (x:V) (xs:List V) (v:Value) (us:List Value) (Q:VK),Inv X δ σ H s->aj x v->af xs us->r x xs H Q->
  wpAny (model X.prog X.w) X.A (call (.builtin id) (v::us)) (EP X δ σ Q) X.xe s
def af.one:∀{x:V} {us:List Value},af [x] us->∃u,us=[u]/\aj x u
 | _,_,.cons r .nil=>(_,rfl,r)
def af.two:∀{x y:V} {us:List Value},af [x,y] us->∃u v,us=[u,v]/\aj x u/\aj y v
 | _,_,_,.cons r (.cons q .nil)=>(_,_,rfl,r,q)
def af.rep{xs:List V}{us:List Value}(h:af xs us):∀k:Nat,af (List.replicate k xs).flatten (List.replicate k us).flatten
 | 0=>.nil
 | k+1=>by rw[abt,abt,abI,abI];show af.append h (af.rep h k)
def ve(its:List Value):∀(k:Nat) (Θ:List Value),
  List.foldl (λx1 x2=>x1++x2) Θ.toArray (List.replicate k its.toArray)=(Θ++(List.replicate k its).flatten).toArray
 | 0,Θ=>by simp
 | k+1,Θ=>by
  let e:Θ.toArray++its.toArray=(Θ++its).toArray:=by simp
  let e2:(Θ++its)++(List.replicate k its).flatten=Θ++(List.replicate (k+1) its).flatten:=by rw[abt,abI,abm]
  rw[<-e2,<-ve its k (Θ++its),<-e,abt,acs]
section
variable{σ:St}{H:Hp}{l b:Addr}{xs ys zs:List V}
def Inv.XQ{its':List Value}{f:Array Value->Array Value}{t':Nat}(I:Inv X δ σ H s)(hH:H l=!(.lst xs))
  (e:s.heap.get? l=some {cls:=.type "list",data:=.seq its.toArray n}) (hf:f its.toArray=its'.toArray) (hv:af ys its') (hz:-ys<=sizeLine):
  Inv X δ σ (upd H l (.lst ys)) {s with heap:=s.heap.update l (Obj.mapSeq f),toks:=t'}:=by
 let q:=PySem.IsL.update e f;rw[hf]at q;show I.write (x:=l) (e:=l) (by rw[hH];show trivial) (.inl rfl) (λb' u hb hu=>(Heap.get?_update_other s.heap (Obj.mapSeq f) (Ne.symm hb)).trans hu) (_,q) ?_;show(hz,its',_,hv,q)
def Inv.Rc{t':Nat}(I:Inv X δ σ H s)(hv:af ys its)(hz:-ys<=sizeLine):
  Inv X δ σ (upd H s.heap.objs.size (.lst ys)) {s with heap:=s.heap.push {cls:=.type "list",data:=.seq its.toArray},toks:=t'}:=
 I.laid (λ_ _ q=>aah _ q) (aam _) (hz,its,0,hv,aaS _ rfl)
def Inv.fresh(I:Inv X δ σ H s):H s.heap.objs.size=none:=I.au.fresh (aam _)
def Inv.NM(I:Inv X δ σ H s)(hH:H l=!(.lst xs)):-xs<=sizeLine/\∃(its:List Value) (n:Nat),af xs its/\-xs=-its/\s.heap.get? l=some {cls:=.type "list",data:=.seq its.toArray n}:=by let(z,its,n,r,e):=I.au l _ hH;show(z,its,n,r,-r,e)
def Ju(h:n<=sizeLine):Builtin.List.listTooLong n=false:=by unfold Builtin.List.listTooLong;show aaB ()
end
section
def Ec:V->List V->Hp->VK->Prop:=λx vs H Q=>∃l xs y,x= .ref l/\vs=[y]/\H l=!(.lst xs)/\-xs < sizeLine/\Q .aV (upd H l (.lst (xs++[y])))
def uM:MtM X "list.append" Ec:=by intro δ s σ H x vs v us Q I rx rv h;let(l,xs,y,rfl,rfl,hH,hz,q):=h;cases rx;let(u,rfl,ru):=rv.one;let(z,its,n,r,hl,e):=I.NM hH;show call_meets F.slot_list_append (_,e,rfl) F.entry_list_append (F.args_list_append_2 _ _) (PySem.list_append l its.toArray n u (by rw[aaM];omega)) (e,?_);show(.aV,_,I.XQ (its':=its++[u]) hH e (by simp) (r.append (.cons ru .nil)) ?_,rfl,q);rw[aaC,List.length_singleton];omega
def Q3:R2:=λx y H Q=>∃l b xs zs,x= .ref l/\y= .ref b/\H l=!(.lst xs)/\H b=!(.lst zs)/\-xs+-zs<=sizeLine/\∀p,H p=none->Q (.ref p) (upd H p (.lst (xs++zs)))
def K3:ji X (binaryOp .Add) Q3:=by
 intro δ s σ H x y v u Q I rx ry h;let(l,b,xs,zs,rfl,rfl,hH,hB,hz,q):=h;cases rx;cases ry;let(z,its,n,r,hl,e):=I.NM hH;let(z2,I_,n2,r2,QX,e2):=I.NM hB;show PySem.P.add_list e e2 ?_ (by rw[aaM,aaM];omega);let ea:its.toArray++I_.toArray=(its++I_).toArray:=by simp
 rw[ea];show(.ref _,_,I.Rc (t':=s.toks) (r.append r2) (by rw[aaC];omega),rfl,q _ I.fresh)
def P_:R2:=λx y H Q=>∃l k xs,x= .ref l/\y= .int k/\H l=!(.lst xs)/\ - (2 ^ 63)<=k/\k < 2 ^ 63/\-xs * k.toNat<=sizeLine/\
 ∀p,H p=none->Q (.ref p) (upd H p (.lst (List.replicate k.toNat xs).flatten))
def NX{α:Type}(xs:List α)(k:Nat):-(List.replicate k xs).flatten=k * -xs:=by
 induction k with
 | zero=>simp
 | succ k ih=>rw[abt,abI,aaC,ih,Nat.succ_mul,Nat.add_comm]
def KN:ji X (binaryOp .Mult) P_:=by
 intro δ s σ H x y v u Q I rx ry h;let(l,k,xs,rfl,rfl,hH,h1,h2,hz,q):=h;cases rx;let(t,rfl):=ry;let(z,its,n,r,hl,e):=I.NM hH;let hlen:its.toArray.size * k.toNat<=sizeLine:=by rw[aaM,<-hl];show hz
 let Y_:¬its.toArray.size * k.toNat > (2 ^ 63 - 1) / 8:=by
  have:(sizeLine:Nat)<=(2 ^ 63 - 1) / 8:=@_
  omega
 let MC:¬(! Builtin.List.listFitsIndex k)=true:=by rw[fitsIndex_both h1 h2];show aaK
 let VC:¬Builtin.List.listTooLong (its.toArray.size * k.toNat)=true:=by rw[Ju hlen];show aaK
 let X_:List.foldl (λx1 x2=>x1++x2) #[] (List.replicate (if its.toArray.isEmpty=true then 0 else k.toNat) its.toArray)=(List.replicate k.toNat its).flatten.toArray:=by
  let f0:∀m:Nat,List.foldl (λx1 x2=>x1++x2) #[] (List.replicate m its.toArray)=(List.replicate m its).flatten.toArray:=λm=>by have:=ve its m [];rw[aa4]at this;show this
  rw[f0];cases its with
  | nil=>simp
  | cons a r'=>rw[if_neg (by simp)]
 show wpAny_binaryOp_repeat_ref (T:="list") (U:="int") @_ (_,e,rfl) (λs'=>typeIs_int s' k t) noFill_list_mul F.fills_int_mul F.slot_int_rmul repeat_list F.slot_int_index.lookup
  (call_meets F.slot_int_rmul (typeIs_int s k t) F.entry_int_rmul (F.args_int_rmul_2 _ _) (int___rmul___int_list k t l its.toArray n)
   (e,rfl,(_,e,rfl),call_meets F.slot_list_mul (_,e,rfl) F.entry_list_mul (F.args_list_mul_2 _ _) (AutoListH.list___mul___list_int_3 l its.toArray n k t MC Y_ VC) (e,?_)))
 rw[X_];show(.ref _,_,I.Rc (t':=s.toks) (r.rep k.toNat) (by rw[NX,Nat.mul_comm];show hz),rfl,q _ I.fresh)
end
end L2
namespace Att
open PySem PySem.W PySem.Calls PyProof.Rows
def pA{P:Params}{h:Heap}:∀(ns:List Int) (vs:List Value),WellAll P h vs (ns.map WData.int)->IntsAre vs ns:=by
 intro ns
 induction ns with
 | nil=>
  intro vs w;rw[List.map_nil]at w;cases w;show .nil
 | cons n ns ih=>
  intro vs w;rw[aa8]at w;cases w with
  | cons a b=>
   cases a;show .cons _ _ (ih _ b)
def GU{l:OpenLaw}{n:Nat}(hn:l.most=!n){P:Params}{h:Heap}{args:List WData}{vals:List Value}
  (Mg:l.row.toRowW.claim.pre args=true) (XI:WellAll P h vals args):
  ∃a vs ns,vals=[Value.ref a]/\args=[WData.list (ns.map WData.int)]/\h.get? a=some {cls:=.type "list",data:=.seq vs.toArray}/\IntsAre vs ns/\-ns<=n:=by
 let hsh:WShape.hasAll [] args [.list .int]=true:=(pre_splitW Mg).1;let hc:l.pre.holds [] {args:=args}=true:=(pre_splitW Mg).2;let(d,r,rfl,h1,h2):=hasAllW_cons hsh;obtain rfl:=hasAllW_nil h2;let(xs,rfl,h3):=hasW_list h1;let(ns,rfl):=items_int h3;let hlen:-ns<=n:=by
  unfold OpenLaw.pre at hc;let h4:(WTm.not (.lt (.lit (.int (n:Int))) (.len (.arg 0)))).holds [] {args:=[.list (ns.map .int)]}=true:=by let h4:=(holds_andW hc).1;rw[hn]at h4;show h4
  let h5:=condW_of h4 (w_not (w_lt w_lit (w_len_list (w_arg rfl))));rw[aae]at h5;show Nat.le_of_not_lt λq=>?_;let q':(n:Int) < ((-ns:Nat):Int):=()
  first
   | (rw[aax q']at h5;show aaO h5 @_)
   | (simp at h5;omega)
 cases XI with
 | cons w1 w2=>
  cases w2;cases w1 with
  | list ho zq=>show(_,_,ns,rfl,rfl,ho,pA ns _ zq,hlen)
def FG(l:OpenLaw)(args:List WData):l.row.toRowW.claim.post args (.bool true) args=true:=
 postW_of (r:=l.row.toRowW) (X:=(true==true))
  (show WShape.has [] (.bool true) .bool=true by first| rfl| decide| simp[WShape.has,WShape.arms,WShape.armsAll])
  (show(WTm.eq .res (.lit (.bool true))).value [] {args:=args,res:=!(.bool true),after:=args}=!(.bool (true==true)) from w_eq_bool (w_res rfl) w_lit) rfl
def zg{l:OpenLaw}{n:Nat}{q:Program}{loose:List Str}{XP:(Str->Option Value)->Heap->Prop}{YP:World->Heap->Prop}{d:DefRec}
  (hn:l.most=!n) (To:d.params.defaults=[])
  (call:∀(w:World) (s₀ s₁:Shared) (mg mb:Str->Option Value) (fa:Addr) (o:Obj) (pm cd doc:Value) (a:Addr) (vs:List Value) (ns:List Int),
   Ground q loose [] XP w s₀ mg mb s₁.heap->YP w s₁.heap->
   s₁.heap.get? fa=!o->o.data= .func (docDef d.name d.params d.body d.scope pm cd doc)->s₁.heap.CodeRec cd d.name->mg d.name=!(.ref fa)->
   s₁.heap.get? a=some {cls:=.type "list",data:=.seq vs.toArray}->IntsAre vs ns->-ns<=n->s₁.gens= #[]->
   codeAny (model l.prog w) callerA (.call (.ref fa) ([.ref a],[])) (λr s'=>r= .ok (.ret (.bool true))/\OldK s₁.heap s'.heap/\s'.os=s₁.os/\AllBare s'.gens) s₁):
  WalkO q loose XP YP l.row.toRowW d [] (λf vs=>PySem.call f vs):=by
 intro w s₀ s₁ mg mb G Y fa o pm cd doc dV kV ho hd xS hD MA hg args vals as Mg acT hrd XI hlo;obtain rfl:dV= .none:=Dflts.none hD To;obtain rfl:kV= .none:=Dflts.noKw hD;let(a,vs,ns,rfl,rfl,Pr,hints,hlen):=GU hn Mg XI;show enter_call (codeAny_mono (call w s₀ s₁ mg mb fa o pm cd doc a vs ns G Y ho (fd_plain hd) xS MA Pr hints hlen hg) λr s' hq=>?_);let(rfl,h2,h3,h4):=hq;show(.inl (.bool true,.bool true,[],rfl,λ_=>rfl,.bool true,FG l _,λ_=>(List.Pairwise.nil,λ_ hm=>(nomatch hm))),h2,h3,h4)
end Att
namespace L2
open PySem PySem.Spec PyProof.Rows
def uN:∀{vs:List Value} {ns:List Int},IntsAre vs ns->af (ns.map V.int) vs
 | _,_,.nil=>.nil
 | _,_,.cons n t h=>.cons (t,rfl) (uN h)
def QI(H:Hp):Prop:=∀b,H b=none\/∃o xs,H b=!(.tX o (.lst xs))
def Jj{P:Program}{w:World}{K:gV}{mg mb:Str->Option Value}{CX:AG}{k:Nat}{fa a:Addr}{fd:FuncData}{x:Str}{sp:Sp}{s₁:Shared}{vs:List Value}{ns:List Int}
  (KX:K.In s₁.heap) (KO:s₁.heap.Ns mainGlobals mg) (hb:s₁.heap.Ns builtinsNs mb) (hbb:∀x:Str,x≠"__name__"->mb x=bootBuiltins x) (Zr:s₁.heap.NoLimit) (hg:s₁.gens= #[])
  (ha:s₁.heap.get? a=some {cls:=.type "list",data:=.seq vs.toArray}) (hi:IntsAre vs ns) (hl:-ns<=sizeLine) (hr:bf k callerA)
  (F:∀base:Heap,K.In base->base.Ns mainGlobals mg->ae P w K mg base CX k fa fd [x] sp) (S7:∀(s:Shared) (u:Value),BindsTo s fd ([u],[]) [(x, u)])
  (G_:∀H:Hp,QI H->fQ K H a (ns.map V.int)->sp [.ref a] H (λv _=>v= .bl true) λ_ _ _=>False)
  (W3:∀H e s',CX [] H s₁ (λ_ _ _=>False) e s'->False):
  codeAny (model P w) callerA (.call (.ref fa) ([.ref a],[])) (λr s'=>r= .ok (.ret (.bool true))/\OldK s₁.heap s'.heap/\s'.os=s₁.os/\AllBare s'.gens) s₁:=by
 let rv:=uN hi;let Zk:=-hi
 let core:∀H:Hp,QI H->fQ K H a (ns.map V.int)->je P w H s₁.heap->(∀b,H b≠none->b=a)->(H a≠none->K.lookup a=none)->
   codeAny (model P w) callerA (.call (.ref fa) ([.ref a],[])) (λr s'=>r= .ok (.ret (.bool true))/\OldK s₁.heap s'.heap/\s'.os=s₁.os/\AllBare s'.gens) s₁:=by
  intro H hO hS au hA hK;let Dp:∀{b:Addr} {o:Obj},s₁.heap.get? b=!o->H b=none->(w8 s₁.heap H).get? b=!o:=λe n=>Kw e n;let VZ:∀{b:Addr} {o:Obj} {es:Array DictEntry} {ep:Nat},s₁.heap.get? b=!o->o.data= .dict es ep->H b=none:=λ{b o es ep} e d=>by
   cases q:H b with
   | none=>rfl
   | some u=>
    let e':b=a:=hA b (by rw[q];simp);subst e';rw[ha]at e;cases e;let d':Data.seq vs.toArray _=Data.dict es ep:=d;cases d'
  let WD:∀{b:Addr} {m:Str->Option Value},s₁.heap.Ns b m->(w8 s₁.heap H).Ns b m:=λ{b m} (o,es,ep,e,d,r)=>(o,es,ep,Dp e (VZ e d),d,r)
  let hKb:K.In (w8 s₁.heap H):=λb o e=>Dp (KX b o e) (by
   cases q:H b with
   | none=>rfl
   | some u=>
    let e':b=a:=hA b (by rw[q];simp);subst e'
    rw[hK (by rw[q];simp)]at e;cases e)
  let hM:Mod K mg (w8 s₁.heap H):=(hKb,WD KO,(mb,WD hb,hbb),let (mc,h1,h2):=Zr;(mc,WD h1,h2));let e0:AS P w K mg (w8 s₁.heap H) callerA [] s₁ H:=(rfl,hM,λb o e=>MB e,Nat.le_of_eq (GN _ _),trivial,λb hb=>absurd (show b∈([]:List Addr) from hb) (by simp),au,.of_eq hg);show codeAny_mono ((F _ hKb (WD KO)).run callerA [] s₁ H ([.ref a],[]) [.ref a] [.ref a] _ _ hr e0 (S7 s₁ (.ref a)) (.cons rfl .nil) (G_ H hO hS)) λr s' h=>?_;cases r with
  | error e=>show(W3 H e s' h).elim
  | ok fl=>
   cases fl with
   | next=>show False.elim h
   | brk=>show False.elim h
   | cont=>show False.elim h
   | ret u=>
    let(v,H',os,bare,un,ZT,r',q):=h;let q':v= .bl true:=q;subst q';obtain rfl:u=Value.bool true:=r';show(rfl,OldK.of_keep λb o e=>?_,os,bare);cases q:H b with
    | none=>show un.keep b o e q (by intro z;show absurd (show b∈([]:List Addr) from z) (by simp)) (by simp)
    | some u=>
     rcases hO b with z| ⟨ob,xs,z⟩
     .rw[q]at z;cases z
     .let z2:=un.jO b ob _ z;let(e1,_):=au b _ z;let(e2,_):=ZT b _ z2;rw[e]at e1;cases e1;show e2
 cases hk:K.lookup a with
 | some o=>
  let e:=KX a o hk;rw[ha]at e;cases e;show core (λ_=>none) (λ_=>.inl rfl) (.inr (_,vs.toArray,_,hk,rfl,rfl,rfl,by rw[List.size_toArray,Zk];show hl,by simpa using rv)) (λb u z=>by let z':(none:Option HO)=!u:=z;cases z') (λb z=>absurd rfl z) λz=>absurd rfl z
 | none=>
  show core (λb=>if b=a then !(.tX {cls:=.type "list",data:=.seq vs.toArray} (.lst (ns.map V.int))) else none) (λb=>?_) (.inl (.inr ({cls:=.type "list",data:=.seq vs.toArray},aaG rfl))) (λb u z=>?_) (λb z=>?_) λ_=>hk
  .by_cases hb:b=a
   .show .inr (_,_,aaG hb)
   .show .inl (aaE hb)
  .by_cases hb:b=a
   .let z':=(aaG hb).symm.trans z;cases z';subst hb;show(ha,by rw[aae];show hl,vs,_,rv,ha)
   .let z':=(aaE hb).symm.trans z;cases z'
  .by_cases hb:b=a
   .show hb
   .show aaO (aaE hb) z
def xB{l:PySem.W.OpenLaw}{n k:Nat}{q:Program}{loose:List Str}{XP:(Str->Option Value)->Heap->Prop}{YP:World->Heap->Prop}{d:DefRec}{K:Params->gV}{CX:World->AG}{sp:World->Sp}{x:Str}
  (hn:l.most=!n) (WH:n<=sizeLine) (To:d.params.defaults=[]) (hr:bf k callerA)
  (hY:∀(w:World) (h:Heap),YP w h->(K w.params).In h)
  (F:∀(w:World) (mg:Str->Option Value) (fa:Addr) (h:Heap),(K w.params).In h->h.Ns mainGlobals mg->mg d.name=!(.ref fa)->
   ∃fd:FuncData,(∀(s:Shared) (u:Value),BindsTo s fd ([u],[]) [(x, u)])/\
    ∀base:Heap,(K w.params).In base->base.Ns mainGlobals mg->ae l.prog w (K w.params) mg base (CX w) k fa fd [x] (sp w))
  (G_:∀(w:World) (H:Hp) (a:Addr) (ns:List Int),-ns<=n->QI H->fQ (K w.params) H a (ns.map V.int)->sp w [.ref a] H (λv _=>v= .bl true) λ_ _ _=>False)
  (W3:∀(w:World) (H:Hp) (s:Shared) (e:Value) (s':Shared),CX w [] H s (λ_ _ _=>False) e s'->False):
  PySem.W.WalkO q loose XP YP l.row.toRowW d [] (λf vs=>PySem.call f vs):=by
 show Att.zg hn To λw s₀ s₁ mg mb fa o pm cd doc a vs ns G Y ho hd xS MA Pr hints hlen hg=>?_;let KX:=hY w _ Y;let(fd,hb,hF):=F w mg fa _ KX G.T.g MA;show Jj KX G.T.g G.T.b G.T.builtins G.T.nolimit hg Pr hints (aaJ hlen WH) hr hF hb (λH hO hS=>G_ w H a ns hlen hO hS) λH e s'=>W3 w H s₁ e s'
end L2
/- THE Xi Nh (shape;LID, My.* are V0):
  My.Adr:a structure of Nd addresses Zb Yx Uc names (classes, Gn);My.Txt K t:a structure (Prop) of Nd equations over K;
  My.BW:{K} {implicit addresses ..} (e1:nsIn K mainGlobals "law"=!(!(.ref f))) (e2:K.lookup f=!(oc,od,.func (fnOf "law" "law" params body scope dV kV doc pm an aP ct),sl)) (e3:codeIn K aP "law"=true) .. :∃t,My.Txt K t
set_option maxRecDepth 100000 in
set_option maxHeartbeats 0 in
def PySem.Challenge.cw_LID_holds : PySem.Challenge.rw_LID.Holds := by
 w_on;o_law;k_head;(case hw=>w_witness2)
 k_fill
 show L2.xB (l:=PySem.Challenge.rw_LID) (n:=63) (k:=40) (x:="script") (CX:=fun w=>..) (sp:=fun _=>My.PB) rfl @_ rfl (rfl,@_,@_) (fun w h Y=>PySem.W.kIn_of Y) ?F ?S ?C
 case F=>
  intro w mg fa h KX G MA;let T:∃t,My.Txt (L2.ZS KX) t:=by
   dsimp only[L2.ZS]
   refine' My.BW ?e1 ?e2 ?e3 ..
   (case e1=>PySem.W.k_is)
   (case e2=>PySem.W.k_is)
   ..
  let(t,T):=T;let e0:=MA.symm.trans (PySem.W.mg_of KX G T.law);cases e0;show(_,λs u=>.of_eq rfl,λbase kb nb=>My.A_ T kb nb)
 case S=>exactλw H a ns hl hO hS=>..
 case C=>show ..
(Nd tactic k_is has no namespace:write k_is) -/
namespace L2
open PySem PySem.Spec PyProof.Rows
variable{P prog:Program}{w:World}{mg:Str->Option Value}{base h B:Heap}{qual:Str}{st:Stmt}{f x C:Addr}{fd:FuncData}{ps N xs ys:List Str}{A:Around}{H':Hp}{M:Model}{E:Value->Shared->Prop}{s:Shared}{env:Env}{outer:List Env}{o ox:Obj}{Q:Unit->Shared->Prop}{X:Cx}{δ pn p':List (Addr×Obj)}{σ:St}{scope:Scope}{pos:Pos}{Χ:List Nat}
def fL(s:Stmt):Arguments:=match s with
 | .FunctionDef _ a _ _ _ _ _ _ _ _=>a
 | _=>{posonlyargs:=[],args:=[],vararg:=none,kwonlyargs:=[],kw_defaults:=[],kwarg:=none,defaults:=[]}
def de(s:Stmt):List Stmt:=match s with
 | .FunctionDef _ _ b _ _ _ _ _ _ _=>b
 | _=>[]
def ν(s:Stmt):Scope:=match s with
 | .FunctionDef _ _ _ _ _ _ sc _ _ _=>sc
 | _=>{kind:=.function,names:=[],isGenerator:=false,isCoroutine:=false}
abbrev We:AG:=λ_ _ _ _ _ _=>False
abbrev E0:XK:=λ_ _ _=>False
structure dh(K:gV)(x qual:Str)(st:Stmt)(f:Addr)(fd:FuncData):Prop where
 ex:∃(oc:Value) (od:Option Addr) (kV doc pm:Value) (an:Option Addr) (aP ct:Value) (uy:Array (Option Value)),
  fd=PySem.W.fnOf x qual (fL st) (de st) (ν st) .none kV doc pm an aP ct/\K.lookup f=!(oc,od,.func fd,uy)/\PySem.W.codeIn K aP qual=true
 kp:PySem.W.keepIn K (.ref f)=true
section
variable{K:gV}
def dh.binds{x:Str}(F:dh K x qual st f fd)
  (h:∀(kV doc pm:Value) (an:Option Addr) (aP ct:Value) (us:List Value),-us=-ps->bindArgs (PySem.W.fnOf x qual (fL st) (de st) (ν st) .none kV doc pm an aP ct) (us,[])=pure (ps.zip us)):fK K fd ps []:=by
 let(oc,od,kV,doc,pm,an,aP,ct,uy,rfl,lk,xS):=F.ex;show .all (h kV doc pm an aP ct)
def Kn{x:Str}{oc:Value}{od an:Option Addr}{uy:Array (Option Value)}{kV doc pm aP ct:Value}(l:K.lookup f=!(oc,od,.func (PySem.W.fnOf x qual (fL st) (de st) (ν st) .none kV doc pm an aP ct),uy))
  (c:PySem.W.codeIn K aP qual=true) (k:PySem.W.keepIn K (.ref f)=true):dh K x qual st f (PySem.W.fnOf x qual (fL st) (de st) (ν st) .none kV doc pm an aP ct):=((oc,od,kV,doc,pm,an,aP,ct,uy,rfl,l,c),k)
end
def EF{k:Nat}(hr:bf k A):A.units+1 < cLine:=abf (Nat.add_le_add_left (by decide:1<=64) _) hr.units
def FK{A B:Prop}(h:B):if false=true then A else B:=by rw[aaE aaK];show h
def E4{A B:Prop}(h:A):if true=true then A else B:=by rw[aaG rfl];show h
def dW(H H':Hp):Prop:=∀b o,H b=!o->H' b=!o
def dW.refl(H:Hp):dW H H:=λ_ _ h=>h
def dW.trans{H H1 H2:Hp}(a:dW H H1)(b:dW H1 H2):dW H H2:=λc o h=>b c o (a c o h)
def dW.free{H:Hp}(e:dW H H'){l:Addr}(h:H' l=Option.none):H l=Option.none:=by
 cases q:H l with
 | none=>rfl
 | some o=>
  rw[e l o q]at h;cases h
def dW.seq{K:gV}{H:Hp}{a:Addr}{xs:List V}(e:dW H H')(h:fQ K H a xs):fQ K H' a xs:=by
 rcases h with (h| ⟨o,h⟩)| h
 .show .inl (.inl (e _ _ h))
 .show .inl (.inr (o,e _ _ h))
 .show .inr h
section
def aH.here{H:Hp}{a:Addr}{o:HO}(x:aH P w H h a o):∃ob,h.get? a=!ob:=by
 cases o with
 | lst xs=>let(_,_,_,_,e):=x;show(_,e)
 | tup xs=>let(_,_,_,ob,e,_):=x;show(ob,e)
 | dK Γ=>let(_,_,_,_,ob,_,_,e,_):=x;show(ob,e)
 | dT Γ=>let(_,_,_,_,ob,_,_,e,_):=x;show(ob,e)
 | set S n=>let(ob,_,_,_,e,_):=x;show(ob,e)
 | ins C dx fs=>let(_,_,_,e,_):=x;show(_,e)
 | own y=>show x
 | xd fs=>let(_,(ob,_,_,e,_),_):=x;show(ob,e)
 | WE lo hi=>let(_,_,_,e):=x;show(_,e)
 | tX ob u=>let(e,_):=x;show(_,e)
 | LA ps=>show(_,show h.get? a=!_ from x)
 | met f y=>show(_,show h.get? a=!_ from x)
 | ext φ=>have⟨_,z,_⟩:=x;show z
def KJ(B:Heap)(l:List Env)(x:Addr)(o:Obj)(fl:Value)(h:Heap):Prop:=
 B.StaysIn h/\B.get? x=none/\h.FunFrames B l/\∃(vs:Array Value) (T:Addr) (oT:Obj) (ts:Array Value),h.get? x=some {o with data:=.fields vs}/\vs[2]? =some .none/\vs[1]? =!(.ref T)/\
  B.get? T=none/\T≠x/\h.get? T=!oT/\oT.data= .fields ts/\ts[3]? =!fl
section
variable{l:List Env}{L:Addr}{vs:Array Value}
def qz{h':Heap}{T:Addr}{oT:Obj}{ts:Array Value}(hT:h.get? T=!oT)(hd:oT.data= .fields ts)(k:∀b,b≠T->h'.get? b=h.get? b):h.UpToSlots h':=λb ob e hn=>
 (ob.slots,(k b λz=>by rw[z,hT]at e;cases e;show hn _ hd).trans e)
def um{h':Heap}(hl:h.FunFrames B l)(u:h.UpToSlots h'):h'.FunFrames B l:=hl.of_keeps λb ob e hn=>by let(sl,q):=u b ob e hn;show(_,q,rfl)
def Ar{head:Value}{WB:Bool}(Rg:A.frames=!(env::outer))(hf:env.frame=!L)(hB:B.StaysIn s.heap)(hn:B.get? x=none)(hl:s.heap.FunFrames B (env::outer))(hx:s.heap.get? x=some {o with data:=.fields vs})(h1:1 < vs.size)(h2:vs[2]? =some .none)
  (h:∀h',KJ B (env::outer) x o (rawInt L) h'->s.heap.UpToSlots h'->Q Unit.unit {s with heap:=h'}):
  wpAny M A (do let  a<-frameOf env;let  pl<-entryPlaceOf L WB;let  n<-EntryCells.newEntry head a .none (rawInt L) .none pl;setField (.ref x) 1 n) Q E s:=by
 show aaf (wpAny_frameOf_fun Rg hl hf λg1 S1=>aaf (wpAny_entryPlaceOf λpl dq=>?_));let nx:x∉(env::outer).filterMap (·.frame):=λz=>by let(_,ob,e,d):=hl.mem z;rw[hx]at e;cases e;show d _ rfl
 let Si:g1.get? x=some {o with data:=.fields vs}:=(S1.2.1 x nx).trans hx;unfold EntryCells.newEntry newFields;show aaf (wpAny_newObj_type ?_ (dq.sizeOk5 _ _ _ _ _));let Lo:=aah (h:=g1) {cls:=.type "traceback",dict:=none,data:=.fields ([head,.ref L,.none,rawInt L,.none]++(if pl.isEmpty then List.replicate 6 Value.none else pl)).toArray} Si;show wpAny_setField Lo rfl h1 (h _ ?_ ?_)
 .let up1:∀b ob,b≠x->g1.get? b=!ob->((g1.push {cls:=.type "traceback",dict:=none,data:=.fields ([head,.ref L,.none,rawInt L,.none]++(if pl.isEmpty then List.replicate 6 Value.none else pl)).toArray}).update x (Obj.mapFields (·.setIfInBounds 1 (Value.ref g1.objs.size)))).get? b=!ob:=λb ob nb e=>
   (Heap.get?_update_other _ _ (Ne.symm nb)).trans (aah _ e)
  let neT:g1.objs.size≠x:=acE (aau Si)
  show(λb ob e=>up1 b ob (λz=>by rw[z,hn]at e;cases e) ((S1.2.1 b λz=>by rw[(hl.mem z).1]at e;cases e).trans (hB b ob e)),hn,hl.of_keeps λb ob e d=>?_,vs.setIfInBounds 1 (.ref g1.objs.size),g1.objs.size,_,_,Heap.get?_update_self _ Lo rfl,by rw[Array.getElem?_setIfInBounds_ne @_];show h2,by simp[h1],?_,neT,
   (Heap.get?_update_other _ _ (Ne.symm neT)).trans (aaS g1 rfl),rfl,?_)
  .let(sl,q):=S1.2.2 b ob e;show(_,up1 b _ (λz=>by rw[z,hx]at e;cases e;show d _ rfl) q,rfl)
  .cases q:B.get? g1.objs.size with
   | none=>rfl
   | some ob=>
    have:=aau (hB _ _ q);rw[<-S1.1]at this;show aaO this (abv _)
  .first
    | (simp;done)
    | (rcases dq with rfl| ⟨_,_,_,_,_,_,_,rfl⟩ <;> simp)
 .intro b ob e d;let(sl,q):=S1.2.2 b ob e;show(sl,?_);rw[Heap.get?_update_other _ _ (λz:x=b=>by rw[<-z,hx]at e;cases e;show d _ rfl)];show aah _ q
def HC(Rg:A.frames=!(env::outer))(hf:env.frame=!L)(hB:B.StaysIn s.heap)(hn:B.get? x=none)(hl:s.heap.FunFrames B (env::outer))(hx:s.heap.get? x=some {o with data:=.fields vs})(h1:vs[1]? =some .none)(h2:vs[2]? =some .none)
  (h:∀h',KJ B (env::outer) x o (rawInt L) h'->s.heap.UpToSlots h'->Q Unit.unit {s with heap:=h'}):wpAny M A (noteFrame (.ref x) env) Q E s:=by
 unfold noteFrame;simp only[hf];show aaf (wpAny_field hx rfl h1 ?_);rw[aaE @_];show Ar Rg hf hB hn hl hx (abw.mp h1).1 h2 h
def OA(Rg:A.frames=!(env::outer))(hf:env.frame=!L)(R:KJ B (env::outer) x o .none s.heap)
  (h:∀h',KJ B (env::outer) x o (rawInt L) h'->s.heap.UpToSlots h'->Q Unit.unit {s with heap:=h'}):wpAny M A (noteFrame (.ref x) env) Q E s:=by
 let(hB,hn,hl,vs,T,oT,ts,hx,h2,h1,nT,WK,hT,dT,h3):=R;unfold noteFrame;simp only[hf];show aaf (wpAny_field hx rfl h1 ?_);rw[if_pos (show(Value.ref T != Value.none)=true by simp)];show aaf (wpAny_field hT dT h3 ?_);rw[if_neg (show¬((Value.none==rawInt L)=true) by simp[rawInt])];show aaf (wpAny_setField hT dT (abw.mp h3).1 ?_);let zd:∀b,b≠T->(s.heap.update T (Obj.mapFields (·.setIfInBounds 3 Value.none))).get? b=s.heap.get? b:=λb nb=>Heap.get?_update_other _ _ (Ne.symm nb);let u:=qz hT dT zd;show Ar Rg hf (λb ob e=>(zd b λz=>by rw[z,nT]at e;cases e).trans (hB b ob e)) hn (um hl u) ((zd x (Ne.symm WK)).trans hx) (abw.mp h1).1 h2 λh' F' u'=>h h' F' (u.trans u')
def pQ{fl:Value}(R:KJ B l x o fl s.heap)(h:∀h',KJ B l x o .none h'->s.heap.UpToSlots h'->Q Unit.unit {s with heap:=h'}):wpAny M A (setFlight (.ref x) none) Q E s:=by let(hB,hn,hl,vs,T,oT,ts,hx,h2,h1,nT,WK,hT,dT,h3):=R;unfold setFlight;show aaf (wpAny_field hx rfl h1 ?_);rw[if_pos (show(Value.ref T != Value.none)=true by simp)];let z3:=(abw.mp h3).1;let zd:∀b,b≠T->(s.heap.update T (Obj.mapFields (·.setIfInBounds 3 ((none:Option Addr).elim Value.none λf=>rawInt f)))).get? b=s.heap.get? b:=λb nb=>Heap.get?_update_other _ _ (Ne.symm nb);let u:=qz hT dT zd;show wpAny_setField hT dT z3 (h _ (λb ob e=>(zd b λz=>by rw[z,nT]at e;cases e).trans (hB b ob e),hn,um hl u,vs,T,_,_,(zd x (Ne.symm WK)).trans hx,h2,h1,nT,WK,Heap.get?_update_self _ hT (Obj.isFreed_of_fields (Obj.data_mapFields dT _)),Obj.data_mapFields dT _,by simp[z3]) u)
def Kk{fl:Value}(R:KJ B (env::outer) x o fl h):KJ B outer x o fl h:=by let(hB,hn,(_,_,hl),r):=R;show(hB,hn,hl,r)
end
structure yF(P:Program)(w:World)(l:List Env)(H H':Hp)(h h' B:Heap)(x:Addr)(o:Obj):Prop where
 un:Un (kX l) [] H H' h h'
 ok:je P w H' B
 Az:KJ B l x o .none h'
 J_:∀b u,h.get? b=!u->H b=none->b∉kX l->B.get? b=!u
 Mr:∀b u,h.get? b=!u->b∉kX l->∃u',B.get? b=!u'
variable{l:List Env}{H:Hp}{h' RN:Heap}
def yF.au(F:yF P w l H H' h h' B x o):je P w H' h':=F.ok.kept F.Az.1
def yF.nx(F:yF P w l H H' h h' B x o):H' x=none:=by
 cases e:H' x with
 | none=>rfl
 | some u=>
  let(ob,q):=aH.here (F.ok x u e);rw[F.Az.2.1]at q;cases q
def yF.on(F:yF P w l H H' h h' B x o)(f:KJ B l x o .none RN)(u:h'.UpToSlots RN):yF P w l H H' h RN B x o where
 un :=⟨λb o e n hb _=>f.1 b o (F.J_ b o e n hb),
  λb o e n hb hx=>by
   let(sl,e1):=F.un.slot b o e n hb hx;let(_,o',mJ,hd):=F.Az.2.2.1.mem hb;rw[e1]at mJ;cases mJ;let(Sf,e2):=u b _ e1 hd;show(Sf,e2),
  F.un.free,
  λb o e _=>by
   by_cases hb:b∈kX l
   .let(_,o',mJ,hd):=F.Az.2.2.1.mem hb;let(sl,e2):=u b _ mJ hd;show(_,e2)
   .let(o',q):=F.Mr b o e hb;show(o',f.1 _ _ q),
  F.un.kI,F.un.jO,F.un.kJ⟩
 ok:=F.ok
 Az:=f
 J_:=F.J_
 Mr:=F.Mr
end
def bC(P:Program)(w:World):AG:=λouter H s E e s'=>
 ∃x o H' B,e= .ref x/\s'.os=s.os/\AllBare s'.gens/\yF P w outer H H' s.heap s'.heap B x o/\E o.cls o.dict H'
section
variable{H:Hp}{RN:Heap}
def yF.leave(I:Inv X δ σ H s)(hex:X.ex=[])(uQ:∀b∈kX X.outer,b∈kX X.stack)(ok:je X.prog X.w H' B)(f:KJ B X.outer x ox .none RN)(ZO:X.s₀.heap.get? x=none)
  (J_:∀b o,b≠x->s.heap.get? b=!o->H b=none->b∉kX X.stack->B.get? b=!o)
  (Mr:∀b o,b≠x->s.heap.get? b=!o->b∉kX X.stack->∃o',B.get? b=!o')
  (sl:∀b o,s.heap.get? b=!o->b∈kX X.stack->∃sl,RN.get? b=some {o with slots:=sl})
  (free:∀b o,s.heap.get? b=!o->H b=none->H' b=none)
  (kI:∀b xs,H b=!(.tup xs)->H' b=!(.tup xs)) (jO:∀b o u,H b=!(.tX o u)->H' b=!(.tX o u))
  (kJ:∀b ps,H b=!(.LA ps)->∃more,H' b=!(.LA (ps++more))):yF X.prog X.w X.outer X.H₀ H' X.s₀.heap RN B x ox:=by
 let nX:∀b o,X.s₀.heap.get? b=!o->b≠x:=λb o e z=>by rw[z,ZO]at e;cases e
 let jh:∀b:Addr,b∉X.ex:=λb z=>by rw[hex]at z;cases z
 let nS:∀b o,X.s₀.heap.get? b=!o->b∉kX X.outer->b∉kX X.stack:=λb o e hb z=>
  (aaR.mp (I.vo b z)).elim (λq=>aaN (aay (aau e) I.ok.above) q) hb
 show((λb o e n hb _=>?_,λb o e n hb _=>?_,λb o e n _=>?_,λb o e _=>?_,λb xs e=>kI b xs (I.base.kI b xs e),λb o u e=>jO b o u (I.base.jO b o u e),λb ps e=>?_),ok,f,λb o e n hb=>?_,λb o e hb=>?_)
 .show f.1 b o (J_ b o (nX b o e) (I.base.keep b o e n hb (jh b)) (I.base.free b o e n (jh b)) (nS b o e hb))
 .let(s1,e1):=I.base.slot b o e n hb (jh b);let(s2,e2):=sl b _ e1 (uQ b hb);show(s2,e2)
 .let(o',e1):=I.base.there b o e (jh b);show free b o' e1 (I.base.free b o e n (jh b))
 .let(o',e1):=I.base.there b o e (jh b);by_cases hb:b∈kX X.stack
  .let(s2,e2):=sl b _ e1 hb;show(_,e2)
  .let(o2,q):=Mr b o' (nX b o e) e1 hb;show(o2,f.1 _ _ q)
 .let(m1,e1):=I.base.kJ b ps e;let(m2,e2):=kJ b _ e1;show(m1++m2,by rw[e2,Array.append_assoc])
 .show J_ b o (nX b o e) (I.base.keep b o e n hb (jh b)) (I.base.free b o e n (jh b)) (nS b o e hb)
 .let(o',e1):=I.base.there b o e (jh b);show Mr b o' (nX b o e) e1 (nS b o e hb)
end
def cy(CX:AG)(X:Cx)(R:St->XK):Prop:=∀(δ:List (Addr×Obj)) (σ:St) (H:Hp) (s:Shared) (e:Value) (s':Shared),Inv X δ σ H s->CX X.stack H s (R σ) e s'->X.xe e s'
def C4(X:Cx)(R:St->XK):Prop:=∀(δ:List (Addr×Obj)) (σ:St) (H:Hp) (s:Shared) (x:Addr) (o:Obj) (vs:Array Value),Inv X δ σ H s->s.heap.get? x=some {o with data:=.fields vs}->vs[1]? =some .none->vs[2]? =some .none->X.s₀.heap.get? x=none->H x=none->
 R σ o.cls o.dict H->X.xe (.ref x) s
section
variable{K:gV}{cd:Value}{s₀:Shared}{H₀:Hp}{E:XK}
def vp:∀b∈kX outer,b∈kX (env::outer):=λb hb=>by let(en,he,hf):=abW.mp hb;show abW.mpr (en,aai _ he,hf)
def ο:cy (bC P w) (jN (bC P w) P w K mg base N qual scope f cd A outer s₀ H₀ E) (λ_=>E):=by
 intro δ σ H s e s' I hx;let(x,o,H',B,rfl,os,bare,F,hE):=hx;change wpAny _ _ (do noteFrame (.ref x) _;setFlight (.ref x) none) _ _ s';show aaf (OA (B:=B) I.ok.frames rfl F.Az λh4 f4 u4=>pQ f4 λh5 f5 u5=>?_);show(x,o,H',B,rfl,os.trans I.os,bare,yF.leave I rfl vp F.ok (Kk f5) ?_ (λb o _=>F.J_ b o) (λb o _=>F.Mr b o) (λb o q hb=>?_) (λb o q n=>F.un.free b o q n (by simp)) F.un.kI F.un.jO F.un.kJ,hE)
 .change s₀.heap.get? x=none;cases q:s₀.heap.get? x with
  | none=>rfl
  | some u=>
   let(u',e1):=I.base.there x u q nofun;by_cases hb:x∈kX (jN (bC P w) P w K mg base N qual scope f cd A outer s₀ H₀ E).stack
   .let(vs,_,_,_,ZA,_):=F.Az.2.2.2;let(_,o',mJ,hd):=F.Az.2.2.1.mem hb;rw[ZA]at mJ;cases mJ;show aaO rfl (hd _)
   .let(u2,e2):=F.Mr x u' e1 hb;rw[F.Az.2.1]at e2;cases e2
 .let(sl,e1):=F.un.slot b o q (I.pO b hb) hb (by simp);let(_,o',mJ,hd):=F.Az.2.2.1.mem hb;rw[e1]at mJ;cases mJ;let(Sf,e2):=(u4.trans u5) b _ e1 hd;show(Sf,e2)
def Mv:C4 (jN (bC P w) P w K mg base N qual scope f cd A outer s₀ H₀ E) (λ_=>E):=by
 intro δ σ H s x o vs I hx h1 h2 ZO nH hE;change wpAny _ _ (do noteFrame (.ref x) _;setFlight (.ref x) none) _ _ s
 let Se:∀env∈(jN (bC P w) P w K mg base N qual scope f cd A outer s₀ H₀ E).stack,∀b,env.frame=!b->b∈x::kX (jN (bC P w) P w K mg base N qual scope f cd A outer s₀ H₀ E).stack:=
  λenv he b hb=>aai _ (abW.mpr (env,he,hb))
 show aaf (HC (B:=PySem.W.hideAll s.heap (x::kX (jN (bC P w) P w K mg base N qual scope f cd A outer s₀ H₀ E).stack)) I.ok.frames rfl (λb o q=>PySem.W.of_hideAll _ q) (PySem.W.hideAll_none _ aal)
  (PySem.W.funFrames_hide I.stack Se) hx h1 h2 λh4 f4 u4=>pQ f4 λh5 f5 u5=>?_)
 let Sq:∀b u,b≠x->s.heap.get? b=!u->b∉kX (jN (bC P w) P w K mg base N qual scope f cd A outer s₀ H₀ E).stack->(PySem.W.hideAll s.heap (x::kX (jN (bC P w) P w K mg base N qual scope f cd A outer s₀ H₀ E).stack)).get? b=!u:=
  λb u nb q hb=>PySem.W.hideAll_get _ q λz=>(aaR.mp z).elim nb hb
 show(x,o,H,_,rfl,I.os,I.bare,yF.leave I rfl vp (λa o e=>(I.au a o e).pB (λb v hb q=>?_) (λ_ q=>q) λ_ _ q=>q) (Kk f5) ZO
  (λb o nb q _ hb=>Sq b o nb q hb) (λb o nb q hb=>(o,Sq b o nb q hb)) (λb o q hb=>?_) (λ_ _ _ n=>n) (λ_ _ q=>q) (λ_ _ _ q=>q) (λb ps q=>(#[],by rw[q];simp)),hE)
 .let tr:H b≠none:=λn=>by
   rcases hb with hb| hb
   .rw[hb,e]at n;cases n
   .rw[hb]at n;cases n
  show Sq b v (λz=>tr (by rw[z];show nH)) q λz=>tr (I.pO b z)
 .let(_,o',mJ,hd):=I.stack.mem hb;rw[q]at mJ;cases mJ;show(u4.trans u5) b o q hd
end
def Qv(sp:Sp)(nF:List V)(R:St->XK)(t:TA):TE:=λσ H Q=>t σ H λvs H1=>sp (vs++nF) H1 Q (R σ)
section
variable{CX:AG}{k:Nat}{sp:Sp}{nF:List V}{ds:List Value}{R:St->XK}{x:Str}{p:Pos}{e:Expr}{es:List Expr}{t:TA}
def wB{H:Hp}{Q:VK}{us:List Value}{vs:List V}(F:ae X.prog X.w X.K X.mg X.base CX k f fd ps sp)(hr:bf k X.A)(hb:fK X.K fd ps ds)(hd:af nF ds)(hx:cy CX X R)
  (I:Inv X δ σ H s) (r:af vs us) (h:sp (vs++nF) H Q (R σ)):wpAny (model X.prog X.w) X.A (call (.ref f) us) (EP X δ σ Q) X.xe s:=by
 let r2:af (vs++nF) (us++ds):=r.append hd;let hl:-(us++ds)=-ps:=by rw[<--r2];show F.len _ _ _ _ h
 show wpAny_call (codeAny_mono (F.run X.A X.stack s H (us,[]) (us++ds) (vs++nF) Q (R σ) hr I.Pt (hb s us I.iL hl) r2 h) λr s' hq=>?_);cases r with
 | error e=>show hx δ σ H s e s' I hq
 | ok fl=>
  cases fl with
  | ret u=>show I.after hq
  | next=>show False.elim hq
  | brk=>show False.elim hq
  | cont=>show False.elim hq
def yN(F:ae X.prog X.w X.K X.mg X.base CX k f fd ps sp)(hr:bf k X.A)(hg:Gl X x)(hm:X.mg x=!(.ref f))(hk:PySem.W.keepIn X.K (.ref f)=true)(hb:fK X.K fd ps ds)(hd:af nF ds)(hx:cy CX X R)
  (ha:PA X (e::es) t) (jn:(x==("__debug__":Str))=false|>2) (he:starEach (e::es) X.env=(false, eval e X.env)::starEach es X.env|>1) (dq:(backTo pos (starEach es X.env)).any (·.1)=false|>1):
  PE X (.Call (.Name x p) (e::es) [] pos) (Qv sp nF R t):=by
 intro δ s σ H Q I h;show wpAny_Call_Name_kw (kB I hg hm ?_ jn);show PySem.W.callWith_K (h₀:=X.base) I.ok.mod.T2 hk (a_ (ha pos δ s σ H _ I h) fun us s1 (vs,H1,I1,r,q)=>(I1.iL,?_)) he dq;show wB F hr hb hd hx I1 r q
end
structure gL(K:gV)(C:Addr)(iZ:List Value)(newId:String):Prop where
 ok:PySem.W.excIn K C iZ newId=true
def DD{K:gV}{N:Addr}{h0:Heap}{m:Str->Option Value}(q:PySem.W.nsOkIn K N=true)(X0:K.In h0)(X:K.In h)(n:h0.Ns N m):h.Ns N m:=by
 let(o,es,ep,e,r):=n;cases z:K.lookup N with
 | none=>unfold PySem.W.nsOkIn at q;rw[z]at q;cases q
 | some ob=>
  let e0:=X0 _ _ z;rw[e]at e0;cases e0;show(o,es,ep,X _ _ z,r)
def gL.obj{K:gV}{iZ:List Value}{newId:String}{h0:Heap}(c:gL K C iZ newId)(X0:K.In h0):
  ∃bm N nm q bs hdct sn sub ab col dd k0 k1 k2 k3 k5 mN,mN ("__init__":Str)=none/\
   ∀h:Heap,K.In h->h.get? C=!(excClassObj nm q C N bs bm hdct sn sub ab col dd k0 k1 k2 k3 k5 newId)/\h.Ns N mN/\OwnTail h iZ bm:=by
 let q:=c.ok;unfold PySem.W.excIn at q;split at q
 .rename_i dd cd sl ho;split at q
  .rename_i C' bm k0 k1 k2 k3 n k5 hm hs;rw[aaA,aaA,aaA,aaA,aaA]at q;let(((((q1,q2),q3),q4),q5),q6):=q;cases abh.mp q1;cases abh.mp q2;let q3:cd.hasDel=false:=by simpa using q3
   let OK:sl= #[k0,k1,k2,k3,!(.builtin newId),k5]:=by cases sl with| mk l=>show aba Array.mk hs
   let(c1,c2,c3,c4,c5,c6,c7,c8,c9,YJ,Y1):=cd;cases(show c3=_ from hm);cases(show Y1=_ from q3);subst OK;show(bm,c4,c1,c5,c2,c6,c7,c8,c9,YJ,dd,k0,k1,k2,k3,k5,h0.nsMap c4,PySem.W.nsMap_none_of_in X0 q5 (abh.mp q6),λh X=>(X _ _ ho,?_,PySem.W.tail_of_in X q4));show DD q5 X0 X (.of_isNs (PySem.W.isNs_of_in X0 q5))
  .cases q
 .cases q
def Cx.Q7(X:Cx)(R:St->XK)(δ:List (Addr×Obj)):Cx:={X with
 pn:=X.pn++δ
 xe:=λe s'=>∃rD σ H s,Inv {X with pn:=X.pn++δ} rD σ H s/\bC X.prog X.w X.stack H s (R σ) e s'}
def Cx.cx(X:Cx)(x:Addr)(pn:List (Addr×Obj)):Cx:={X with
 A:=X.A.mark (!(.ref x))
 calm:=false
 pn:=pn
 xe:=λ_ _=>False}
def Cx.Ok.pns(ok:X.Ok)(pn:List (Addr×Obj))(E:Value->Shared->Prop):({X with pn:=pn,xe:=E}:Cx).Ok:=
 (ok.mod,ok.kind,ok.glob,ok.blt,ok.above,ok.inj,ok.has,ok.RU,ok.hd,ok.frames,ok.NH,ok.R8,ok.bs,ok.vk,ok.AR,ok.A4,ok.nz,ok.MN)
def Cx.Ok.N5(ok:({X with pn:=pn,xe:=E}:Cx).Ok):X.Ok:=
 (ok.mod,ok.kind,ok.glob,ok.blt,ok.above,ok.inj,ok.has,ok.RU,ok.hd,ok.frames,ok.NH,ok.R8,ok.bs,ok.vk,ok.AR,ok.A4,ok.nz,ok.MN)
def Cx.Ok.cx(ok:X.Ok)(x:Addr)(pn:List (Addr×Obj)):(Cx.cx X x pn).Ok:=
 (ok.mod,ok.kind,ok.glob,ok.blt,ok.above,ok.inj,ok.has,ok.RU,nofun,ok.frames,ok.NH,ok.R8,ok.bs,ok.vk,ok.AR,ok.A4,ok.nz,ok.MN)
def Cx.Ok.MD(ok:(Cx.cx X x pn).Ok)(hd:X.calm=true->X.A.handled=none):X.Ok:=
 (ok.mod,ok.kind,ok.glob,ok.blt,ok.above,ok.inj,ok.has,ok.RU,hd,ok.frames,ok.NH,ok.R8,ok.bs,ok.vk,ok.AR,ok.A4,ok.nz,ok.MN)
section
variable{H:Hp}
def Inv.YR(I:Inv X δ σ H s)(E:Value->Shared->Prop):Inv {X with pn:=X.pn++δ,xe:=E} [] σ H s:=
 (I.ok.pns _ _,I.os,I.bare,I.base,I.loc,I.cell,I.free,I.fC,λp hp=>I.pin p (by rwa[aa0]at hp),I.au,I.len)
def Inv.lL(I:Inv {X with pn:=X.pn++δ,xe:=E} p' σ H s):Inv X δ σ H s:=
 (Cx.Ok.N5 I.ok,I.os,I.bare,I.base,I.loc,I.cell,I.free,I.fC,λp hp=>I.pin p (abE _ hp),I.au,I.len)
def SP.lL{D:oW}{f:Flow}{s':Shared}(h:SP {X with pn:=X.pn++δ,xe:=E} p' D f s'):SP X δ D f s':=by
 cases f with
 | next=>let(a,b,I,q):=h;show(a,b,Inv.lL I,q)
 | brk=>let(a,b,I,q):=h;show(a,b,Inv.lL I,q)
 | cont=>let(a,b,I,q):=h;show(a,b,Inv.lL I,q)
 | ret u=>let(v,a,b,I,r,q):=h;show(v,a,b,Inv.lL I,r,q)
def Inv.Pb(I:Inv X δ σ H s)(x:Addr){oe:Obj}(hx:s.heap.get? x=!oe)(hn:H x=none)(hL:x≠X.env.locals)(hf:x∉X.fs)(hd:∀v,oe.data≠ .cell v):Inv (Cx.cx X x (X.pn++δ++[(x, oe)])) [] σ H s:=
 (I.ok.cx _ _,I.os,I.bare,I.base,I.loc,I.cell,I.free,I.fC,λp hp=>by
  rw[aa0]at hp;rcases aa3.mp hp with z| z
  .show I.pin p z
  .let e:p=(x, oe):=by simpa using z
   subst e
   show(hx,hn,hL,hf,hd),I.au,I.len)
def Inv.RG(I:Inv X δ σ H s)(x:Addr):Inv (Cx.cx X x (X.pn++δ)) [] σ H s:=
 (I.ok.cx _ _,I.os,I.bare,I.base,I.loc,I.cell,I.free,I.fC,λp hp=>I.pin p (by rwa[aa0]at hp),I.au,I.len)
def Inv.IM{more:List (Addr×Obj)}(I:Inv (Cx.cx X x (X.pn++δ++more)) p' σ H s)(hd:X.calm=true->X.A.handled=none):Inv X δ σ H s:=
 (Cx.Ok.MD I.ok hd,I.os,I.bare,I.base,I.loc,I.cell,I.free,I.fC,λp hp=>I.pin p (abE _ (abE _ hp)),I.au,I.len)
def yF.back{s':Shared}(I:Inv X δ σ H s)(os:s'.os=s.os)(bare:AllBare s'.gens)(F:yF X.prog X.w X.stack H H' s.heap s'.heap B x o):Inv X δ σ H' s':=
 I.N9 os F.un F.au bare (λb z=>absurd z (by simp))
end
section
variable{K:gV}
def yM{D:Addr}{nU:List Value}{h9:String}{oe:Obj}{Q:Bool->Shared->Prop}(X:K.In s.heap)(d:gL K D nU h9)(hb:nU.contains (.type "BaseException")=true)
  (hu:PySem.W.subIn K (.ref C) (.ref D)=!true) (hx:s.heap.get? x=!oe) (hc:oe.cls= .ref C) (h:Q true s):wpAny M A (excMatches (.ref x) (.ref D)) Q E s:=by
 let(hp,g,dr,t,os):=s;let(bm',N',nm',q',bs',aa1,sn',ade,ab',agZ,Kf,k0',k1',k2',k3',k5',mN',ac5,VW):=d.obj X;let hD:=(VW _ X).1;let P9:(Value.ref D::bm').contains (.type "BaseException")=true:=by rw[List.contains_cons,(VW _ X).2.2.hasType hb,Bool.or_true]
 let W8:=PySem.W.looks_subIn (M:=M) X hu;let f:=tc_notTuple;unfold excMatches
 repeat (first| (with_reducible show wpAny_loadPart_at hx ?_;rw[hc])| with_reducible show wpAny_loadPart_at hD ?_| (with_reducible show wpAny_isSubtype_exc hD ?_;rw[P9])| with_reducible show W8.at ?_| wp_step)
 show h
end
section
variable{H H1:Hp}{s0:Shared}{h0:Heap}
def Kp(I:Inv X δ σ H' s)(uQ:X.stack=X.env::X.outer)(hf:X.env.frame=!X.env.locals)(F:yF X.prog X.w X.stack H1 H' h0 s.heap B x o):∃vs:Array Value,vs[2]? =some .none/\Inv (Cx.cx X x (X.pn++δ++[(x, {o with data:=.fields vs})])) [] σ H' s:=by
 let(vs,_,_,_,hx,Wt,_):=F.Az.2.2.2;let nfr:∀b∈kX X.stack,x≠b:=λb hb z=>by subst z;let(_,o',mJ,hd):=F.Az.2.2.1.mem hb;rw[hx]at mJ;cases mJ;show hd _ rfl
 show(vs,Wt,Inv.Pb I x hx F.nx (nfr _ (by rw[uQ];show abW.mpr (X.env,aal,hf))) (λz=>nfr x (by rw[uQ];show vp x z) rfl) (λv q=>by cases q))
end
def wG{R:St->XK}:cy (bC X.prog X.w) (Cx.Q7 X R δ) R:=by intro rD σ H s e s' I hx;show(rD,σ,H,s,(Cx.Ok.pns (Cx.Ok.N5 I.ok) _ _,I.os,I.bare,I.base,I.loc,I.cell,I.free,I.fC,I.pin,I.au,I.len),hx)
def lM(env:Env):List (Str×NameKind)->List (Str×Addr)->List (Str×Addr)
 | [],Θ=>Θ
 | p::r,Θ=>lM env r (if p.2== .free then (p.1, (env.cells.lookup p.1).getD 0)::Θ else Θ)
def sJ(h:∀p∈scope.names,p.2= .free->(env.cells.lookup p.1).isSome=true):closureFor scope env=pure (lM env scope.names []):=by
 let key:∀(l:List (Str×NameKind)) (Θ:List (Str×Addr)),(∀p∈l,p.2= .free->(env.cells.lookup p.1).isSome=true)->
   (forIn l Θ (λ(p:Str×NameKind) (r:List (Str×Addr))=>(if p.2== .free then (do let  c<-cellOf env p.1;pure (ForInStep.yield ((p.1, c)::r))) else pure (ForInStep.yield r):Sem (ForInStep (List (Str×Addr))))))=(pure (lM env l Θ):Sem (List (Str×Addr))):=by
  intro l
  induction l with
  | nil=>intro Θ _;rfl
  | cons p r ih=>
   intro Θ hp;rw[List.forIn_cons];let ih':=λa=>ih a λq hq=>hp q (aai _ hq);let(n,k):=p;by_cases hk:k= .free
   .subst hk;let hs:=hp (n, .free) aal rfl;cases hl:env.cells.lookup n with
    | none=>rw[show env.cells.lookup (n, NameKind.free).1=none from hl]at hs;cases hs
    | some c=>
     let e1:lM env ((n, .free)::r) Θ=lM env r ((n, c)::Θ):=by change lM env r (if (NameKind.free==NameKind.free)=true then (n, (env.cells.lookup n).getD 0)::Θ else Θ)=_;rw[aaG @_,hl];rfl
     let e2:cellOf env n=pure c:=by unfold cellOf;rw[hl]
     rw[e1];let e3:(NameKind.free==NameKind.free)=true:=@_
     simp only[e3,if_true,e2,pure_bind];show ih' _
   .let hb:(k==NameKind.free)=false:=by simpa using hk
    let e1:lM env ((n, k)::r) Θ=lM env r Θ:=by change lM env r (if (k==NameKind.free)=true then (n, (env.cells.lookup n).getD 0)::Θ else Θ)=_;rw[hb,aaE @_]
    rw[e1];simp only[hb,Bool.false_eq_true,if_false,pure_bind];show ih' _
 have:=key scope.names [] h;unfold closureFor
 first
  | show this
  | (simp only[bind_pure];show this)
  | (rw[bind_pure];show this)
def uG{env:Env}{y:Str}{c:Addr}:∀(l:List (Str×NameKind)) (Θ:List (Str×Addr)),(∀p∈l,p.2= .free->(env.cells.lookup p.1).isSome=true)->
  (Θ.lookup y=!c->env.cells.lookup y=!c)->(lM env l Θ).lookup y=!c->env.cells.lookup y=!c
 | [],Θ,_,ha,h=>ha h
 | (n, k)::r,Θ,hp,ha,h=>by
  show uG r _ (λq hq=>hp q (aai _ hq)) (λe=>?_) h;split at e
  .rename_i hk;rw[abN]at e;cases q:(y==n) with
   | true=>
    rw[q]at e;let e':(env.cells.lookup n).getD 0=c:=aav e;let hn:y=n:=by simpa using q
    subst hn;let hs:=hp (y, k) List.mem_cons_self (by simpa using hk);cases z:env.cells.lookup y with
    | none=>rw[show env.cells.lookup (y, k).1=none from z]at hs;cases hs
    | some d=>rw[z]at e';rw[<-e'];rfl
   | false=>rw[q]at e;show ha e
  .show ha e
def rM{env:Env}{y:Str}:∀(l:List (Str×NameKind)) (Θ:List (Str×Addr)),((y, NameKind.free)∈l\/(Θ.lookup y).isSome=true)->((lM env l Θ).lookup y).isSome=true
 | [],Θ,h=>by
  rcases h with h| h
  .cases h
  .show h
 | (n, k)::r,Θ,h=>by
  show rM r _ ?_;by_cases hy:y=n
  .subst hy;by_cases hk:k= .free
   .subst hk;right;change(List.lookup y (if (NameKind.free==NameKind.free)=true then (y, (env.cells.lookup y).getD 0)::Θ else Θ)).isSome=true;rw[aaG @_,abN,acm];rfl
   .rcases h with h| h
    .rcases aaR.mp h with z| z
     .show aaO (Prod.mk.inj z).2.symm hk
     .show .inl z
    .right;rw[if_neg (by simpa using hk)];show h
  .rcases h with h| h
   .rcases aaR.mp h with z| z
    .show aaO (Prod.mk.inj z).1 hy
    .show .inl z
   .right;split
    .rw[List.lookup_cons,show(y==n)=false by simpa using hy];show h
    .show h
def Cx.comp(X:Cx)(Nc:List Str)(scope:Scope)(C:Addr)(s:Shared)(H:Hp)(fp:List Addr):Cx:={X with
 N:=Nc
 s₀:=s
 H₀:=H
 env:=compEnvC scope (lM X.env scope.names []) C X.env
 outer:=X.stack
 ex:=fp
 fn:=λ_=>false
 pn:=[]
 xe:=λ_ _=>False}
def Β.of{P:List Str}{sc:Scope}(h:(sc.kind, sc.isCoroutine,sc.isGenerator)=(.function, false,false))(h2:N.Nodup/\N.take (-P)=P/\(∀x∈P,sc.names.lookup x=some .local\/sc.names.lookup x=some .cell)/\(∀y∈sc.names,y.2≠ .free):=by decide+kernel):Β N P sc:=by let(a,b,c,d):=h2;show(aba (·.1) h,aba (·.2.1) h,aba (·.2.2) h,a,b,c,d)
structure aw(X:Cx)(scope:Scope)(xs ys:List Str)(Χ:List Nat):Prop where
 kind:scope.kind= .function
 IF:∀p∈scope.names,p.2≠ .cell
 names:∀p∈scope.names,p.2= .local->scope.names.lookup p.1=some .local
 own:∀x∈xs,scope.names.lookup x=some .local
 free:∀p∈scope.names,p.2= .free->X.env.scope.names.lookup p.1=some .cell
 nd:(xs++ys).Nodup
 cap:∀q∈ys.zip Χ,X.N[q.2]? =!q.1/\X.env.scope.names.lookup q.1=some .cell/\scope.names.lookup q.1=some .free
 len:-ys=-Χ
def aw.of{sc:Scope}(_:Β N ps sc)(hN:X.N=N)(hs:X.env.scope=sc)(k:scope.kind= .function)(h:(∀p∈scope.names,p.2≠ .cell)/\(∀p∈scope.names,p.2= .local->scope.names.lookup p.1=some .local)/\(∀x∈xs,scope.names.lookup x=some .local)/\(∀p∈scope.names,p.2= .free->sc.names.lookup p.1=some .cell)/\(xs++ys).Nodup/\(∀q∈ys.zip Χ,N[q.2]? =!q.1/\sc.names.lookup q.1=some .cell/\scope.names.lookup q.1=some .free)/\-ys=-Χ:=by decide+kernel):aw X scope xs ys Χ:=by subst hN hs;let(a,b,c,d,e,f,g):=h;show(k,a,b,c,d,e,f,g)
def KY{env:Env}{y:Str}:∀{l:List (Str×NameKind)},(∀p∈l,p.2≠ .cell)->
  ((l.map fun (n, k)=>if (k==NameKind.free&&env.scope.kind== .function&&env.kindOf n==some .cell) then (n, NameKind.cell) else (n, k)).lookup y=some .cell\/
   (l.map fun (n, k)=>if (k==NameKind.free&&env.scope.kind== .function&&env.kindOf n==some .cell) then (n, NameKind.cell) else (n, k)).lookup y=some .free)->(y, NameKind.free)∈l
 | [],_,h=>by rcases h with h| h <;> cases h
 | (n, k)::r,hc,h=>by
  let ih:=@KY env y r (λp hp=>hc p (aai _ hp));rw[aa8]at h;by_cases q:(k==NameKind.free&&env.scope.kind== .function&&env.kindOf n==some .cell)=true
  .let hk:k= .free:=by rw[aaA,aaA]at q;simpa using q.1.1
   subst hk;by_cases hy:y=n
   .subst hy;show aal
   .show aai _ (ih ?_);let hb:(y==n)=false:=by simpa using hy
    simp only[q,if_true,List.lookup_cons,hb]at h;show h
  .by_cases hy:y=n
   .subst hy;let hb:(y==y)=true:=by simp
    simp only[q,Bool.false_eq_true,if_false,List.lookup_cons,hb]at h;rcases h with h| h
    .show aaO (aav h) (hc (y, k) aal)
    .rw[<-aav h];show aal
   .show aai _ (ih ?_);let hb:(y==n)=false:=by simpa using hy
    simp only[q,Bool.false_eq_true,if_false,List.lookup_cons,hb]at h;show h
def Ah{env:Env}{y:Str}(hk:env.scope.kind= .function)(hy:env.kindOf y=some .cell):∀{l:List (Str×NameKind)},l.lookup y=some .free->
  (l.map fun (n, k)=>if (k==NameKind.free&&env.scope.kind== .function&&env.kindOf n==some .cell) then (n, NameKind.cell) else (n, k)).lookup y=some .cell
 | [],h=>by cases h
 | (n, k)::r,h=>by
  let ih:=@Ah env y hk hy r;rw[aa8];rw[abN]at h;by_cases e:y=n
  .subst e;let hb:(y==y)=true:=by simp
   rw[hb]at h;have:k= .free:=aav h;subst this;let q:(NameKind.free==NameKind.free&&env.scope.kind== .function&&env.kindOf y==some .cell)=true:=by rw[hk,hy];rfl
   simp only[q,if_true,List.lookup_cons,hb]
  .let hb:(y==n)=false:=by simpa using e
   rw[hb]at h;by_cases q:(k==NameKind.free&&env.scope.kind== .function&&env.kindOf n==some .cell)=true
   .simp only[q,if_true,List.lookup_cons,hb];show ih h
   .simp only[q,Bool.false_eq_true,if_false,List.lookup_cons,hb];show ih h
def aw.has(S:aw X scope xs ys Χ)(ok:X.Ok):∀p∈scope.names,p.2= .free->(X.env.cells.lookup p.1).isSome=true:=λp hp hf=>by let(c,e):=ok.has p.1 (.inl (S.free p hp hf));rw[e];rfl
def Kg{α β:Type}:∀{xs:List α} {ys:List β} {j:Nat} {x:α} {y:β},xs[j]? =!x->ys[j]? =!y->(x, y)∈xs.zip ys
 | x::xs,y::ys,0,_,_,h1,h2=>by cases h1;cases h2;show aal
 | x::xs,y::ys,j+1,_,_,h1,h2=>aai _ (Kg (xs:=xs) (ys:=ys) (j:=j) h1 h2)
 | [],_,_,_,_,h1,_=>by simp at h1
 | _::_,[],_,_,_,_,h2=>by simp at h2
def oK(Χ:List Nat)(σ:St):St:=Χ.map λi=>(σ[i]?).join
def vf(n:Nat)(gg:TG):Prop:=∀v (os cs:St) H (Q:St->Hp->Prop),-os=n->gg v (os++cs) H Q->gg v (os++cs) H λσ' H'=>(∃WS:St,-WS=n/\σ'=WS++cs)/\Q σ' H'
def Cy(J:It)(n:Nat)(gg:TG)(tc:TT)(te:TE)(cs:St)(Q:VK)(H1:Hp)(D:Addr):Prop:=
 ∃W:Nat->Nat->List V->Hp->Prop,(∃m,W 0 m [] (upd H1 D (.lst [])))/\∀i m ys H2,W i m ys H2->H2 D=!(.lst ys)/\
  ((J.stop i H2/\Q (.ref D) H2)\/(J.go i H2/\∀x H3,J.T_ i H2 x H3->∀os:St,-os=n->gg x (os++cs) H3 λσ' H3'=>tc σ' H3' λb H4=>match b with
   | true=>te σ' H4 λy H5=>H5 D=!(.lst ys)/\-ys < sizeLine/\∃m',m' < m/\W (i+1) m' (ys++[y]) (upd H5 D (.lst (ys++[y])))
   | false=>∃m',m' < m/\W (i+1) m' ys H4))
def Le(wi:TI)(n:Nat)(gg:TG)(tc:TT)(te:TE)(Χ:List Nat):TE:=λσ H Q=>wi σ H λJ H1=>∀D,H1 D=none->Cy J n gg tc te (oK Χ σ) Q H1 D
def ZY(cs:List Expr)(env:Env):Sem Bool:=match cs with
 | []=>pure true
 | c::_=>isTrue c env (eval c env)
def WR(X:Cx)(cs:List Expr)(t:TT):Prop:=
 (cs=[]\/∃c,cs=[c])/\∀(δ:List (Addr×Obj)) (s:Shared) (σ:St) (H:Hp) (Q:Bool->Hp->Prop),Inv X δ σ H s->t σ H Q->wpAny (model X.prog X.w) X.A (ZY cs X.env) (TP X δ σ Q) X.xe s
def uc{elt target iter:Expr}{cs:List Expr}{scope:Scope}{pos:Pos}{it Θ:Value}{env:Env}(h:cs=[]\/∃c,cs=[c]):
  compTurn (.ListComp elt [(target,iter,cs,0)] scope pos) 0 it Θ env=(standAt iter.pos >>= λ_=>pyNext it >>= λr=>match r with
   | none=>pure (.done .next)
   | some v=>letOwnedTupleGo target it v >>= λ_=>assign target env v >>= λ_=>ZY cs env >>= λok=>
    (if ok=true then (eval elt env >>= λx=>call (.builtin "list.append") [Θ,x] >>= λ_=>pure Unit.unit) >>= λ_=>again (.compLoop (.ListComp elt [(target,iter,cs,0)] scope pos) 0 it Θ env)
     else again (.compLoop (.ListComp elt [(target,iter,cs,0)] scope pos) 0 it Θ env))):=by
 rcases h with rfl| ⟨c,rfl⟩ <;> (unfold compTurn ZY;dsimp only[List.getElem?_cons_zero,List.getElem?_cons_succ,List.getElem?_nil];simp only[List.forIn_cons,List.forIn_nil,bind_assoc,pure_bind,if_true];rfl)
section
variable{elt iter tg:Expr}{cs:List Expr}{wi:TI}{gg:TG}{tc:TT}{te:TE}
def uz(S:aw X scope xs ys Χ)(hc:X.calm=true)(hg:∀C s H fp,PG (Cx.comp X (xs++ys) scope C s H fp) tg gg)(hk:vf (-xs) gg)(ht:∀C s H fp,WR (Cx.comp X (xs++ys) scope C s H fp) cs tc)(he:∀C s H fp,PE (Cx.comp X (xs++ys) scope C s H fp) elt te)
    {H2:Hp} {s2:Shared} {it:Addr} {fp:List Addr} {tn:Nat->Heap->Prop} {J:It} {Q:V->Hp->Prop} {PQ:Value->Addr->Result->Shared->Prop} (I:Inv X δ σ H2 s2) (T:Turn X.prog X.w X.K tg J fp it tn) (t0:tn 0 s2.heap) (f2:∀b∈fp,qW X δ H2 b)
  (h:∀D,H2 D=none->Cy J (-xs) gg tc te (oK Χ σ) Q H2 D)
  (hPQ:∀D C s' H',Inv X δ σ H' s'->Q (.ref D) H'->(∃m,s'.heap.Ns C m)->H' C=none->X.s₀.heap.objs.size<=C->C≠X.env.locals->(∀z c,X.env.cells.lookup z=!c->c≠C)->(∀p∈X.pn++δ,p.1≠C)->PQ (.ref D) C (.ok .next) s'):
  wpAny (model X.prog X.w) X.A (newList []) (λΘ s3=>wpAny (model X.prog X.w) X.A (newFunctionEnv scope X.env.globals (lM X.env scope.names []) [] X.env.qual none .none (!X.env)) (λVq s4=>
   codeAny (model X.prog X.w) X.A (.compStart (.ListComp elt [(tg,iter,cs,0)] scope pos) 0 (.ref it) Θ {Vq with scope:=relabel scope X.env}) (PQ Θ Vq.locals) s4) X.xe s3) X.xe s2:=by
 let hD:H2 s2.heap.objs.size=none:=I.fresh;let(W,(m0,w0),step):=h _ hD;show wpAny_newObj_type ?_;let I3:Inv X δ σ (upd H2 s2.heap.objs.size (.lst [])) {s2 with heap:=s2.heap.push {cls:=.type "list",data:=.seq ([]:List Value).toArray}}:=Inv.Rc (t':=s2.toks) I (ys:=[]) (its:=[]) .nil (aca _);generalize WG:upd H2 s2.heap.objs.size (.lst [])=H3 at I3 w0;generalize hs3:({s2 with heap:=s2.heap.push {cls:=.type "list",data:=.seq ([]:List Value).toArray}}:Shared)=s3 at I3;let W6:∀b∈fp,H3 b=none:=λb hb=>by let(o,e,_):=T.obj _ _ t0 b hb;rw[<-WG,υ (aaN (aau e))];show(f2 b hb).1
 let t3:tn 0 s3.heap:=T.keep _ _ _ t0 λb hb o e=>by rw[<-hs3];show aah _ e
 show wpAny_newFunctionEnv S.IF (λy hy=>nomatch hy) (λh4 ns4 sb4=>?_) S.kind;let hC:H3 s3.heap.objs.size=none:=I3.fresh
 let kp:∀b o,s3.heap.get? b=!o->h4.get? b=!o:=λb o e=>
  (sb4.2 b (aaN (aau e))).trans (aah _ e)
 generalize Zw:({s3 with heap:=h4,toks:=s3.toks+-([]:List (Str×Value))}:Shared)=s4;let e4:s4.heap=h4:=by rw[<-Zw]
 let KC:∀z c,X.env.cells.lookup z=!c->c≠s3.heap.objs.size:=λz c e q=>by let(v,w):=I3.cell z c e;show abv _ (q▸w.lt)
 let uI:∀z c,(lM X.env scope.names []).lookup z=!c->X.env.cells.lookup z=!c:=λz c e=>uG scope.names [] (S.has I.ok) nofun e;let Lne:s3.heap.objs.size≠X.env.locals:=acE I3.lt;let ok:(Cx.comp X (xs++ys) scope s3.heap.objs.size s3 H3 fp).Ok:=by
  show(I3.ok.mod,S.kind,I3.ok.glob,I3.ok.blt,aam _,λz z' c e1 e2=>I3.ok.inj z z' c (uI z c e1) (uI z' c e2),λz hz=>?_,λz c hz=>(by cases hz),I3.ok.hd,I3.ok.frames,.inl rfl,λb hb=>(?_,λz c e=>?_),I3.bs,?_,λb o e hb=>?_,λb hb hf=>?_,I3.stack,I3.pO)
  .have:=rM (env:=X.env) scope.names [] (.inl (KY S.IF hz));show ab3.mp this
  .let(o,e,_):=T.obj _ _ t3 b hb;show aaN (aau e)
  .show(f2 b hb).2.2.2.2.1 z c (uI z c e)
  .show aaJ I3.ok.vk I3.sz
  .let(_,_,_,hy,_):=f2 b hb;let e0:=(I3.ok.bs b o e).1;rcases hy with hy| hy
   .show I3.ok.AR b o e hy
   .show aaO (aay (aau e0) hy) (abv _)
  .let(_,hl,hfs,_):=f2 b hb;show(aaR.mp (I3.vo b hf)).elim hl hfs
 let hlen:-((List.replicate (-xs) (none:Option V))++oK Χ σ)=-(xs++ys):=by rw[aaC,aaC,aa9,S.len];unfold oK;rw[aae]
 let I4:Inv X δ σ H3 s4:=by rw[<-Zw];show I3.kept kp
 let Ic:Inv (Cx.comp X (xs++ys) scope s3.heap.objs.size s3 H3 fp) [] ((List.replicate (-xs) (none:Option V))++oK Χ σ) H3 s4:=by
  show(ok,by rw[<-Zw];rfl,I4.bare,Un.kept (by rw[e4];show kp),(_,by rw[e4];show ns4,λi z v e1 e2 e3=>?_),λz c e=>I4.cell z c (uI z c e),hC,λz c e=>I4.fC z c (uI z c e),(λp hp=>nomatch hp),I4.au,hlen);let e1:(xs++ys)[i]? =!z:=e1;by_cases hi:i < -xs
  .rw[aaF (by rw[aa9];show hi),ab5,aaG hi]at e2;cases e2
  .obtain⟨j,rfl⟩:∃j,i=-xs+j:=(i - -xs,());let e1:ys[j]? =!z:=by rw[aat (),Nat.add_sub_cancel_left]at e1;show e1
   let e2:(oK Χ σ)[j]? =!(!v):=by rw[aat (by rw[aa9];omega),aa9,Nat.add_sub_cancel_left]at e2;show e2
   unfold oK at e2;rw[aan]at e2;cases hi:Χ[j]? with
   | none=>rw[hi]at e2;cases e2
   | some i=>
    rw[hi]at e2;let e2:(σ[i]?).join=!v:=aav e2;let e2:σ[i]? =!(!v):=by
     cases q:σ[i]? with
     | none=>rw[q]at e2;cases e2
     | some o=>rw[q]at e2;show aba some e2
    let(c1,c2,c3):=S.cap (z, i) (Kg e1 hi);let c4:=Ah (env:=X.env) I.ok.kind c2 c3;let c3:(z, NameKind.free)∈scope.names:=PySem.mem_of_lookup c3;let(m,hn,hl):=I4.loc;let(u,r,lk):=hl i z v c1 e2 (.inr (.inl c2));show(u,r,.inr (.inl c4,?_));rcases lk with ⟨k,_⟩| ⟨_,c,BV,z'⟩
    .show aaO ((show X.env.scope.names.lookup z=some .local from k).symm.trans c2) @_
    .let(d,hd):=ab3.mp (rM (env:=X.env) scope.names [] (.inl c3));have:=uI z d hd;rw[BV]at this;cases this;show(c,hd,z')
 let loop:codeAny (model X.prog X.w) X.A (.compLoop (.ListComp elt [(tg,iter,cs,0)] scope pos) 0 (.ref it) (.ref s2.heap.objs.size) (compEnvC scope (lM X.env scope.names []) s3.heap.objs.size X.env)) (PQ (.ref s2.heap.objs.size) s3.heap.objs.size) s4:=by
  let Yh:∀{H':Hp},(∀b∈fp,H' b=none)->∀b∈fp,qW (Cx.comp X (xs++ys) scope s3.heap.objs.size s3 H3 fp) [] H' b:=λhn b hb=>
   (hn b hb,(ok.R8 b hb).1,ok.A4 b hb,.inl hb,(ok.R8 b hb).2,(λp hp=>nomatch hp))
  show codeAny_loop rfl (λn s'=>∃(i:Nat) (zs:List V) (os:St) (H':Hp),-os=-xs/\Inv (Cx.comp X (xs++ys) scope s3.heap.objs.size s3 H3 fp) [] (os++oK Χ σ) H' s'/\tn i s'.heap/\(∀b∈fp,H' b=none)/\W i n zs H') (λn s5 z=>?_) m0 (0,[],List.replicate (-xs) none,H3,by rw[aa9],Ic,T.keep _ _ _ t3 (λb hb o e=>by rw[e4];show kp b o e),W6,w0);let(i,zs,os,H5,l5,I5,t5,Wb,w5):=z;change wpAny _ _ ((compTurn _ 0 (.ref it) _ _).onRaise _) _ _ s5;show wpAny_noted ?_;rw[uc (ht s3.heap.objs.size s3 H3 fp).1];show aaf (wpAny_standAt (aaf ?_));obtain⟨wI,stop| go⟩:=step i n zs H5 w5
  .let(stop,q):=stop;show a_ (T.done (Cx.comp X (xs++ys) scope s3.heap.objs.size s3 H3 fp) rfl rfl rfl hc i [] s5 _ H5 _ I5 (Yh Wb) t5 stop) λr s6 xz=>?_;let(hr,I6):=xz;subst hr;show aaw (hPQ _ _ s6 H5 ?_ q ?_ I6.free ?_ Lne KC λp hp z=>?_)
   .show I3.N9 I6.os I6.base I6.au I6.bare λb hb=>?_;let(_,g1,_,g3,g4,g5):=f2 b hb;show(g3,g1,g4,g5)
   .let(m,hn,_):=I6.loc;show(m,hn)
   .show I3.sz
   .show aaN (aau (I3.pin p hp).1) z
  .let(go,turn):=go;show a_ (T.item (Cx.comp X (xs++ys) scope s3.heap.objs.size s3 H3 fp) rfl rfl rfl hc i [] s5 _ H5 _ I5 (Yh Wb) t5 go) λr s6 xz=>?_;let(u,hr,h6):=xz;subst hr;show aaf (a_ h6 λ_ s7 xz=>?_);let(y,H7,I7,r7,y7,t7,fr7):=xz;let I7':=I7.pinned (Yh fr7) (T.obj _ _ t7);show aaf (abl (hg _ _ _ _ _ s7 _ H7 y u _ I7' r7 (hk y os _ H7 _ l5 (turn y _ y7 os l5))) (λ_ s8 z8=>?_) λ_ _ f=>f.elim);let(σ8,H8,I8,(os8,l8,e8),q8):=z8;subst e8;show aaf (abl ((ht _ _ _ _).2 _ s8 _ _ _ I8 q8) (λb s9 z9=>?_) λ_ _ f=>f.elim);let(H9,I9,q9):=z9;cases b with
   | false=>
    let(m9,hm9,w9):=q9;show aaw (rfl,m9,hm9,i+1,zs,os8,_,l8,I9.jP,T.keep _ _ _ t7 λb hb o e=>(I9.pin (b, o) (aaL _ (aaL _ (eW hb e)))).1,λb hb=>?_,w9);let(o,e,_):=T.obj _ _ t7 b hb;show(I9.pin (b, o) (aaL _ (aaL _ (eW hb e)))).2.1
   | true=>
    show aaf (aaf (abl (he _ _ _ _ _ s9 _ _ _ I9 q9) (λu10 s10 z10=>?_) λ_ _ f=>f.elim));let(v10,H10,I10,r10,Yy,l10,m10,YS,w10):=z10;show aaf (abl (uM (X:=Cx.comp X (xs++ys) scope s3.heap.objs.size s3 H3 fp) _ s10 _ H10 (.ref s2.heap.objs.size) [v10] _ [u10] (λ_ H'=>H'=upd H10 s2.heap.objs.size (.lst (zs++[v10]))) I10 rfl (.cons r10 .nil) (_,zs,v10,rfl,rfl,Yy,l10,rfl)) (λ_ s11 z11=>?_) λ_ _ f=>f.elim);let(_,H11,ZH,_,e11):=z11;subst e11;show aaw (aaw (rfl,m10,YS,i+1,zs++[v10],os8,_,l8,ZH.jP,T.keep _ _ _ t7 λb hb o e=>(ZH.pin (b, o) (aaL _ (aaL _ (eW hb e)))).1,λb hb=>?_,w10));let(o,e,_):=T.obj _ _ t7 b hb;show(ZH.pin (b, o) (aaL _ (aaL _ (eW hb e)))).2.1
 show codeAny_compStart_list loop (T.self X.A 0 _ _ _ (T.keep _ _ _ t3 (λb hb o e=>by rw[e4];show kp b o e)) loop)
def K1(S:aw X scope xs ys Χ)(hc:X.calm=true)(hi:PI X tg iter wi)(hg:∀C s H fp,PG (Cx.comp X (xs++ys) scope C s H fp) tg gg)(hk:vf (-xs) gg)(ht:∀C s H fp,WR (Cx.comp X (xs++ys) scope C s H fp) cs tc)(he:∀C s H fp,PE (Cx.comp X (xs++ys) scope C s H fp) elt te)(hs:(∀x,foldedSetIterable iter X.env x=pure x)|>3):
  PE X (.ListComp elt [(tg,iter,cs,0)] scope pos) (Le wi (-xs) gg tc te Χ):=by
 intro δ s σ H Q I h;rw[eval_ListComp];show wpAny_comprehension_free (use:=none) rfl hs (sJ (S.has I.ok)) S.kind S.names (a_ (hi δ s σ H _ I h) λv s1 h1=>a_ h1 λWO s2 h2=>?_);let(it,fp,tn,J,H2,rfl,I2,T,t0,f2,q):=h2;show uz S hc hg hk ht he (Q:=Q) I2 T t0 f2 q λD C s' H' I' q' n' hC hz hL RB hp=>?_;let(m,n'):=n';show(m,n',λh' sb=>(.ref D,H',I'.turned (it:=C) (t':=s'.toks) (λb o hb e=>(sb.2 b hb).trans e) hC hL (.inr hz) RB hp,rfl,q'))
def oX{i:Nat}{y:Str}{py mU:Pos}(hN:X.N.Nodup)(LO:X.N[i]? =!y)(hy:Loc X.env.scope y)(S:aw X scope xs ys Χ)(hc:X.calm=true)(hi:PI X tg iter wi)(hg:∀C s H fp,PG (Cx.comp X (xs++ys) scope C s H fp) tg gg)(hk:vf (-xs) gg)(ht:∀C s H fp,WR (Cx.comp X (xs++ys) scope C s H fp) cs tc)(he:∀C s H fp,PE (Cx.comp X (xs++ys) scope C s H fp) elt te)
  (Jb:swapsWith (.ListComp elt [(tg,iter,cs,0)] scope pos) (!(.Name y py)) mU.line X.env=pure true) (hs:∀x,foldedSetIterable iter X.env x=pure x)
  (hf:X.fn y=true\/X.env.scope.names.lookup y=some .local):
  PS X (.Assign [.Name y py] (.ListComp elt [(tg,iter,cs,0)] scope pos) mU) (λD σ H=>Le wi (-xs) gg tc te Χ σ H λv H1=>D.nx (σ.set i (!v)) H1):=by
 intro δ s σ H D I h;rw[exec_Assign_Name_used _ _ _ _ Jb];show aaf (wpAny_standAt (aaf ?_));change wpAny _ _ (do let  _<-comprehension (.ListComp elt [(tg,iter,cs,0)] scope pos) scope X.env _ (newList []) false (eval iter X.env) (!(assign (.Name y py) X.env))) _ _ s;show aaf (abl (wpAny_comprehension_free (use:=!(assign (.Name y py) X.env)) (Q:=λ_ s'=>SP X δ D .next s') rfl hs (sJ (S.has I.ok)) S.kind S.names (a_ (hi δ s σ H _ I h) λv s1 h1=>a_ h1 λWO s2 h2=>?_)) (λ_ s' hq=>aaw (aaw hq)) λ_ _ e=>e);let(it,fp,tn,J,H2,rfl,I2,T,t0,f2,q):=h2;show uz S hc hg hk ht he (Q:=λv H1=>D.nx (σ.set i (!v)) H1) I2 T t0 f2 q λDl C s' H' I' q' n' hC hz hL RB hp=>?_;let(m,n'):=n';change wpAny _ _ (assign (.Name y py) X.env (.ref Dl)) _ _ s';show wpAny_assign_Name (uD I' hN LO hy (v:=.ref Dl) rfl (λs3 I3 Ym=>?_) hf);let(a,Ym,ha):=Ym;let hCa:C≠a:=by
  rcases ha with rfl| ha
  .show hL
  .show(RB _ _ ha).symm
 show(m,n'.sameBut Ym hCa,λh' sb=>(_,H',I3.turned (it:=C) (t':=s3.toks) (λb o hb e=>(sb.2 b hb).trans e) hC hL (.inr hz) RB hp,q'))
end
section
variable{K:gV}
def dh.okX{x:Str}{k:Nat}{sp:Sp}(F:dh K x qual st f fd)(S:Β N ps (ν st))(len:∀vs H Q E,sp vs H Q E->-vs=-ps)
  (mG:∀(aP:Value) (A:Around) (outer:List Env) (s:Shared) (H:Hp) (vs:List V) (Q:VK) (E:XK),bf k (A.deeper (envOfC qual (ν st) s.heap.objs.size f aP))->sp vs H Q E->
   ∃t,xT (jN (bC P w) P w K mg base N qual (ν st) f aP A outer s H E) (de st) t/\t {nx:=λ_ H'=>Q .aV H',rt:=Q} (start N vs) H):ae P w K mg base (bC P w) (k+1) f fd ps sp:=by
 let(oc,od,kV,doc,pm,an,aP,ct,uy,rfl,lk,xS):=F.ex;show OT lk xS S len λA outer s H vs Q E hr G_=>mG aP A outer s H vs Q E hr G_
end
def iR:cy (bC P w) X (λ_=>E0):=by intro δ σ H s e s' _ hx;let(_,_,_,_,_,_,_,_,hE):=hx;show hE.elim
def log2_lt{n:Nat}{k:Nat}(h:n < 2 ^ k)(hk:0 < k):n.log2 < k:=by
 by_cases h0:n=0
 .rw[h0,show Nat.log2 0=0 from rfl];show hk
 .show(Nat.log2_lt h0).mpr h
def hG(i:Int):Prop:=i.natAbs < 2 ^ 8000
def Fo{i j:Int}(hi:hG i)(hj:hG j):IntMulOk i j:=by
 let b:∀{i:Int},hG i->Builtin.Int.intBits i<=8000:=λ{i} h=>by
  unfold Builtin.Int.intBits;split
  .show aca _
  .have:=log2_lt (k:=8000) h @_;omega
 let b1:=b hi;let b2:=b hj;let h3:Builtin.Int.intTooBig (Builtin.Int.intBits i+Builtin.Int.intBits j)=false:=by
  unfold Builtin.Int.intTooBig;show aaB ?_;have:(bitsLine:Int)=134217728:=@_
  omega
 unfold IntMulOk;rw[h3,acC];show aaK
section
def ND:ji X (binaryOp .Mult) (rI (λi j=>hG i/\hG j) λi j=>.int (i * j)):=Wu λ_ _ _ _ _ _ _ hc q=>mul_int q (Fo hc.1 hc.2)
def Ap:ji X (binaryOp .FloorDiv) (rI (λ_ j=>j≠0/\hG j) λi j=>.int (i.fdiv j)):=Wu λ_ _ _ _ _ _ _ hc q=>
 floordiv_int hc.1 q (.inl (PyProof.noPylong_of_log2 (aay (log2_lt (k:=8000) hc.2 @_) @_)))
end
def x4:V->Option Value
 | .ty T=>!(.type T)
 | .ref C=>!(.ref C)
 | _=>none
def DZ{c:V}{u t:Value}(r:aj c u)(h:x4 c=!t):u=t:=by
 cases c with
 | ty T=>cases r;show aav h
 | ref C=>cases r;show aav h
 | _=>cases h
section
def jZ:cj X (.builtin "isinstance") (λxs H Q=>∃x c t t' b,xs=[x,c]/\iV X.K H x t/\x4 c=!t'/\PySem.W.kitOne X.K t t'=!b/\Q (.bl b) H):=by intro δ s σ H xs us Q I r h;let(x,c,t,t',b,rfl,ty,hc,hk,q):=h;let(u,u',rfl,r1,r2):=Lk r;cases DZ r2 hc;show E_ I r1 ty hk λtk=>(.bl b,H,I.tok tk,rfl,q)
end
def sD:List V->List V->Bool
 | [],[]=>true
 | x::xs,y::ys=>sT x y&&sD xs ys
 | _,_=>false
def mi:∀(xs ys:List V) (e:Nat->Bool),(∀j x y,xs[j]? =!x->ys[j]? =!y->e j=sT x y)->((List.range (min (-xs) (-ys))).all e&&-xs==-ys)=sD xs ys
 | [],[],e,_=>rfl
 | [],_::_,e,_=>by simp[sD]
 | _::_,[],e,_=>by simp[sD]
 | x::xs,y::ys,e,h=>by
  let ih:=mi xs ys (λj=>e (j+1)) λj x y h1 h2=>h (j+1) x y h1 h2;let h0:e 0=sT x y:=h 0 x y rfl rfl;change _=(sT x y&&sD xs ys);rw[<-ih,<-h0];let e1:min (-(x::xs)) (-(y::ys))=min (-xs) (-ys)+1:=by simp only[List.length_cons];omega
  rw[e1,ab8,ab6,List.all_map];let e2:(-(x::xs)==-(y::ys))=(-xs==-ys):=by simp only[List.length_cons];rw[Bool.eq_iff_iff];simp
  rw[e2,Bool.and_assoc];rfl
def Tw(K:gV):R2:=λx y H Q=>∃a b xs ys,x= .ref a/\y= .ref b/\mH K H a xs/\mH K H b ys/\xs.all dt=true/\ys.all dt=true/\Q (.bl (sD xs ys)) H
def UL(K:gV):R2:=λx y H Q=>∃a b xs ys,x= .ref a/\y= .ref b/\mH K H a xs/\mH K H b ys/\xs.all dt=true/\ys.all dt=true/\Q (.bl (! sD xs ys)) H
def mR:∀{xs:List V} {j:Nat} {x:V},xs.all dt=true->xs[j]? =!x->dt x=true
 | _::_,0,_,h,e=>by rw[ab6,aaA]at h;cases e;show h.1
 | _::_,j+1,_,h,e=>by rw[ab6,aaA]at h;show mR h.2 e
section
def Q9(hu:X.A.units < cLine):ji X (compareOp .NotEq) (UL X.K):=by
 intro δ s σ H x y v u Q I rx ry h;let(a,b,xs,ys,rfl,rfl,h1,h2,f1,f2,q):=h;cases rx;cases ry;let(i1,v1,t1,_):=I.tuple h1;let(i2,v2,t2,_):=I.tuple h2;let l1:=-v1;let l2:=-v2;show SeqAt.RcNeAt.tuples (e:=λj=>match xs[j]?, ys[j]? with| some x,!y=>sT x y| _,_=>true) (show s.heap.IsTuple a i1.toArray from t1) (show s.heap.IsTuple b i2.toArray from t2) hu (λj h1 h2=>?_) _ _ _ _ ?_
 .let b1:j < -i1:=by simpa using h1
  let b2:j < -i2:=by simpa using h2
  let e1:xs[j]? =!(xs[j]'()):=aaa _;let e2:ys[j]? =!(ys[j]'()):=aaa _;let(u1,g1,r1):=v1.get e1;let(u2,g2,r2):=v2.get e2;rw[aaa b1]at g1;rw[aaa b2]at g2;let w1:i1.toArray[j]=u1:=by simpa using Option.some.inj g1
  let w2:i2.toArray[j]=u2:=by simpa using Option.some.inj g2
  rw[w1,w2];simp only[e1,e2];show qf r1 r2 (mR f1 e1) (mR f2 e2)
 .rw[List.size_toArray,List.size_toArray,<-l1,<-l2,mi xs ys _ (λj x y h1 h2=>by simp only[h1,h2])];show(.bl (! sD xs ys),H,I,rfl,q)
def JP(hu:X.A.units < cLine):ji X (compareOp .Eq) (Tw X.K):=by
 intro δ s σ H x y v u Q I rx ry h;let(a,b,xs,ys,rfl,rfl,h1,h2,f1,f2,q):=h;cases rx;cases ry;let(i1,v1,t1,_):=I.tuple h1;let(i2,v2,t2,_):=I.tuple h2;let l1:=-v1;let l2:=-v2;show SeqAt.eq_tupleAt (e:=λj=>match xs[j]?, ys[j]? with| some x,!y=>sT x y| _,_=>true) (show s.heap.IsTuple a i1.toArray from t1) (show s.heap.IsTuple b i2.toArray from t2) hu (λj h1 h2=>?_) ?_
 .let b1:j < -i1:=by simpa using h1
  let b2:j < -i2:=by simpa using h2
  let e1:xs[j]? =!(xs[j]'()):=aaa _;let e2:ys[j]? =!(ys[j]'()):=aaa _;let(u1,g1,r1):=v1.get e1;let(u2,g2,r2):=v2.get e2;rw[aaa b1]at g1;rw[aaa b2]at g2;let w1:i1.toArray[j]=u1:=by simpa using Option.some.inj g1
  let w2:i2.toArray[j]=u2:=by simpa using Option.some.inj g2
  rw[w1,w2];simp only[e1,e2];show qf r1 r2 (mR f1 e1) (mR f2 e2)
 .rw[List.size_toArray,List.size_toArray,<-l1,<-l2,mi xs ys _ (λj x y h1 h2=>by simp only[h1,h2])];show(.bl (sD xs ys),H,I,rfl,q)
end
section
variable{K:gV}{D:Addr}{od:Option Obj}
def qt{Q:Option Value->Shared->Prop}(X:K.In s.heap)(I:PySem.W.InstAt s.heap x ox D od)(YA:PySem.W.findIn K (.ref D) "__getattribute__"=!(!(.builtin "BaseException.__getattribute__")))
  (hgt:PySem.W.findIn K (.ref D) "__getattr__"=!none) (ha:PySem.W.findIn K (.ref D) "__class__"=!(!(.builtin "object.__class__"))) (hm:PySem.W.mroIn K D (.type "object")=!true) (hsb:PySem.W.subIn K (.ref D) (.type "BaseException")=!true)
  (h:Q (!(.ref D)) {s with toks:=s.toks+1}):wpAny (model prog w) A (getAttr? (.ref x) "__class__") Q E s:=by
 let(hh,g,d,t,os):=s;let L0:=I.type (M:=model prog w);let L1:=PySem.W.looks_findIn (M:=model prog w) X YA;let L2:=PySem.W.looks_findIn (M:=model prog w) X hgt;let L4:=PySem.W.looks_subIn (M:=model prog w) X hsb;let f3:=F.excAttr_ValueError.ga.bind (.ref x);let Lo:(Value.builtin "BaseException.__getattribute__"==Value.builtin "object.__getattribute__")=false:=by decide+kernel
 let Si:(onTheHeap (Value.ref D)&&Value.builtin "BaseException.__getattribute__"==Value.builtin "object.__getattribute__")=false:=by rw[Lo];rfl
 let XE:(false&&onTheHeap (Value.builtin "BaseException.__getattribute__"))=false:=rfl;unfold getAttr? getAttrBy? getAttrBy
 repeat (any_goals (first| assumption| with_reducible show L0.at ?_| with_reducible show L1.at ?_| with_reducible show L2.at ?_| wp_step))
 show codeAny_call_builtin F.excAttr_ValueError.ga.plain F.entry_bexc_ga ?_;let hk:builtinKind "BaseException.__getattribute__"=some .slot:=by decide+kernel
 let G_:splitId "BaseException.__getattribute__"=!("BaseException", "__getattribute__"):=by decide+kernel
 let har:=F.args_bexc_ga (.ref x) (.str "__class__" t);simp only[checkBuiltinCall,hk,G_];show aaf ?_;unfold isInstance;let L3:=PySem.W.looks_findIn (M:=model prog w) X ha;let f5:=F.typeOf_object_class;let f6:=F.slot_gs_get.lookup;let f7:=F.slot_gs_set.lookup;let hg:∀{R:Result->Shared->Prop} {A:Around},R (.ok (.ret (.ref D))) (hh,g,d,t+1,os)->codeAny (model prog w) A (.call (.builtin "getset_descriptor.__get__") ([.builtin "object.__class__",.ref x,.ref D],[])) R (hh,g,d,t+1,os):=λhr=>PySem.W.class_get (s:=(hh,g,d,t+1,os)) X I hm hr
 repeat (any_goals (first| assumption| with_reducible show L0.at ?_| with_reducible show L4.at ?_| with_reducible show L3.at ?_| wp_step))
 show hg ?_
 repeat (any_goals (first| assumption| wp_step))
end
structure oZ(K:gV)(C:Addr):Prop where
 cls:PySem.W.isClsIn K C=true
 ga:PySem.W.findIn K (.ref C) "__getattribute__"=!(!(.builtin "BaseException.__getattribute__"))
 gt:PySem.W.findIn K (.ref C) "__getattr__"=!none
 cl:PySem.W.findIn K (.ref C) "__class__"=!(!(.builtin "object.__class__"))
 ob:PySem.W.mroIn K C (.type "object")=!true
 be:PySem.W.subIn K (.ref C) (.type "BaseException")=!true
def oZ.data{K:gV}(c:oZ K C):∃cl dd cd sl,K.lookup C=!(cl,dd,.cls cd,sl):=by
 let q:=c.cls;unfold PySem.W.isClsIn PySem.W.clsIn at q;split at q
 .rename_i cl dd cd sl ho;show(cl,dd,cd,sl,ho)
 .cases q
def Jl{K:gV}(c:oZ K C):PySem.W.KitX K (.ref x) (.ref C) (λh=>∃od,PySem.W.InstAt h x ox C od) where
 ty:=λ_ _ _ (_,I)=>I.type
 it:=λM h X _=>by let(cl,dd,cd,sl,ho):=c.data;intro A' Q' E' s' k q;unfold isType loadHead;show aaf (wpAny_loadPart (k _ _ (X _ _ ho)) (aaw q))
 ne:=λh tp dd its n sl X htp=>by let(cl,Kf,cd,XD,ho):=c.data;show Bool.eq_false_iff.mpr λq=>?_;let e:C=tp:=Value.ref.inj (abh.mp q);rw[<-e,X _ _ ho]at htp;cases htp
 ca:=λX (_,I) k=>qt X I c.ga c.gt c.cl c.ob c.be k
section
variable{H:Hp}{i:Nat}{n:Str}
def Ga{v:V}(I:Inv X δ σ H s)(hN:X.N.Nodup)(hi:X.N[i]? =!n)(hk:X.env.scope.names.lookup n=some .local)(hv:σ[i]? =!(!v))(h:∀s',Inv X δ (σ.set i none) H s'->Q Unit.unit s'):wpAny M A (unbindName X.env n) Q E s:=by
 let(m,hn,hl):=id I.loc;let(u,r,lk):=hl i n v hi hv (.inl hk);let hm:m n=!u:=by
  rcases lk with ⟨_,e⟩| ⟨k,_⟩
  .show e
  .rcases k with k| k
   .show aaO ((show X.env.scope.names.lookup n=some .cell from k).symm.trans hk) @_
   .show aaO ((show X.env.scope.names.lookup n=some .free from k).symm.trans hk) @_
 let Kt:(X.env.scope.kind== .class|| (X.env.scope.kind== .module&&X.env.locals != X.env.globals))=false:=by rw[I.ok.kind];rfl
 let(oL,_,_,hoL,_):=id hn;show wpAny_unbindName_local hk hn hm Kt λh' u' FU hs=>h _ (I.ok,I.os,I.bare,(λb o e n hb hx=>?_,λb o e n hb hx=>?_,I.base.free,λb o e hx=>?_,I.base.kI,I.base.jO,I.base.kJ),(_,FU,λj y v' e1 e2 e3=>?_),λy c e=>?_,I.free,I.fC,λp hp=>?_,λb ob e=>?_,by simpa using I.len)
 .show(hs.2 b (aaN (aay (aau e) I.ok.above))).trans (I.base.keep b o e n hb hx)
 .let(sl,e1):=I.base.slot b o e n hb hx;show(sl,(hs.2 b (aaN (aay (aau e) I.ok.above))).trans e1)
 .let(o',e1):=I.base.there b o e hx;show(o',(hs.2 b (aaN (aay (aau e) I.ok.above))).trans e1)
 .by_cases hj:j=i
  .subst hj;let Hm:j < -σ:=(aaj.mp hv).1;rw[aaV Hm]at e2;cases e2
  .rw[abd (Ne.symm hj)]at e2;let(u2,r2,q):=hl j y v' e1 e2 e3;show(u2,r2,?_);rcases q with ⟨k,e⟩| ⟨k,c,e,z⟩
   .show .inl (k,?_);have:y≠n:=λe=>hj (qD hN e1 (e▸hi));simp[this,e]
   .show .inr (k,c,e,z.sameBut hs (I.KC y c e))
 .let(w',z):=I.cell y c e;show(w',z.sameBut hs (I.KC y c e))
 .let(e,n,ne,nf,d):=I.pin p hp;show((hs.2 p.1 ne).trans e,n,ne,nf,d)
 .show(I.au b ob e).pB (λc w' hc q=>(hs.2 c ?_).trans q) (λ_ q=>q) λ_ _ q=>q;rintro rfl;let fr:=I.free;rcases hc with hc| hc
  .rw[hc,e]at fr;cases fr
  .rw[hc]at fr;cases fr
def Hg(I:Inv X δ σ H s)(hN:X.N.Nodup)(hi:X.N[i]? =!n)(hk:X.env.scope.names.lookup n=some .local)(h:∀s',Inv X δ (σ.set i none) H s'->Q Unit.unit s'):
  wpAny M A (do bindName X.env n .none;unbindBehindTheSuite X.env n pos) Q E s:=by
 let Hm:i < -σ:=by rw[I.len];show(aaj.mp hi).1
 show aaf (wpAny_bindName (iz I hN hi (.inl hk) (v:=.aV) rfl (λs1 I1=>?_) (.inr hk)));unfold unbindBehindTheSuite;show wpAny_onRaise (Ga I1 hN hi hk (v:=.aV) (by rw[aaV Hm]) λs2 I2=>h s2 ?_);rw[List.set_set]at I2;show I2
end
def Hh(bs:List Bool):(List.range (-bs)).any (λi=>bs.getD i false)=bs.any id:=by
 induction bs with
 | nil=>rfl
 | cons b bs ih=>
  rw[aaz,ab8,ab7,List.any_map,ab7,<-ih];rfl
def wA:∀{bs:List Bool} {us:List Value},af (bs.map V.bl) us->us=bs.map Value.bool
 | [],_,r=>by cases r;rfl
 | b::bs,_,r=>by
  cases r with
  | cons h t=>
   cases h;rw[wA t];rfl
def zY{bs:List Bool}:TruthOf prog w A (λi v=>(bs.map Value.bool).toArray[i]? =!v) (λi=>bs.getD i false):=by
 intro i v s Q E h q;let h':(bs.map Value.bool)[i]? =!v:=by simpa using h
 rw[aan]at h';cases e:bs[i]? with
 | none=>rw[e]at h';cases h'
 | some b=>
  rw[e]at h';cases h';let q':Q b s:=by
   let eb:bs.getD i false=b:=by rw[aac,e];rfl
   show eb▸q
  show wpAny_truthy_bool q'
def Ui(K:gV):List V->Hp->VK->Prop:=λxs H Q=>∃(p:Addr) (bs:List Bool),xs=[.ref p]/\fQ K H p (bs.map V.bl)/\Q (.bl (bs.any id)) H
section
def HP (hc : X.calm = true) : cj X (.builtin "any") (Ui X.K) :=by
  intro δ s σ H xs us Q I r h;obtain⟨p,bs,rfl,hq,q⟩ :=h;obtain⟨u,rfl,r1⟩ :=iI r;cases r1;obtain⟨its,rv,pl,hz⟩ :=I.list hq;let Ql :=wA rv;subst Ql;show call_any_walk (wpAny_pyIter_list pl.isList ?_);let lp : p < s.heap.objs.size :=by obtain⟨o,e,_⟩ :=pl.isList;show aau e
  show(s.heap.objs.size,_,_,_,_,_,λi =>bs.getD i false,rfl,Walks.list (show X.A.in1.handled = none from I.ok.hd hc) s.heap.objs.size p (aaN lp) (bs.map Value.bool).toArray,((_,aaS _ rfl,rfl,rfl),pl.isList.at λo e =>aah _ e),zY,λh' tk hk =>?_);show(.bl (bs.any id),H,I.kept λb o e =>hk b o (λz =>by have : b = s.heap.objs.size :=(by simpa using z);show Nat.lt_irrefl _ (this ▸ Heap.lt_size e)) (Heap.get?_push_of_some _ e),?_,q);rw[aaM,aae,Hh];rfl
end
end L2
namespace PySem
open Sem (wp)
section
variable{prog:Program}{w:World}{A:Around}{E:Value->Shared->Prop}{h:Heap}{g:Array GenState}{d:Drawn}{t:Nat}{os:OsState}
variable{nm q:Str}{C N:Addr}{bs bm iZ:List Value}{hdct:Bool}{sn:List Str}{sub:List Value}{ab:Bool}{col:Option Bool}{dd:Option Addr}{k0 k1 k2 k3 k5:Option Value}{B newId bz:String}
def pw(F:ExcBaseFacts B newId bz iZ)(T:OwnTail h iZ bm){mN:Str->Option Value}{rest:List Value}{fI:Addr}{oI:Obj}{Q:Fin->Shared->Prop}
  (hC:h.get? C=!(excClassObj nm q C N bs bm hdct sn sub ab col dd k0 k1 k2 k3 k5 newId)) (hn:h.Ns N mN) (hi:mN "__init__"=!(.ref fI))
  (TQ:h.get? fI=!oI) (Um:oI.cls= .type "function")
  (hq:∀h' e,Heap.MadeExcOf h h' e (.ref C) rest->
   wpAny (model prog w) A (call (.ref fI) (.ref e::rest)) (λr s'=>r= .none/\Q (.done (.ret (.ref e))) s') E (h',g,d,t,os)) (hrest:-rest<=sizeLine:=by size_fits):
  wpAny (model prog w) A (Builtin.«type.__call__» (.ref C::rest,[])) Q E (h,g,d,t,os):=by
 repeat (first| with_reducible show wpAny_loadPart_at hC ?_| with_reducible show wpAny_madeBy_exc hC ?_| wp_step)
 show codeAny_call_builtin_code (Code.quiet_builtin _ F.quiet) (wpAny_check_new_subT F T hC ?_);show codeAny_exc_new_subT F T hC ?_ hrest;change wpAny _ _ _ _ _ _
 let Ov:=aah {cls:=.ref C,data:=.fields #[.ref h.objs.size,.none,.none,.none,.bool false,.none]}
  (aah {cls:=.type "tuple",data:=.seq rest.toArray} hC)
 let RL:=aah {cls:=.ref C,data:=.fields #[.ref h.objs.size,.none,.none,.none,.bool false,.none]}
  (aah {cls:=.type "tuple",data:=.seq rest.toArray} TQ)
 let TM:((h.push {cls:=.type "tuple",data:=.seq rest.toArray}).push {cls:=.ref C,data:=.fields #[.ref h.objs.size,.none,.none,.none,.bool false,.none]}).Ns N mN:=
  let (o,es,ep,e,r):=hn;(o,es,ep,aah _ (aah _ e),r)
 let Tj:((h.push {cls:=.type "tuple",data:=.seq rest.toArray}).push
   {cls:=.ref C,data:=.fields #[.ref h.objs.size,.none,.none,.none,.bool false,.none]}).get? (h.objs.size+1)=some
   {cls:=.ref C,data:=.fields #[.ref h.objs.size,.none,.none,.none,.bool false,.none]}:=by heap_get
 let W8:(Value.ref C::bm).contains (.ref C)=true:=by simp
 let T₁:=T.keeps (h':=(h.push {cls:=.type "tuple",data:=.seq rest.toArray}).push {cls:=.ref C,data:=.fields #[.ref h.objs.size,.none,.none,.none,.bool false,.none]})
  λb o e=>aah _ (aah _ e)
 unfold isInstance
 repeat (first| with_reducible show wpAny_loadPart_at Tj ?_| (with_reducible show wpAny_isSubtype_exc Ov ?_;rw[W8])| wp_step)
 change wpAny _ _ (typeLookup (.ref C) _) _ _ _;show wpAny_typeLookup_tail Ov TM T₁ F.mroIs F.init.lookup ?_;rw[hi];show wpAny_holding (aaf ?_);unfold bindSpecial;show aaf (wpAny_typeOf (T:="function") (_,RL,Um) ?_);rw[aaG @_];show aaw (aaf (abl (hq _ (h.objs.size+1) (λb o hb=>aah _ (aah _ hb),Heap.get?_none_of_le (Nat.le_succ _),h.objs.size,Tj,Heap.get?_none_of_le (aam _),?_)) (λr s' hr=>?_) λ_ _ x=>x))
 .show aah _ (Heap.get?_push_at rfl rfl)
 .let(rfl,hQ):=hr
  wp_walk
  show hQ
def CL(F:ExcBaseFacts B newId bz iZ)(T:OwnTail h iZ bm){mN:Str->Option Value}{rest:List Value}{fI:Addr}{oI:Obj}{Q:Value->Shared->Prop}
  (hC:h.get? C=!(excClassObj nm q C N bs bm hdct sn sub ab col dd k0 k1 k2 k3 k5 newId)) (hn:h.Ns N mN) (hi:mN "__init__"=!(.ref fI))
  (TQ:h.get? fI=!oI) (Um:oI.cls= .type "function")
  (hq:∀h' e,Heap.MadeExcOf h h' e (.ref C) rest->
   wpAny (model prog w) (A.under (.builtin "type.__call__" (.ref C::rest,[]))) (call (.ref fI) (.ref e::rest)) (λr s'=>r= .none/\Q (.ref e) s') E (h',g,d,t,os)) (hrest:-rest<=sizeLine:=by size_fits):
  wpAny (model prog w) A (call (.ref C) rest) Q E (h,g,d,t,os):=by
 let f1:=tc_lookup;let f2:=tc_bind (.ref C);let hT:((h,g,d,t,os):Shared).TypeIs (.ref C) "type":=(_,hC,rfl);show wpAny_call (codeAny_of_tree ?_);change wpAny _ _ (callAny (.ref C) _) _ _ _
 repeat (any_goals (first| assumption| with_reducible show wpAny_loadPart_at hC ?_| wp_step))
 show(rfl,?_);show codeAny_call_builtin_at (Code.quiet_builtin _ (by decide+kernel)) entry_typeCall (wpAny_check_type_call_sub hC (pw (hrest:=hrest) F T hC hn hi TQ Um λh' e hm=>?_));show hq h' e hm
def AV(F:ExcBaseFacts B newId bz iZ)(T:OwnTail h iZ bm){rest:List Value}{e t0:Addr}{oe:Obj}{vs:Array Value}{Q:Value->Shared->Prop}
  (hC:h.get? C=!(excClassObj nm q C N bs bm hdct sn sub ab col dd k0 k1 k2 k3 k5 newId)) (he:h.get? e=!oe) (Kt:oe.cls= .ref C) (Pq:oe.data= .fields vs) (h0:vs[0]? =!(.ref t0))
  (hq:∀h',(∀b o,b≠e->h.get? b=!o->h'.get? b=!o)->h'.get? e=!(Obj.mapFields (·.setIfInBounds 0 (.ref h.objs.size)) oe)->Q .none (h',g,d,t,os)) (hrest:-rest<=sizeLine:=by size_fits):
  wpAny (model prog w) A (call (.builtin bz) (.ref e::rest)) Q E (h,g,d,t,os):=by
 show wpAny_call (codeAny_call_builtin F.init.plain F.initEntry (wpAny_check_init_subT F T hC he Kt ?_));unfold Builtin.«BaseException.__init__»;dsimp only;rw[if_neg (by simp)];unfold newTuple Builtin.BaseException.bexcPut;let hsz:0 < vs.size:=(abw.mp h0).1;let Ko:=aah (h:=h) {cls:=.type "tuple",data:=.seq rest.toArray} he;show aaf (wpAny_newObj_type (aaf (aaf (wpAny_field Ko Pq h0 (aaf (wpAny_setField Ko Pq hsz ?_))))) (by change rest.toArray.size<=sizeLine;rw[aaM];show hrest));show wpAny_letGo (aaw (hq _ (λb o nb hb=>?_) ?_))
 .rw[Heap.get?_update_other _ _ (Ne.symm nb)];show aah _ hb
 .rw[Heap.get?_update_self _ Ko (Obj.isFreed_of_fields (Obj.data_mapFields Pq _))]
end
end PySem
namespace PySem.W
open PySem PySem.Builtin PySem.Builtin.ObjectAttr
variable{prog:Program}{E:Value->Shared->Prop}{od:Option Obj}{vs:Array Value}{Q:Unit->Shared->Prop}
def zV:Slot "BaseException" "__getattribute__" "BaseException.__getattribute__":=
 .of (owner:="BaseException") (n:="__getattribute__") (by rw[typeLookup_type,builtinLookup_eq_fast];kernel_rfl) (by decide+kernel) (by decide+kernel) (by decide+kernel)
  (by first| show .inl (by decide+kernel)| show .inr (by decide+kernel)) (by rw[isSubtype_type];kernel_rfl)
def GI:entryFor table "BaseException.__getattribute__"=!Builtin.«object.__getattribute__»:=entryFor_alias (id':="object.__getattribute__") (by rw[fastTable_eq_tree];kernel_rfl) (by decide+kernel) (by decide+kernel) (by rw[fastTable_eq_tree];kernel_rfl)
def Iq(a b:Value):argsOk "BaseException.__getattribute__" ([a,b],[]):=by unfold argsOk;kernel_rfl
def pW(l:List Value):Bool:=l==[.type "ValueError",.type "Exception",.type "BaseException",.type "object"]
def wR:List Value->Bool
 | .ref c::r=>pW (.ref c::r)|| wR r
 | l=>pW l
def pj(self:Value){l:List Value}(e:pW l=true):refuseLoop self "__setattr__" l=pure Unit.unit:=by rw[abh.mp e];show PySem.F.store_ValueError.passes self
def sy(self:Value):∀(l:List Value),wR l=true->refuseLoop self "__setattr__" l=pure Unit.unit
 | [],e=>pj self e
 | v::r,e=>by
  cases v with
  | ref c=>
   rw[refuseLoop_ref];rcases(acb _ _).mp e with z| z
   .show absurd z (by unfold pW;simp)
   .show sy self r z
  | _=>show pj self e
section
variable{w:World}{A:Around}{s:Shared}{K:Frag}{x C:Addr}{ox:Obj}{name:Str}{v:Value}
def Z9{expr:Bool}{Q:Value->Shared->Prop}(X:K.In s.heap)(I:InstAt s.heap x ox C od)(YA:findIn K (.ref C) "__getattribute__"=!(!(.builtin "BaseException.__getattribute__")))(hk:findIn K (.ref C) "__getattr__"=!none)
  (hi:subIn K (.ref C) (.type "BaseException")=!true) (hf:findObj K C od name=!(.value v)) (hh:handedIn v=true) (h:Q v {s with toks:=s.toks+1}):wpAny (model prog w) A (getAttr (.ref x) name expr) Q E s:=by
 let L0:=I.type (M:=model prog w);show aaf (wpAny_mkText (wpAny_holding (aaf (L0 _ _ _ _ (λ_ _ e=>e) (aaf (looks_findIn X YA _ _ _ _ (λ_ _ e=>e) ?_))))));dsimp only;rw[show(onTheHeap (Value.ref C)&&Value.builtin "BaseException.__getattribute__"==Value.builtin "object.__getattribute__")=false from by rw[show(Value.builtin "BaseException.__getattribute__"==Value.builtin "object.__getattribute__")=false from by decide+kernel,acC],aaE @_];let hb:Looks (model prog w) s.heap (hookBefore (.ref C)) none:=looks_hook X (mc:=.ref C) hk;show aaf (hb _ _ _ _ (λ_ _ e=>e) (aaf (wpAny_attempt (wpAny_holding ?_))));unfold callGetattribute;rw[show(expr&&onTheHeap (Value.builtin "BaseException.__getattribute__"))=false from acC _,aaE @_];unfold boundAndCalled;rw[zV.bind];show aaf (aaw ?_);change wpAny _ _ (call (.builtin "BaseException.__getattribute__") [.ref x,.str name s.toks]) _ _ _;show wpAny_call ?_;show codeAny_call_builtin zV.plain GI ?_;show@check_slot (model prog w) _ _ {s with toks:=s.toks+1} "BaseException.__getattribute__" "BaseException" "__getattribute__" (.ref x) [.str name s.toks] [] _ (by decide+kernel) (by decide+kernel) (L0.andThen (looks_subIn X hi)) (Iq (.ref x) (.str name s.toks)) ?_;let L1:=looks_find (M:=model prog w) X I hf;unfold Builtin.«object.__getattribute__»;show aaf (aaw ?_);show aaf (aaw (aaf (L0.here (s:={s with toks:=s.toks+1}) (aaf (L1.here (s:={s with toks:=s.toks+1}) ?_)))));show aaw ?_;change wpAny _ _ (handedOut v) _ _ _;rw[handedOut_of hh];show aaw h
end
section
variable{w:World}{A:Around}{s:Shared}{K:Frag}{x C:Addr}{ox:Obj}{name:Str}{v:Value}{R:Result->Shared->Prop}
def mM(K:Frag)(C:Addr):Bool:=(clsIn K C).any λcd=>wR cd.mro&&cd.mro.contains (.type "object")&& ! cd.mro.isEmpty&&cd.hasDict
def U3{tk:Tok}(X:K.In s.heap)(I:InstAt s.heap x ox C od)(hp:mM K C=true)(ht:takerIn K C name=!none)
  (h:∀b cd,clsIn K C=!cd->cd.hasDict=true->wpAny (model prog w) A.in1 (storeInOwnDict (.ref x) (.ref C) (.str name tk) name v b)
   (λfin s'=>match fin with| .done f=>R (.ok f) s'| .again c'=>c'.quiet=true/\codeAny (model prog w) A c' R s') (λe s'=>R (.error e) s') s):
  codeAny (model prog w) A (.call (.builtin "object.__setattr__") ([.ref x,.str name tk,v],[])) R s:=by
 let SF:=PySem.F.store_object;let(cd,hc,ho):=any_some hp;rw[aaA,aaA,aaA]at ho;let(((ho,h2),h3),h4):=ho;let ne:cd.mro.isEmpty=false:=by simpa using h3
 let sub:Looks (model prog w) s.heap (isInstance (.ref x) (.type "object")) true:=I.type.andThen (looks_mroIn X (by unfold mroIn;rw[hc,Option.bind_some,if_neg (by rw[ne];decide),h2]));show codeAny_call_builtin SF.slot.plain SF.entry (@check_slot (model prog w) _ _ s "object.__setattr__" "object" "__setattr__" (.ref x) [.str name tk,v] [] _ SF.kind SF.split sub (SF.args (.ref x) (.str name tk) v) ?_);let(attr,ha,hr):=Option.bind_eq_some_iff.mp ht;let hm:Looks (model prog w) s.heap (mroOf (.ref C)) cd.mro:=(looks_clsIn X hc).andThen .now;let L3:Looks (model prog w) s.heap (storeTaker? attr) none:=by
  cases attr with
  | none=>show .now
  | some a=>
   let(b,hb,e):=aby.mp hr;show(looks_takesIn X hb).andThen ?_;cases b
   .show .now
   .cases e
 rw[osa_eq,refuse_eq];show aaf (aaf (I.type.here (aaf (hm.here ?_))));rw[sy _ _ ho];show aaw (aaf (I.type.here (aaf ((looks_findIn X ha).here (aaf (L3.here ?_))))));show h _ cd hc h4
abbrev eZ(C:Addr)(od:Option Addr)(vs:Array Value):Obj:={cls:=.ref C,dict:=od,data:=.fields vs}
def Th(X:K.In s.heap)(hx:s.heap.get? x=!(eZ C none vs))
  (hs:findIn K (.ref C) "__setattr__"=!(!(.builtin "object.__setattr__"))) (hp:mM K C=true) (ht:takerIn K C name=!none)
  (h:∀h' dx,s.heap.get? dx=none->dx≠x->(∀b o,b≠x->s.heap.get? b=!o->h'.get? b=!o)->h'.get? x=!(eZ C (!dx) vs)->h'.Ns1 dx (λy=>if y=name then !v else none)->Q Unit.unit {s with heap:=h',toks:=s.toks+2}):
  wpAny (model prog w) A (setAttr (.ref x) name v) Q E s:=by
 let I:InstAt s.heap x (eZ C none vs) C none:=(hx,rfl,rfl,trivial);show set_plain X I hs (U3 (s:={s with toks:=s.toks+1}) X I hp ht λb cd hc GA=>?_);show aaf (aaw (aaf ?_));change wpAny _ _ (instanceDict x true) _ _ _;unfold instanceDict;show aaf (wpAny_loadPart hx ?_);dsimp only;show aaf (Looks.here (s:={s with toks:=s.toks+1}) (looks_clsIn X hc) ?_);rw[GA,if_neg @_,if_neg (by simp[typeHasDict])];let N8:(s.heap.push {cls:=.type "dict",data:=.dict #[]}).get? x=!(eZ C none vs):=aah _ hx;let XU:x≠s.heap.objs.size:=aaN (aau hx);show aaf (wpAny_alloc' ?_);show aaf (wpAny_update' N8 ?_);show aaw ?_
 let hgd:((s.heap.push {cls:=.type "dict",data:=.dict #[]}).update x λo=>{cls:=o.cls,dict:=!s.heap.objs.size,data:=o.data,slots:=o.slots}).get? s.heap.objs.size
   =some {cls:=.type "dict",data:=.dict #[]}:=
  (Heap.get?_update_ne _ _ _ _ XU.symm).trans (Heap.get?_push_at rfl rfl)
 let XG:((s.heap.push {cls:=.type "dict",data:=.dict #[]}).update x λo=>{cls:=o.cls,dict:=!s.heap.objs.size,data:=o.data,slots:=o.slots}).Ns s.heap.objs.size (λ_=>none):=
  (_,#[],_,hgd,rfl,λe he=>absurd he (by simp),λ_=>rfl)
 change wpAny _ _ (storeInDict s.heap.objs.size (.str name s.toks) name v) _ _ _;unfold storeInDict newKeyGuard;show aaf (aaw (aaf (wpAny_nsSet1 (Heap.Ns1.of_empty XG) λh' FU hs=>?_)));let(oD,esD,epD,TL,Sv,P9):=FU.count (Within.cons name v Within.nil);show aaf (wpAny_lookBehind TL (by rw[Sv];show pastItsLine_dict (aaJ P9 (by rw[aaz,List.length_nil,sizeLine_eq];omega))) ?_);show aaw (h h' s.heap.objs.size (Heap.get?_none_of_le (aam _)) XU.symm (λb ob hbx hb=>?_) ?_ FU)
 .show(hs.2 b (aaN (aau hb))).trans ((Heap.get?_update_ne _ _ _ _ hbx).trans (aah _ hb))
 .show(hs.2 x XU).trans (Heap.get?_update_self _ N8 rfl)
def Vy{dx:Addr}{mA:Str->Option Value}{ns:List Str}(X:K.In s.heap)(hx:s.heap.get? x=!(eZ C (!dx) vs))(fZ:dx≠x)(KO:s.heap.Ns1 dx mA)(hw:Within mA ns)(hsz:-ns<=1000)
  (hs:findIn K (.ref C) "__setattr__"=!(!(.builtin "object.__setattr__"))) (hp:mM K C=true) (ht:takerIn K C name=!none)
  (h:∀h',(∀b o,b≠dx->s.heap.get? b=!o->h'.get? b=!o)->h'.Ns1 dx (λy=>if y=name then !v else mA y)->Q Unit.unit {s with heap:=h',toks:=s.toks+2}):
  wpAny (model prog w) A (setAttr (.ref x) name v) Q E s:=by
 let(o0,_,_,ho0,_):=id KO;let I:InstAt s.heap x (eZ C (!dx) vs) C (!o0):=(hx,rfl,rfl,ho0);show set_plain X I hs (U3 (s:={s with toks:=s.toks+1}) X I hp ht λb cd hc GA=>?_);show aaf (aaw (aaf ?_));change wpAny _ _ (instanceDict x true) _ _ _;unfold instanceDict;show aaf (wpAny_loadPart hx ?_);dsimp only;show aaf (Looks.here (s:={s with toks:=s.toks+1}) (looks_clsIn X hc) ?_);rw[GA,aaE @_];show aaw ?_;change wpAny _ _ (storeInDict dx (.str name s.toks) name v) _ _ _;unfold storeInDict newKeyGuard;show aaf (aaw (aaf (wpAny_nsSet1 (s:={s with toks:=s.toks+1}) KO λh' FU hs=>?_)));let(oD,esD,epD,TL,Sv,P9):=FU.count (Within.cons name v hw);show aaf (wpAny_lookBehind TL (by rw[Sv];show pastItsLine_dict (aaJ P9 (by rw[aaz,sizeLine_eq];omega))) ?_);show aaw (h h' (λb ob hb e=>(hs.2 b hb).trans e) FU)
end
end PySem.W
namespace PySem
open Sem (wp)
section
variable{M:Model}{A:Around}{E:Value->Shared->Prop}{env:Env}
variable{nm q:Str}{C N:Addr}{bs bm:List Value}{hdct:Bool}{sn:List Str}{sub:List Value}{ab:Bool}{col:Option Bool}{dd:Option Addr}{k0 k1 k2 k3 k5:Option Value}{newId:String}
def lI{s:Shared}{x:Sem Value}{Q:Flow->Shared->Prop}(my:bm.contains (.type "BaseException")=true)(hh:A.handled=none)
  (h:wpAny M A x (λv s₁=>∃e od vs,v= .ref e/\s₁.heap.get? C=!(excClassObj nm q C N bs bm hdct sn sub ab col dd k0 k1 k2 k3 k5 newId)/\
   s₁.heap.get? e=!(PySem.W.eZ C od vs)/\vs[1]? =some .none/\E (.ref e) s₁) E s):
  wpAny M A (raiseStmt env (!x) none) Q E s:=by
 let hcB:(Value.ref C::bm).contains (.type "BaseException")=true:=by rw[List.contains_cons,my,Bool.or_true]
 unfold raiseStmt;show aaf (abl h (λv s₁ h₁=>?_) λ_ _ x=>x);let(e,od,vs,rfl,hC,he,h1,hE):=h₁;let(hp,g,d,tk,os):=s₁
 repeat (first| with_reducible show wpAny_field he rfl h1 ?_| with_reducible show wpAny_loadPart_at he ?_| with_reducible show wpAny_loadPart_at hC ?_| (with_reducible show wpAny_isSubtype_exc hC ?_;rw[hcB])| wp_step)
 show wpAny_raiseNew_none hh hE
end
section
variable{prog:Program}{w:World}{A:Around}{E:Value->Shared->Prop}{s:Shared}{env:Env}
variable{nm q:Str}{C N fI:Addr}{bs bm iZ:List Value}{hdct:Bool}{sn:List Str}{sub:List Value}{ab:Bool}{col:Option Bool}{dd:Option Addr}{k0 k1 k2 k3 k5:Option Value}{B newId bz:String}
def y8(F:ExcBaseFacts B newId bz iZ){mN:Str->Option Value}{x:Str}{np cn pos:Pos}{args:List Expr}{Q:Flow->Shared->Prop}
  (my:bm.contains (.type "BaseException")=true) (hh:A.handled=none) (sv:(backTo cn (starEach args env)).any (·.1)=false) (hi:mN "__init__"=!(.ref fI))
  (h :wpAny (model prog w) A (eval (.Name x np) env) (λf s₁=>f= .ref C/\wpAny (model prog w) A (evalArgs (.ref C) true (backTo cn (starEach args env)) [])
   (λa s₂=>a.kw=[]/\-a.pos<=sizeLine/\s₂.heap.get? C=!(excClassObj nm q C N bs bm hdct sn sub ab col dd k0 k1 k2 k3 k5 newId)/\s₂.heap.Ns N mN/\OwnTail s₂.heap iZ bm/\(∃oI,s₂.heap.get? fI=!oI/\oI.cls= .type "function")/\
    ∀h' e,Heap.MadeExcOf s₂.heap h' e (.ref C) a.pos->wpAny (model prog w) (A.under (.builtin "type.__call__" (.ref C::a.pos,[]))) (call (.ref fI) (.ref e::a.pos))
     (λr s'=>r= .none/\s'.heap.get? C=!(excClassObj nm q C N bs bm hdct sn sub ab col dd k0 k1 k2 k3 k5 newId)/\∃od vs,s'.heap.get? e=!(PySem.W.eZ C od vs)/\vs[1]? =some .none/\E (.ref e) s') E {s₂ with heap:=h'}) E s₁) E s):
  wpAny (model prog w) A (exec (.Raise (!(.Call (.Name x np) args [] cn)) none pos) env) Q E s:=by
 rw[arm_exec_Raise]
 first
  | show aaf (wpAny_standAt (lI (C:=C) (nm:=nm) (q:=q) (N:=N) (bs:=bs) (bm:=bm) (hdct:=hdct) (sn:=sn) (sub:=sub) (ab:=ab) (col:=col) (dd:=dd) (k0:=k0) (k1:=k1) (k2:=k2) (k3:=k3) (k5:=k5) (newId:=newId) my hh (aaf (abl (wpAny_Call_ofName (abl h (λf s₁ h₁=>?_) λ_ _ x=>x)) (λv s₃ h₃=>aaf (wpAny_standAt (aaw h₃))) λ_ _ x=>x))))
  | (simp only[evalOpt,Option.map];show wpAny_bind (wpAny_standAt (lI (C:=C) (nm:=nm) (q:=q) (N:=N) (bs:=bs) (bm:=bm) (hdct:=hdct) (sn:=sn) (sub:=sub) (ab:=ab) (col:=col) (dd:=dd) (k0:=k0) (k1:=k1) (k2:=k2) (k3:=k3) (k5:=k5) (newId:=newId) my hh (wpAny_bind (wpAny_mono (wpAny_Call_ofName (wpAny_mono h (λf s₁ h₁=>?_) λ_ _ x=>x)) (λv s₃ h₃=>wpAny_bind (wpAny_standAt (wpAny_pure h₃))) λ_ _ x=>x)))))
  | (show aaf (wpAny_standAt (lI (C:=C) (nm:=nm) (q:=q) (N:=N) (bs:=bs) (bm:=bm) (hdct:=hdct) (sn:=sn) (sub:=sub) (ab:=ab) (col:=col) (dd:=dd) (k0:=k0) (k1:=k1) (k2:=k2) (k3:=k3) (k5:=k5) (newId:=newId) my hh ?_));show aaf (abl (wpAny_Call_ofName (abl h (λf s₁ h₁=>?_) λ_ _ x=>x)) (λv s₃ h₃=>aaf (wpAny_standAt (aaw h₃))) λ_ _ x=>x))
 let(rfl,h₁):=h₁;unfold callWith;show aaf (wpAny_holding (abl h₁ (λa s₂ h₂=>aaf (wpAny_standAt ?_)) λ_ _ x=>x));let(apos,akw):=a;let(hkw,hlen,hC,hn,T,(oI,TQ,Um),h₂):=h₂;obtain rfl:akw=[]:=hkw;let(hp,g,d,tk,os):=s₂;simp only[sv];show aaf (wpAny_keeperOf_exc hC ?_);show aaf (CL (hrest:=hlen) F T hC hn hi TQ Um λh' e hm=>abl (h₂ h' e hm) (λr s' hr=>?_) λ_ _ x=>x);let(rfl,hC',od,vs,he,h1,hE):=hr;show(rfl,aaf (wpAny_holding (wpAny_point (aaw (e,od,vs,rfl,hC',he,h1,hE)))))
end
end PySem
namespace L2
open PySem PySem.Spec PyProof.Rows
variable{h:Heap}{vs:Array Value}{x:Addr}{X:Cx}{δ:List (Addr×Obj)}{s:Shared}{iZ:List Value}{newId:String}{pos:Pos}
def xO(a C:Addr)(od:Option Addr):HO:=.ext λh=>∃ob vs,h.get? a=!ob/\ob.cls= .ref C/\ob.dict=od/\ob.data= .fields vs
def xN(a C:Addr)(od:Option Addr):HO:=.ext λh=>∃(vs:Array Value) (t0:Addr),h.get? a=!(PySem.W.eZ C od vs)/\vs[0]? =!(.ref t0)/\vs[1]? =some .none/\vs[2]? =some .none
section
variable{P:Program}{w:World}{H:Hp}{a C:Addr}{od:Option Addr}
def US{ob:Obj}(e:h.get? a=!ob)(h1:ob.cls= .ref C)(h2:ob.dict=od)(h3:ob.data= .fields vs):aH P w H h a (xO a C od):=
 ((ob,vs,e,h1,h2,h3),(_,e),λg1 g2 (ob,vs,e,h1,h2,h3) k=>(ob,vs,k _ e,h1,h2,h3))
def Ka{t0:Addr}(e:h.get? a=!(PySem.W.eZ C od vs))(h0:vs[0]? =!(.ref t0))(h1:vs[1]? =some .none)(h2:vs[2]? =some .none):aH P w H h a (xN a C od):=
 ((vs,t0,e,h0,h1,h2),(_,e),λg1 g2 (vs,t0,e,h0,h1,h2) k=>(vs,t0,k _ e,h0,h1,h2))
def OH(x:je P w H h)(e:H a=!(xO a C od)):∃ob vs,h.get? a=!ob/\ob.cls= .ref C/\ob.dict=od/\ob.data= .fields vs:=(x a _ e).1
def Dk(x:je P w H h)(e:H a=!(xN a C od)):∃(vs:Array Value) (t0:Addr),h.get? a=!(PySem.W.eZ C od vs)/\vs[0]? =!(.ref t0)/\vs[1]? =some .none/\vs[2]? =some .none:=(x a _ e).1
def je.aV{P:Program}{w:World}{H:Hp}{a:Addr}(x:je P w H h)(e:h.get? a=none):H a=none:=by
 cases q:H a with
 | none=>rfl
 | some u=>
  let(ob,z):=aH.here (x a u q);rw[e]at z;cases z
end
def Lz(x:Addr)(H:Hp):Hp:=λb=>if b=x then none else H b
def qR{H:Hp}:Lz x H x=none:=by unfold Lz;rw[if_pos rfl]
def dR{b:Addr}{H:Hp}(h:b≠x):Lz x H b=H b:=by unfold Lz;rw[if_neg h]
section
variable{σ:St}{H:Hp}{a dx:Addr}{o:HO}{h':Heap}
def Inv.UX(I:Inv X δ σ H s)(hn:H a=none)(h0:X.s₀.heap.get? a=none)(hl:X.env.locals≠a)(hc:∀z c,X.env.cells.lookup z=!c->c≠a)(hp:∀p∈X.pn++δ,p.1≠a)(new:aH X.prog X.w (upd H a o) s.heap a o):Inv X δ σ (upd H a o) s:=by
 show(I.ok,I.os,I.bare,(I.base.keep,I.base.slot,λb u q n hx=>?_,I.base.there,λb xs q=>?_,λb u xs q=>?_,λb ps q=>?_),I.loc,I.cell,?_,λz c q=>?_,λp q=>?_,λb u e=>?_,I.len)
 .rw[υ (λz=>by rw[z,h0]at q;cases q)];show I.base.free b u q n hx
 .have:=I.base.kI b xs q;rw[υ (aF this hn)];show this
 .have:=I.base.jO b u xs q;rw[υ (aF this hn)];show this
 .let(m,e):=I.base.kJ b ps q;show(m,by rw[υ (aF e hn)];show e)
 .rw[υ hl];show I.free
 .rw[υ (hc z c q)];show I.fC z c q
 .let(e,n,r):=I.pin p q;show(e,by rw[υ (hp p q)];show n,r)
 .by_cases hb:b=a
  .subst hb;rw[Ζ]at e;cases e;show new
  .rw[υ hb]at e;show(I.au b u e).pB (λc v _ q=>q) (λc q=>by rw[υ (aF q hn)];show q) λc xs q=>by rw[υ (aF q hn)];show q
def Inv.Bh{s1:Shared}{H1:Hp}{σ1:St}(I1:Inv X δ σ1 H1 s1)(hex:X.ex=[])(hg:s1.heap.get? a=none)(I:Inv X δ σ H s)(hn:H a=none)(new:aH X.prog X.w (upd H a o) s.heap a o):Inv X δ σ (upd H a o) s:=by
 let no:∀b u,s1.heap.get? b=!u->b≠a:=λb u q z=>by rw[z,hg]at q;cases q
 show I.UX hn ?_ ?_ (λz c q=>?_) (λp q=>?_) new
 .cases q:X.s₀.heap.get? a with
  | none=>rfl
  | some u=>
   let(u',e1):=I1.base.there a u q (by rw[hex];simp);rw[hg]at e1;cases e1
 .let(m,(ob,_,_,e,_),_):=I1.loc;show no _ _ e
 .let(v,ob,e,_):=I1.cell z c q;show no _ _ e
 .show no _ _ (I1.pin p q).1
def Inv.drop{φ:Heap->Prop}(I:Inv X δ σ H s)(e:H x=!(.ext φ)):Inv X δ σ (Lz x H) s:=by
 let nx:∀b u,H b=!u->(∀ψ,u≠ .ext ψ)->b≠x:=λb u q nu z=>by rw[z,e]at q;cases q;show nu _ rfl
 show(I.ok,I.os,I.bare,(I.base.keep,I.base.slot,λb u q n hx=>?_,I.base.there,λb xs q=>?_,λb u xs q=>?_,λb ps q=>?_),I.loc,I.cell,?_,λz c q=>?_,λp q=>?_,λb u q=>?_,I.len)
 .by_cases hb:b=x
  .rw[hb,qR]
  .rw[dR hb];show I.base.free b u q n hx
 .have:=I.base.kI b xs q;rw[dR (nx b _ this λ_ z=>nomatch z)];show this
 .have:=I.base.jO b u xs q;rw[dR (nx b _ this λ_ z=>nomatch z)];show this
 .let(m,z):=I.base.kJ b ps q;show(m,by rw[dR (nx b _ z λ_ y=>nomatch y)];show z)
 .rw[dR λz=>by have:=I.free;rw[z,e]at this;cases this];show I.free
 .have:=I.fC z c q;rw[dR λy=>by rw[y,e]at this;cases this];show this
 .let(e1,n,r):=I.pin p q;show(e1,by rw[dR λy=>by rw[y,e]at n;cases n];show n,r)
 .by_cases hb:b=x
  .rw[hb,qR]at q;cases q
  .rw[dR hb]at q;show(I.au b u q).pB (λc v _ z=>z) (λc z=>by rw[dR (nx c _ z λ_ y=>nomatch y)];show z) λc xs z=>by rw[dR (nx c _ z λ_ y=>nomatch y)];show z
end
def Cz (K:gV) (C:Addr) (iZ:List Value) (newId:String) (fI:Addr):Bool:=
 match List.lookup C K with
 | some {cls:=Value.type "type",dict:=_,data:=Data.cls cd,slots:=sl}=>
  match cd.mro,sl.toList with
  | Value.ref C'::bm,[_,_,_,_,!(Value.builtin n),_]=>
   C'==C&&n==newId&& ! cd.hasDel&&PySem.W.tailIn K iZ bm&&PySem.W.nsOkIn K cd.ns&&
    PySem.W.nsIn K cd.ns "__init__"==!(!(.ref fI))
  | _,_=>false
 | _=>false
def BJ{K:gV}{N:Addr}{mg:Str->Option Value}{n:Str}{v:Value}(X:K.In h)(G:h.Ns N mg)(e:PySem.W.nsIn K N n=!(!v)):mg n=!v:=by
 let(o,es,ep,ho,hd,_,hf):=G;unfold PySem.W.nsIn at e;split at e
 .rename_i c d Wf n' sl q;have:=X _ _ q;rw[ho]at this;cases this;cases hd;split at e
  .rename_i he;cases e;rw[<-hf];unfold nsFind findBy;rw[<-Array.find?_toList,he];rfl
  .split at e <;> cases e
 .cases e
structure fR(K:gV)(C:Addr)(iZ:List Value)(newId:String)(fI:Addr):Prop where
 ok:Cz K C iZ newId fI=true
 fn:PySem.W.isFn K (.ref fI)=true
 sa:PySem.W.findIn K (.ref C) "__setattr__"=!(!(.builtin "object.__setattr__"))
 over:PySem.W.mM K C=true
def fR.obj{K:gV}{C fI:Addr}{h0:Heap}(c:fR K C iZ newId fI)(X0:K.In h0):
  ∃bm N nm q bs hdct sn sub ab col dd k0 k1 k2 k3 k5 mN,mN ("__init__":Str)=!(.ref fI)/\
   ∀h:Heap,K.In h->h.get? C=!(excClassObj nm q C N bs bm hdct sn sub ab col dd k0 k1 k2 k3 k5 newId)/\h.Ns N mN/\OwnTail h iZ bm:=by
 let q:=c.ok;unfold Cz at q;split at q
 .rename_i dd cd sl ho;split at q
  .rename_i C' bm k0 k1 k2 k3 n k5 hm hs;rw[aaA,aaA,aaA,aaA,aaA]at q;let(((((q1,q2),q3),q4),q5),q6):=q;cases abh.mp q1;cases abh.mp q2;let q3:cd.hasDel=false:=by simpa using q3
   let OK:sl= #[k0,k1,k2,k3,!(.builtin newId),k5]:=by cases sl with| mk l=>show aba Array.mk hs
   let(c1,c2,c3,c4,c5,c6,c7,c8,c9,YJ,Y1):=cd;cases(show c3=_ from hm);cases(show Y1=_ from q3);subst OK;show(bm,c4,c1,c5,c2,c6,c7,c8,c9,YJ,dd,k0,k1,k2,k3,k5,h0.nsMap c4,BJ X0 (.of_isNs (PySem.W.isNs_of_in X0 q5)) (abh.mp q6),λh X=>(X _ _ ho,?_,PySem.W.tail_of_in X q4));show DD q5 X0 X (.of_isNs (PySem.W.isNs_of_in X0 q5))
  .cases q
 .cases q
structure C5(K:gV)(D:Addr)(bz:String):Prop where
 sp:PySem.W.specialIn K (.ref D) "__getattribute__"=!(!(.builtin "type.__getattribute__"))
 rd:PySem.W.readsIn K D (.type "type")=true
 fd:PySem.W.findCls K (.ref D) (.type "type") "__init__"=!(.val (.builtin bz))
 hi:PySem.W.handedIn (.builtin bz)=true
def tBI(C:Addr)(t:TA):TE:=λσ H Q=>t σ H λvs H1=>∃x y od,vs=[.ref x,y]/\H1 x=!(xN x C od)/\Q .aV H1
section
variable{C D fI:Addr}{t:TA}{te ta:TE}{Bn bz:String}{dn:Str}{p apos pos':Pos}{e1 e2 o value:Expr}{f:Str}
def Ih{pl:Sem Bool}(F:ExcBaseFacts Bn newId bz iZ)(c:fR X.K C iZ newId fI)(d:C5 X.K D bz)(hg:Gl X dn)(hm:X.mg dn=!(.ref D))(ha:PA X [e1,e2] t)(jn:(dn==("__debug__":Str))=false|>2)
  (uQ:starEach [e1,e2] X.env=(false, eval e1 X.env)::starEach [e2] X.env|>1) (dq:(backTo pos (starEach [e2] X.env)).any (·.1)=false|>1)
  (ht:eval (.Call (.Attribute (.Name dn p) "__init__" apos) [e1,e2] [] pos) X.env=(do
   let  ov<-eval (.Name dn p) X.env
   standAt apos.atName
   let (f, first)<-holding [ov] (getMethod ov "__init__" pl)
   callWith pos f first (backTo pos (starEach [e1,e2] X.env)) (backToKw pos (keywordEach [] X.env)))|>1):
  PE X (.Call (.Attribute (.Name dn p) "__init__" apos) [e1,e2] [] pos) (tBI C t):=by
 intro δ s σ H Q I h;show PySem.W.methodCall_KW (pl:=pl) (kB I hg hm ?_ jn) ht;show PySem.W.method_cls I.iL d.sp (PySem.W.cls_value I.iL d.rd d.fd d.hi ?_);let I0:=I.tok (s.toks+1);let h2:=ha pos δ _ σ H _ I0 h;change wpAny _ _ (callWith pos (.builtin bz) [] (backTo pos (starEach [e1,e2] X.env)) []) _ _ _;rw[uQ]at h2⊢;show Calls.callWith_builtin (by change(false|| (backTo pos (starEach [e2] X.env)).any (·.1))=false;rw[dq] <;> rfl) (Calls.evalArgs_plain ?_);show a_ h2 λus s2 xz=>?_;let(vs,H2,I2,r2,x,y,od,ev,hx,q):=xz;subst ev;let(u1,u2,rfl,Zt,ru2):=r2.two;cases Zt;let(bm,N,nm,q',bs,hdct,sn,sub,ab,col,dd,k0,k1,k2,k3,k5,mN,hni,VP):=c.obj I2.iL;let(g1,g2,g3):=VP _ I2.iL;let(ws,t0,Lo,w0,w1,w2):=Dk I2.au hx;let(hp,gg,dr,tk,os):=s2;show AV (rest:=[u2]) F g3 g1 Lo rfl rfl w0 (λh' hk he=>?_) (by change 1<=sizeLine;decide);let I3:Inv X δ σ (upd H2 x (xN x C od)) {((hp,gg,dr,tk,os):Shared) with heap:=h',toks:=tk}:=by show I2.write (x:=x) (e:=x) (by rw[hx];show trivial) (.inl rfl) hk (_,he) ?_;let he':h'.get? x=!(PySem.W.eZ C od (ws.setIfInBounds 0 (.ref hp.objs.size))):=he;let hz:0 < ws.size:=(abw.mp w0).1;show Ka he' (t0:=hp.objs.size) (by simp[hz]) (by rw[Array.getElem?_setIfInBounds_ne @_];show w1) (by rw[Array.getElem?_setIfInBounds_ne @_];show w2)
 let eH:upd H2 x (xN x C od)=H2:=by
  funext b
  by_cases hb:b=x
  .rw[hb,Ζ,hx]
  .rw[υ hb]
 rw[eH]at I3;show(.aV,H2,I3,rfl,q)
def Inv.RP{σ:St}{H:Hp}{dx:Addr}{fs gs:List (Str×V)}{h':Heap}{t':Nat}(I:Inv X δ σ H s)(e:H dx=!(.xd fs))(k:∀b u,b≠dx->s.heap.get? b=!u->h'.get? b=!u)(O4:∃u,h'.get? dx=!u)
  (new:aH X.prog X.w (upd H dx (.xd gs)) h' dx (.xd gs)):Inv X δ σ (upd H dx (.xd gs)) {s with heap:=h',toks:=t'}:=by
 let nd:∀b,H b=none->b≠dx:=λb n z=>by rw[z,e]at n;cases n
 let nx:∀b u,H b=!u->(∀l,u≠ .xd l)->b≠dx:=λb u q nu z=>by rw[z,e]at q;cases q;show nu _ rfl
 show I.un (λb u q n _ _=>k b u (nd b n) q,λb u q n _ _=>(u.slots,k b u (nd b n) q),λb u q n _=>by rw[υ (nd b n)];show n,λb u q _=>?_,
  λb xs q=>by rw[υ (nx b _ q λ_ z=>nomatch z)];show q,λb u xs q=>by rw[υ (nx b _ q λ_ z=>nomatch z)];show q,λb ps q=>(#[],by rw[υ (nx b _ q λ_ z=>nomatch z),q];simp)) λb u q=>?_
 .by_cases hb:b=dx
  .rw[hb];show O4
  .show(u,k b u hb q)
 .by_cases hb:b=dx
  .subst hb;rw[Ζ]at q;cases q;show new
  .rw[υ hb]at q;show(I.au b u q).pB (λc v hc z=>k c v ?_ z) (λc z=>by rw[υ (nx c _ z λ_ y=>nomatch y)];show z) λc xs z=>by rw[υ (nx c _ z λ_ y=>nomatch y)];show z
   rcases hc with hc| hc
   .rw[hc];show hb
   .show nx c _ hc λ_ y=>nomatch y
structure HZ(K:gV)(C:Addr)(f:Str):Prop where
 at_:PySem.W.takerIn K C f=!none
def sXF(C:Addr)(f:Str)(to tv:TE):TS:=λD σ H=>tv σ H λy H1=>to σ H1 λu H2=>∃x,u= .ref x/\
 ((H2 x=!(xN x C none)/\∀dx,H2 dx=none->dx≠x->D.nx σ (upd (upd H2 x (xN x C (!dx))) dx (.xd [(f, y)])))\/
  (∃dx fs,H2 x=!(xN x C (!dx))/\dx≠x/\H2 dx=!(.xd fs)/\-fs < 1000/\D.nx σ (upd H2 dx (.xd (hU f y fs)))))
def LX(hex:X.ex=[])(c:fR X.K C iZ newId fI)(n:HZ X.K C f)(ho:PE X o ta)(hv:PE X value te)(hs:swapsWith value (!(.Attribute o f pos')) pos.line X.env=pure false|>1):PS X (.Assign [.Attribute o f pos'] value pos) (sXF C f ta te):=by
 intro δ s σ H D I h;show plainObj_wpAny_Assign_Attribute (a_ (hv δ s σ H _ I h) fun u s1 (y,H1,I1,ry,q)=>a_ (ho δ s1 σ H1 _ I1 q) λov s2 xz=>?_) hs;let(xv,H2,I2,rx,x,ex,q2):=xz;subst ex;obtain rfl:ov=Value.ref x:=rx;rcases q2 with ⟨hx,q2⟩| ⟨dx,fs,hx,fZ,Jv,hlen,q2⟩
 .let(ws,t0,Lo,w0,w1,w2):=Dk I2.au hx;show PySem.W.Th I2.iL Lo c.sa c.over n.at_ λh' dx hn fZ hk he KO=>?_;let Uu:H2 dx=none:=I2.au.aV hn;let I3:Inv X δ σ (upd H2 x (xN x C (!dx))) {s2 with heap:=h',toks:=s2.toks+2}:=I2.write (x:=x) (e:=x) (by rw[hx];show trivial) (.inl rfl) hk (_,he) (Ka he w0 w1 w2);let hn3:upd H2 x (xN x C (!dx)) dx=none:=by rw[υ fZ];show Uu
  show(σ,_,I2.Bh (o:=.xd [(f, y)]) hex hn I3 hn3 (show∃mA,h'.Ns1 dx mA/\∀g,gQ (List.lookup g [(f, y)]) (mA g) from(_,KO,λg=>?_)),q2 dx Uu fZ);change gQ (List.lookup g [(f, y)]) (if g=f then !u else none);by_cases hg:g=f
  .subst hg;rw[aaG rfl];have:List.lookup g [(g, y)]=!y:=by rw[abN,acm]
   rw[this];show ry
  .rw[aaE hg];have:List.lookup g [(f, y)]=none:=by rw[List.lookup_cons,show(g==f)=false by simpa using hg];rfl
   rw[this];trivial
 .let(ws,t0,Lo,w0,w1,w2):=Dk I2.au hx;let(mA,KO,hr):=(show aH X.prog X.w H2 s2.heap dx (.xd fs) from I2.au dx _ Jv);let hw:PySem.Within mA (fs.map (·.1)):=λg hg=>by
   have:=hr g;cases hl:fs.lookup g with
   | none=>rw[hl]at this;cases hm:mA g with
    | none=>show aaO hm hg
    | some z=>rw[hm]at this;show this.elim
   | some v=>
    have:=PySem.mem_of_lookup hl;show aaH.mpr (_,this,rfl)
  show PySem.W.Vy I2.iL Lo fZ KO hw (by rw[aae];omega) c.sa c.over n.at_ λh' hk UA=>?_;show(σ,_,I2.RP Jv hk (let (ob,_,_,e,_):=UA;(ob,e)) (show∃mA,h'.Ns1 dx mA/\∀g,gQ ((hU f y fs).lookup g) (mA g) from(_,UA,λg=>?_)),q2);change gQ ((hU f y fs).lookup g) (if g=f then !u else mA g);rw[jW];by_cases q:g=f
  .rw[aaG q,aaG q];show ry
  .rw[aaE q,aaE q];show hr g
end
def NU(C:Addr)(sp:Sp)(R:St->XK)(t:TA):TS:=λ_ σ H=>t σ H λvs H1=>-vs<=sizeLine/\∀x,H1 x=none->
 sp (.ref x::vs) (upd H1 x (xN x C none)) (λv H2=>v= .aV/\∃od,H2 x=!(xN x C od)/\R σ (.ref C) od (Lz x H2)) E0
section
variable{C fI:Addr}{R:St->XK}{t:TA}{Bn bz:String}{x:Str}{np cn:Pos}{e:Expr}{es:List Expr}{k:Nat}{fd:FuncData}{ps:List Str}{sp:Sp}
def G9(hR:C4 X R)(hc:X.calm=true)(hex:X.ex=[])(F:ExcBaseFacts Bn newId bz iZ)(c:fR X.K C iZ newId fI)(G:ae X.prog X.w X.K X.mg X.base (bC X.prog X.w) k fI fd ps sp)(hr:bf (k+1) X.A)(hb:fK X.K fd ps [])(hg:Gl X x)(hm:X.mg x=!(.ref C))(ha:PA X (e::es) t)
  (jn:(x==("__debug__":Str))=false|>2) (he:starEach (e::es) X.env=(false, eval e X.env)::starEach es X.env|>1) (dq:(backTo cn (starEach es X.env)).any (·.1)=false|>1):
  PS X (.Raise (!(.Call (.Name x np) (e::es) [] cn)) none pos) (NU C sp R t):=by
 intro δ s σ H D I h;let(bm,N,nm,q,bs,hdct,sn,sub,ab,col,dd,k0,k1,k2,k3,k5,mN,hni,VP):=c.obj I.iL;show y8 (nm:=nm) (q:=q) (C:=C) (N:=N) (bs:=bs) (bm:=bm) (hdct:=hdct) (sn:=sn) (sub:=sub) (ab:=ab) (col:=col) (dd:=dd) (k0:=k0) (k1:=k1) (k2:=k2) (k3:=k3) (k5:=k5) F ((VP _ I.iL).2.2.hasType F.hasBase) (I.ok.hd hc) (by rw[he];change(false|| (backTo cn (starEach es X.env)).any (·.1))=false;rw[dq];rfl) hni (kB I hg hm (rfl,?_) jn);let h2:=ha cn δ s σ H _ I h;rw[he]at h2⊢;show Calls.evalArgs_plain (abl h2 (λus s2 z=>?_) λ_ _ y=>y);let(vs,H1,I1,r,hz,hq):=z;let(g1,g2,g3):=VP _ I1.iL;let VT:∃oI,s2.heap.get? fI=!oI/\oI.cls= .type "function":=by let q:PySem.W.typeIn X.K (.ref fI)=!(.type "function"):=abh.mp c.fn;unfold PySem.W.typeIn at q;dsimp only at q;let(ob,ho,hcl):=aby.mp q;show(ob,I1.iL _ _ ho,hcl)
 show(rfl,by rw[<--r];show hz,g1,g2,g3,VT,λh' e M=>?_);let(t0,hx,_,_):=M.there;let hHe:H1 e=none:=I1.au.aV M.new;let I2:Inv X δ σ (upd H1 e (xN e C none)) {s2 with heap:=h'}:=I1.Bh (o:=xN e C none) hex M.new (I1.kept (t':=s2.toks) M.keeps) hHe (Ka hx rfl rfl rfl);let G_:=hq e hHe;let r2:af (V.ref e::vs) (Value.ref e::us):=.cons rfl r;let hl:-(Value.ref e::us)=-ps:=by rw[<--r2];show G.len _ _ _ _ G_
 show wpAny_call (codeAny_mono (G.run _ X.stack _ _ (Value.ref e::us,[]) (Value.ref e::us) _ _ E0 (hr.make C us []) (I2.Pt.make C us []) (by have:=hb _ (Value.ref e::us) I2.iL (by rw[aa0];show hl);rwa[aa0]at this) r2 G_) λrr s' pN=>?_);cases rr with
 | error er=>show(iR (X:=X) δ σ _ _ er s' I2 pN:X.xe er s')
 | ok fl=>
  cases fl with
  | ret u=>
   let(v,H',I3,rv,ev,od,Wc,hRq):=I2.after pN;subst ev;let(ws,t1,hx3,w0,w1,w2):=Dk I3.au Wc;show(rv,(VP _ I3.iL).1,od,ws,hx3,w1,?_);show hR δ σ (Lz e H') s' e (PySem.W.eZ C od ws) ws (I3.drop Wc) hx3 w1 w2 ?_ qR hRq;cases q0:X.s₀.heap.get? e with
   | none=>rfl
   | some u0=>
    let(u',e1):=I1.base.there e u0 q0 (by rw[hex];simp);rw[M.new]at e1;cases e1
  | next=>show False.elim pN
  | brk=>show False.elim pN
  | cont=>show False.elim pN
end
def yF.fresh{H H1:Hp}{h1 B:Heap}{o:Obj}(F:yF X.prog X.w X.stack H H1 s.heap h1 B x o):s.heap.get? x=none:=by
 cases q:s.heap.get? x with
 | none=>rfl
 | some u=>
  by_cases hb:x∈kX X.stack
  .let(vs,_,_,_,ZA,_):=F.Az.2.2.2;let(_,o',mJ,hd):=F.Az.2.2.1.mem hb;rw[ZA]at mJ;cases mJ;show aaO rfl (hd _)
  .let(u2,e2):=F.Mr x u q hb;rw[F.Az.2.1]at e2;cases e2
def Ox(i:Nat)(x C:Addr)(od:Option Addr)(D:oW):oW:=(λσ H=>H x=none->D.nx (σ.set i none) (upd H x (xO x C od)),λ_ _=>False,λ_ _=>False,λ_ _=>False)
def Ss(K:gV)(D:Addr)(i:Nat)(tb:(St->XK)->TS)(ts:Addr->TS):TS:=λDn σ H=>∃R:St->XK,tb R Dn σ H/\
 ∀σ' cls od H',R σ' cls od H'->∃C,cls= .ref C/\PySem.W.subIn K (.ref C) (.ref D)=!true/\∀x,H' x=none->ts x (Ox i x C od Dn) (σ'.set i (!(.ref x))) H'
section
variable{body:List Stmt}{D:Addr}{dn n:Str}{i:Nat}{b₀:Stmt}{cx:List Stmt}{Aw np:Pos}{tb:(St->XK)->TS}{ts:Addr->TS}{nU:List Value}{h9:String}
def Mb(hN:X.N.Nodup)(hi:X.N[i]? =!n)(hk:X.env.scope.names.lookup n=some .local)(hc:X.calm=true)(hex:X.ex=[])(uQ:X.stack=X.env::X.outer)(hf:X.env.frame=!X.env.locals)(d:gL X.K D nU h9)(IY:nU.contains (.type "BaseException")=true)(hg:Gl X dn)(hm:X.mg dn=!(.ref D))
  (hb:∀(R:St->XK) (δ:List (Addr×Obj)),xT (Cx.Q7 X R δ) body (tb R))
  (hs:∀(x:Addr) (pn:List (Addr×Obj)),xT (Cx.cx X x pn) (b₀::cx) (ts x)) (jn:(dn==("__debug__":Str))=false|>2):
  PS X (.Try body [.ExceptHandler (!(.Name dn np)) (!n) (b₀::cx) Aw] [] [] pos) (Ss X.K D i tb ts):=by
 intro δ s σ H Dn I h;let(R,h1,h2):=h;show wpAny_Try_except (abl (hb R δ [] s σ H Dn (Inv.YR I _) h1) (λfl s1 z=>?_) λe s1 z=>?_)
 .let z':SP X δ Dn fl s1:=SP.lL z;cases fl with
  | next=>show wpAny_execs_nil z'
  | brk=>show z'
  | cont=>show z'
  | ret u=>show z'
 .let(rD,σ',H1,s0,I0,hx):=z;let(x,o,H',B,rfl,os,bare,F,hE):=hx;let I0:Inv X δ σ' H1 s0:=Inv.lL (E:=X.xe) I0;let(C,ec,hu,Xu):=h2 σ' _ _ H' hE;let Rg:X.A.frames=!(X.env::X.outer):=by rw[<-uQ];show I0.ok.frames
  let XE:s0.heap.get? x=none:=F.fresh;show OA (B:=B) Rg hf (by rw[<-uQ];show F.Az) λh4 f4 u4=>?_;show pQ f4 λh5 f5 u5=>?_;let F5:=F.on (by rw[uQ];show f5) (u4.trans u5);let I5:Inv X δ σ' H' {s1 with heap:=h5}:=F5.back I0 os bare;let(v5,_,_,_,hx5,_):=f5.2.2.2;show wpAny_handleBy_cons (codeAny_handlers_test (kB (X:=Cx.cx X x (X.pn++δ)) (Inv.RG I5 x) hg hm ?_ jn)) (by intro q;cases q);show yM I5.iL d IY hu hx5 ec (codeAny_handlers_suite_as ?_);show pQ f5 λh6 f6 u6=>?_;let F6:=F5.on (by rw[uQ];show f6) u6;let I6:Inv X δ σ' H' {s1 with heap:=h6}:=F6.back I0 os bare;let(vs,Wt,J):=Kp I6 uQ hf F6;show iz (X:=Cx.cx X x (X.pn++δ++[(x, {o with data:=.fields vs})])) J hN hi (.inl hk) (v:=.ref x) rfl (λs7 I7=>?_) (.inr hk);show abl (hs x _ [] s7 _ H' (Ox i x C o.dict Dn) I7 (Xu x F6.nx)) (λfl s8 z=>?_) λ_ _ z=>z.elim;cases fl with
  | next=>
   let(a,b,I8,q):=z;let(p1,p2,_):=I8.pin (x, {o with data:=.fields vs}) (abE _ (aaL _ aal));let I8':Inv X δ a b s8:=Inv.IM I8 I0.ok.hd;let I9:=I0.Bh (o:=xO x C o.dict) hex XE I8' p2 (US p1 ec rfl rfl);show Hg I9 hN hi hk λs9 I9=>(_,_,I9,q p2)
  | brk=>let(a,b,I8,q):=z;show q.elim
  | cont=>let(a,b,I8,q):=z;show q.elim
  | ret u=>let(v,a,b,I8,r,q):=z;show q.elim
end
structure XAt(K:gV)(C:Addr)(f:Str):Prop where
 no:PySem.W.findIn K (.ref C) f=!none
 hd:PySem.W.hasDictIn K C=true
def tXA(K:gV)(f:Str)(ta:TE):TE:=λσ H Q=>ta σ H λu H1=>∃a C dx fs v,u= .ref a/\H1 a=!(xO a C (!dx))/\H1 dx=!(.xd fs)/\oZ K C/\XAt K C f/\fs.lookup f=!v/\Q v H1
def P6(K:gV):List V->Hp->VK->Prop:=λxs H Q=>∃a C od c t' b,xs=[.ref a,c]/\H a=!(xO a C od)/\(∀dx,od=!dx->∃o,H dx=!o)/\oZ K C/\x4 c=!t'/\PySem.W.kitOne K (.ref C) t'=!b/\Q (.bl b) H
section
variable{e:Expr}{f:Str}{ta:TE}
def Nx(he:PE X e ta)(hb:attributeBase e f X.env (eval e X.env)=eval e X.env|>1):PE X (.Attribute e f pos) (tXA X.K f ta):=by intro δ s σ H Q I h;show EN hb (a_ (he δ s σ H _ I h) λu s1 xz=>?_);let(xv,H1,I1,rx,a,C,dx,fs,v,ex,ha,hd,ty,xa,hl,q):=xz;subst ex;obtain rfl:u=Value.ref a:=rx;let((oc,odd,odt,uy),vs,h1,h2,h3,h4):=OH I1.au ha;let(mA,KO,hr):=(show aH X.prog X.w H1 s1.heap dx (.xd fs) from I1.au dx _ hd);let(od,hod,hlk):=uV KO;let(w,hw,AD):=gQ.some_of (v:=v) (o:=mA f) (by rw[<-hl];show hr f);cases h2;cases h3;cases h4;let J:PySem.W.InstAt s1.heap a (.ref C,!dx,.fields vs,uy) C (!od):=(h1,rfl,rfl,hod);show PySem.W.Z9 I1.iL J ty.ga ty.gt ty.be (PySem.W.findObj_own xa.hd xa.no rfl (by rw[hlk,hw])) (ug AD) (v,H1,I1.tok _,AD,q)
def IJ:cj X (.builtin "isinstance") (P6 X.K):=by
 intro δ s σ H xs us Q I r h;let(a,C,od,c,t',b,rfl,ha,Jv,ty,hc,hk,q):=h;let(u,u',rfl,r1,r2):=Lk r;cases DZ r2 hc;cases r1;let((oc,odd,odt,uy),vs,h1,h2,h3,h4):=OH I.au ha;cases h2;cases h3;cases h4;let J:∃od',PySem.W.InstAt s.heap a (.ref C,odd,.fields vs,uy) C od':=by
  cases odd with
  | none=>show(none,h1,rfl,rfl,trivial)
  | some d=>
   let(mJ,e1):=Jv d rfl;let(ob,e2):=aH.here (I.au d mJ e1);show(!ob,h1,rfl,rfl,e2)
 show PySem.W.kia_one (Jl ty) I.iL J hk nofun λtk=>(.bl b,H,I.tok tk,rfl,q)
end
inductive Dt where
 | aV
 | bl (b:Bool)
 | int (i:Int)
 | str (x:Str)
 | tup (xs:List Dt)
 | lst (xs:List Dt)
 | obj (C:Addr) (ns:List Str) (xs:List Dt)
 | loc (k:Nat)
 | ref (a:Addr)
 | ty (n:String)
 | fX (ns:List Int)
 | kt (xs:List Dt)
 | exc (C:Addr) (ns:List Str) (xs:List Dt)
 | Sh (x C:Addr) (od:Option Addr) (ns:List Str) (xs:List Dt)
inductive MO where
 | lst (xs:List Dt)
 | ins (C:Addr) (ns:List Str) (xs:List Dt)
 | cB (ks:List Key) (xs:List Dt)
 | raw (u:Addr->HO)
abbrev Ms:=List MO
abbrev En:=List (Option Dt)
mutual
def Den(K:gV)(G:Hp)(L:List Addr):Dt->V->Prop
 | .aV,v=>v= .aV
 | .bl b,v=>v= .bl b
 | .int i,v=>v= .int i
 | .str x,v=>v= .str x
 | .tup ds,v=>∃a vs,v= .ref a/\G a=!(.tup vs)/\Ν K G L ds vs
 | .lst ds,v=>∃a vs,v= .ref a/\G a=!(.lst vs)/\Ν K G L ds vs
 | .obj C ns ds,v=>∃a dx vs,v= .ref a/\G a=!(.ins C dx (ns.zip vs))/\-ns=-ds/\Ν K G L ds vs
 | .loc k,v=>∃a,v= .ref a/\L[k]? =!a
 | .ref a,v=>v= .ref a
 | .ty n,v=>v= .ty n
 | .fX ns,v=>∃a,v= .ref a/\fQ K G a (ns.map V.int)
 | .kt ds,v=>∃a vs,v= .ref a/\mH K G a vs/\Ν K G L ds vs
 | .exc C ns ds,v=>∃a od vs,v= .ref a/\G a=!(xO a C od)/\((ns=[]/\od=none)\/∃dx,od=!dx/\G dx=!(.xd (ns.zip vs)))/\-ns=-ds/\Ν K G L ds vs
 | .Sh x _ od ns ds,v=>∃vs,v= .ref x/\((ns=[]/\od=none)\/∃dx,od=!dx/\G dx=!(.xd (ns.zip vs)))/\-ns=-ds/\Ν K G L ds vs
def Ν(K:gV)(G:Hp)(L:List Addr):List Dt->List V->Prop
 | [],vs=>vs=[]
 | d::ds,vs=>∃v r,vs=v::r/\Den K G L d v/\Ν K G L ds r
end
def Pre(L L':List Addr):Prop:=∃t,L'=L++t
def Pre.refl(L:List Addr):Pre L L:=([],by simp)
def Pre.trans{a b c:List Addr}(h:Pre a b)(h':Pre b c):Pre a c:=by let(t,rfl):=h;let(u,rfl):=h';show(t++u,by simp)
def Pre.get{a b:List Addr}(h:Pre a b){k:Nat}{x:Addr}(e:a[k]? =!x):b[k]? =!x:=by let(t,rfl):=h;let hk:k < -a:=(aaj.mp e).1;rw[aaF hk];show e
def dW.rd{H H':Hp}{a:Addr}{u:HO}(e:dW H H')(h:Rd H a u):Rd H' a u:=by
 rcases h with h| ⟨o,h⟩
 .show .inl (e _ _ h)
 .show .inr (o,e _ _ h)
def dW.VL{K:gV}{H H':Hp}{a:Addr}{xs:List V}(e:dW H H')(h:mH K H a xs):mH K H' a xs:=by
 rcases h with h| h
 .show .inl (e.rd h)
 .show .inr h
section
variable{K:gV}{G G':Hp}{L L':List Addr}
mutual
def Den.mono(g:dW G G')(l:Pre L L'):∀(d:Dt) (v:V),Den K G L d v->Den K G' L' d v
 | .aV,_,h=>h
 | .bl _,_,h=>h
 | .int _,_,h=>h
 | .str _,_,h=>h
 | .tup ds,_,(a,vs,e,h1,h2)=>(a,vs,e,g _ _ h1,Ν.mono g l ds vs h2)
 | .lst ds,_,(a,vs,e,h1,h2)=>(a,vs,e,g _ _ h1,Ν.mono g l ds vs h2)
 | .obj C ns ds,_,(a,dx,vs,e,h1,hn,h2)=>(a,dx,vs,e,g _ _ h1,hn,Ν.mono g l ds vs h2)
 | .loc k,_,(a,e,h1)=>(a,e,l.get h1)
 | .ref _,_,h=>h
 | .ty _,_,h=>h
 | .fX _,_,(a,e,h1)=>(a,e,g.seq h1)
 | .kt ds,_,(a,vs,e,h1,h2)=>(a,vs,e,g.VL h1,Ν.mono g l ds vs h2)
 | .exc _ _ ds,_,(a,od,vs,e,h1,h2,h3,h4)=>(a,od,vs,e,g _ _ h1,h2.imp (λz=>z) (λ(dx,z1,z2)=>(dx,z1,g _ _ z2)),h3,Ν.mono g l ds vs h4)
 | .Sh _ _ _ _ ds,_,(vs,e,h2,h3,h4)=>(vs,e,h2.imp (λz=>z) (λ(dx,z1,z2)=>(dx,z1,g _ _ z2)),h3,Ν.mono g l ds vs h4)
def Ν.mono(g:dW G G')(l:Pre L L'):∀(ds:List Dt) (vs:List V),Ν K G L ds vs->Ν K G' L' ds vs
 | [],_,h=>h
 | d::ds,_,(v,r,e,h1,h2)=>(v,r,e,Den.mono g l d v h1,Ν.mono g l ds r h2)
end
def Ν.pair:∀{ds:List Dt} {vs:List V},Ν K G L ds vs->Paired (Den K G L) ds vs
 | [],_,h=>by let h:_=_:=h;subst h;show .nil
 | d::ds,_,(v,r,e,h1,h2)=>by subst e;show .cons h1 (Ν.pair h2)
def Ν.of:∀{ds:List Dt} {vs:List V},Paired (Den K G L) ds vs->Ν K G L ds vs
 | _,_,.nil=>rfl
 | _,_,.cons h t=>(_,_,rfl,h,Ν.of t)
end
section
variable{α β:Type}{F:α->β->Prop}
def Ew:∀{xs:List α} {us:List β} {i:Nat} {x:α},Paired F xs us->xs[i]? =!x->∃u,us[i]? =!u/\F x u
 | _,_,_,_,.nil,e=>by simp at e
 | _,_,0,_,.cons r _,e=>by simp at e;subst e;show(_,rfl,r)
 | _,_,i+1,x,.cons _ t,e=>by let(u,h1,h2):=Ew (i:=i) (x:=x) t (by simpa using e);show(u,by simpa using h1,h2)
def Dy{x:α}{u:β}(r:F x u):∀{xs:List α} {us:List β} (i:Nat),Paired F xs us->Paired F (xs.set i x) (us.set i u)
 | _,_,_,.nil=>.nil
 | _,_,0,.cons _ t=>.cons r t
 | _,_,i+1,.cons q t=>.cons q (Dy r i t)
def vz:∀{xs ys:List α} {us ws:List β},Paired F xs us->Paired F ys ws->Paired F (xs++ys) (us++ws)
 | _,_,_,_,.nil,s=>s
 | _,_,_,_,.cons r t,s=>.cons r (vz t s)
def rV:∀{xs:List α} {us:List β} (n:Nat),Paired F xs us->Paired F (xs.take n) (us.take n)
 | _,_,0,_=>.nil
 | _,_,_+1,.nil=>.nil
 | _,_,n+1,.cons r t=>.cons r (rV n t)
def sF:∀{xs:List α} {us:List β} (n:Nat),Paired F xs us->Paired F (xs.drop n) (us.drop n)
 | _,_,0,r=>r
 | _,_,_+1,.nil=>.nil
 | _,_,n+1,.cons _ t=>sF n t
def wa{xs:List α}{us:List β}(h:Paired F xs us):∀k:Nat,Paired F (List.replicate k xs).flatten (List.replicate k us).flatten
 | 0=>.nil
 | k+1=>by rw[abt,abt,abI,abI];show vz h (wa h k)
end
section
variable{K:gV}{G:Hp}{L:List Addr}
def Ν.length{ds:List Dt}{vs:List V}(h:Ν K G L ds vs):-ds=-vs:=Paired.length h.pair
def Ν.get{ds:List Dt}{vs:List V}{i:Nat}{d:Dt}(h:Ν K G L ds vs)(e:ds[i]? =!d):∃v,vs[i]? =!v/\Den K G L d v:=Ew h.pair e
def Ν.app{ds es:List Dt}{vs us:List V}(h:Ν K G L ds vs)(h':Ν K G L es us):Ν K G L (ds++es) (vs++us):=.of (vz h.pair h'.pair)
def ir:∀{ns:List Int},Ν K G L (ns.map Dt.int) (ns.map V.int)
 | []=>rfl
 | n::ns=>(_,_,rfl,rfl,ir)
def aQ{d:Dt}{vs:List V}(h:Ν K G L [d] vs):∃v,vs=[v]/\Den K G L d v:=by let(v,r,rfl,h1,h2):=h;let h2:r=[]:=h2;subst h2;show(v,rfl,h1)
def eD{d e:Dt}{vs:List V}(h:Ν K G L [d,e] vs):∃v u,vs=[v,u]/\Den K G L d v/\Den K G L e u:=by let(v,r,rfl,h1,h2):=h;let(u,rfl,h3):=aQ h2;show(v,u,rfl,h1,h3)
end
def Hn(K:gV)(G:Hp)(L:List Addr)(H:Hp)(a:Addr):MO->Prop
 | .lst ds=>∃vs,H a=!(.lst vs)/\Ν K G L ds vs
 | .ins C ns ds=>∃dx vs,H a=!(.ins C dx (ns.zip vs))/\-ns=-ds/\Ν K G L ds vs
 | .cB ks ds=>∃vs,H a=!(.dK (ks.zip vs))/\-ks=-ds/\Ν K G L ds vs
 | .raw u=>H a=!(u a)
structure Rl(K:gV)(G:Hp)(L:List Addr)(M:Ms)(H:Hp):Prop where
 sub:dW G H
 len:-L=-M
 nd:L.Nodup
 dF:∀(k:Nat) (a:Addr) (m:MO),L[k]? =!a->M[k]? =!m->G a=none/\Hn K G L H a m
structure Ex(G:Hp)(L:List Addr)(H:Hp)(G':Hp)(L':List Addr)(H':Hp):Prop where
 g:dW G G'
 l:Pre L L'
 fr:∀b,G b=none->H b≠none->G' b=none
 out:∀b o,H b=!o->b∉L->H' b=!o
 new:∀b∈L',b∈L\/H b=none
 uY:∀b,H b≠none->H' b≠none
def Ex.refl(G:Hp)(L:List Addr)(H:Hp):Ex G L H G L H:=(.refl _,.refl _,λ_ h _=>h,λ_ _ h _=>h,λ_ h=>.inl h,λ_ h=>h)
def Ex.trans{G:Hp}{L:List Addr}{H G1:Hp}{L1:List Addr}{H1 G2:Hp}{L2:List Addr}{H2:Hp}(a:Ex G L H G1 L1 H1)(b:Ex G1 L1 H1 G2 L2 H2):Ex G L H G2 L2 H2 where
 g:=a.g.trans b.g
 l:=a.l.trans b.l
 fr:=λx h1 h2=>b.fr x (a.fr x h1 h2) (a.uY x h2)
 out:=λx o h1 h2=>b.out x o (a.out x o h1 h2) λz=>(a.new x z).elim h2 λq=>by rw[h1]at q;cases q
 new:=λx h=>by
  rcases b.new x h with z| z
  .show a.new x z
  .right;cases q:H x with
   | none=>rfl
   | some o=>show absurd z (a.uY x (by rw[q];simp))
 uY:=λx h=>b.uY x (a.uY x h)
def Hn.there{K:gV}{G:Hp}{L:List Addr}{H:Hp}{a:Addr}{m:MO}(h:Hn K G L H a m):H a≠none:=by
 cases m with
 | lst ds=>let(vs,e,_):=h;rw[e];simp
 | ins C ns ds=>let(dx,vs,e,_):=h;rw[e];simp
 | cB ks ds=>let(vs,e,_):=h;rw[e];simp
 | raw u=>let h:H a=!(u a):=h;rw[h];simp
def Hn.mono{K:gV}{G G':Hp}{L L':List Addr}{H H':Hp}{a:Addr}{m:MO}(g:dW G G')(l:Pre L L')(e:H' a=H a)(h:Hn K G L H a m):Hn K G' L' H' a m:=by
 cases m with
 | lst ds=>let(vs,e1,h):=h;show(vs,e.trans e1,Ν.mono g l _ _ h)
 | ins C ns ds=>let(dx,vs,e1,h0,h):=h;show(dx,vs,e.trans e1,h0,Ν.mono g l _ _ h)
 | cB ks ds=>let(vs,e1,h0,h):=h;show(vs,e.trans e1,h0,Ν.mono g l _ _ h)
 | raw u=>show e.trans h
section
variable{K:gV}{G:Hp}{L:List Addr}{M:Ms}{H:Hp}{p:Addr}{o:HO}
def Rl.vM(r:Rl K G L M H){a:Addr}(h:a∈L):∃(k:Nat) (m:MO),L[k]? =!a/\M[k]? =!m/\G a=none/\Hn K G L H a m:=by
 let(k,hk,e):=abJ h;let e1:L[k]? =!a:=by rw[aaa hk,e]
 let e2:M[k]? =!(M[k]'(by rw[<-r.len];show hk)):=aaa _;show(k,_,e1,e2,r.dF k a _ e1 e2)
def Rl.G8(r:Rl K G L M H)(hp:H p=none):p∉L:=λz=>by let(k,m,_,_,_,h):=r.vM z;show h.there hp
def Rl.KH(r:Rl K G L M H)(hp:H p=none):Rl K (upd G p o) L M (upd H p o) where
 sub:=λb u e=>by
  by_cases hb:b=p
  .subst hb;rw[Ζ]at e⊢;show e
  .rw[υ hb]at e⊢;show r.sub b u e
 len:=r.len
 nd:=r.nd
 dF:=λk a m h1 h2=>by let(q1,q2):=r.dF k a m h1 h2;let hb:a≠p:=λz=>q2.there (by rw[z];show hp);show(by rw[υ hb];show q1,q2.mono (λb u e=>by rw[υ (λz=>by rw[z,r.sub.free hp]at e;cases e)];show e) (.refl _) (υ hb))
def Rl.QL(r:Rl K G L M H)(hp:H p=none):Ex G L H (upd G p o) L (upd H p o) where
 g:=λb u e=>by rw[υ (λz=>by rw[z,r.sub.free hp]at e;cases e)];show e
 l:=.refl _
 fr:=λb h1 h2=>by rw[υ (λz=>h2 (by rw[z];show hp))];show h1
 out:=λb u h1 _=>by rw[υ (λz=>by rw[z,hp]at h1;cases h1)];show h1
 new:=λb h=>.inl h
 uY:=λb h=>by rw[υ (λz=>h (by rw[z];show hp))];show h
def Rl.MR{m:MO}(r:Rl K G L M H)(hp:H p=none)(hm:Hn K G (L++[p]) (upd H p o) p m):Rl K G (L++[p]) (M++[m]) (upd H p o) where
 sub:=λb u e=>by rw[υ (λz=>by rw[z,r.sub.free hp]at e;cases e)];show r.sub b u e
 len:=by rw[aaC,aaC,r.len];rfl
 nd:=List.nodup_append.mpr (r.nd,by simp,λa ha b hb=>by
  let e:b=p:=by simpa using hb
  rw[e];exactλz=>r.G8 hp (z▸ha))
 dF:=λk a m' h1 h2=>by
  by_cases hk:k < -L
  .rw[aaF hk]at h1;rw[aaF (by rw[<-r.len];show hk)]at h2;let(q1,q2):=r.dF k a m' h1 h2;show(q1,q2.mono (.refl _) ([p],rfl) (υ λz=>q2.there (by rw[z];show hp)))
  .let e:k=-L:=by have:=(aaj.mp h1).1;rw[aaC]at this;simp at this;omega
   rw[e,aat (aam _)]at h1;rw[e,r.len,aat (aam _)]at h2;simp at h1 h2;subst h1 h2;show(r.sub.free hp,hm)
def Rl.Wh(r:Rl K G L M H)(hp:H p=none):Ex G L H G (L++[p]) (upd H p o) where
 g:=.refl _
 l:=([p],rfl)
 fr:=λb h1 _=>h1
 out:=λb u h1 _=>by rw[υ (λz=>by rw[z,hp]at h1;cases h1)];show h1
 new:=λb h=>by
  rcases aa3.mp h with z| z
  .show .inl z
  .let e:b=p:=by simpa using z
   right;rw[e];show hp
 uY:=λb h=>by rw[υ (λz=>h (by rw[z];show hp))];show h
def Rl.setM{k:Nat}{a:Addr}{m:MO}(r:Rl K G L M H)(hk:L[k]? =!a)(hm:Hn K G L (upd H a o) a m):Rl K G L (M.set k m) (upd H a o) where
 sub:=λb u e=>by let(k',m',e1,e2,q1,_):=r.vM (aaI hk);rw[υ (λz=>by rw[z,q1]at e;cases e)];show r.sub b u e
 len:=by rw[aa7];show r.len
 nd:=r.nd
 dF:=λk' a' m' h1 h2=>by
  by_cases e:k'=k
  .subst e;rw[hk]at h1;cases h1;let hl:k' < -M:=by rw[<-r.len];show(aaj.mp hk).1
   rw[aaV hl]at h2;cases h2;let(_,_,_,_,q1,_):=r.vM (aaI hk);show(q1,hm)
  .rw[abd (λz=>e z.symm)]at h2;let(q1,q2):=r.dF k' a' m' h1 h2;let ne:a'≠a:=λz=>by subst z;show e ((List.getElem?_inj (aaj.mp h1).1 r.nd).mp (h1.trans hk.symm))
   show(q1,q2.mono (.refl _) (.refl _) (υ ne))
def Rl.Hs{k:Nat}{a:Addr}(r:Rl K G L M H)(hk:L[k]? =!a):Ex G L H G L (upd H a o) where
 g:=.refl _
 l:=.refl _
 fr:=λb h1 _=>h1
 out:=λb u h1 h2=>by rw[υ (λz=>h2 (by rw[z];show aaI hk))];show h1
 new:=λb h=>.inl h
 uY:=λb h=>by
  by_cases e:b=a
  .rw[e,Ζ];simp
  .rw[υ e];show h
end
structure gP(K:gV)(G:Hp)(L:List Addr)(ρ:En)(σ:St):Prop where
 len:-ρ=-σ
 dF:∀(i:Nat) (d:Dt),ρ[i]? =!(!d)->∃v,σ[i]? =!(!v)/\Den K G L d v
section
variable{K:gV}{G G':Hp}{L L':List Addr}{H H':Hp}{ρ:En}{σ:St}
def gP.mono(h:gP K G L ρ σ)(e:Ex G L H G' L' H'):gP K G' L' ρ σ:=(h.len,λi d q=>let (v,a,b):=h.dF i d q;(v,a,Den.mono e.g e.l d v b))
def gP.set(h:gP K G L ρ σ)(i:Nat){d:Dt}{v:V}(q:Den K G L d v):gP K G L (ρ.set i (!d)) (σ.set i (!v)):=by
 show(by rw[aa7,aa7];show h.len,λj d' e=>?_);by_cases hj:i=j
 .subst hj;let hl:i < -ρ:=by have:=(aaj.mp e).1;rwa[aa7]at this
  rw[aaV hl]at e;cases e;show(v,aaV (by rw[<-h.len];show hl),q)
 .rw[abd hj]at e;let(u,a,b):=h.dF j d' e;show(u,by rw[abd hj];show a,b)
end
abbrev DQ:=Dt->Ms->Prop
abbrev DX:=En->Addr->List (Str×Dt)->Ms->Prop
def Qt(K:gV)(G:Hp)(L:List Addr)(H:Hp)(fs:List (Str×Dt))(od:Option Addr):Prop:=
 (fs=[]/\od=none)\/fs≠[]/\∃dx vs,od=!dx/\G dx=!(.xd ((fs.map (·.1)).zip vs))/\Ν K G L (fs.map (·.2)) vs
def sV(K:gV)(G:Hp)(L:List Addr)(H:Hp)(R:St->XK)(x:DX):Prop:=
 ∀σ ρ C fs M' G' L' H' od,x ρ C fs M'->Ex G L H G' L' H'->Rl K G' L' M' H'->gP K G' L' ρ σ->Qt K G' L' H' fs od->R σ (.ref C) od H'
def sV.on{K:gV}{G:Hp}{L:List Addr}{H G1:Hp}{L1:List Addr}{H1:Hp}{R:St->XK}{x:DX}(h:sV K G L H R x)(e:Ex G L H G1 L1 H1):sV K G1 L1 H1 R x:=
 λσ ρ C fs M' G' L' H' od q e' r n y=>h σ ρ C fs M' G' L' H' od q (e.trans e') r n y
def jh:DX:=λ_ _ _ _=>False
def sO{K:gV}{G:Hp}{L:List Addr}{H:Hp}{R:St->XK}:sV K G L H R jh:=λ_ _ _ _ _ _ _ _ _ q=>q.elim
abbrev DE:=En->Ms->DQ->DX->Prop
abbrev DT:=En->Ms->(Bool->Ms->Prop)->DX->Prop
abbrev DA:=En->Ms->(List Dt->Ms->Prop)->DX->Prop
structure gf where
 nx:En->Ms->Prop
 rt:DQ
 bk:En->Ms->Prop:=λ_ _=>False
 ct:En->Ms->Prop:=λ_ _=>False
 x:DX:=jh
abbrev DS:=gf->En->Ms->Prop
inductive Fin(K:gV)(G0:Hp)(L0:List Addr)(H0:Hp)(q:DQ)(v:V)(H:Hp):Prop
 | mk (d:Dt) (G:Hp) (L:List Addr) (M:Ms) (e:Ex G0 L0 H0 G L H) (r:Rl K G L M H) (n:Den K G L d v) (h:q d M)
inductive tY(K:gV)(G0:Hp)(L0:List Addr)(H0:Hp)(q:Bool->Ms->Prop)(b:Bool)(H:Hp):Prop
 | mk (G:Hp) (L:List Addr) (M:Ms) (e:Ex G0 L0 H0 G L H) (r:Rl K G L M H) (h:q b M)
inductive NY(K:gV)(G0:Hp)(L0:List Addr)(H0:Hp)(q:List Dt->Ms->Prop)(vs:List V)(H:Hp):Prop
 | mk (ds:List Dt) (G:Hp) (L:List Addr) (M:Ms) (e:Ex G0 L0 H0 G L H) (r:Rl K G L M H) (n:Ν K G L ds vs) (h:q ds M)
inductive eN(K:gV)(G0:Hp)(L0:List Addr)(H0:Hp)(q:En->Ms->Prop)(σ:St)(H:Hp):Prop
 | mk (ρ:En) (G:Hp) (L:List Addr) (M:Ms) (e:Ex G0 L0 H0 G L H) (r:Rl K G L M H) (n:gP K G L ρ σ) (h:q ρ M)
def tP(K:gV)(G0:Hp)(L0:List Addr)(H0:Hp)(Dn:gf):oW:=(eN K G0 L0 H0 Dn.nx,Fin K G0 L0 H0 Dn.rt,eN K G0 L0 H0 Dn.bk,eN K G0 L0 H0 Dn.ct)
inductive rq(K:gV)(R:St->XK)(t:DE)(σ:St)(H:Hp)(Q:VK):Prop
 | mk (G:Hp) (L:List Addr) (ρ:En) (M:Ms) (q:DQ) (x:DX) (r:Rl K G L M H) (n:gP K G L ρ σ) (h:t ρ M q x) (hx:sV K G L H R x) (hQ:∀v H1,Fin K G L H q v H1->Q v H1)
inductive Bu(K:gV)(R:St->XK)(t:DT)(σ:St)(H:Hp)(Q:Bool->Hp->Prop):Prop
 | mk (G:Hp) (L:List Addr) (ρ:En) (M:Ms) (q:Bool->Ms->Prop) (x:DX) (r:Rl K G L M H) (n:gP K G L ρ σ) (h:t ρ M q x) (hx:sV K G L H R x) (hQ:∀b H1,tY K G L H q b H1->Q b H1)
inductive Tc(K:gV)(R:St->XK)(t:DA)(σ:St)(H:Hp)(Q:List V->Hp->Prop):Prop
 | mk (G:Hp) (L:List Addr) (ρ:En) (M:Ms) (q:List Dt->Ms->Prop) (x:DX) (r:Rl K G L M H) (n:gP K G L ρ σ) (h:t ρ M q x) (hx:sV K G L H R x) (hQ:∀vs H1,NY K G L H q vs H1->Q vs H1)
structure Qk(A B:oW):Prop where
 nx:∀σ H,A.nx σ H->B.nx σ H
 rt:∀v H,A.rt v H->B.rt v H
 bk:∀σ H,A.bk σ H->B.bk σ H
 ct:∀σ H,A.ct σ H->B.ct σ H
inductive LY(K:gV)(R:St->XK)(t:DS)(De:oW)(σ:St)(H:Hp):Prop
 | mk (G:Hp) (L:List Addr) (ρ:En) (M:Ms) (Dn:gf) (r:Rl K G L M H) (n:gP K G L ρ σ) (h:t Dn ρ M) (hx:sV K G L H R Dn.x) (hQ:Qk (tP K G L H Dn) De)
def JE(X:Cx)(R:St->XK)(e:Expr)(t:DE):Prop:=PE X e (rq X.K R t)
def JT(X:Cx)(R:St->XK)(e:Expr)(t:DT):Prop:=PT X e (Bu X.K R t)
def JW(X:Cx)(R:St->XK)(e:Expr)(t:DT):Prop:=PW X e (Bu X.K R t)
def JA(X:Cx)(R:St->XK)(es:List Expr)(t:DA):Prop:=PA X es (Tc X.K R t)
def JS(X:Cx)(R:St->XK)(st:Stmt)(t:DS):Prop:=PS X st (LY X.K R t)
def zp(X:Cx)(R:St->XK)(st:List Stmt)(t:DS):Prop:=xT X st (LY X.K R t)
section
variable{K:gV}{G0:Hp}{L0:List Addr}{H0 G1:Hp}{L1:List Addr}{H1:Hp}
def Fin.back{q:DQ}(e:Ex G0 L0 H0 G1 L1 H1){v:V}{H:Hp}(h:Fin K G1 L1 H1 q v H):Fin K G0 L0 H0 q v H:=let (d,G,L,M,a,b,c,f):=h;(d,G,L,M,e.trans a,b,c,f)
def eN.back{q:En->Ms->Prop}(e:Ex G0 L0 H0 G1 L1 H1){v:St}{H:Hp}(h:eN K G1 L1 H1 q v H):eN K G0 L0 H0 q v H:=let (d,G,L,M,a,b,c,f):=h;(d,G,L,M,e.trans a,b,c,f)
def tY.back{q:Bool->Ms->Prop}(e:Ex G0 L0 H0 G1 L1 H1){v:Bool}{H:Hp}(h:tY K G1 L1 H1 q v H):tY K G0 L0 H0 q v H:=let (G,L,M,a,b,f):=h;(G,L,M,e.trans a,b,f)
def tP.back{Dn:gf}(e:Ex G0 L0 H0 G1 L1 H1):Qk (tP K G1 L1 H1 Dn) (tP K G0 L0 H0 Dn):=(λ_ _ h=>eN.back e h,λ_ _ h=>Fin.back e h,λ_ _ h=>eN.back e h,λ_ _ h=>eN.back e h)
def SP.imp{X:Cx}{δ:List (Addr×Obj)}{A B:oW}(e:Qk A B){f:Flow}{s:Shared}(h:SP X δ A f s):SP X δ B f s:=by
 cases f with
 | next=>let(a,b,I,q):=h;show(a,b,I,e.nx _ _ q)
 | brk=>let(a,b,I,q):=h;show(a,b,I,e.bk _ _ q)
 | cont=>let(a,b,I,q):=h;show(a,b,I,e.ct _ _ q)
 | ret u=>let(v,a,b,I,r,q):=h;show(v,a,b,I,r,e.rt _ _ q)
end
section
variable{X:Cx}{R:St->XK}{e:Expr}
def JE.of{te:TE}{t:DE}(h:PE X e te)(hw:∀σ H G L ρ M q x,Rl X.K G L M H->gP X.K G L ρ σ->t ρ M q x->sV X.K G L H R x->te σ H (Fin X.K G L H q)):JE X R e t:=by intro δ s σ H Q I ⟨G,L,ρ,M,q,x,r,n,ht,hx,hQ⟩;show a_ (h δ s σ H _ I (hw σ H G L ρ M q x r n ht hx)) λu s1 (v,H1,I1,rv,f)=>(v,H1,I1,rv,hQ v H1 f)
def JT.of{te:TT}{t:DT}(h:PT X e te)(hw:∀σ H G L ρ M q x,Rl X.K G L M H->gP X.K G L ρ σ->t ρ M q x->sV X.K G L H R x->te σ H (tY X.K G L H q)):JT X R e t:=by intro δ s σ H Q I ⟨G,L,ρ,M,q,x,r,n,ht,hx,hQ⟩;show a_ (h δ s σ H _ I (hw σ H G L ρ M q x r n ht hx)) λu s1 (H1,I1,f)=>(H1,I1,hQ u H1 f)
def JW.of{te:TT}{t:DT}(h:PW X e te)(hw:∀σ H G L ρ M q x,Rl X.K G L M H->gP X.K G L ρ σ->t ρ M q x->sV X.K G L H R x->te σ H (tY X.K G L H q)):JW X R e t:=by intro wh δ s σ H Q I ⟨G,L,ρ,M,q,x,r,n,ht,hx,hQ⟩;show a_ (h wh δ s σ H _ I (hw σ H G L ρ M q x r n ht hx)) λu s1 (H1,I1,f)=>(H1,I1,hQ u H1 f)
def JA.of{es:List Expr}{te:TA}{t:DA}(h:PA X es te)(hw:∀σ H G L ρ M q x,Rl X.K G L M H->gP X.K G L ρ σ->t ρ M q x->sV X.K G L H R x->te σ H (NY X.K G L H q)):JA X R es t:=by intro pos δ s σ H Q I ⟨G,L,ρ,M,q,x,r,n,ht,hx,hQ⟩;show a_ (h pos δ s σ H _ I (hw σ H G L ρ M q x r n ht hx)) λu s1 (v,H1,I1,rv,f)=>(v,H1,I1,rv,hQ v H1 f)
def JS.of{st:Stmt}{te:TS}{t:DS}(h:PS X st te)(hw:∀σ H G L ρ M Dn,Rl X.K G L M H->gP X.K G L ρ σ->t Dn ρ M->sV X.K G L H R Dn.x->te (tP X.K G L H Dn) σ H):JS X R st t:=by intro δ s σ H De I ⟨G,L,ρ,M,Dn,r,n,ht,hx,hQ⟩;show a_ (h δ s σ H _ I (hw σ H G L ρ M Dn r n ht hx)) λu s1 f=>SP.imp hQ f
def zp.of{st:List Stmt}{te:TS}{t:DS}(h:xT X st te)(hw:∀σ H G L ρ M Dn,Rl X.K G L M H->gP X.K G L ρ σ->t Dn ρ M->sV X.K G L H R Dn.x->te (tP X.K G L H Dn) σ H):zp X R st t:=by intro δ s σ H De I ⟨G,L,ρ,M,Dn,r,n,ht,hx,hQ⟩;show a_ (h δ s σ H _ I (hw σ H G L ρ M Dn r n ht hx)) λu s1 f=>SP.imp hQ f
end
def yG(i:Nat):DE:=λρ M q _=>match ρ[i]? with
 | some (!d)=>q d M
 | _=>False
def dC(d:Dt):DE:=λ_ M q _=>q d M
def jq(f:Dt->Dt->Ms->DQ->Prop)(a b:DE):DE:=λρ M q x=>a ρ M (λd1 M1=>b ρ M1 (λd2 M2=>f d1 d2 M2 q) x) x
def UG(f:Dt->Ms->DQ->Prop)(a:DE):DE:=λρ M q x=>a ρ M (λd1 M1=>f d1 M1 q) x
def Q8:DA:=λ_ M q _=>q [] M
def Jr(a:DE)(r:DA):DA:=λρ M q x=>a ρ M (λd M1=>r ρ M1 (λds M2=>q (d::ds) M2) x) x
def vL(f:List Dt->Ms->DQ->Prop)(a:DA):DE:=λρ M q x=>a ρ M (λds M1=>f ds M1 q) x
def ny(K:gV)(r:R2)(f:Dt->Dt->Ms->DQ->Prop):Prop:=
 ∀G0 L0 H0 G L M H v1 v2 d1 d2 q,Ex G0 L0 H0 G L H->Rl K G L M H->Den K G L d1 v1->Den K G L d2 v2->f d1 d2 M q->r v1 v2 H (Fin K G0 L0 H0 q)
def UnD(K:gV)(r:V->Hp->VK->Prop)(f:Dt->Ms->DQ->Prop):Prop:=
 ∀G0 L0 H0 G L M H v1 d1 q,Ex G0 L0 H0 G L H->Rl K G L M H->Den K G L d1 v1->f d1 M q->r v1 H (Fin K G0 L0 H0 q)
def xU(K:gV)(r:List V->Hp->VK->Prop)(f:List Dt->Ms->DQ->Prop):Prop:=
 ∀G0 L0 H0 G L M H vs ds q,Ex G0 L0 H0 G L H->Rl K G L M H->Ν K G L ds vs->f ds M q->r vs H (Fin K G0 L0 H0 q)
section
variable{K:gV}{R:St->XK}{ta tb:DE}{tc:DA}{σ:St}{H G:Hp}{L:List Addr}{ρ:En}{M:Ms}{q:DQ}{x:DX}
def BD{r:R2}{f:Dt->Dt->Ms->DQ->Prop}(od:ny K r f)(rl:Rl K G L M H)(n:gP K G L ρ σ)(h:jq f ta tb ρ M q x)(hx:sV K G L H R x):SE r (rq K R ta) (rq K R tb) σ H (Fin K G L H q):=by show(G,L,ρ,M,_,x,rl,n,h,hx,λv H1 xz=>?_);let(d1,G1,L1,M1,e1,r1,n1,h1):=xz;show(G1,L1,ρ,M1,_,x,r1,n.mono e1,h1,hx.on e1,λv2 H2 xz=>?_);let(d2,G2,L2,M2,e2,r2,n2,h2):=xz;show od G L H G2 L2 M2 H2 v v2 d1 d2 q (e1.trans e2) r2 (Den.mono e2.g e2.l _ _ n1) n2 h2
def S6{r:V->Hp->VK->Prop}{f:Dt->Ms->DQ->Prop}(od:UnD K r f)(rl:Rl K G L M H)(n:gP K G L ρ σ)(h:UG f ta ρ M q x)(hx:sV K G L H R x):tUn r (rq K R ta) σ H (Fin K G L H q):=by show(G,L,ρ,M,_,x,rl,n,h,hx,λv H1 xz=>?_);let(d1,G1,L1,M1,e1,r1,n1,h1):=xz;show od G L H G1 L1 M1 H1 v d1 q e1 r1 n1 h1
def O6{r:List V->Hp->VK->Prop}{f:List Dt->Ms->DQ->Prop}(od:xU K r f)(rl:Rl K G L M H)(n:gP K G L ρ σ)(h:vL f tc ρ M q x)(hx:sV K G L H R x):Xc r (Tc K R tc) σ H (Fin K G L H q):=by show(G,L,ρ,M,_,x,rl,n,h,hx,λv H1 xz=>?_);let(d1,G1,L1,M1,e1,r1,n1,h1):=xz;show od G L H G1 L1 M1 H1 v d1 q e1 r1 n1 h1
end
section
variable{X:Cx}{R:St->XK}{a b c:Expr}{ta tb:DE}{pos:Pos}
def jv(i:Nat){x:Str}{pos:Pos}(hN:X.N[i]? =!x|>1)(hv:Vz X.env.scope x:=by first| exact Or.inl rfl| exact Or.inr (Or.inl rfl)| exact Or.inr (Or.inr rfl))(hd:(x==("__debug__":Str))=false|>2)
  (xS:(x==("__classdict__":Str))=false|>2):JE X R (.Name x pos) (yG i):=.of (Cw hN hv hd xS) λσ H G L ρ M q x r n h hx=>by
 unfold yG at h;split at h
 .rename_i d e;let(v,e1,h1):=n.dF i d e;show(v,e1,d,G,L,M,.refl _ _ _,r,h1,h)
 .show h.elim
def Od{d:Dt}{v:V}{e:Expr}(h:PE X e (tC v))(hd:∀G L,Den X.K G L d v):JE X R e (dC d):=.of h λσ H G L ρ M q x r n h hx=>(d,G,L,M,.refl _ _ _,r,hd G L,h)
def τ{i j pos}:JE X R (.Constant (.int i) j pos) (dC (.int i)):=Od Ph λ_ _=>rfl
def Eg{b j pos}:JE X R (.Constant (.bool b) j pos) (dC (.bl b)):=Od U' λ_ _=>rfl
def A7{j pos}:JE X R (.Constant .none j pos) (dC .aV):=Od Pe λ_ _=>rfl
def fm{x j pos}:JE X R (.Constant (.str x) j pos) (dC (.str x)):=Od Hu λ_ _=>rfl
def vB{op:Operator}{r:R2}{f:Dt->Dt->Ms->DQ->Prop}(ho:ji X (binaryOp op) r)(od:ny X.K r f)(ja:JE X R a ta)(jb:JE X R b tb):JE X R (.BinOp a op b pos) (jq f ta tb):=
 .of (Tr ho ja jb) λσ H G L ρ M q x r n h hx=>BD od r n h hx
def Z'{op:UnaryOp}{r:V->Hp->VK->Prop}{f:Dt->Ms->DQ->Prop}(ho:Wm X (unaryOp op) r)(od:UnD X.K r f)(ja:JE X R a ta):JE X R (.UnaryOp op a pos) (UG f ta):=
 .of (SX ho ja) λσ H G L ρ M q x r n h hx=>S6 od r n h hx
def zW{op:CmpOp}{r:R2}{f:Dt->Dt->Ms->DQ->Prop}(ho:ji X (compareOp op) r)(od:ny X.K r f)(ja:JE X R a ta)(jb:JE X R b tb)(hm:behindInMarks op b=false):JE X R (.Compare a [op] [b] pos) (jq f ta tb):=
 .of (LV ho ja jb hm) λσ H G L ρ M q x r n h hx=>BD od r n h hx
def Ub{r:R2}{f:Dt->Dt->Ms->DQ->Prop}(hr:Ly X r)(od:ny X.K r f)(ja:JE X R a ta)(jb:JE X R b tb)(hs:xo b):JE X R (.Subscript a b pos) (jq f ta tb):=
 .of (T8 hr ja jb hs) λσ H G L ρ M q x r n h hx=>BD od r n h hx
def dZ{env:Env}{es:List Expr}{c j p}:starEach (.Constant c j p::es) env=(false, eval (.Constant c j p) env)::starEach es env:=rfl
def ON{env:Env}{es:List Expr}{c p}:starEach (.Name c p::es) env=(false, eval (.Name c p) env)::starEach es env:=rfl
def bt{env:Env}{es:List Expr}{a o b p}:starEach (.BinOp a o b p::es) env=(false, eval (.BinOp a o b p) env)::starEach es env:=rfl
def br{env:Env}{es:List Expr}{a b c p}:starEach (.Call a b c p::es) env=(false, eval (.Call a b c p) env)::starEach es env:=rfl
def aW{env:Env}{es:List Expr}{a b p}:starEach (.Subscript a b p::es) env=(false, eval (.Subscript a b p) env)::starEach es env:=rfl
def Ij{env:Env}{es:List Expr}{a b p}:starEach (.Tuple a b p::es) env=(false, eval (.Tuple a b p) env)::starEach es env:=rfl
def EK{env:Env}{es:List Expr}{a o b p}:starEach (.Compare a o b p::es) env=(false, eval (.Compare a o b p) env)::starEach es env:=rfl
def η:JA X R [] Q8:=.of JG λσ H G L ρ M q x r n h hx=>([],G,L,M,.refl _ _ _,r,rfl,h)
def θ{e:Expr}{es:List Expr}{te:DE}{t:DA}(ha:JE X R e te)(hr:JA X R es t)(hs:starEach (e::es) X.env=(false, eval e X.env)::starEach es X.env:=by first| exact dZ| exact ON| exact bt| exact br| exact aW| exact Ij| exact EK| exact abz| rfl):JA X R (e::es) (Jr te t):=
 .of (vm ha hr hs) λσ H G L ρ M q x rl n h hx=>by show(G,L,ρ,M,_,x,rl,n,h,hx,λv H1 xz=>?_);let(d1,G1,L1,M1,e1,r1,n1,h1):=xz;show(G1,L1,ρ,M1,_,x,r1,n.mono e1,h1,hx.on e1,λv2 H2 xz=>?_);let(d2,G2,L2,M2,e2,r2,n2,h2):=xz;show(d1::d2,G2,L2,M2,e1.trans e2,r2,(_,_,rfl,Den.mono e2.g e2.l _ _ n1,n2),h2)
def Ο{c:Str}{p:Pos}{es:List Expr}{te:DE}{t:DA}(ha:JE X R (.Name c p) te)(hr:JA X R es t):JA X R (.Name c p::es) (Jr te t):=θ ha hr ON
def Ta(t:DA):DE:=λρ M q x=>t ρ M (λds M1=>-ds<=sizeLine/\q (.tup ds) M1) x
def Vu(t:DA):DE:=λρ M q x=>t ρ M (λds M1=>-ds<=sizeLine/\q (.lst ds) M1) x
def Uz(t:DA):DE:=λρ M q x=>t ρ M (λds M1=>-ds<=sizeLine/\q (.loc (-M1)) (M1++[.lst ds])) x
def kj{K:gV}{G0:Hp}{L0:List Addr}{H0 G:Hp}{L:List Addr}{M:Ms}{H:Hp}{p:Addr}{o:HO}{d:Dt}{q:DQ}(e:Ex G0 L0 H0 G L H)(r:Rl K G L M H)(hp:H p=none)(hd:Den K (upd G p o) L d (.ref p))(h:q d M):Fin K G0 L0 H0 q (.ref p) (upd H p o):=
 (d,upd G p o,L,M,e.trans (r.QL hp),r.KH hp,hd,h)
def pU{K:gV}{G:Hp}{L:List Addr}{M:Ms}{H:Hp}{p:Addr}{ds:List Dt}{vs:List V}(r:Rl K G L M H)(hp:H p=none)(h:Ν K G L ds vs):Den K (upd G p (.tup vs)) L (.tup ds) (.ref p):=
 (p,vs,rfl,Ζ,Ν.mono (r.QL hp).g (.refl _) _ _ h)
def pV{K:gV}{G:Hp}{L:List Addr}{M:Ms}{H:Hp}{p:Addr}{ds:List Dt}{vs:List V}(r:Rl K G L M H)(hp:H p=none)(h:Ν K G L ds vs):Den K (upd G p (.lst vs)) L (.lst ds) (.ref p):=
 (p,vs,rfl,Ζ,Ν.mono (r.QL hp).g (.refl _) _ _ h)
def gW{K:gV}{G0:Hp}{L0:List Addr}{H0 G:Hp}{L:List Addr}{M:Ms}{H:Hp}{p:Addr}{q:DQ}{ds:List Dt}{vs:List V}(e:Ex G0 L0 H0 G L H)(r:Rl K G L M H)(hp:H p=none)(hd:Ν K G L ds vs)(h:q (.loc (-M)) (M++[.lst ds])):Fin K G0 L0 H0 q (.ref p) (upd H p (.lst vs)):=
 (.loc (-M),G,L++[p],M++[.lst ds],e.trans (r.Wh hp),r.MR (m:=.lst ds) hp (vs,Ζ,Ν.mono (.refl _) ([p],rfl) _ _ hd),(p,rfl,by rw[<-r.len,List.getElem?_append_right (Nat.le_refl _)];simp),h)
variable{es:List Expr}{t:DA}
def gT{x1}(h:JA X R es t):JE X R (.Tuple es x1 pos) (Ta t):=.of (Qj h) λσ H G L ρ M q x rl n h hx=>by show(G,L,ρ,M,_,x,rl,n,h,hx,fun v H1 (d1,G1,L1,M1,e1,r1,n1,h1)=>(by rw[<--n1];show h1.1,λp hp=>?_));show kj e1 r1 hp (pU r1 hp n1) h1.2
def jg(h:JA X R es t):JE X R (.List es pos) (Vu t):=.of (Jz h) λσ H G L ρ M q x rl n h hx=>by show(G,L,ρ,M,_,x,rl,n,h,hx,fun v H1 (d1,G1,L1,M1,e1,r1,n1,h1)=>(by rw[<--n1];show h1.1,λp hp=>?_));show kj e1 r1 hp (pV r1 hp n1) h1.2
def lU(h:JA X R es t):JE X R (.List es pos) (Uz t):=.of (Jz h) λσ H G L ρ M q x rl n h hx=>by show(G,L,ρ,M,_,x,rl,n,h,hx,fun v H1 (d1,G1,L1,M1,e1,r1,n1,h1)=>(by rw[<--n1];show h1.1,λp hp=>?_));show gW e1 r1 hp n1 h1.2
def kG(t:DE):DT:=λρ M q x=>t ρ M (λd M1=>match d with
 | .bl b=>q b M1
 | _=>False) x
def Vr(t u:DT):DT:=λρ M q x=>t ρ M (λc M1=>(c=true->u ρ M1 q x)/\(c=false->q false M1)) x
def orT(t u:DT):DT:=λρ M q x=>t ρ M (λc M1=>(c=true->q true M1)/\(c=false->u ρ M1 q x)) x
def U2(t:DT):DT:=λρ M q x=>t ρ M (λc M1=>q (! c) M1) x
def QM{K:gV}{t:DE}{σ:St}{H G:Hp}{L:List Addr}{ρ:En}{M:Ms}{q:Bool->Ms->Prop}{x:DX}(rl:Rl K G L M H)(n:gP K G L ρ σ)(h:kG t ρ M q x)(hx:sV K G L H R x):tB (rq K R t) σ H (tY K G L H q):=by
 show(G,L,ρ,M,_,x,rl,n,h,hx,λv H1 xz=>?_);let(d1,G1,L1,M1,e1,r1,n1,h1):=xz
 (try dsimp only at h1)
 split at h1
 .rename_i b;show(b,n1,G1,L1,M1,e1,r1,h1)
 .show h1.elim
def aS{e:Expr}{t:DE}(h:JE X R e t)(he:(∀whole,isTrue e X.env whole=(do let  v<-whole;standAt e.pos;holding [v] (truthy v)))|>3):JT X R e (kG t):=
 .of (Rj h he) λσ H G L ρ M q x rl n h hx=>QM rl n h hx
def fF{op:CmpOp}{r:R2}{f:Dt->Dt->Ms->DQ->Prop}(ho:ji X (compareOp op) r)(od:ny X.K r f)(ja:JE X R a ta)(jb:JE X R b tb)(hm:behindInMarks op b=false):JT X R (.Compare a [op] [b] pos) (kG (jq f ta tb)):=
 .of (MG ho ja jb hm) λσ H G L ρ M q x rl n h hx=>by
  let h:jq f ta tb ρ M (λd M1=>match d with| .bl b=>q b M1| _=>False) x:=h;show(G,L,ρ,M,_,x,rl,n,h,hx,λv H1 xz=>?_);let(d1,G1,L1,M1,e1,r1,n1,h1):=xz;show(G1,L1,ρ,M1,_,x,r1,n.mono e1,h1,hx.on e1,λv2 H2 xz=>?_);let(d2,G2,L2,M2,e2,r2,n2,h2):=xz;have:=od G L H G2 L2 M2 H2 v v2 d1 d2 _ (e1.trans e2) r2 (Den.mono e2.g e2.l _ _ n1) n2 h2;let e:(λx H'=>∃k,x=V.bl k/\tY X.K G L H q k H')=Fin X.K G L H (λd M1=>match d with| .bl b=>q b M1| _=>False):=by
   funext y H'
   apply propext;constructor
   .rintro⟨k,rfl,G3,L3,M3,e3,r3,h3⟩;show(.bl k,G3,L3,M3,e3,r3,rfl,h3)
   .rintro⟨d,G3,L3,M3,e3,r3,n3,h3⟩;split at h3
    .rename_i k;show(k,n3,G3,L3,M3,e3,r3,h3)
    .show h3.elim
  rw[e];show this
def JW.jt{e:Expr}{t:DT}(h:JW X R e t):JT X R e t:=h _
variable{t1 t2:DT}{rest:List Expr}
def El(ha:JT X R a t1):JW X R (.BoolOp .And [a] pos) t1:=pw_and1 ha
def eU(ha:JT X R a t1):JW X R (.BoolOp .Or [a] pos) t1:=pw_or1 ha
def Im(ha:JT X R a t1)(hb:JW X R (.BoolOp .And (b::rest) pos) t2):JW X R (.BoolOp .And (a::b::rest) pos) (Vr t1 t2):=.of (pw_and ha hb) λσ H G L ρ M q x rl n h hx=>by
 show(G,L,ρ,M,_,x,rl,n,h,hx,λc H1 xz=>?_);let(G1,L1,M1,e1,r1,h1):=xz;cases c with
 | true=>show E4 (G1,L1,ρ,M1,_,x,r1,n.mono e1,h1.1 rfl,hx.on e1,λb H2 f=>tY.back e1 f)
 | false=>show FK (G1,L1,M1,e1,r1,h1.2 rfl)
def eI(ha:JT X R a t1)(hb:JW X R (.BoolOp .Or (b::rest) pos) t2):JW X R (.BoolOp .Or (a::b::rest) pos) (orT t1 t2):=.of (pw_or ha hb) λσ H G L ρ M q x rl n h hx=>by
 show(G,L,ρ,M,_,x,rl,n,h,hx,λc H1 xz=>?_);let(G1,L1,M1,e1,r1,h1):=xz;cases c with
 | true=>show E4 (G1,L1,M1,e1,r1,h1.1 rfl)
 | false=>show FK (G1,L1,ρ,M1,_,x,r1,n.mono e1,h1.2 rfl,hx.on e1,λb H2 f=>tY.back e1 f)
def h7(ha:JT X R a t1):JT X R (.UnaryOp .Not a pos) (U2 t1):=.of (Rh ha) λσ H G L ρ M q x rl n h hx=>
 (G,L,ρ,M,_,x,rl,n,h,hx,λ_ _ (G,L,M,e,r,h)=>(G,L,M,e,r,h))
def V5(t u:DE):DE:=λρ M q x=>t ρ M (λd M1=>match d with
 | .bl c=>(c=true->u ρ M1 q x)/\(c=false->q (.bl false) M1)
 | _=>False) x
def VM(t:DE):DE:=λρ M q x=>t ρ M (λd M1=>match d with
 | .bl c=>q (.bl (! c)) M1
 | _=>False) x
def dIf(t:DT)(u v:DE):DE:=λρ M q x=>t ρ M (λc M1=>(c=true->u ρ M1 q x)/\(c=false->v ρ M1 q x)) x
def mf{op}{t:DE}(h:JE X R a t):JE X R (.BoolOp op [a] pos) t:=Qs h
def gJ(ha:JE X R a ta)(hb:JE X R (.BoolOp .And (b::rest) pos) tb):JE X R (.BoolOp .And (a::b::rest) pos) (V5 ta tb):=.of (Py ha hb) λσ H G L ρ M q x rl n h hx=>by
 show(G,L,ρ,M,_,x,rl,n,h,hx,λv H1 xz=>?_);let(d1,G1,L1,M1,e1,r1,n1,h1):=xz
 (try dsimp only at h1)
 split at h1
 .rename_i c;show(c,n1,?_);cases c with
  | true=>show E4 (G1,L1,ρ,M1,_,x,r1,n.mono e1,h1.1 rfl,hx.on e1,λb H2 f=>Fin.back e1 f)
  | false=>show FK (.bl false,G1,L1,M1,e1,r1,rfl,h1.2 rfl)
 .show h1.elim
def Pk(ha:JE X R a ta):JE X R (.UnaryOp .Not a pos) (VM ta):=.of (RQ ha) λσ H G L ρ M q x rl n h hx=>by
 show(G,L,ρ,M,_,x,rl,n,h,hx,λv H1 xz=>?_);let(d1,G1,L1,M1,e1,r1,n1,h1):=xz
 (try dsimp only at h1)
 split at h1
 .rename_i c;show(c,n1,.bl (! c),G1,L1,M1,e1,r1,rfl,h1)
 .show h1.elim
def uO{c:Expr}(hc:JT X R c t1)(ha:JE X R a ta)(hb:JE X R b tb):JE X R (.IfExp c a b pos) (dIf t1 ta tb):=.of (J0 hc ha hb) λσ H G L ρ M q x rl n h hx=>by
 show(G,L,ρ,M,_,x,rl,n,h,hx,λc H1 xz=>?_);let(G1,L1,M1,e1,r1,h1):=xz;cases c with
 | true=>show E4 (G1,L1,ρ,M1,_,x,r1,n.mono e1,h1.1 rfl,hx.on e1,λb H2 f=>Fin.back e1 f)
 | false=>show FK (G1,L1,ρ,M1,_,x,r1,n.mono e1,h1.2 rfl,hx.on e1,λb H2 f=>Fin.back e1 f)
end
def II:DS:=λDn ρ M=>Dn.nx ρ M
def P4(t u:DS):DS:=λDn ρ M=>t {Dn with nx:=u Dn} ρ M
def sIf(c:DT)(t u:DS):DS:=λDn ρ M=>c ρ M (λb M1=>(b=true->t Dn ρ M1)/\(b=false->u Dn ρ M1)) Dn.x
def UE(t:DE):DS:=λDn ρ M=>t ρ M Dn.rt Dn.x
def J2(i:Nat)(t:DE):DS:=λDn ρ M=>t ρ M (λd M1=>Dn.nx (ρ.set i (!d)) M1) Dn.x
def O2(t:DE):DS:=λDn ρ M=>t ρ M (λ_ M1=>Dn.nx ρ M1) Dn.x
def Z3(t:DS):DS:=λDn ρ M=>∃J:En->Ms->Prop,t {Dn with nx:=J} ρ M/\∀ρ' M',J ρ' M'->Dn.nx ρ' M'
section
variable{X:Cx}{R:St->XK}{st:Stmt}{rest:List Stmt}{t u:DS}{e:Expr}{te:DE}{pos:Pos}
def Ρ:zp X R [] II:=.of Nw λσ H G L ρ M Dn rl n h hx=>(ρ,G,L,M,.refl _ _ _,rl,n,h)
def ι(h1:JS X R st t):zp X R [st] t:=C6 h1
def ζ(h1:JS X R st t)(h2:zp X R rest u):zp X R (st::rest) (P4 t u):=.of (yd h1 h2) λσ H G L ρ M Dn rl n h hx=>by show(G,L,ρ,M,_,rl,n,h,hx,(λσ1 H1 xz=>?_,λ_ _ f=>f,λ_ _ f=>f,λ_ _ f=>f));let(ρ1,G1,L1,M1,e1,r1,n1,h1):=xz;show(G1,L1,ρ1,M1,Dn,r1,n1,h1,hx.on e1,tP.back e1)
def o_:JS X R (.Continue pos) (λDn ρ M=>Dn.ct ρ M):=.of yt λσ H G L ρ M Dn rl n h hx=>(ρ,G,L,M,.refl _ _ _,rl,n,h)
def Δ(he:JE X R e te):JS X R (.Return (!e) pos) (UE te):=.of (PD he) λσ H G L ρ M Dn rl n h hx=>(G,L,ρ,M,_,_,rl,n,h,hx,λ_ _ f=>f)
def e_(he:JE X R e te)(hs:swapsWith e none pos.line X.env=pure false|>1):JS X R (.Expr e pos) (O2 te):=.of (D9 he hs) λσ H G L ρ M Dn rl n h hx=>by show(G,L,ρ,M,_,_,rl,n,h,hx,λv H1 (d1,G1,L1,M1,e1,r1,n1,h1)=>(ρ,G1,L1,M1,e1,r1,n.mono e1,h1))
def aC{c:Expr}{a b:List Stmt}{tc:DT}(hc:JT X R c tc)(ha:zp X R a t)(hb:zp X R b u):JS X R (.If c a b pos) (sIf tc t u):=.of (Uq hc ha hb) λσ H G L ρ M Dn rl n h hx=>by
 show(G,L,ρ,M,_,_,rl,n,h,hx,λc H1 xz=>?_);let(G1,L1,M1,e1,r1,h1):=xz;cases c with
 | true=>show E4 (G1,L1,ρ,M1,Dn,r1,n.mono e1,h1.1 rfl,hx.on e1,tP.back e1)
 | false=>show FK (G1,L1,ρ,M1,Dn,r1,n.mono e1,h1.2 rfl,hx.on e1,tP.back e1)
def Α(i:Nat){x:Str}{pos':Pos}(hN:X.N.Nodup)(he:JE X R e te)(hi:X.N[i]? =!x|>1)(hx:Loc X.env.scope x:=by first| exact .inl rfl| exact .inr rfl)(hs:swapsWith e (!(.Name x pos')) pos.line X.env=pure false|>1)(hf:X.fn x=true\/X.env.scope.names.lookup x=some .local:=by first| exact .inl rfl| exact .inr rfl| assumption):
  JS X R (.Assign [.Name x pos'] e pos) (J2 i te):=.of (Ra hN hi hx he hs hf) λσ H G L ρ M Dn rl n h hx=>by
 show(G,L,ρ,M,_,_,rl,n,h,hx,λv H1 (d1,G1,L1,M1,e1,r1,n1,h1)=>(_,G1,L1,M1,e1,r1,(n.mono e1).set i n1,h1))
def jF(h:JS X R st t):JS X R st (Z3 t):=.of h λσ H G L ρ M Dn rl n h hx=>by let(J,h1,h2):=h;show(G,L,ρ,M,_,rl,n,h1,hx,(λσ1 H1 (ρ1,G1,L1,M1,e1,r1,n1,h1)=>(ρ1,G1,L1,M1,e1,r1,n1,h2 _ _ h1),λ_ _ f=>f,λ_ _ f=>f,λ_ _ f=>f))
end
abbrev DXF:=Addr->List (Str×Dt)->Ms->Prop
abbrev DF:=List Dt->Ms->DQ->DXF->Prop
inductive cZ(K:gV)(T:DF)(vs:List V)(H:Hp)(Q:VK)(E:XK):Prop
 | mk (G:Hp) (L:List Addr) (ds:List Dt) (M:Ms) (q:DQ) (x:DXF) (r:Rl K G L M H) (n:Ν K G L ds vs) (h:T ds M q x) (hQ:∀v H1,Fin K G L H q v H1->Q v H1) (hE:∀C fs M1 G1 L1 H1 od,x C fs M1->Ex G L H G1 L1 H1->Rl K G1 L1 M1 H1->Qt K G1 L1 H1 fs od->E (.ref C) od H1)
def iT(N:List Str)(ds:List Dt):En:=ds.map some++List.replicate (-N - -ds) none
def qA{K:gV}{G:Hp}{L:List Addr}{N:List Str}{ds:List Dt}{vs:List V}(h:Ν K G L ds vs):gP K G L (iT N ds) (start N vs):=by
 let hl:=-h;show(by unfold iT start;simp[hl],λi d e=>?_);unfold iT at e;unfold start;by_cases hi:i < -ds
 .rw[List.getElem?_append_left (by simpa using hi),List.getElem?_map]at e;rw[List.getElem?_append_left (by simpa [<-hl] using hi),List.getElem?_map];cases q:ds[i]? with
  | none=>rw[q]at e;cases e
  | some d'=>
   rw[q]at e;cases e;let(v,e1,h1):=h.get q;show(v,by rw[e1];rfl,h1)
 .rw[List.getElem?_append_right (by simpa using Nat.le_of_not_lt hi),List.getElem?_replicate]at e;split at e <;> cases e
section
variable{P:Program}{w:World}{K:gV}{mg:Str->Option Value}{base:Heap}
def dh.eK{x qual:Str}{st:Stmt}{f:Addr}{fd:FuncData}{N ps:List Str}{k:Nat}{T:DF}(F:dh K x qual st f fd)(S:Β N ps (ν st))(len:∀ds M q x,T ds M q x->-ds=-ps)
  (mG:∀(aP:Value) (A:Around) (outer:List Env) (s:Shared) (H:Hp) (E:XK),bf k (A.deeper (envOfC qual (ν st) s.heap.objs.size f aP))->
   ∃t,zp (jN (bC P w) P w K mg base N qual (ν st) f aP A outer s H E) (λ_=>E) (de st) t/\∀ds M q x,T ds M q x->t {nx:=λ_ M'=>q .aV M',rt:=q,x:=λ_=>x} (iT N ds) M):
  ae P w K mg base (bC P w) (k+1) f fd ps (cZ K T):=by
 show F.okX S (λvs H Q E h=>?_) (λaP A outer s H vs Q E hr h=>?_)
 .let(G,L,ds,M,q,x,rl,n,hT,_):=h;rw[<--n];show len _ _ _ _ hT
 .let(t,j,ht):=mG aP A outer s H E hr;let(G,L,ds,M,q,x,rl,n,hT,hQ,hE):=h;show(_,j,G,L,iT N ds,M,_,rl,qA n,ht ds M q x hT,λσ ρ C fs M' G' L' H' od hx e r _ y=>hE C fs M' G' L' H' od hx e r y,(λσ' H' (ρ',G',L',M',e,r,_,h)=>hQ _ _ (.aV,G',L',M',e,r,rfl,h),λv H' f=>hQ v H' f,λ_ _ (_,_,_,_,_,_,_,h)=>h.elim,λ_ _ (_,_,_,_,_,_,_,h)=>h.elim))
structure ax(P:Program)(w:World)(K:gV)(mg:Str->Option Value)(base:Heap)(k:Nat)(x:Str)(ps:List Str)(T:DF)(f:Addr)(fd:FuncData):Prop where
 ok:ae P w K mg base (bC P w) k f fd ps (cZ K T)
 b:fK K fd ps []
 m:mg x=!(.ref f)
 kp:PySem.W.keepIn K (.ref f)=true
end
def O0(T:DF)(t:DA):DE:=λρ M q x=>t ρ M (λds M1=>T ds M1 q (λC fs M'=>x ρ C fs M')) x
section
variable{X:Cx}{R:St->XK}{T:DF}{k k':Nat}{f:Addr}{fd:FuncData}{ps:List Str}{x:Str}{p pos:Pos}{e:Expr}{es:List Expr}{t:DA}
def ah(C:ax X.prog X.w X.K X.mg X.base k x ps T f fd)(hr:bf k' X.A)(hx:cy (bC X.prog X.w) X R)(ha:JA X R (e::es) t)(hk:k<=k'|>2)(hg:Gl X x|>1)(jn:(x==("__debug__":Str))=false|>2)
  (he:starEach (e::es) X.env=(false, eval e X.env)::starEach es X.env|>1) (dq:(backTo pos (starEach es X.env)).any (·.1)=false|>1):JE X R (.Call (.Name x p) (e::es) [] pos) (O0 T t):=
 .of (yN C.ok (hr.mono hk) hg C.m C.kp C.b .nil hx ha jn he dq) λσ H G L ρ M q x rl n h hx=>by show(G,L,ρ,M,_,x,rl,n,h,hx,λvs H1 xz=>?_);let(ds,G1,L1,M1,e1,r1,n1,h1):=xz;change cZ X.K T (vs++[]) H1 _ _;rw[aa0];show(G1,L1,ds,M1,q,_,r1,n1,h1,λv H' f=>Fin.back e1 f,λC fs M' G' L' H' od hq e' r' y=>hx σ ρ C fs M' G' L' H' od hq (e1.trans e') r' (n.mono (e1.trans e')) y)
end
structure Yl(K:gV)(J:It)(xs:List Dt)(G0:Hp)(L0:List Addr):Prop where
 go:∀(i:Nat) G L M H (d:Dt),dW G0 G->Pre L0 L->Rl K G L M H->xs[i]? =!d->J.go i H/\∀v H',J.T_ i H v H'->∃G',Ex G L H G' L H'/\Rl K G' L M H'/\Den K G' L d v
 stop:∀(i:Nat) G L M H,dW G0 G->Pre L0 L->Rl K G L M H->-xs<=i->J.stop i H
inductive T4(K:gV)(G0:Hp)(L0:List Addr)(H0:Hp)(q:List Dt->Ms->Prop)(J:It)(H:Hp):Prop
 | mk (xs:List Dt) (G:Hp) (L:List Addr) (M:Ms) (e:Ex G0 L0 H0 G L H) (r:Rl K G L M H) (y:Yl K J xs G L) (h:q xs M)
inductive YM(K:gV)(R:St->XK)(t:DA)(σ:St)(H:Hp)(Q:It->Hp->Prop):Prop
 | mk (G:Hp) (L:List Addr) (ρ:En) (M:Ms) (q:List Dt->Ms->Prop) (x:DX) (r:Rl K G L M H) (n:gP K G L ρ σ) (h:t ρ M q x) (hx:sV K G L H R x) (hQ:∀J H1,T4 K G L H q J H1->Q J H1)
def JI(X:Cx)(R:St->XK)(tg iter:Expr)(t:DA):Prop:=PI X tg iter (YM X.K R t)
def LG.imp{X:Cx}{δ:List (Addr×Obj)}{σ:St}{tg:Expr}{R R':It->Hp->Prop}(hR:∀J H,R J H->R' J H){v:Value}{s:Shared}(h:LG X δ σ tg R v s):LG X δ σ tg R' v s:=by let(it,fp,tn,J,H',a,b,c,d,e,f):=h;show(it,fp,tn,J,H',a,b,c,d,e,hR J H' f)
def Ej{K:gV}{G:Hp}{L:List Addr}{a:Addr}{ds:List Dt}{vs:List V}(h:∀G':Hp,dW G G'->fQ K G' a vs)(n:Ν K G L ds vs):Yl K (Wx K a) ds G L where
 go:=λi G1 L1 M1 H1 d g l r e=>by
  let(v,e1,n1):=n.get e;let hs:=h H1 (g.trans r.sub)
  show((vs,v,hs,e1),fun v' H' (eH,y)=>by
   subst eH;let e2:=y vs hs;rw[e1]at e2;cases e2
   show(G1,.refl _ _ _,r,Den.mono g l _ _ n1))
 stop:=λi G1 L1 M1 H1 g l r e=>(vs,h H1 (g.trans r.sub),by rw[<--n];show e)
def JV{K:gV}{G:Hp}{L:List Addr}{a:Addr}{ds:List Dt}{vs:List V}(h:∀G':Hp,dW G G'->mH K G' a vs)(n:Ν K G L ds vs):Yl K (Zm K a) ds G L where
 go:=λi G1 L1 M1 H1 d g l r e=>by
  let(v,e1,n1):=n.get e;let hs:=h H1 (g.trans r.sub)
  show((vs,v,hs,e1),fun v' H' (eH,y)=>by
   subst eH;let e2:=y vs hs;rw[e1]at e2;cases e2
   show(G1,.refl _ _ _,r,Den.mono g l _ _ n1))
 stop:=λi G1 L1 M1 H1 g l r e=>(vs,h H1 (g.trans r.sub),by rw[<--n];show e)
def dj(lo:Int)(n:Nat):List Dt:=(List.range n).map λk:Nat=>Dt.int (lo+(k:Int))
def HJ{K:gV}{G:Hp}{L:List Addr}{lo:Int}{n:Nat}:Yl K (U8 lo n) (dj lo n) G L where
 go :=λi G1 L1 M1 H1 d g l r e=>by
  unfold dj at e;rw[aan]at e;let hi:i < n:=by
   cases q:(List.range n)[i]? with
   | none=>rw[q]at e;cases e
   | some j=>
    have:=(aaj.mp q).1;rwa[abe]at this
  rw[aaX hi]at e;cases e;show(hi,λv' H' (eH,y)=>by subst eH y;show(G1,.refl _ _ _,r,rfl))
 stop:=λi G1 L1 M1 H1 g l r e=>by change n<=i;unfold dj at e;simpa using e
section
variable{X:Cx}{R:St->XK}{tg iter:Expr}
def JI.of{wi:TI}{t:DA}(h:PI X tg iter wi)(hw:∀σ H G L ρ M q x,Rl X.K G L M H->gP X.K G L ρ σ->t ρ M q x->sV X.K G L H R x->wi σ H (T4 X.K G L H q)):JI X R tg iter t:=by intro δ s σ H Q I ⟨G,L,ρ,M,q,x,r,n,ht,hx,hQ⟩;show a_ (h δ s σ H _ I (hw σ H G L ρ M q x r n ht hx)) λu s1 f=>a_ f λu2 s2 f2=>LG.imp hQ f2
def TX(t:DA):DA:=λρ M q x=>t ρ M (λds M1=>match ds with
 | [.int j]=>(- (2 ^ 62)<=j/\j < 2 ^ 62)/\q (dj 0 j.toNat) M1
 | _=>False) x
def cK{a:Expr}{t:DA}{p pos:Pos}(hm:X.mg "range"=none)(ha:JA X R [a] t)(hg:Gl X "range"|>1)(hs:starEach [a] X.env=[(false, eval a X.env)]|>1):JI X R tg (.Call (.Name "range" p) [a] [] pos) (TX t):=
 .of (GC hg hm ha hs) λσ H G L ρ M q x rl n h hx=>by
  show(G,L,ρ,M,_,x,rl,n,h,hx,λvs H1 xz=>?_);let(ds,G1,L1,M1,e1,r1,n1,h1):=xz
  (try dsimp only at h1)
  split at h1
  .rename_i j;let(v,rfl,n2):=aQ n1;let n2:v= .int j:=n2;subst n2;show(j,rfl,h1.1.1,h1.1.2,_,G1,L1,M1,e1,r1,HJ,h1.2)
  .show h1.elim
def Kx(t:DA):DA:=λρ M q x=>t ρ M (λds M1=>match ds with
 | [.int i,.int j]=>(- (2 ^ 62)<=i/\i < 2 ^ 62/\ - (2 ^ 62)<=j/\j < 2 ^ 62)/\q (dj i (j - i).toNat) M1
 | _=>False) x
def FO{a b:Expr}{t:DA}{p pos:Pos}(hm:X.mg "range"=none)(ha:JA X R [a,b] t)(hg:Gl X "range"|>1)(hs:starEach [a,b] X.env=[(false, eval a X.env),(false, eval b X.env)]|>1)(Qd:starEach [b] X.env=[(false, eval b X.env)]|>1):
  JI X R tg (.Call (.Name "range" p) [a,b] [] pos) (Kx t):=
 .of (FN hg hm ha hs Qd) λσ H G L ρ M q x rl n h hx=>by
  show(G,L,ρ,M,_,x,rl,n,h,hx,λvs H1 xz=>?_);let(ds,G1,L1,M1,e1,r1,n1,h1):=xz
  (try dsimp only at h1)
  split at h1
  .rename_i i j;let(v,u,rfl,n3,n2):=eD n1;let n3:v= .int i:=n3;let n2:u= .int j:=n2;subst n3 n2;show(i,j,rfl,h1.1,_,G1,L1,M1,e1,r1,HJ,h1.2)
  .show h1.elim
end
def GD(K:gV)(gg:TG)(g:Dt->En->(En->Prop)->Prop):Prop:=
 ∀G L M H d v ρ σ (k:En->Prop) (Q:St->Hp->Prop),Rl K G L M H->Den K G L d v->gP K G L ρ σ->g d ρ k->(∀ρ' σ',gP K G L ρ' σ'->k ρ'->Q σ' H)->gg v σ H Q
def gN(i:Nat):Dt->En->(En->Prop)->Prop:=λd ρ k=>k (ρ.set i (!d))
def aJ{K:gV}{i:Nat}:GD K (iq i) (gN i):=λG L M H d v ρ σ k Q rl n en h hQ=>hQ _ _ (en.set i n) h
def g2(i j:Nat):Dt->En->(En->Prop)->Prop:=λd ρ k=>match d with
 | .tup [a,b]=>k ((ρ.set i (!a)).set j (!b))
 | _=>False
def oj{K:gV}{i j:Nat}:GD K (JF K 2 (mO (iq i) (mO (iq j) K5))) (g2 i j):=λG L M H d v ρ σ k Q rl n en h hQ=>by
 unfold g2 at h;split at h
 .rename_i a b;let(p,vs,rfl,e,n):=n;let(v1,v2,rfl,n1,n2):=eD n;show(p,_,rfl,.inl (.inl (rl.sub _ _ e)),rfl,v1,_,rfl,v2,_,rfl,rfl,hQ _ _ ((en.set i n1).set j n2) h)
 .show h.elim
def vE(g:Dt->En->(En->Prop)->Prop)(tb:DS)(Dn:gf):List Dt->En->Ms->Prop
 | [],ρ,M=>Dn.nx ρ M
 | x::xs,ρ,M=>g x ρ λρ'=>tb {Dn with nx:=vE g tb Dn xs,ct:=vE g tb Dn xs,bk:=Dn.nx} ρ' M
def T7(ti:DA)(g:Dt->En->(En->Prop)->Prop)(tb:DS):DS:=λDn ρ M=>ti ρ M (λxs M1=>vE g tb Dn xs ρ M1) Dn.x
section
variable{X:Cx}{R:St->XK}{tg iter:Expr}{body:List Stmt}{ti:DA}{gg:TG}{g:Dt->En->(En->Prop)->Prop}{tb:DS}{pos:Pos}
def iM(hi:JI X R tg iter ti)(hg:PG X tg gg)(gd:GD X.K gg g)(hb:zp X R body tb)(hp:PassesOwn (model X.prog X.w) X.A X.env X.xe:=by first| exact PassesOwn.never| exact PassesOwn.leaving)(hc:X.calm=true|>1)(hs:(∀x,foldedSetIterable iter X.env x=pure x)|>3):
  JS X R (.For tg iter body [] pos) (T7 ti g tb):=.of (Cp hp hc hi hg hb hs) λσ H G L ρ M Dn rl n h hx=>by
 show(G,L,ρ,M,_,_,rl,n,h,hx,λJ H1 xz=>?_);let(xs,G1,L1,M1,e1,r1,y,h1):=xz;show(λi m σ' H'=>m+i=-xs/\eN X.K G1 L1 H1 (λρ' M'=>vE g tb Dn (xs.drop i) ρ' M') σ' H',(-xs,rfl,ρ,G1,L1,M1,.refl _ _ _,r1,n.mono e1,by rw[acD];show h1),?_);rintro i m σ' H' ⟨hm,ρ',G',L',M',e',r',n',h'⟩;by_cases hi:i < -xs
 .right;let hd:xs[i]? =!xs[i]:=aaa hi;let(go,yl):=y.go i G' L' M' H' _ e'.g e'.l r' hd;rw[abA hi]at h';show(go,eN X.K G1 L1 H1 (λρ' M'=>vE g tb Dn (xs.drop (i+1)) ρ' M'),λσ2 H2 f=>(m - 1,(),(),f),λv H2 hy=>?_);let(G2,e2,r2,n2):=yl v H2 hy;show gd G2 L' M' H2 _ v ρ' σ' _ _ r2 n2 (n'.mono e2) h' λρ3 σ3 n3 h3=>?_;show(G2,L',ρ3,M',_,r2,n3,h3,hx.on (e1.trans (e'.trans e2)),(λ_ _ f=>eN.back (e'.trans e2) f,λ_ _ f=>Fin.back (e1.trans (e'.trans e2)) f,λ_ _ f=>eN.back (e1.trans (e'.trans e2)) f,λ_ _ f=>eN.back (e'.trans e2) f))
 .left;show(y.stop i G' L' M' H' e'.g e'.l r' (),ρ',G',L',M',e1.trans e',r',n',?_);rw[ab9 ()]at h';show h'
end
abbrev DK:=En->Ms->(List Dt->(Ms->Prop)->Ms->Prop)->DX->Prop
structure Ob(K:gV)(J:It)(xs:List Dt)(ok:Ms->Prop)(G0:Hp)(L0:List Addr):Prop where
 go:∀(i:Nat) G L M H (d:Dt),dW G0 G->Pre L0 L->Rl K G L M H->ok M->xs[i]? =!d->J.go i H/\∀v H',J.T_ i H v H'->∃G',Ex G L H G' L H'/\Rl K G' L M H'/\Den K G' L d v
 stop:∀(i:Nat) G L M H,dW G0 G->Pre L0 L->Rl K G L M H->ok M->-xs<=i->J.stop i H
inductive X4(K:gV)(G0:Hp)(L0:List Addr)(H0:Hp)(q:List Dt->(Ms->Prop)->Ms->Prop)(J:It)(H:Hp):Prop
 | mk (xs:List Dt) (ok:Ms->Prop) (G:Hp) (L:List Addr) (M:Ms) (e:Ex G0 L0 H0 G L H) (r:Rl K G L M H) (y:Ob K J xs ok G L) (h:q xs ok M)
inductive Z4(K:gV)(R:St->XK)(t:DK)(σ:St)(H:Hp)(Q:It->Hp->Prop):Prop
 | mk (G:Hp) (L:List Addr) (ρ:En) (M:Ms) (q:List Dt->(Ms->Prop)->Ms->Prop) (x:DX) (r:Rl K G L M H) (n:gP K G L ρ σ) (h:t ρ M q x) (hx:sV K G L H R x) (hQ:∀J H1,X4 K G L H q J H1->Q J H1)
def JK(X:Cx)(R:St->XK)(tg iter:Expr)(t:DK):Prop:=PI X tg iter (Z4 X.K R t)
def Z0(t:DA):DK:=λρ M q x=>t ρ M (λxs M1=>q xs (λ_=>True) M1) x
def IG{X:Cx}{R:St->XK}{tg iter:Expr}{t:DA}(h:JI X R tg iter t):JK X R tg iter (Z0 t):=by intro δ s σ H Q I ⟨G,L,ρ,M,q,x,r,n,ht,hx,hQ⟩;show h δ s σ H Q I (G,L,ρ,M,_,x,r,n,ht,hx,λJ H1 (xs,G1,L1,M1,e1,r1,y,hq)=>hQ J H1 (xs,_,G1,L1,M1,e1,r1,(λi G L M H d g l r _ e=>y.go i G L M H d g l r e,λi G L M H g l r _ e=>y.stop i G L M H g l r e),hq))
def nW(Χ:List Nat)(ρ:En):En:=Χ.map λi=>(ρ[i]?).join
def gE(g:Dt->En->(En->Prop)->Prop)(tc:DT)(te:DE)(ρ0:En)(ok:Ms->Prop):List Dt->List Dt->Ms->(List Dt->Ms->Prop)->Prop
 | [],Θ,M,k=>ok M/\k Θ M
 | x::xs,Θ,M,k=>ok M/\g x ρ0 λρ'=>tc ρ' M (λb M1=>match b with
  | true=>te ρ' M1 (λd M2=>gE g tc te ρ0 ok xs (Θ++[d]) M2 k) jh
  | false=>gE g tc te ρ0 ok xs Θ M1 k) jh
def qG(n:Nat)(ti:DK)(g:Dt->En->(En->Prop)->Prop)(tc:DT)(te:DE)(Χ:List Nat):DE:=λρ M q x=>ti ρ M (λxs ok M1=>-xs<=sizeLine/\gE g tc te (List.replicate n none++nW Χ ρ) ok xs [] M1 (λys M2=>q (.lst ys) M2)) x
def L8{K:gV}{G:Hp}{L:List Addr}{ρ:En}{σ os:St}{n:Nat}(h:gP K G L ρ σ)(Χ:List Nat)(hl:-os=n):gP K G L (List.replicate n none++nW Χ ρ) (os++oK Χ σ):=by
 let lc:-(nW Χ ρ)=-(oK Χ σ):=by unfold nW oK;simp
 show(by rw[aaC,aaC,aa9,hl,lc],λi d' e=>?_);by_cases hi:i < n
 .rw[aaF (by rw[aa9];show hi),ab5,aaG hi]at e;cases e
 .rw[aat (by rw[aa9];omega),aa9]at e;rw[aat (),hl];unfold nW at e;unfold oK;rw[aan]at e⊢;cases q:Χ[i - n]? with
  | none=>rw[q]at e;cases e
  | some j=>
   rw[q]at e;let e:(ρ[j]?).join=!d':=aav e;let e:ρ[j]? =!(!d'):=by
    cases z:ρ[j]? with
    | none=>rw[z]at e;cases e
    | some o=>rw[z]at e;show aba some e
   let(v,hv,dn):=h.dF j d' e;show(v,by change (!((σ[j]?).join))=_;rw[hv];rfl,dn)
def qE{K:gV}{J:It}{gg:TG}{g:Dt->En->(En->Prop)->Prop}{tc:DT}{te:DE}{Χ:List Nat}{nn:Nat}{ρ:En}{σ:St}{G1:Hp}{L1:List Addr}{M1:Ms}{H1:Hp}{xs:List Dt}{ok:Ms->Prop}{Dl:Addr}{Q:VK}{k:List Dt->Ms->Prop}(gd:GD K gg g)(r1:Rl K G1 L1 M1 H1)(n:gP K G1 L1 ρ σ)(y:Ob K J xs ok G1 L1)(hD:H1 Dl=none)(hz:-xs<=sizeLine)
  (h:gE g tc te (List.replicate nn none++nW Χ ρ) ok xs [] M1 k)
  (fin:∀G2 L2 M2 H2 ds vs,Ex G1 L1 H1 G2 L2 H2->Rl K G2 L2 M2 H2->G2 Dl=none->Dl∉L2->H2 Dl=!(.lst vs)->Ν K G2 L2 ds vs->k ds M2->Q (.ref Dl) H2):
  Cy J nn gg (Bu K (λ_=>E0) tc) (rq K (λ_=>E0) te) (oK Χ σ) Q H1 Dl:=by
 show⟨λi m ys H2=>m+i=-xs/\H2 Dl=!(.lst ys)/\∃Θ G2 L2 M2,Ex G1 L1 H1 G2 L2 H2/\Rl K G2 L2 M2 H2/\G2 Dl=none/\Dl∉L2/\Ν K G2 L2 Θ ys/\-Θ<=i/\gE g tc te (List.replicate nn none++nW Χ ρ) ok (xs.drop i) Θ M2 k,(-xs,rfl,Ζ,[],G1,L1,M1,?_),?_⟩
 .let gn:G1 Dl=none:=r1.sub.free hD;show((.refl _,.refl _,λ_ h _=>h,λb u h1 _=>by rw[υ (λz=>by rw[z,hD]at h1;cases h1)];show h1,λ_ h=>.inl h,λb h=>by rw[υ (λz=>h (by rw[z];show hD))];show h),(λb u e=>by rw[υ (λz=>by rw[z,gn]at e;cases e)];show r1.sub b u e,r1.len,r1.nd,λi a m h1 h2=>?_),gn,r1.G8 hD,rfl,aam _,by rw[acD];show h);let(q1,q2):=r1.dF i a m h1 h2;show(q1,q2.mono (.refl _) (.refl _) (υ λz=>q2.there (by rw[z];show hD)))
 .rintro i m ys H2 ⟨hm,wI,Θ,G2,L2,M2,e2,r2,g2,l2,n2,la,h2⟩;show(wI,?_);let ne1:∀{b:Addr} {u:HO},H1 b=!u->b≠Dl:=λe z=>by rw[z,hD]at e;cases e
  by_cases hi:i < -xs
  .right;let hd:xs[i]? =!xs[i]:=aaa hi;rw[abA hi]at h2;let(au,h2):=h2;let(go,yl):=y.go i G2 L2 M2 H2 _ e2.g e2.l r2 au hd;show(go,λv H3 hy os hos=>?_);let(G3,e3,r3,n3):=yl v H3 hy;let h3:H3 Dl=!(.lst ys):=e3.out _ _ wI l2;let g3:G3 Dl=none:=e3.fr _ g2 (by rw[wI];simp);show gd G3 L2 M2 H3 _ v _ _ _ _ r3 n3 (L8 ((n.mono e2).mono e3) Χ hos) h2 λρ' σ' n' h'=>?_;show(G3,L2,ρ',M2,_,jh,r3,n',h',sO,λb H4 xz=>?_);let(G4,L4,M4,e4,r4,h4):=xz;let WC:H4 Dl=!(.lst ys):=e4.out _ _ h3 l2;let g4:G4 Dl=none:=e4.fr _ g3 (by rw[h3];simp);let l4:Dl∉L4:=λz=>(e4.new _ z).elim l2 λq=>by rw[h3]at q;cases q
   let WN:=e3.trans e4;cases b with
   | false=>
    show(m - 1,(),(),WC,Θ,G4,L4,M4,e2.trans WN,r4,g4,l4,Ν.mono WN.g WN.l _ _ n2,(),h4)
   | true=>
    show(G4,L4,ρ',M4,_,jh,r4,n'.mono e4,h4,sO,λv5 H5 xz=>?_);let(d5,G5,L5,M5,e5,r5,n5,h5):=xz;let h5':H5 Dl=!(.lst ys):=e5.out _ _ WC l4;let g5:G5 Dl=none:=e5.fr _ g4 (by rw[WC];simp);let l5:Dl∉L5:=λz=>(e5.new _ z).elim l4 λq=>by rw[WC]at q;cases q
    let YO:=WN.trans e5;let abr:-ys=-Θ:=by rw[<--n2]
    show(h5',(),m - 1,(),(),Ζ,Θ++[d5],G5,L5,M5,?_,?_,g5,l5,(Ν.mono YO.g YO.l _ _ n2).app (_,_,rfl,n5,rfl),by rw[aaC];change -Θ+1<=i+1;omega,h5)
    .let R_:=e2.trans YO
     show(R_.g,R_.l,R_.fr,λb u h1 h2=>by rw[υ (ne1 h1)];show R_.out b u h1 h2,R_.new,λb h=>by
      by_cases hb:b=Dl
      .rw[hb,Ζ];simp
      .rw[υ hb];show R_.uY b h)
    .show(λb u e=>by rw[υ (λz=>by rw[z,g5]at e;cases e)];show r5.sub b u e,r5.len,r5.nd,λi a m h1 h2=>?_);let(q1,q2):=r5.dF i a m h1 h2;show(q1,q2.mono (.refl _) (.refl _) (υ λz=>l5 (by rw[<-z];show aaI h1)))
  .left;rw[ab9 ()]at h2;show(y.stop i G2 L2 M2 H2 e2.g e2.l r2 h2.1 (),fin G2 L2 M2 H2 Θ ys e2 r2 g2 l2 wI n2 h2.2)
section
variable{K:gV}{G1:Hp}{L1:List Addr}{H1 G:Hp}{L:List Addr}{M:Ms}{H:Hp}{p:Addr}{ds:List Dt}{vs:List V}{q:DQ}
def Dv(e:Ex G1 L1 H1 G L H)(r:Rl K G L M H)(Hl:H1 p=none)(hg:G p=none)(hl:p∉L)(h:H p=!(.lst vs))(n:Ν K G L ds vs)(k:q (.lst ds) M):Fin K G1 L1 H1 q (.ref p) H:=by
 let g1:dW G (upd G p (.lst vs)):=λb u e=>by rw[υ (λz=>by rw[z,hg]at e;cases e)];show e
 show(.lst ds,upd G p (.lst vs),L,M,(e.g.trans g1,e.l,λb h1 h2=>?_,e.out,e.new,e.uY),(λb u e=>?_,r.len,r.nd,λk a m h1 h2=>?_),(p,vs,rfl,Ζ,Ν.mono g1 (.refl _) _ _ n),k)
 .rw[υ (λz=>h2 (by rw[z];show Hl))];show e.fr b h1 h2
 .by_cases hb:b=p
  .rw[hb,Ζ]at e;rw[hb];cases e;show h
  .rw[υ hb]at e;show r.sub b u e
 .let(q1,q2):=r.dF k a m h1 h2;let hb:a≠p:=λz=>hl (by rw[<-z];show aaI h1);show(by rw[υ hb];show q1,q2.mono g1 (.refl _) rfl)
def Nz(e:Ex G1 L1 H1 G L H)(r:Rl K G L M H)(Hl:H1 p=none)(hg:G p=none)(hl:p∉L)(h:H p=!(.lst vs))(n:Ν K G L ds vs)(k:q (.loc (-M)) (M++[.lst ds])):Fin K G1 L1 H1 q (.ref p) H:=by
 show(.loc (-M),G,L++[p],M++[.lst ds],(e.g,e.l.trans ([p],rfl),e.fr,e.out,λb hb=>?_,e.uY),(r.sub,by rw[List.length_append,List.length_append,r.len];rfl,List.nodup_append.mpr (r.nd,by simp,λa ha b hb=>?_),λk a m h1 h2=>?_),(p,rfl,by rw[<-r.len,List.getElem?_append_right (Nat.le_refl _)];simp),k)
 .rcases aa3.mp hb with z| z
  .show e.new b z
  .let e:b=p:=by simpa using z
   right;rw[e];show Hl
 .let e:b=p:=by simpa using hb
  rw[e];exactλz=>hl (z▸ha)
 .by_cases hk:k < -L
  .rw[aaF hk]at h1;rw[aaF (by rw[<-r.len];show hk)]at h2;let(q1,q2):=r.dF k a m h1 h2;show(q1,q2.mono (.refl _) ([p],rfl) rfl)
  .let e:k=-L:=by have:=(aaj.mp h1).1;rw[aaC]at this;simp at this;omega
   rw[e,aat (aam _)]at h1;rw[e,r.len,aat (aam _)]at h2;simp at h1 h2;subst h1 h2;show(hg,vs,h,Ν.mono (.refl _) ([p],rfl) _ _ n)
def V_(b:Bool)(q:DQ)(ys:List Dt)(M:Ms):Prop:=match b with
 | false=>q (.lst ys) M
 | true=>q (.loc (-M)) (M++[.lst ys])
def Ez{b:Bool}(e:Ex G1 L1 H1 G L H)(r:Rl K G L M H)(Hl:H1 p=none)(hg:G p=none)(hl:p∉L)(h:H p=!(.lst vs))(n:Ν K G L ds vs)(k:V_ b q ds M):Fin K G1 L1 H1 q (.ref p) H:=by
 cases b
 .show Dv e r Hl hg hl h n k
 .show Nz e r Hl hg hl h n k
end
def eR{n i:Nat}(h:i < n):vf n (iq i):=λv os cs H Q hl hq=>((os.set i (!v),by rw[aa7];show hl,abQ _ _ ()),hq)
def EW{K:gV}{n i j:Nat}(h:i < n)(h':j < n):vf n (JF K 2 (mO (iq i) (mO (iq j) K5))):=
 fun v os cs H Q hl (a,xs,e,s,l,v1,r,e1,v2,r2,e2,e3,q)=>(a,xs,e,s,l,v1,r,e1,v2,r2,e2,e3,((os.set i (!v1)).set j (!v2),by simp[hl],by
  rw[abQ _ _ (),abQ _ _ (by rw[aa7];omega)]),q)
section
variable{X:Cx}{elt iter tg:Expr}{xs:List Str}{scope:Scope}{pos:Pos}{ys:List Str}{Χ:List Nat}
def fk{i:Nat}{x:Str}{px:Pos}(S:aw X scope xs ys Χ)(h:xs[i]? =!x)(C:Addr)(s:Shared)(H:Hp)(fp:List Addr):PG (Cx.comp X (xs++ys) scope C s H fp) (.Name x px) (iq i):=by
 let hm:x∈xs:=aaI h;let hi:(xs++ys)[i]? =!x:=by rw[aaF (aaj.mp h).1];show h
 show ag S.nd hi (.inl (lookup_relabel_local (S.own x hm))) (.inr (lookup_relabel_local (S.own x hm)))
def NN{x y:Str}{px py:Pos}{k:Nat}(hc:X.calm=true)(S:aw X scope [x,y] ys Χ)(C:Addr)(s:Shared)(H:Hp)(fp:List Addr):PG (Cx.comp X ([x,y]++ys) scope C s H fp) (.Tuple [.Name x px,.Name y py] k pos) (JF X.K 2 (mO (iq 0) (mO (iq 1) K5))):=
 k_ (X:=Cx.comp X ([x,y]++ys) scope C s H fp) hc (bH (fk S (i:=0) rfl C s H fp) (bH (fk S (i:=1) rfl C s H fp) i8))
end
def qj:DT:=λ_ M q _=>q true M
def ZG(X:Cx)(cs:List Expr)(t:DT):Prop:=WR X cs (Bu X.K (λ_=>E0) t)
def pJ{X:Cx}:ZG X [] qj:=(.inl rfl,λδ s σ H Q I (G,L,ρ,M,q,x,r,n,h,hx,hQ)=>aaw (H,I,hQ true H (G,L,M,.refl _ _ _,r,h)))
def wy{X:Cx}{c:Expr}{t:DT}(h:JT X (λ_=>E0) c t):ZG X [c] t:=(.inr (c,rfl),h)
def OY(b:Bool)(g:Dt->En->(En->Prop)->Prop)(tc:DT)(te:DE)(cs:En)(q:DQ):List Dt->(Ms->Prop)->Ms->Prop:=λzs ok M1=>-zs<=sizeLine/\gE g tc te cs ok zs [] M1 (V_ b q)
section
variable{X:Cx}{R:St->XK}{elt iter tg:Expr}{cs:List Expr}{xs:List Str}{scope:Scope}{pos:Pos}{gg:TG}{g:Dt->En->(En->Prop)->Prop}{ti:DK}{tc:DT}{te:DE}{ys:List Str}{Χ:List Nat}(b:Bool)(S:aw X scope xs ys Χ)(hi:JK X R tg iter ti)(hg:∀C s H fp,PG (Cx.comp X (xs++ys) scope C s H fp) tg gg)(gd:GD X.K gg g)(hk:vf (-xs) gg)(ht:∀C s H fp,ZG (Cx.comp X (xs++ys) scope C s H fp) cs tc)(he:∀C s H fp,JE (Cx.comp X (xs++ys) scope C s H fp) (λ_=>E0) elt te)(hc:X.calm=true)(hs:∀x,foldedSetIterable iter X.env x=pure x)
include S hi hg gd hk ht he hc hs
def WW{t:DE}(e:∀ρ M q x,t ρ M q x->ti ρ M (OY b g tc te (List.replicate (-xs) none++nW Χ ρ) q) x):JE X R (.ListComp elt [(tg,iter,cs,0)] scope pos) t:=
 .of (K1 (tc:=Bu X.K (λ_=>E0) tc) (te:=rq X.K (λ_=>E0) te) S hc hi hg hk ht he hs) λσ H G L ρ M q x rl n h hx=>(G,L,ρ,M,_,x,rl,n,e _ _ _ _ h,hx,λJ H1 (xs,ok,G1,L1,M1,e1,r1,y,hz,h1) D hD=>qE gd r1 (n.mono e1) y hD hz h1 λG2 L2 M2 H2 ds vs e2 r2 g2 l2 h2 n2 k=>Fin.back e1 (Ez e2 r2 hD g2 l2 h2 n2 k))
def jcS{i:Nat}{y:Str}{py mU:Pos}(hN:X.N.Nodup)(LO:X.N[i]? =!y)(hy:Loc X.env.scope y)(Jb:swapsWith (.ListComp elt [(tg,iter,cs,0)] scope pos) (!(.Name y py)) mU.line X.env=pure true)(hf:X.fn y=true\/X.env.scope.names.lookup y=some .local){t:DE}(e:∀ρ M q x,t ρ M q x->ti ρ M (OY b g tc te (List.replicate (-xs) none++nW Χ ρ) q) x):
  JS X R (.Assign [.Name y py] (.ListComp elt [(tg,iter,cs,0)] scope pos) mU) (J2 i t):=.of (oX (tc:=Bu X.K (λ_=>E0) tc) (te:=rq X.K (λ_=>E0) te) hN LO hy S hc hi hg hk ht he Jb hs hf) λσ H G L ρ M Dn rl n h hx=>by
 show(G,L,ρ,M,_,_,rl,n,e _ _ _ _ h,hx,fun J H1 (xs,ok,G1,L1,M1,e1,r1,y,hz,h1) D hD=>qE gd r1 (n.mono e1) y hD hz h1 λG2 L2 M2 H2 ds vs e2 r2 g2 l2 h2 n2 k=>?_);let(d,G3,L3,M3,e3,r3,n3,h3):=Ez (q:=λd M=>Dn.nx (ρ.set i (!d)) M) e2 r2 hD g2 l2 h2 n2 k;show(_,G3,L3,M3,e1.trans e3,r3,((n.mono e1).mono e3).set i n3,h3)
end
def zN(te:DE)(cs:En):List Dt->List Dt->Ms->(List Dt->Ms->Prop)->Prop
 | [],Θ,M,k=>k Θ M
 | x::xs,Θ,M,k=>te ((!x)::cs) M (λd M1=>zN te cs xs (Θ++[d]) M1 k) jh
def KI(ti:DA)(te:DE)(Χ:List Nat):DE:=λρ M q x=>ti ρ M (λxs M1=>-xs<=sizeLine/\zN te (nW Χ ρ) xs [] M1 (λys M2=>q (.lst ys) M2)) x
def C8{te:DE}{cs:En}:∀xs,zN te cs xs=gE (gN 0) qj te (none::cs) (λ_=>True) xs
 | []=>funext λΘ=>funext λM=>funext λk=>(true_and _).symm
 | x::xs=>funext λΘ=>funext λM=>funext λk=>by change te ((!x)::cs) M (λd M1=>zN te cs xs (Θ++[d]) M1 k) jh=(True/\te ((!x)::cs) M (λd M1=>gE (gN 0) qj te (none::cs) (λ_=>True) xs (Θ++[d]) M1 k) jh);rw[C8 xs,true_and]
section
variable{X:Cx}{R:St->XK}{elt iter:Expr}{x:Str}{px:Pos}{scope:Scope}{pos:Pos}{ti:DA}{te:DE}{ys:List Str}{Χ:List Nat}
def Pd(S:aw X scope [x] ys Χ)(hi:JI X R (.Name x px) iter ti)(he:∀C s H fp,JE (Cx.comp X (x::ys) scope C s H fp) (λ_=>E0) elt te)(hc:X.calm=true|>1)(hs:(∀x,foldedSetIterable iter X.env x=pure x)|>3):JE X R (.ListComp elt [(.Name x px,iter,[],0)] scope pos) (KI ti te Χ):=WW false S (IG hi) (fk S (i:=0) rfl) aJ (eR (Nat.zero_lt_succ 0)) (λ_ _ _ _=>pJ) he hc hs λρ M q x h=>by unfold KI at h;simp only[C8]at h;show h
end
def fin_same{K:gV}{G0:Hp}{L0:List Addr}{H0 G:Hp}{L:List Addr}{M:Ms}{H:Hp}{d:Dt}{v:V}{q:DQ}(e:Ex G0 L0 H0 G L H)(r:Rl K G L M H)(n:Den K G L d v)(h:q d M):Fin K G0 L0 H0 q v H:=(d,G,L,M,e,r,n,h)
def aR{K:gV}{G0:Hp}{L0:List Addr}{H0 G:Hp}{L:List Addr}{M:Ms}{H:Hp}{d:Dt}{v:V}{q:DQ}(e:Ex G0 L0 H0 G L H)(r:Rl K G L M H)(h:q d M)(n:Den K G L d v|>1):Fin K G0 L0 H0 q v H:=(d,G,L,M,e,r,n,h)
def tS:Dt->Dt->Ms->DQ->Prop
 | .int i,.int j,M,q=>q (.int (i+j)) M
 | .str a,.str b,M,q=>-a+-b<=sizeLine/\q (.str (a++b)) M
 | .lst a,.lst b,M,q=>-a+-b<=sizeLine/\q (.lst (a++b)) M
 | .tup a,.tup b,M,q=>(a≠[]/\-a+-b<=sizeLine)/\q (.tup (a++b)) M
 | _,_,_,_=>False
def zR:Dt->Dt->Ms->DQ->Prop
 | .int i,.int j,M,q=>q (.int (i - j)) M
 | _,_,_,_=>False
def Js:Dt->Dt->Ms->DQ->Prop
 | .int i,.int j,M,q=>(hG i/\hG j)/\q (.int (i * j)) M
 | .lst a,.int k,M,q=>(- (2 ^ 63)<=k/\k < 2 ^ 63/\-a * k.toNat<=sizeLine)/\q (.lst (List.replicate k.toNat a).flatten) M
 | _,_,_,_=>False
def PX:Dt->Dt->Ms->DQ->Prop
 | .int i,.int j,M,q=>(0 < j/\hG j)/\q (.int (i / j)) M
 | _,_,_,_=>False
def Dh:Dt->Dt->Ms->DQ->Prop
 | .int i,.int j,M,q=>(j≠0/\hG j)/\q (.int (i.fdiv j)) M
 | _,_,_,_=>False
def LN:Dt->Dt->Ms->DQ->Prop
 | .int i,.int j,M,q=>0 < j/\q (.int (i % j)) M
 | _,_,_,_=>False
def Qf:Dt->Dt->Ms->DQ->Prop
 | .int i,.int j,M,q=>yP i j/\q (.int (i ^ j.toNat)) M
 | _,_,_,_=>False
def Na:Dt->Ms->DQ->Prop
 | .int i,M,q=>q (.int (- i)) M
 | _,_,_=>False
section
variable{K:gV}
def Yw:ny K (λx y H Q=>(∃i j,x=V.int i/\y= .int j/\Q (.int (i+j)) H)\/(∃i j,x=V.str i/\y= .str j/\-i+-j<=sizeLine/\Q (.str (i++j)) H)\/Q3 x y H Q\/N3 K x y H Q) tS:=by
 intro G0 L0 H0 G L M H v1 v2 d1 d2 q e r n1 n2 h;unfold tS at h;split at h
 .rename_i i j;show .inl (i,j,n1,n2,aR e r h)
 .rename_i a b;show .inr (.inl (a,b,n1,n2,h.1,aR e r h.2))
 .rename_i a b;let(p1,w1,rfl,e1,m1):=n1;let(p2,w2,rfl,e2,m2):=n2;show .inr (.inr (.inl (p1,p2,w1,w2,rfl,rfl,r.sub _ _ e1,r.sub _ _ e2,by rw[<--m1,<--m2];show h.1,λp hp=>?_)));show kj e r hp (pV r hp (m1.app m2)) h.2
 .rename_i a b;let(p1,w1,rfl,e1,m1):=n1;let(p2,w2,rfl,e2,m2):=n2;let ne:w1≠[]:=λz=>h.1.1 (by have:=-m1;rw[z]at this;show List.eq_nil_of_length_eq_zero this);show .inr (.inr (.inr (p1,p2,w1,w2,rfl,rfl,.inl (.inl (r.sub _ _ e1)),.inl (.inl (r.sub _ _ e2)),ne,by rw[<--m1,<--m2];show h.1.2,λz=>?_,λ_ p hp=>?_)))
  .let hb:b=[]:=by have:=-m2;rw[z]at this;show List.eq_nil_of_length_eq_zero this
   subst hb;rw[aa0]at h;show fin_same (d:=.tup a) e r (p1,w1,rfl,e1,m1) h.2
  .show kj e r hp (pU r hp (m1.app m2)) h.2
 .show h.elim
def ZZ:ny K (Ge λi j=>.int (i - j)) zR:=by
 intro G0 L0 H0 G L M H v1 v2 d1 d2 q e r n1 n2 h;unfold zR at h;split at h
 .show(_,_,n1,n2,aR e r h)
 .show h.elim
def Xb:ny K (λx y H Q=>(rI (λi j=>hG i/\hG j) λi j=>.int (i * j)) x y H Q\/P_ x y H Q) Js:=by
 intro G0 L0 H0 G L M H v1 v2 d1 d2 q e r n1 n2 h;unfold Js at h;split at h
 .show .inl (_,_,n1,n2,h.1,aR e r h.2)
 .rename_i a k;let(p1,w1,rfl,e1,m1):=n1;show .inr (p1,k,w1,rfl,n2,r.sub _ _ e1,h.1.1,h.1.2.1,by rw[<--m1];show h.1.2.2,λp hp=>?_);show kj e r hp (pV r hp (.of (wa m1.pair k.toNat))) h.2
 .show h.elim
def Z_:ny K (rI (λ_ j=>j≠0/\hG j) λi j=>.int (i.fdiv j)) PX:=by
 intro G0 L0 H0 G L M H v1 v2 d1 d2 q e r n1 n2 h;unfold PX at h;split at h
 .rename_i i j;let h0:=h.1.1;show(_,_,n1,n2,((),h.1.2),fin_same (d:=.int (i.fdiv j)) e r rfl ?_);rw[acg i (aas h0)];show h.2
 .show h.elim
def UP:ny K (rI (λ_ j=>j≠0/\hG j) λi j=>.int (i.fdiv j)) Dh:=by
 intro G0 L0 H0 G L M H v1 v2 d1 d2 q e r n1 n2 h;unfold Dh at h;split at h
 .show(_,_,n1,n2,h.1,aR e r h.2)
 .show h.elim
def YY:ny K (rI (λ_ j=>0 < j) λi j=>.int (i % j)) LN:=by
 intro G0 L0 H0 G L M H v1 v2 d1 d2 q e r n1 n2 h;unfold LN at h;split at h
 .show(_,_,n1,n2,h.1,aR e r h.2)
 .show h.elim
def ZF:ny K (rI yP λi j=>.int (i ^ j.toNat)) Qf:=by
 intro G0 L0 H0 G L M H v1 v2 d1 d2 q e r n1 n2 h;unfold Qf at h;split at h
 .show(_,_,n1,n2,h.1,aR e r h.2)
 .show h.elim
def Z6:UnD K (rU λi=>.int (- i)) Na:=by
 intro G0 L0 H0 G L M H v1 d1 q e r n1 h;unfold Na at h;split at h
 .show(_,n1,aR e r h)
 .show h.elim
end
section
variable{X:Cx}{R:St->XK}{a b c:Expr}{ta tb:DE}{pos:Pos}
def bU(ja:JE X R a ta)(jb:JE X R b tb):JE X R (.BinOp a .Add b pos) (jq tS ta tb):=vB (Rn.or (BO.or (K3.or Mt))) Yw ja jb
def u7(ja:JE X R a ta)(jb:JE X R b tb):JE X R (.BinOp a .Sub b pos) (jq zR ta tb):=vB RJ ZZ ja jb
def aM(ja:JE X R a ta)(jb:JE X R b tb):JE X R (.BinOp a .Mult b pos) (jq Js ta tb):=vB (ND.or KN) Xb ja jb
def jk(ja:JE X R a ta)(jb:JE X R b tb):JE X R (.BinOp a .FloorDiv b pos) (jq PX ta tb):=vB Ap Z_ ja jb
def A5(ja:JE X R a ta)(jb:JE X R b tb):JE X R (.BinOp a .FloorDiv b pos) (jq Dh ta tb):=vB Ap UP ja jb
def aX(ja:JE X R a ta)(jb:JE X R b tb):JE X R (.BinOp a .Mod b pos) (jq LN ta tb):=vB Qy YY ja jb
def gY(ja:JE X R a ta)(jb:JE X R b tb):JE X R (.BinOp a .Pow b pos) (jq Qf ta tb):=vB RY ZF ja jb
def OC(ja:JE X R a ta):JE X R (.UnaryOp .USub a pos) (UG Na ta):=Z' Ri Z6 ja
end
def Wa:Dt->Dt->Ms->DQ->Prop
 | .int i,.int j,M,q=>q (.bl (decide (i < j))) M
 | _,_,_,_=>False
def W7:Dt->Dt->Ms->DQ->Prop
 | .int i,.int j,M,q=>q (.bl (decide (i<=j))) M
 | _,_,_,_=>False
def Ze:Dt->Dt->Ms->DQ->Prop
 | .int i,.int j,M,q=>q (.bl (decide (j < i))) M
 | _,_,_,_=>False
def Wk:Dt->Dt->Ms->DQ->Prop
 | .int i,.int j,M,q=>q (.bl (decide (j<=i))) M
 | _,_,_,_=>False
def qm:Dt->Option V
 | .aV=>some .aV
 | .bl b=>!(.bl b)
 | .int i=>!(.int i)
 | .str x=>!(.str x)
 | _=>none
def jY:List Dt->Option (List V)
 | []=>![]
 | d::ds=>match qm d,jY ds with
  | some v,!vs=>!(v::vs)
  | _,_=>none
section
variable{K:gV}{G:Hp}{L:List Addr}
def iG{d:Dt}{v u:V}(h:qm d=!u)(n:Den K G L d v):v=u/\dt u=true:=by cases d <;> first| (cases h;show(n,rfl))| cases h
def gb:∀{ds:List Dt} {vs us:List V},jY ds=!us->Ν K G L ds vs->vs=us/\us.all dt=true
 | [],vs,us,h,n=>by cases h;show(n,rfl)
 | d::ds,_,us,h,(v,r,e,n1,n2)=>by
  subst e;unfold jY at h;split at h
  .rename_i u1 u2 h1 h2;cases h;let(a1,a2):=iG h1 n1;let(b1,b2):=gb h2 n2;subst a1 b1;show(rfl,by rw[ab6,a2,b2];rfl)
  .cases h
end
def Ir:Dt->Dt->Ms->DQ->Prop
 | .int i,.int j,M,q=>q (.bl (decide (i=j))) M
 | .str i,.str j,M,q=>q (.bl (decide (i=j))) M
 | .bl i,.bl j,M,q=>q (.bl (decide (i=j))) M
 | .tup a,.tup b,M,q=>match jY a,jY b with
  | some us,!vs=>q (.bl (sD us vs)) M
  | _,_=>False
 | _,_,_,_=>False
def PR:Dt->Dt->Ms->DQ->Prop
 | .int i,.int j,M,q=>q (.bl (! decide (i=j))) M
 | .str i,.str j,M,q=>q (.bl (! decide (i=j))) M
 | .bl i,.bl j,M,q=>q (.bl (! decide (i=j))) M
 | .tup a,.tup b,M,q=>match jY a,jY b with
  | some us,!vs=>q (.bl (! sD us vs)) M
  | _,_=>False
 | _,_,_,_=>False
def RO:Dt->Dt->Ms->DQ->Prop
 | .aV,.aV,M,q=>q (.bl true) M
 | .bl _,.aV,M,q=>q (.bl false) M
 | .int _,.aV,M,q=>q (.bl false) M
 | .str _,.aV,M,q=>q (.bl false) M
 | .tup _,.aV,M,q=>q (.bl false) M
 | .lst _,.aV,M,q=>q (.bl false) M
 | _,_,_,_=>False
section
variable{K:gV}
def ltD:ny K (Ge λi j=>.bl (decide (i < j))) Wa:=by
 intro G0 L0 H0 G L M H v1 v2 d1 d2 q e r n1 n2 h;unfold Wa at h;split at h
 .show(_,_,n1,n2,aR e r h)
 .show h.elim
def leD:ny K (Ge λi j=>.bl (decide (i<=j))) W7:=by
 intro G0 L0 H0 G L M H v1 v2 d1 d2 q e r n1 n2 h;unfold W7 at h;split at h
 .show(_,_,n1,n2,aR e r h)
 .show h.elim
def gtD:ny K (Ge λi j=>.bl (decide (j < i))) Ze:=by
 intro G0 L0 H0 G L M H v1 v2 d1 d2 q e r n1 n2 h;unfold Ze at h;split at h
 .show(_,_,n1,n2,aR e r h)
 .show h.elim
def geD:ny K (Ge λi j=>.bl (decide (j<=i))) Wk:=by
 intro G0 L0 H0 G L M H v1 v2 d1 d2 q e r n1 n2 h;unfold Wk at h;split at h
 .show(_,_,n1,n2,aR e r h)
 .show h.elim
def kF{p q:Prop} [Decidable p] [Decidable q](h:p↔q):decide p=decide q:=decide_eq_decide.mpr h
def Tp:ny K (λx y H Q=>rEq x y H Q\/Tw K x y H Q) Ir:=by
 intro G0 L0 H0 G L M H v1 v2 d1 d2 q e r n1 n2 h;unfold Ir at h;split at h
 .rename_i i j;cases n1;cases n2;show .inl (rfl,fin_same (d:=.bl _) e r (by change V.bl _=V.bl _;rw[kF (p:=V.int i=V.int j) (q:=i=j) (λz=>V.int.inj z,λz=>by rw[z])]) h)
 .rename_i i j;cases n1;cases n2;show .inl (rfl,fin_same (d:=.bl _) e r (by change V.bl _=V.bl _;rw[kF (p:=V.str i=V.str j) (q:=i=j) (λz=>V.str.inj z,λz=>by rw[z])]) h)
 .rename_i i j;cases n1;cases n2;show .inl (rfl,fin_same (d:=.bl _) e r (by change V.bl _=V.bl _;rw[kF (p:=V.bl i=V.bl j) (q:=i=j) (λz=>V.bl.inj z,λz=>by rw[z])]) h)
 .rename_i a b;let(p1,w1,rfl,e1,m1):=n1;let(p2,w2,rfl,e2,m2):=n2;split at h
  .rename_i us vs h1 h2;let(rfl,a2):=gb h1 m1;let(rfl,b2):=gb h2 m2;show .inr (p1,p2,_,_,rfl,rfl,.inl (.inl (r.sub _ _ e1)),.inl (.inl (r.sub _ _ e2)),a2,b2,aR e r h)
  .show h.elim
 .show h.elim
def Xj:ny K (λx y H Q=>rNe x y H Q\/UL K x y H Q) PR:=by
 intro G0 L0 H0 G L M H v1 v2 d1 d2 q e r n1 n2 h;unfold PR at h;split at h
 .rename_i i j;cases n1;cases n2;show .inl (rfl,fin_same (d:=.bl _) e r (by change V.bl _=V.bl _;rw[kF (p:=V.int i=V.int j) (q:=i=j) (λz=>V.int.inj z,λz=>by rw[z])]) h)
 .rename_i i j;cases n1;cases n2;show .inl (rfl,fin_same (d:=.bl _) e r (by change V.bl _=V.bl _;rw[kF (p:=V.str i=V.str j) (q:=i=j) (λz=>V.str.inj z,λz=>by rw[z])]) h)
 .rename_i i j;cases n1;cases n2;show .inl (rfl,fin_same (d:=.bl _) e r (by change V.bl _=V.bl _;rw[kF (p:=V.bl i=V.bl j) (q:=i=j) (λz=>V.bl.inj z,λz=>by rw[z])]) h)
 .rename_i a b;let(p1,w1,rfl,e1,m1):=n1;let(p2,w2,rfl,e2,m2):=n2;split at h
  .rename_i us vs h1 h2;let(rfl,a2):=gb h1 m1;let(rfl,b2):=gb h2 m2;show .inr (p1,p2,_,_,rfl,rfl,.inl (.inl (r.sub _ _ e1)),.inl (.inl (r.sub _ _ e2)),a2,b2,aR e r h)
  .show h.elim
 .show h.elim
def XF:ny K (λx y H Q=>y= .aV/\Q (.bl (decide (x= .aV))) H) RO:=by
 intro G0 L0 H0 G L M H v1 v2 d1 d2 q e r n1 n2 h;unfold RO at h;split at h
 .cases n1;show(n2,fin_same (d:=.bl true) e r (by change V.bl _=V.bl _;rw[aax rfl]) h)
 .cases n1;show(n2,fin_same (d:=.bl false) e r (by change V.bl _=V.bl _;rw[aaB nofun]) h)
 .cases n1;show(n2,fin_same (d:=.bl false) e r (by change V.bl _=V.bl _;rw[aaB nofun]) h)
 .cases n1;show(n2,fin_same (d:=.bl false) e r (by change V.bl _=V.bl _;rw[aaB nofun]) h)
 .let(p1,w1,rfl,_):=n1;show(n2,fin_same (d:=.bl false) e r (by change V.bl _=V.bl _;rw[aaB nofun]) h)
 .let(p1,w1,rfl,_):=n1;show(n2,fin_same (d:=.bl false) e r (by change V.bl _=V.bl _;rw[aaB nofun]) h)
 .show h.elim
end
section
variable{X:Cx}{R:St->XK}{a b c:Expr}{ta tb:DE}{pos:Pos}
def RF(ja:JE X R a ta)(jb:JE X R b tb):JE X R (.Compare a [.Lt] [b] pos) (jq Wa ta tb):=zW Ot ltD ja jb (fG _)
def ze(ja:JE X R a ta)(jb:JE X R b tb):JE X R (.Compare a [.LtE] [b] pos) (jq W7 ta tb):=zW VJ leD ja jb (fG _)
def Ye(ja:JE X R a ta)(jb:JE X R b tb):JE X R (.Compare a [.GtE] [b] pos) (jq Wk ta tb):=zW O3 geD ja jb (fG _)
def Jn{k:Nat}(hr:bf k X.A)(ja:JE X R a ta)(jb:JE X R b tb):JE X R (.Compare a [.Eq] [b] pos) (jq Ir ta tb):=zW (OL.or (JP hr.Bo)) Tp ja jb (fG _)
def ux(ja:JE X R a ta)(jb:JE X R b tb):JT X R (.Compare a [.Lt] [b] pos) (kG (jq Wa ta tb)):=fF Ot ltD ja jb (fG _)
def J6(ja:JE X R a ta)(jb:JE X R b tb):JT X R (.Compare a [.Gt] [b] pos) (kG (jq Ze ta tb)):=fF TK gtD ja jb (fG _)
def VI(ja:JE X R a ta)(jb:JE X R b tb):JT X R (.Compare a [.GtE] [b] pos) (kG (jq Wk ta tb)):=fF O3 geD ja jb (fG _)
def cG{k:Nat}(hr:bf k X.A)(ja:JE X R a ta)(jb:JE X R b tb):JT X R (.Compare a [.Eq] [b] pos) (kG (jq Ir ta tb)):=fF (OL.or (JP hr.Bo)) Tp ja jb (fG _)
def rC{k:Nat}(hr:bf k X.A)(ja:JE X R a ta)(jb:JE X R b tb):JT X R (.Compare a [.NotEq] [b] pos) (kG (jq PR ta tb)):=fF (V6.or (Q9 hr.Bo)) Xj ja jb (fG _)
def Qz(ja:JE X R a ta)(jb:JE X R b tb):JT X R (.Compare a [.Is] [b] pos) (kG (jq RO ta tb)):=fF Km XF ja jb (fG _)
end
def mY(M:Ms):Dt->Option (List Dt)
 | .lst xs=>!xs
 | .tup xs=>!xs
 | .fX ns=>!(ns.map .int)
 | .kt xs=>!xs
 | .loc k=>match M[k]? with
  | some (.lst xs)=>!xs
  | _=>none
 | _=>none
def p8{K:gV}{G:Hp}{L:List Addr}{M:Ms}{H:Hp}{d:Dt}{v:V}{xs:List Dt}(r:Rl K G L M H)(n:Den K G L d v)(h:mY M d=!xs):∃a vs,v= .ref a/\(fQ K H a vs\/mH K H a vs)/\Ν K G L xs vs:=by
 cases d with
 | lst ds=>cases h;let(a,vs,rfl,e,m):=n;show(a,vs,rfl,.inl (.of (r.sub _ _ e)),m)
 | tup ds=>cases h;let(a,vs,rfl,e,m):=n;show(a,vs,rfl,.inr (.of (r.sub _ _ e)),m)
 | kt ds=>cases h;let(a,vs,rfl,e,m):=n;show(a,vs,rfl,.inr (r.sub.VL e),m)
 | fX ns=>cases h;let(a,rfl,e):=n;show(a,_,rfl,.inl (r.sub.seq e),ir)
 | loc k=>
  let(a,rfl,e):=n;let h:(match M[k]? with| some (.lst xs)=>!xs| _=>none)=!xs:=h;split at h
  .rename_i ys hm;cases h;let(_,vs,e1,m1):=r.dF k a _ e hm;show(a,vs,rfl,.inl (.of e1),m1)
  .cases h
 | _=>cases h
def LU{K:gV}{G:Hp}{L:List Addr}{ds:List Dt}{vs:List V}{i:Int}{d:Dt}(n:Ν K G L ds vs)(h:kU ds i=!d):∃v,kU vs i=!v/\Den K G L d v:=by
 unfold kU at h⊢;rw[<--n];cases q:Ik (-ds) i with
 | none=>rw[q]at h;cases h
 | some j=>
  rw[q]at h;let(v,e,m):=n.get h;show(v,e,m)
def fe:Dt->Dt->Ms->DQ->Prop
 | .str z,.int i,M,q=>-z<=sizeLine/\match kU z.cps.toList i with
  | some c=>q (.str ⟨#[c]⟩) M
  | none=>False
 | d,.int i,M,q=>match mY M d with
  | some xs=>(match kU xs i with
   | some y=>q y M
   | none=>False)
  | none=>False
 | _,_,_,_=>False
def fN:List Dt->Ms->DQ->Prop
 | [.str z],M,q=>-z<=sizeLine/\q (.int (-z)) M
 | [d],M,q=>match mY M d with
  | some xs=>q (.int (-xs)) M
  | none=>False
 | _,_,_=>False
section
variable{K:gV}
def ixD:ny K (rIx K) fe:=by
 intro G0 L0 H0 G L M H v1 v2 d1 d2 q e r n1 n2 h;unfold fe at h;split at h
 .rename_i z i;split at h
  .rename_i c hc;show .inr (.inr (z,i,c,n1,n2,h.1,hc,aR e r h.2))
  .show h.2.elim
 .rename_i d i _;split at h
  .rename_i xs hx;split at h
   .rename_i y hy;let(a,vs,rfl,hs,m):=p8 r n1 hx;let(v,e1,m1):=LU m hy;rcases hs with hs| hs
    .show .inl (a,vs,i,v,rfl,n2,hs,e1,fin_same e r m1 h)
    .show .inr (.inl (a,vs,i,v,rfl,n2,hs,e1,fin_same e r m1 h))
   .show h.elim
  .show h.elim
 .show h.elim
def XT:xU K (λxs H Q=>(∃z,xs=[V.str z]/\-z<=sizeLine/\Q (.int (-z)) H)\/(∃p ys,xs=[V.ref p]/\(fQ K H p ys\/mH K H p ys)/\Q (.int (-ys)) H)) fN:=by
 intro G0 L0 H0 G L M H vs ds q e r n h;unfold fN at h;split at h
 .rename_i z;let(v,rfl,n1):=aQ n;cases n1;show .inl (z,rfl,h.1,aR e r h.2)
 .rename_i d _;let(v,rfl,n1):=aQ n;split at h
  .rename_i xs hx;let(a,ws,rfl,hs,m):=p8 r n1 hx;show .inr (a,ws,rfl,hs,fin_same (d:=.int (-xs)) e r (by change V.int _=V.int _;rw[-m]) h)
  .show h.elim
 .show h.elim
end
section
variable{X:Cx}{R:St->XK}{a b c:Expr}{ta tb:DE}{pos:Pos}
def Κ(ja:JE X R a ta)(jb:JE X R b tb)(hs:xo b:=by exactλ_ _=>rfl):JE X R (.Subscript a b pos) (jq fe ta tb):=Ub PU ixD ja jb hs
variable{x:Str}{p:Pos}{e:Expr}{es:List Expr}{t:DA}{id T:String}{r:List V->Hp->VK->Prop}{f:List Dt->Ms->DQ->Prop}
def d9(hc:cj X (.builtin id) r)(cd:xU X.K r f)(hm:X.mg x=none)(hv:bootBuiltins x=!(.builtin id))(ha:JA X R (e::es) t)(hg:Gl X x|>1)(hn:x≠"__name__"|>2)(jn:(x==("__debug__":Str))=false|>2)
  (he:starEach (e::es) X.env=(false, eval e X.env)::starEach es X.env|>1) (dq:(backTo pos (starEach es X.env)).any (·.1)=false|>1):JE X R (.Call (.Name x p) (e::es) [] pos) (vL f t):=
 .of (IS hc hg hm hv ha hn jn he dq) λσ H G L ρ M q x r n h hx=>O6 cd r n h hx
def mT(hc:cj X (.type T) r)(cd:xU X.K r f)(hm:X.mg x=none)(hv:bootBuiltins x=!(.type T))(ha:JA X R (e::es) t)(hg:Gl X x|>1)(hn:x≠"__name__"|>2)(jn:(x==("__debug__":Str))=false|>2)
  (he:starEach (e::es) X.env=(false, eval e X.env)::starEach es X.env|>1) (dq:(backTo pos (starEach es X.env)).any (·.1)=false|>1):JE X R (.Call (.Name x p) (e::es) [] pos) (vL f t):=
 .of (Gp hc hg hm hv ha hn jn he dq) λσ H G L ρ M q x r n h hx=>O6 cd r n h hx
def cv(hm:X.mg "len"=none)(ha:JA X R [e] t)(he:starEach [e] X.env=(false, eval e X.env)::starEach [] X.env|>1)(dq:(backTo pos (starEach [] X.env)).any (·.1)=false|>1)(hg:Gl X "len"|>1):JE X R (.Call (.Name "len" p) [e] [] pos) (vL fN t):=
 d9 (xQ.or vN) XT hm PySem.boot_len ha hg @_ @_ he dq
end
section
variable{X:Cx}
def wX:cj X (.type "int") (λxs H Q=>∃x n,xs=[.str x]/\PySem.intText? x=!n/\-x<=640/\Q (.int n) H):=by intro δ s σ H xs us Q I rs h;let(x,n,rfl,hn,hl,q):=h;let(w,rfl,u,rfl):=iI rs;show PySem.W.KIN.call_text hn hl (.int n,H,I.tok _,(_,rfl),q)
end
def Yb(ta:TE):TE:=λσ H Q=>ta σ H λx H1=>(∃i,x= .int i/\i.natAbs.log2 < 1920/\Q (.str (toString i)) H1)\/∃z,x= .str z/\-z<=sizeLine/\Q (.str z) H1
def DV:List TE->Str->TE
 | [],Θ=>λ_ H Q=>Q (.str Θ) H
 | t::ts,Θ=>λσ H Q=>t σ H λx H1=>∃y,x= .str y/\-(Θ++y)<=sizeLine/\DV ts (Θ++y) σ H1 Q
section
variable{X:Cx}{a:Expr}{ta:TE}{pos:Pos}
def QR(ha:PE X a ta):PE X (.FormattedValue a (- 1) none pos) (Yb ta):=by
 intro δ s σ H Q I h;show FormattedValue_plain (a_ (ha δ s σ H _ I h) λv s1 xz=>?_);let(x,H1,I1,r1,q1):=xz;rcases q1 with ⟨i,rfl,hd,q⟩| ⟨z,rfl,hz,q⟩
 .let(t,rfl):=r1;show wpAny_formatField_int hd (.str _,H1,I1.tok _,(_,rfl),q)
 .let(t,rfl):=r1;show formatField_str (λt' tk=>(.str z,H1,I1.tok tk,(_,rfl),q)) hz
def CM{es:List Expr}{ts:List TE}(h:Paired (PE X) es ts):∀(Θ:Str) (δ:List (Addr×Obj)) (s:Shared) (σ:St) (H:Hp) (Q:VK),-Θ<=sizeLine->Inv X δ σ H s->DV ts Θ σ H Q->
  wpAny (model X.prog X.w) X.A (joinParts Θ (evalEach es X.env)) (EP X δ σ Q) X.xe s:=by
 induction h with
 | nil=>
  intro Θ δ s σ H Q hz I q;show joinParts_nil (.str Θ,H,I.tok _,(_,rfl),q) hz
 | cons he _ ih=>
  intro Θ δ s σ H Q hz I q;show joinParts_cons (a_ (he δ s σ H _ I q) λv s1 xz=>?_);let(x,H1,I1,r1,y,e,R1,q1):=xz;subst e;let(t,rfl):=r1;show(R1,ih (Θ++y) δ s1 σ H1 Q R1 I1 q1)
def Mf{e1 e2:Expr}{es:List Expr}{ts:List TE}(h:Paired (PE X) (e1::e2::es) ts):PE X (.JoinedStr (e1::e2::es) pos) (DV ts Str.empty):=by intro δ s σ H Q I q;show JoinedStr_many (CM h Str.empty δ s σ H Q @_ I q)
end
def yO:List Dt->Ms->DQ->Prop
 | [.int i],M,q=>q (.int i) M
 | [.bl b],M,q=>q (.int (if b then 1 else 0)) M
 | [.str x],M,q=>-x<=640/\match PySem.intText? x with
  | some n=>q (.int n) M
  | none=>False
 | _,_,_=>False
def SV:Dt->Ms->DQ->Prop
 | .int i,M,q=>i.natAbs.log2 < 1920/\q (.str (Str.ofString (toString i))) M
 | .str z,M,q=>-z<=sizeLine/\q (.str z) M
 | _,_,_=>False
def QD:List Dt->Ms->DQ->Prop
 | [.int i],M,q=>q (.int (if i < 0 then - i else i)) M
 | _,_,_=>False
def Kq:List Dt->Ms->DQ->Prop
 | [.int i,.int j],M,q=>q (.int (if j < i then j else i)) M
 | _,_,_=>False
def QG:List Dt->Ms->DQ->Prop
 | [d],M,q=>∃bs:List Bool,mY M d=!(bs.map Dt.bl)/\(∀k,d≠ .kt k)/\(∀k,d≠ .tup k)/\q (.bl (bs.any id)) M
 | _,_,_=>False
def OW:Dt->Option Value
 | .aV=>!(.type "NoneType")
 | .bl _=>!(.type "bool")
 | .int _=>!(.type "int")
 | .str _=>!(.type "str")
 | .lst _=>!(.type "list")
 | .tup _=>!(.type "tuple")
 | _=>none
def M_:Dt->Option Value
 | .ty T=>!(.type T)
 | .ref C=>!(.ref C)
 | _=>none
section
variable{K:gV}
def uv{G:Hp}{L:List Addr}:∀{l:List Str},Ν K G L (l.map Dt.str) (l.map V.str)
 | []=>rfl
 | _::_=>(_,_,rfl,rfl,uv)
def mS{G:Hp}{L:List Addr}:∀{bs:List Bool} {vs:List V},Ν K G L (bs.map Dt.bl) vs->vs=bs.map V.bl
 | [],_,h=>h
 | b::bs,_,(v,r,e,h1,h2)=>by subst e;rw[mS h2,show v=V.bl b from h1];rfl
def aaq:xU K (λxs H Q=>((∃i,xs=[V.int i]/\Q (.int i) H)\/∃k,xs=[V.bl k]/\Q (.int (if k then 1 else 0)) H)\/∃x n,xs=[V.str x]/\PySem.intText? x=!n/\-x<=640/\Q (.int n) H) yO:=by
 intro G0 L0 H0 G L M H vs ds q e r n h;unfold yO at h;split at h
 .rename_i i;let(v,rfl,n1):=aQ n;cases n1;show .inl (.inl (i,rfl,aR e r h))
 .rename_i i;let(v,rfl,n1):=aQ n;cases n1;show .inl (.inr (i,rfl,aR e r h))
 .rename_i x;let(v,rfl,n1):=aQ n;cases n1;split at h
  .rename_i m hm;show .inr (x,m,rfl,hm,h.1,aR e r h.2)
  .show h.2.elim
 .show h.elim
def aak:xU K (λxs H Q=>∃i,xs=[V.int i]/\Q (.int (if i < 0 then - i else i)) H) QD:=by
 intro G0 L0 H0 G L M H vs ds q e r n h;unfold QD at h;split at h
 .rename_i i;let(v,rfl,n1):=aQ n;cases n1;show(i,rfl,aR e r h)
 .show h.elim
def aar:xU K (λxs H Q=>∃i j,xs=[V.int i,.int j]/\Q (.int (if j < i then j else i)) H) Kq:=by
 intro G0 L0 H0 G L M H vs ds q e r n h;unfold Kq at h;split at h
 .rename_i i j;let(v,u,rfl,n1,n2):=eD n;cases n1;cases n2;show(i,j,rfl,aR e r h)
 .show h.elim
def Zc:xU K (Ui K) QG:=by
 intro G0 L0 H0 G L M H vs ds q e r n h;unfold QG at h;split at h
 .rename_i d;let(bs,hs,nk,nt,h):=h;let(v,rfl,n1):=aQ n;cases d with
  | lst xs=>
   cases hs;let(a,ws,rfl,e1,m):=n1;show(a,bs,rfl,by rw[<-mS m];show .of (r.sub _ _ e1),aR e r h)
  | loc k=>
   let(a,rfl,e1):=n1;let hs:(match M[k]? with| some (.lst xs)=>!xs| _=>none)=!(bs.map Dt.bl):=hs;split at hs
   .rename_i ys hm;cases hs;let(_,ws,e2,m):=r.dF k a _ e1 hm;show(a,bs,rfl,by rw[<-mS m];show .of e2,aR e r h)
   .cases hs
  | tup xs=>show aaO rfl (nt xs)
  | kt xs=>show aaO rfl (nk xs)
  | fX ns=>
   let e0:ns.map Dt.int=bs.map Dt.bl:=aav hs;cases ns with
   | nil=>
    cases bs with
    | nil=>let(a,rfl,e1):=n1;show(a,[],rfl,r.sub.seq e1,aR e r h)
    | cons _ _=>cases e0
   | cons _ _=>
    cases bs with
    | nil=>cases e0
    | cons _ _=>cases e0
  | _=>cases hs
 .show h.elim
def Ha{G:Hp}{L:List Addr}{M:Ms}{H:Hp}{d:Dt}{v:V}{t:Value}(r:Rl K G L M H)(n:Den K G L d v)(h:OW d=!t):iV K H v t:=by
 cases d with
 | aV=>cases h;cases n;show .aV
 | bl b=>cases h;cases n;show .bl _
 | int i=>cases h;cases n;show .int _
 | str x=>cases h;cases n;show .str _
 | lst xs=>cases h;let(a,ws,rfl,e,_):=n;show .lst (r.sub _ _ e)
 | tup xs=>cases h;let(a,ws,rfl,e,_):=n;show .tup (r.sub _ _ e)
 | _=>cases h
def xm{G:Hp}{L:List Addr}{d:Dt}{v:V}{t:Value}(n:Den K G L d v)(h:M_ d=!t):x4 v=!t:=by
 cases d with
 | ty T=>cases n;show h
 | ref C=>cases n;show h
 | _=>cases h
end
def KS:List DE->Str->DE
 | [],Θ=>λ_ M q _=>q (.str Θ) M
 | t::ts,Θ=>λρ M q x=>t ρ M (λd M1=>match d with
  | .str y=>-(Θ++y)<=sizeLine/\KS ts (Θ++y) ρ M1 q x
  | _=>False) x
section
variable{X:Cx}{R:St->XK}{o a e e1 e2:Expr}{es:List Expr}{to ta te:DE}{t:DA}{name:Str}{apos cn pos p p2:Pos}{T id:String}
def Ti(ha:JE X R a ta):JE X R (.FormattedValue a (- 1) none pos) (UG SV ta):=.of (QR ha) λσ H G L ρ M q x rl n h hx=>by
 show(G,L,ρ,M,_,x,rl,n,h,hx,λv H1 xz=>?_);let(d1,G1,L1,M1,e1,r1,n1,h1):=xz;unfold SV at h1
 (try dsimp only at h1)
 split at h1
 .cases n1;show .inl (_,rfl,h1.1,aR e1 r1 h1.2)
 .cases n1;show .inr (_,rfl,h1.1,aR e1 r1 h1.2)
 .show h1.elim
def qx:∀{es:List Expr} {ts:List DE},Paired (JE X R) es ts->Paired (PE X) es (ts.map (rq X.K R))
 | _,_,.nil=>.nil
 | _,_,.cons h t=>.cons h (qx t)
def D3{K:gV}:∀(ts:List DE) (Θ:Str) (σ:St) (G0:Hp) (L0:List Addr) (H0 G:Hp) (L:List Addr) (M:Ms) (H:Hp) (ρ:En) (q:DQ) (x:DX),Ex G0 L0 H0 G L H->Rl K G L M H->gP K G L ρ σ->KS ts Θ ρ M q x->sV K G L H R x->DV (ts.map (rq K R)) Θ σ H (Fin K G0 L0 H0 q)
 | [],Θ,σ,G0,L0,H0,G,L,M,H,ρ,q,x,e,rl,n,h,hx=>aR e rl h
 | t::ts,Θ,σ,G0,L0,H0,G,L,M,H,ρ,q,x,e,rl,n,h,hx=>by
  show(G,L,ρ,M,_,x,rl,n,h,hx,λv H1 xz=>?_);let(d1,G1,L1,M1,e1,r1,n1,h1):=xz
  (try dsimp only at h1)
  split at h1
  .rename_i y;show(y,n1,h1.1,D3 ts (Θ++y) σ G0 L0 H0 G1 L1 M1 H1 ρ q x (e.trans e1) r1 (n.mono e1) h1.2 (hx.on e1))
  .show h1.elim
def QK{ts:List DE}(h:Paired (JE X R) (e1::e2::es) ts):JE X R (.JoinedStr (e1::e2::es) pos) (KS ts Str.empty):=
 .of (Mf (qx h)) λσ H G L ρ M q x rl n h hx=>D3 ts _ σ G L H G L M H ρ q x (.refl _ _ _) rl n h hx
def og:bootBuiltins "int"=!(.type "int"):=by decide+kernel
def FL:bootBuiltins "abs"=!(.builtin "abs"):=by decide+kernel
def E5:bootBuiltins "any"=!(.builtin "any"):=by decide+kernel
def uo:bootBuiltins "min"=!(.builtin "min"):=by decide+kernel
def eS:bootBuiltins "isinstance"=!(.builtin "isinstance"):=by decide+kernel
def lY:bootBuiltins "bool"=!(.type "bool"):=by decide+kernel
def lu:bootBuiltins "list"=!(.type "list"):=by decide+kernel
def zU{x:Str}{T:String}(hm:X.mg x=none)(hv:bootBuiltins x=!(.type T))(hg:Gl X x|>1)(hn:x≠"__name__"|>2)(hd:(x==("__debug__":Str))=false|>2):JE X R (.Name x p) (dC (.ty T)):=Od (Mp (v:=.ty T) hg hm hv rfl hn hd) λ_ _=>rfl
def hJ{x:Str}{C:Addr}(hm:X.mg x=!(.ref C))(hg:Gl X x|>1)(hd:(x==("__debug__":Str))=false|>2):JE X R (.Name x p) (dC (.ref C)):=Od (wN (v:=.ref C) hg hm rfl hd) λ_ _=>rfl
def qo{x:Str}{z:Int}(hm:∃tk,X.mg x=!(.int z tk))(hg:Gl X x|>1)(hd:(x==("__debug__":Str))=false|>2):JE X R (.Name x p) (dC (.int z)):=let (tk,hm):=hm;Od (wN (v:=.int z) hg hm (tk,rfl) hd) λ_ _=>rfl
end
def Wd(x:Str):It:=(λi _=>i < x.cps.size,λi H v H'=>H'=H/\∃c,x.cps[i]? =!c/\v= .str ⟨#[c]⟩,λi _=>x.cps.size<=i)
def Fi{P:Program}{w:World}{K:gV}{tg:Expr}(x:Str)(t:Tok)(it:Addr):Turn P w K tg (Wd x) [it] it (λi h=>h.IsStrIter it "str_ascii_iterator" x t i) where
 mem:=by simp
 obj:=λi h st b hb=>by
  let e:b=it:=by simpa using hb
  subst e;let(o,e,c,d):=st;show(o,e,λv z=>by rw[d]at z;cases z)
 keep:=λi h h' st k=>let (o,ho,r):=st;(o,k it (by simp) o ho,r)
 item:=by intro X hP hw hK hc i δ s σ H E I hf st hg;subst hP hw hK;let(f0,f1,f2,f3,f4,f5):=hf it (by simp);let hg:i < x.cps.size:=hg;show wpAny_pyNext_ascii_item st (c:=x.cps[i]) (by simp[hg]) λh' wD sb=>?_;let I1:Inv X δ σ H {s with heap:=h',toks:=s.toks+1}:=I.turned (λb o hb e=>(sb.2 b hb).trans e) f0 f1 f3 f4 f5;let(o,e,c,d):=id wD;show(_,rfl,uW (s:={s with heap:=h',toks:=s.toks+1}) e c d @_ (.str ⟨#[x.cps[i]]⟩,H,I1,(_,rfl),(rfl,_,by simp[hg],rfl),wD,λb hb=>(hf b hb).1))
 done:=by intro X hP hw hK hc i δ s σ H E I hf st hg;subst hP hw hK;let(f0,f1,f2,f3,f4,f5):=hf it (by simp);let hg:x.cps.size<=i:=hg;show wpAny_pyNext_ascii_end (I.ok.hd hc) st (by simp;omega) λh' eb=>(rfl,I.turned (t':=s.toks) (λb o hb e=>eb b o hb e) f0 f1 f3 f4 f5)
 self:=λ_ _ _ _ _ st h=>wpAny_pyIter_striter_ascii st h
def Fc{P:Program}{w:World}{K:gV}{tg:Expr}(x:Str)(t:Tok)(it:Addr):Turn P w K tg (Wd x) [it] it (λi h=>h.IsStrIter it "str_iterator" x t i) where
 mem:=by simp
 obj:=λi h st b hb=>by
  let e:b=it:=by simpa using hb
  subst e;let(o,e,c,d):=st;show(o,e,λv z=>by rw[d]at z;cases z)
 keep:=λi h h' st k=>let (o,ho,r):=st;(o,k it (by simp) o ho,r)
 item:=by intro X hP hw hK hc i δ s σ H E I hf st hg;subst hP hw hK;let(f0,f1,f2,f3,f4,f5):=hf it (by simp);let hg:i < x.cps.size:=hg;show wpAny_pyNext_wide_item st (c:=x.cps[i]) (by simp[hg]) λh' wD sb=>?_;let I1:Inv X δ σ H {s with heap:=h',toks:=s.toks+1}:=I.turned (λb o hb e=>(sb.2 b hb).trans e) f0 f1 f3 f4 f5;let(o,e,c,d):=id wD;show(_,rfl,uW (s:={s with heap:=h',toks:=s.toks+1}) e c d @_ (.str ⟨#[x.cps[i]]⟩,H,I1,(_,rfl),(rfl,_,by simp[hg],rfl),wD,λb hb=>(hf b hb).1))
 done:=by intro X hP hw hK hc i δ s σ H E I hf st hg;subst hP hw hK;let(f0,f1,f2,f3,f4,f5):=hf it (by simp);let hg:x.cps.size<=i:=hg;show wpAny_pyNext_wide_end (I.ok.hd hc) st (by simp;omega) λh' eb=>(rfl,I.turned (t':=s.toks) (λb o hb e=>eb b o hb e) f0 f1 f3 f4 f5)
 self:=λ_ _ _ _ _ st h=>wpAny_pyIter_striter_wide st h
def vy(z:Str):List Dt:=z.cps.toList.map λc=>Dt.str ⟨#[c]⟩
def PM{K:gV}{G:Hp}{L:List Addr}{z:Str}:Yl K (Wd z) (vy z) G L where
 go :=λi G1 L1 M1 H1 d g l r e=>by
  unfold vy at e;rw[aan]at e;cases q:z.cps.toList[i]? with
  | none=>rw[q]at e;cases e
  | some c=>
   rw[q]at e;cases e;let hi:i < z.cps.size:=by have:=(aaj.mp q).1;simpa using this
   show(hi,λv' H' xz=>?_);let(eH,c',e',y):=xz;subst eH y;have:c'=c:=by rw[<-Array.getElem?_toList,q]at e';show(aav e').symm
   subst this;show(G1,.refl _ _ _,r,rfl)
 stop:=λi G1 L1 M1 H1 g l r e=>by unfold vy at e;change z.cps.size<=i;simpa using e
def Sw(M:Ms):Dt->Option (List Dt)
 | .lst xs=>!xs
 | .tup xs=>!xs
 | .fX ns=>!(ns.map .int)
 | .kt xs=>!xs
 | .str z=>!(vy z)
 | _=>none
section
variable{X:Cx}{R:St->XK}{tg e:Expr}{te:DE}
def wc{δ:List (Addr×Obj)}{σ:St}{H:Hp}{s:Shared}{a:Addr}{vs:List V}{Q:It->Hp->Prop}{E:Value->Shared->Prop}(I:Inv X δ σ H s)(hq:fQ X.K H a vs)(q:Q (Wx X.K a) H):wpAny (model X.prog X.w) X.A (pyIter (.ref a)) (LG X δ σ tg Q) E s:=by
 let(its,rv,p,hz):=I.list hq;show wpAny_pyIter_list p.isList ?_;show(s.heap.objs.size,[s.heap.objs.size],_,_,H,rfl,I.kept (t':=s.toks) λb o e=>aah _ e,Fv a _,(_,aaS _ rfl,rfl,rfl),λb hb=>?_,q);let e:b=s.heap.objs.size:=by simpa using hb
 subst e;show I.Bs (aam _) (I.au.fresh (aam _))
def J5{δ:List (Addr×Obj)}{σ:St}{H:Hp}{s:Shared}{a:Addr}{vs:List V}{Q:It->Hp->Prop}{E:Value->Shared->Prop}(I:Inv X δ σ H s)(hq:mH X.K H a vs)(q:Q (Zm X.K a) H):wpAny (model X.prog X.w) X.A (pyIter (.ref a)) (LG X δ σ tg Q) E s:=by
 let(its,rv,p,hz):=I.tuple hq;show wpAny_pyIter_tuple (show s.heap.IsTuple a its.toArray from p) ?_;show(s.heap.objs.size,[s.heap.objs.size],_,_,H,rfl,I.kept (t':=s.toks) λb o e=>aah _ e,Bx a _,(_,aaS _ rfl,rfl,rfl),λb hb=>?_,q);let e:b=s.heap.objs.size:=by simpa using hb
 subst e;show I.Bs (aam _) (I.au.fresh (aam _))
def Qp{δ:List (Addr×Obj)}{σ:St}{H:Hp}{s:Shared}{z:Str}{t:Tok}{Q:It->Hp->Prop}{E:Value->Shared->Prop}(I:Inv X δ σ H s)(q:Q (Wd z) H):wpAny (model X.prog X.w) X.A (pyIter (.str z t)) (LG X δ σ tg Q) E s:=by
 let fp:∀b∈[s.heap.objs.size],qW X δ H b:=λb hb=>by
  let e:b=s.heap.objs.size:=by simpa using hb
  subst e;show I.Bs (aam _) (I.au.fresh (aam _))
 cases ha:z.cps.all (· < 128)
 .show wpAny_pyIter_wide ha (s.heap.objs.size,[s.heap.objs.size],_,_,H,rfl,I.kept (t':=s.toks) λb o e=>aah _ e,Fc z t _,(_,aaS _ rfl,rfl,rfl),fp,q)
 .show wpAny_pyIter_ascii ha (s.heap.objs.size,[s.heap.objs.size],_,_,H,rfl,I.kept (t':=s.toks) λb o e=>aah _ e,Fi z t _,(_,aaS _ rfl,rfl,rfl),fp,q)
end
def QO:DF:=λds _ q _=>∃ns:List Int,ds=[.fX ns]/\-ns<=63/\∀M',q (.bl true) M'
def yi(K:gV):Sp:=λvs H Q _=>∃(a:Addr) (ns:List Int),vs=[.ref a]/\fQ K H a (ns.map V.int)/\-ns<=63/\∀H',Q (.bl true) H'
def Pp{P:Program}{w:World}{K:gV}{mg:Str->Option Value}{base:Heap}{k:Nat}{f:Addr}{fd:FuncData}{x:Str}(F:ae P w K mg base (bC P w) k f fd [x] (cZ K QO)):ae P w K mg base We k f fd [x] (yi K):=by
 let sp:∀vs H Q E,yi K vs H Q E->cZ K QO vs H Q E0:=by rintro vs H Q E ⟨a,ns,rfl,hS,hl,hQ⟩;show(H,[],[.fX ns],[],λd _=>d= .bl true,λ_ _ _=>False,(.refl _,rfl,List.nodup_nil,λk a m h=>by simp at h),(_,_,rfl,(a,rfl,hS),rfl),(ns,rfl,hl,λ_=>rfl),fun v H' (d,G',L',M',_,_,n,e)=>?_,λ_ _ _ _ _ _ _ h=>h.elim);subst e;rw[show v=V.bl true from n];show hQ H'
 show(λvs H Q E h=>F.len vs H Q E0 (sp vs H Q E h),λA outer s H args us vs Q E hr he hb hv h=>codeAny_mono (F.run A outer s H args us vs Q E0 hr he hb hv (sp vs H Q E h)) λr s' hq=>?_);cases r with
 | error e=>
  let(_,_,_,_,_,_,_,_,hE):=hq;show hE.elim
 | ok fl=>cases fl <;> show hq
def PH(c:DT)(tb:DS):DS:=λDn ρ M=>∃W:Nat->En->Ms->Prop,(∃m,W m ρ M)/\∀m ρ M,W m ρ M->
 c ρ M (λb M1=>(b=true->∃N:En->Ms->Prop,(∀ρ' M',N ρ' M'->∃m',m' < m/\W m' ρ' M')/\tb {Dn with nx:=N,ct:=N,bk:=Dn.nx} ρ M1)/\(b=false->Dn.nx ρ M1)) Dn.x
def Xd(i j:Nat)(t:DA):DS:=λDn ρ M=>t ρ M (λds M1=>match ds with
 | [a,b]=>Dn.nx ((ρ.set i (!a)).set j (!b)) M1
 | _=>False) Dn.x
section
variable{X:Cx}{R:St->XK}{c a b:Expr}{body:List Stmt}{tc:DT}{tb:DS}{pos:Pos}
def Ai(hc:JT X R c tc)(hb:zp X R body tb)(hp:PassesOwn (model X.prog X.w) X.A X.env X.xe:=by first| exact PassesOwn.never| exact PassesOwn.leaving):JS X R (.While c body [] pos) (PH tc tb):=.of (IP hp hc hb) λσ H G L ρ M Dn rl n h hx=>by
 let(W,(m0,w0),turn):=h;show(λm σ' H'=>eN X.K G L H (W m) σ' H',(m0,ρ,G,L,M,.refl _ _ _,rl,n,w0),λm σ' H' xz=>?_);let(ρ',G',L',M',e',r',n',w'):=xz;show(G',L',ρ',M',_,_,r',n',turn m ρ' M' w',hx.on e',λv H1 xz=>?_);let(G1,L1,M1,e1,r1,h1):=xz;cases v with
 | true=>
  let(N,hN,hb):=h1.1 rfl;show E4 (eN X.K G L H N,fun σ2 H2 (ρ2,G2,L2,M2,e2,r2,n2,h2)=>?_,?_)
  .let(m',hm,w2):=hN ρ2 M2 h2;show(m',hm,ρ2,G2,L2,M2,e2,r2,n2,w2)
  .let Nn:=e'.trans e1;show(G1,L1,ρ',M1,_,r1,n'.mono e1,hb,hx.on Nn,(λ_ _ f=>eN.back Nn f,λ_ _ f=>Fin.back Nn f,λ_ _ f=>eN.back Nn f,λ_ _ f=>eN.back Nn f))
 | false=>show FK (ρ',G1,L1,M1,e'.trans e1,r1,n'.mono e1,h1.2 rfl)
def HH{i j:Nat}{x y:Str}{t:DA}{px py pt:Pos}{kt k2 Qm}(hN:X.N.Nodup)(hi:X.N[i]? =!x)(hj:X.N[j]? =!y)(ha:JA X R [a,b] t)(Yu:i≠j|>2)
  (hx:X.env.scope.names.lookup x=some .local|>1) (hy:X.env.scope.names.lookup y=some .local|>1)
  (hw:swappedStores [.Tuple [.Name x px,.Name y py] kt pt] (.Tuple [a,b] k2 Qm) X.env=pure (![x,y])|>1) (hc:X.calm=true|>1)
  (hs:swapsWithSole [.Tuple [.Name x px,.Name y py] kt pt] (.Tuple [a,b] k2 Qm) pos.line X.env=pure false|>1):
  JS X R (.Assign [.Tuple [.Name x px,.Name y py] kt pt] (.Tuple [a,b] k2 Qm) pos) (Xd i j t):=.of (Qo hc hN hi hj Yu hx hy ha hw hs) λσ H G L ρ M Dn rl n h hx=>by
 show(G,L,ρ,M,_,_,rl,n,h,hx,λvs H1 xz=>?_);let(ds,G1,L1,M1,e1,r1,n1,h1):=xz
 (try dsimp only at h1)
 split at h1
 .let(v,u,rfl,m1,m2):=eD n1;show(v,u,rfl,_,G1,L1,M1,e1,r1,((n.mono e1).set i m1).set j m2,h1)
 .show h1.elim
end
section
variable{X:Cx}{R:St->XK}{e e2 o:Expr}{es:List Expr}{t:DA}{to ta tb:DE}{a b:Expr}{p pos apos cn:Pos}
def DG(hm:X.mg "abs"=none)(ha:JA X R [e] t)(he:starEach [e] X.env=(false, eval e X.env)::starEach [] X.env|>1)(dq:(backTo pos (starEach [] X.env)).any (·.1)=false|>1)(hg:Gl X "abs"|>1):JE X R (.Call (.Name "abs" p) [e] [] pos) (vL QD t):=
 d9 Hz aak hm FL ha hg @_ @_ he dq
def TJ(hm:X.mg "min"=none)(ha:JA X R [e,e2] t)(hc:X.calm=true|>1)(he:starEach [e,e2] X.env=(false, eval e X.env)::starEach [e2] X.env|>1)(dq:(backTo pos (starEach [e2] X.env)).any (·.1)=false|>1)(hg:Gl X "min"|>1):JE X R (.Call (.Name "min" p) [e,e2] [] pos) (vL Kq t):=
 d9 (Fz hc) aar hm uo ha hg @_ @_ he dq
def T1(hm:X.mg "any"=none)(ha:JA X R [e] t)(hc:X.calm=true|>1)(he:starEach [e] X.env=(false, eval e X.env)::starEach [] X.env|>1)(dq:(backTo pos (starEach [] X.env)).any (·.1)=false|>1)(hg:Gl X "any"|>1):JE X R (.Call (.Name "any" p) [e] [] pos) (vL QG t):=
 d9 (HP hc) Zc hm E5 ha hg @_ @_ he dq
def O5(hm:X.mg "int"=none)(ha:JA X R [e] t)(he:starEach [e] X.env=(false, eval e X.env)::starEach [] X.env|>1)(dq:(backTo pos (starEach [] X.env)).any (·.1)=false|>1)(hg:Gl X "int"|>1):JE X R (.Call (.Name "int" p) [e] [] pos) (vL yO t):=
 mT (FR.or wX) aaq hm og ha hg @_ @_ he dq
end
def uj{te:DE}{cs:En}{f:Dt->Dt}{M:Ms}{k:List Dt->Ms->Prop}:∀(xs Θ:List Dt),(∀x∈xs,∀q:DQ,q (f x) M->te ((!x)::cs) M q jh)->k (Θ++xs.map f) M->zN te cs xs Θ M k
 | [],Θ,_,h=>by rw[List.map_nil,aa0]at h;show h
 | x::xs,Θ,ht,h=>ht x List.mem_cons_self _ (uj xs (Θ++[f x]) (λy hy=>ht y (List.mem_cons_of_mem _ hy)) (by simpa using h))
def Η{d y:Dt}{xs:List Dt}{i:Int}{M:Ms}{q:DQ}(hs:mY M d=!xs)(h:kU xs i=!y)(k:q y M):fe d (.int i) M q:=by
 cases d with
 | str z=>cases hs
 | _=>
  unfold fe;simp only[hs,h];show k
def ao{d:Dt}{xs:List Dt}{M:Ms}{q:DQ}(hs:mY M d=!xs)(k:q (.int (-xs)) M):fN [d] M q:=by
 cases d with
 | str z=>cases hs
 | _=>
  unfold fN;simp only[hs];show k
def bI{α:Type}{x:α}{xs:List α}:kU (x::xs) 0=!x:=Ε (j:=0) rfl
def Hi(bs:List Bool):(List.range (-bs)).all (λi=>bs.getD i false)=bs.all id:=by
 induction bs with
 | nil=>rfl
 | cons b bs ih=>
  rw[aaz,ab8,ab6,List.all_map,ab6,<-ih];rfl
def Vl(K:gV):List V->Hp->VK->Prop:=λxs H Q=>∃(p:Addr) (bs:List Bool),xs=[.ref p]/\fQ K H p (bs.map V.bl)/\Q (.bl (bs.all id)) H
section
variable{X:Cx}
def Jo (hc : X.calm = true) : cj X (.builtin "all") (Vl X.K) :=by
  intro δ s σ H xs us Q I r h;obtain⟨p,bs,rfl,hq,q⟩ :=h;obtain⟨u,rfl,r1⟩ :=iI r;cases r1;obtain⟨its,rv,pl,hz⟩ :=I.list hq;let Ql :=wA rv;subst Ql;show call_all_walk (wpAny_pyIter_list pl.isList ?_);let lp : p < s.heap.objs.size :=by obtain⟨o,e,_⟩ :=pl.isList;show aau e
  show(s.heap.objs.size,_,_,_,_,_,λi =>bs.getD i false,rfl,Walks.list (show X.A.in1.handled = none from I.ok.hd hc) s.heap.objs.size p (aaN lp) (bs.map Value.bool).toArray,((_,aaS _ rfl,rfl,rfl),pl.isList.at λo e =>aah _ e),zY,λh' tk hk =>?_);show(.bl (bs.all id),H,I.kept λb o e =>hk b o (λz =>by have : b = s.heap.objs.size :=(by simpa using z);show Nat.lt_irrefl _ (this ▸ Heap.lt_size e)) (Heap.get?_push_of_some _ e),?_,q);rw[aaM,aae,Hi];rfl
end
def Qx:List Dt->Ms->DQ->Prop
 | [.lst xs],M,q=>∃bs:List Bool,xs=bs.map Dt.bl/\q (.bl (bs.all id)) M
 | _,_,_=>False
def Xk{K:gV}:xU K (Vl K) Qx:=by
 intro G0 L0 H0 G L M H vs ds q e r n h;unfold Qx at h;split at h
 .rename_i xs;let(bs,rfl,h):=h;let(v,rfl,n1):=aQ n;let(a,ws,rfl,e1,m):=n1;show(a,bs,rfl,by rw[<-mS m];show .of (r.sub _ _ e1),aR e r h)
 .show h.elim
def Vh(i j:Nat)(t:DE):DS:=λDn ρ M=>t ρ M (λd M1=>match d with
 | .tup [a,b]=>Dn.nx ((ρ.set i (!a)).set j (!b)) M1
 | _=>False) Dn.x
section
variable{X:Cx}{R:St->XK}{e o:Expr}{es:List Expr}{t:DA}{to te:DE}{p pos apos cn:Pos}
def FY:bootBuiltins "all"=!(.builtin "all"):=by decide+kernel
def Vv(hm:X.mg "all"=none)(ha:JA X R [e] t)(hc:X.calm=true|>1)(he:starEach [e] X.env=(false, eval e X.env)::starEach [] X.env|>1)(dq:(backTo pos (starEach [] X.env)).any (·.1)=false|>1)(hg:Gl X "all"|>1):JE X R (.Call (.Name "all" p) [e] [] pos) (vL Qx t):=
 d9 (Jo hc) Xk hm FY ha hg @_ @_ he dq
variable{i j k:Nat}{tg:Expr}
def L7(he:JE X R e te)(hg:PG X tg (JF X.K 2 (mO (iq i) (mO (iq j) K5))))(hs:swapsWithSole [tg] e pos.line X.env=pure false|>1)(hw:swappedStores [tg] e X.env=pure none|>1)
  (h1:(assignEach [tg] X.env).map (·.2)=[assign tg X.env]|>1):JS X R (.Assign [tg] e pos) (Vh i j te):=.of (IE he hg hs hw h1) λσ H G L ρ M Dn rl n h hx=>by
 show(G,L,ρ,M,_,_,rl,n,h,hx,λv H1 xz=>?_);let(d1,G1,L1,M1,e1,r1,n1,h1):=xz
 (try dsimp only at h1)
 split at h1
 .rename_i a b;let(p,vs,rfl,e,m):=n1;let(v1,v2,rfl,m1,m2):=eD m;show(p,_,rfl,.inl (.inl (r1.sub _ _ e)),rfl,v1,_,rfl,v2,_,rfl,rfl,_,G1,L1,M1,e1,r1,((n.mono e1).set i m1).set j m2,h1)
 .show h1.elim
end
def gP.unset{K:gV}{G:Hp}{L:List Addr}{ρ:En}{σ:St}(h:gP K G L ρ σ)(i:Nat):gP K G L (ρ.set i none) (σ.set i none):=by
 show(by rw[aa7,aa7];show h.len,λj d' e=>?_);by_cases hj:i=j
 .subst hj;let hl:i < -ρ:=by have:=(aaj.mp e).1;rwa[aa7]at this
  rw[aaV hl]at e;cases e
 .rw[abd hj]at e;let(u,a,b):=h.dF j d' e;show(u,by rw[abd hj];show a,b)
def Nu{α:Type}{xs:List α}{i:Int}(h0:0<=i)(h1:i < -xs):∃y∈xs,kU xs i=!y:=by show(xs[i.toNat]'(),aaU _,?_);let e:xs[i.toNat]? =!(xs[i.toNat]'()):=aaa _;have:=Ε e;rwa[show((i.toNat:Nat):Int)=i by omega]at this
mutual
def Dt.under(n:Nat):Dt->Prop
 | .aV=>True
 | .bl _=>True
 | .int _=>True
 | .str _=>True
 | .tup ds=>Dt.bM n ds
 | .lst ds=>Dt.bM n ds
 | .obj _ _ ds=>Dt.bM n ds
 | .loc k=>k < n
 | .ref _=>True
 | .ty _=>True
 | .fX _=>True
 | .kt ds=>Dt.bM n ds
 | .exc _ _ ds=>Dt.bM n ds
 | .Sh _ _ _ _ ds=>Dt.bM n ds
def Dt.bM(n:Nat):List Dt->Prop
 | []=>True
 | d::ds=>Dt.under n d/\Dt.bM n ds
end
def MO.under(n:Nat):MO->Prop
 | .lst ds=>Dt.bM n ds
 | .ins _ _ ds=>Dt.bM n ds
 | .cB _ ds=>Dt.bM n ds
 | .raw _=>True
mutual
inductive Ht(n:Nat)(E:Ms):Dt->Dt->Prop
 | old {d:Dt} (h:d.under n):Ht n E d d
 | tup {ds es:List Dt} (h:jd n E ds es):Ht n E (.tup ds) (.tup es)
 | lst {ds es:List Dt} (h:jd n E ds es):Ht n E (.lst ds) (.lst es)
 | obj {C:Addr} {ns:List Str} {ds es:List Dt} (h:jd n E ds es):Ht n E (.obj C ns ds) (.obj C ns es)
 | Ib {k:Nat} {ds es:List Dt} (hk:n<=k) (e:E[k - n]? =!(.lst ds)) (h:jd n E ds es):Ht n E (.loc k) (.lst es)
 | XS {k:Nat} {C:Addr} {ns:List Str} {ds es:List Dt} (hk:n<=k) (e:E[k - n]? =!(.ins C ns ds)) (h:jd n E ds es):Ht n E (.loc k) (.obj C ns es)
inductive jd(n:Nat)(E:Ms):List Dt->List Dt->Prop
 | nil:jd n E [] []
 | cons {d e:Dt} {ds es:List Dt} (h:Ht n E d e) (t:jd n E ds es):jd n E (d::ds) (e::es)
end
def jd.length{n:Nat}{E:Ms}:∀{ds es:List Dt},jd n E ds es->-ds=-es
 | [],es,h=>by cases h;rfl
 | d::ds,es,h=>by
  cases h with
  | cons h t=>rw[aaz,aaz,jd.length t]
def jd.old{n:Nat}{E:Ms}:∀{ds:List Dt},Dt.bM n ds->jd n E ds ds
 | [],_=>.nil
 | _::_,h=>.cons (.old h.1) (jd.old h.2)
section
variable{K:gV}{G G':Hp}{L0 t:List Addr}{n:Nat}
mutual
def ue(hn:-L0=n)(g:dW G G'):∀(d:Dt) (v:V),d.under n->Den K G (L0++t) d v->Den K G' L0 d v
 | .aV,_,_,h=>h
 | .bl _,_,_,h=>h
 | .int _,_,_,h=>h
 | .str _,_,_,h=>h
 | .tup ds,_,u,(a,vs,e,h1,h2)=>(a,vs,e,g _ _ h1,bK hn g ds vs u h2)
 | .lst ds,_,u,(a,vs,e,h1,h2)=>(a,vs,e,g _ _ h1,bK hn g ds vs u h2)
 | .obj C ns ds,_,u,(a,dx,vs,e,h1,hl,h2)=>(a,dx,vs,e,g _ _ h1,hl,bK hn g ds vs u h2)
 | .loc k,_,u,(a,e,h1)=>(a,e,by
   let u:k < n:=u
   rwa[aaF (by rw[hn];show u)]at h1)
 | .ref _,_,_,h=>h
 | .ty _,_,_,h=>h
 | .fX _,_,_,(a,e,h1)=>(a,e,g.seq h1)
 | .kt ds,_,u,(a,vs,e,h1,h2)=>(a,vs,e,g.VL h1,bK hn g ds vs u h2)
 | .exc _ _ ds,_,u,(a,od,vs,e,h1,h2,h3,h4)=>(a,od,vs,e,g _ _ h1,h2.imp (λz=>z) (λ(dx,z1,z2)=>(dx,z1,g _ _ z2)),h3,bK hn g ds vs u h4)
 | .Sh _ _ _ _ ds,_,u,(vs,e,h2,h3,h4)=>(vs,e,h2.imp (λz=>z) (λ(dx,z1,z2)=>(dx,z1,g _ _ z2)),h3,bK hn g ds vs u h4)
def bK(hn:-L0=n)(g:dW G G'):∀(ds:List Dt) (vs:List V),Dt.bM n ds->Ν K G (L0++t) ds vs->Ν K G' L0 ds vs
 | [],_,_,h=>h
 | d::ds,_,u,(v,r,e,h1,h2)=>(v,r,e,ue hn g d v u.1 h1,bK hn g ds r u.2 h2)
end
def Fm{H:Hp}{a:Addr}(hn:-L0=n)(g:dW G G'){m:MO}(u:m.under n)(h:Hn K G (L0++t) H a m):Hn K G' L0 H a m:=by
 cases m with
 | lst ds=>let(vs,e,h):=h;show(vs,e,bK hn g _ _ u h)
 | ins C ns ds=>let(dx,vs,e,hl,h):=h;show(dx,vs,e,hl,bK hn g _ _ u h)
 | cB ks ds=>let(vs,e,hl,h):=h;show(vs,e,hl,bK hn g _ _ u h)
 | raw u=>show h
end
open Classical in
noncomputable def over(G H:Hp)(t:List Addr):Hp:=λb=>if b∈t then H b else G b
def Ed{G H:Hp}{t:List Addr}{b:Addr}(h:b∈t):over G H t b=H b:=by unfold over;rw[if_pos h]
def mC{G H:Hp}{t:List Addr}{b:Addr}(h:b∉t):over G H t b=G b:=by unfold over;rw[if_neg h]
section
variable{K:gV}{G:Hp}{L0 t:List Addr}{M0 E:Ms}{H:Hp}
def iE(r:Rl K G (L0++t) (M0++E) H):dW G (over G H t):=λb u e=>by
 by_cases hb:b∈t
 .let(_,_,_,_,g,_):=r.vM (a:=b) (aaL _ hb);rw[g]at e;cases e
 .rw[mC hb];show e
def HG(r:Rl K G (L0++t) (M0++E) H)(hn:-L0=-M0){k:Nat}{a:Addr}{m:MO}(hk:-M0<=k)(e:(L0++t)[k]? =!a)(em:E[k - -M0]? =!m):over G H t a=H a/\Hn K G (L0++t) H a m:=by
 let e2:(M0++E)[k]? =!m:=by rw[aat hk];show em
 let(_,q):=r.dF k a m e e2;rw[aat (by rw[hn];show hk)]at e;show(Ed (aaI e),q)
def LZ(r:Rl K G (L0++t) (M0++E) H)(hn:-L0=-M0){d d':Dt}(f:Ht (-M0) E d d'):∀v,Den K G (L0++t) d v->Den K (over G H t) L0 d' v:=by
 show Ht.rec (motive_1:=λd d' _=>∀v,Den K G (L0++t) d v->Den K (over G H t) L0 d' v) (motive_2:=λds es _=>∀vs,Ν K G (L0++t) ds vs->Ν K (over G H t) L0 es vs) ?_ ?_ ?_ ?_ ?_ ?_ ?_ ?_ f
 .exactλ{d} u v h=>ue hn (iE r) d v u h
 .exactλ{ds es} f ih v (a,vs,e,h1,h2)=>(a,vs,e,iE r _ _ h1,ih vs h2)
 .exactλ{ds es} f ih v (a,vs,e,h1,h2)=>(a,vs,e,iE r _ _ h1,ih vs h2)
 .exactλ{C ns ds es} f ih v (a,dx,vs,e,h1,hl,h2)=>(a,dx,vs,e,iE r _ _ h1,hl.trans (-f),ih vs h2)
 .intro k ds es hk em f ih v ⟨a,e,h1⟩;let(o,vs,e1,h2):=HG r hn hk h1 em;show(a,vs,e,o.trans e1,ih vs h2)
 .intro k C ns ds es hk em f ih v ⟨a,e,h1⟩;let(o,dx,vs,e1,hl,h2):=HG r hn hk h1 em;show(a,dx,vs,e,o.trans e1,hl.trans (-f),ih vs h2)
 .exactλvs h=>h
 .exactλ{d e ds es} f t ih1 ih2 vs (v,r,e,h1,h2)=>(v,r,e,ih1 v h1,ih2 r h2)
end
def ZP(n:Nat)(q:DQ):DQ:=λd M=>∃M' E d',M=M'++E/\-M'=n/\(∀m∈M',MO.under n m)/\Ht n E d d'/\q d' M'
def Fin.tX{K:gV}{G0:Hp}{L0:List Addr}{M0:Ms}{H0:Hp}{q:DQ}{v:V}{H:Hp}(r0:Rl K G0 L0 M0 H0)(f:Fin K G0 L0 H0 (ZP (-M0) q) v H):Fin K G0 L0 H0 q v H:=by
 let(d,G,L,M,ex,r,dn,M',E,d',rfl,hl,hu,fz,hq):=f;let(t,rfl):=ex.l;let hn:-L0=-M':=by rw[hl];show r0.len
 let dis:∀b,b∈L0->b∉t:=λb h1 h2=>(acA.mp r.nd).2.2 b h1 b h2 rfl;let sm:=iE r;show(d',over G H t,L0,M',(ex.g.trans sm,.refl _,λb h1 h2=>?_,ex.out,λb h=>.inl h,ex.uY),(λb u e=>?_,hn,(acA.mp r.nd).1,λk a m h1 h2=>?_),LZ r hn (hl▸fz) v dn,hq)
 .let hb:b∉t:=λz=>(ex.new b (aaL _ z)).elim (λy=>dis b y z) h2;rw[mC hb];show ex.fr b h1 h2
 .by_cases hb:b∈t
  .rw[Ed hb]at e;show e
  .rw[mC hb]at e;show r.sub b u e
 .let k1:k < -L0:=(aaj.mp h1).1;let e1:(L0++t)[k]? =!a:=by rw[aaF k1];show h1
  let e2:(M'++E)[k]? =!m:=by rw[aaF (by rw[<-hn];show k1)];show h2
  let(g,q):=r.dF k a m e1 e2;show(by rw[mC (dis a (aaI h1))];show g,Fm (n:=-M') hn sm (by rw[hl];show hu m (aaI h2)) q)
section
variable{X:Cx}{R:St->XK}{e:Expr}{t:DE}
def bJ{st:Stmt}:JS X R st (λ_ _ _=>False):=λ_ _ _ _ _ _ (_,_,_,_,_,_,_,h,_,_)=>h.elim
end
def JQ(C:Addr)(m:Str)(sp:Sp)(nF:List V)(R:St->XK)(ta:TE)(t:TA):TE:=λσ H Q=>ta σ H λx H1=>∃a dx fs,x= .ref a/\H1 a=!(.ins C dx fs)/\fs.lookup m=none/\
 t σ H1 λvs H2=>sp (x::(vs++nF)) H2 Q (R σ)
def Qw(C:Addr)(sp:Sp)(nF:List V)(R:St->XK)(t:TA):TE:=λσ H Q=>t σ H λvs H1=>∀x dx,H1 x=none->H1 dx=none->dx≠x->
 sp (.ref x::(vs++nF)) (upd (upd H1 dx (.own x)) x (.ins C dx [])) (λv H2=>v= .aV/\Q (.ref x) H2) (R σ)
section
variable{X:Cx}{CX:AG}{k:Nat}{f C:Addr}{fd:FuncData}{ps:List Str}{sp:Sp}{nF:List V}{ds:List Value}{R:St->XK}{x m:Str}{p pos apos:Pos}{e o:Expr}{es:List Expr}{ta:TE}{t:TA}
def IK{pl:Sem Bool}(he:PE X o ta)(c:Dm X.K C)(hm:NW X.K C m f)(F:ae X.prog X.w X.K X.mg X.base CX k f fd ps sp)(hr:bf k X.A)(hb:fK X.K fd ps ds)(hd:af nF ds)(hx:cy CX X R)(ha:PA X (e::es) t)
  (uQ:starEach (e::es) X.env=(false, eval e X.env)::starEach es X.env|>1) (dq:(backTo pos (starEach es X.env)).any (·.1)=false|>1)
  (ht:eval (.Call (.Attribute o m apos) (e::es) [] pos) X.env=(do
   let  ov<-eval o X.env
   standAt apos.atName
   let (f, first)<-holding [ov] (getMethod ov m pl)
   callWith pos f first (backTo pos (starEach (e::es) X.env)) (backToKw pos (keywordEach [] X.env)))|>1):
  PE X (.Call (.Attribute o m apos) (e::es) [] pos) (JQ C m sp nF R ta t):=by
 intro δ s σ H Q I h;show PySem.W.methodCall_KW (pl:=pl) (a_ (he δ s σ H _ I h) λu s1 xz=>?_) ht;let(x,H1,I1,rx,a,dx,fs,ex,ea,l,q):=xz;subst ex;obtain rfl:u=Value.ref a:=rx;show sI I1 ea c hm l ?_;show PySem.W.callWith_K (first:=[.ref a]) (h₀:=X.base) I.ok.mod.T2 hm.kp (a_ (ha pos δ s1 σ H1 _ I1 q) fun us s2 (vs,H2,I2,r,q2)=>(I2.iL,?_)) uQ dq;show wB (us:=.ref a::us) (vs:=.ref a::vs) F hr hb hd hx I2 (.cons rfl r) q2
def Fw{pl:Sem Bool}(he:PE X o ta)(c:Dm X.K C)(hm:NW X.K C m f)(F:ae X.prog X.w X.K X.mg X.base CX k f fd ps sp)(hr:bf k X.A)(hb:fK X.K fd ps ds)(hd:af nF ds)(hx:cy CX X R)
  (ht:eval (.Call (.Attribute o m apos) [] [] pos) X.env=(do
   let  ov<-eval o X.env
   standAt apos.atName
   let (f, first)<-holding [ov] (getMethod ov m pl)
   callWith pos f first (backTo pos (starEach [] X.env)) (backToKw pos (keywordEach [] X.env)))|>1):
  PE X (.Call (.Attribute o m apos) [] [] pos) (JQ C m sp nF R ta Uw):=by
 intro δ s σ H Q I h;show PySem.W.methodCall_KW (pl:=pl) (a_ (he δ s σ H _ I h) λu s1 xz=>?_) ht;let(x,H1,I1,rx,a,dx,fs,ex,ea,l,q):=xz;subst ex;obtain rfl:u=Value.ref a:=rx;show sI I1 ea c hm l ?_;show PySem.W.callWith_K0 (first:=[.ref a]) I1.iL hm.kp (wB (us:=[.ref a]) (vs:=[.ref a]) F hr hb hd hx I1 (.cons rfl .nil) q)
def EY{δ:List (Addr×Obj)}{σ:St}{H:Hp}{s:Shared}{Q:VK}{us:List Value}{vs:List V}(M:Mk X.K C f)(F:ae X.prog X.w X.K X.mg X.base CX k f fd ps sp)(hr:bf (k+1) X.A)(hb:fK X.K fd ps ds)(hd:af nF ds)
  (hx:cy CX X R) (I:Inv X δ σ H s) (r:af vs us)
  (h:∀x dx,H x=none->H dx=none->dx≠x->sp (.ref x::(vs++nF)) (upd (upd H dx (.own x)) x (.ins C dx [])) (λv H2=>v= .aV/\Q (.ref x) H2) (R σ)):
  wpAny (model X.prog X.w) X.A (call (.ref C) us) (EP X δ σ Q) X.xe s:=by
 let hq:=h (s.heap.objs.size+1) s.heap.objs.size (I.au.fresh (Nat.le_succ _)) (I.au.fresh (aam _)) (aaN (abU _));let I2:=Inv.made (C:=C) I;let r2:af (V.ref (s.heap.objs.size+1)::(vs++nF)) (Value.ref (s.heap.objs.size+1)::(us++ds)):=.cons rfl (r.append hd);let hl:-(Value.ref (s.heap.objs.size+1)::us++ds)=-ps:=by let e:=-r2;rw[F.len _ _ _ _ hq]at e;show e.symm
 show wpAny_call (KA (f:=f) I.iL M.makes M.init (abh.mp M.fn) (codeAny_mono (F.run _ X.stack _ _ (Value.ref (s.heap.objs.size+1)::us,[]) (Value.ref (s.heap.objs.size+1)::(us++ds)) _ _ (R σ) (hr.make C us [])
  (I2.Pt.make C us []) (hb _ (Value.ref (s.heap.objs.size+1)::us) I2.iL hl) r2 hq) λr s' pN=>?_))
 cases r with
 | error e=>show hx δ σ _ _ e s' I2 pN
 | ok fl=>
  cases fl with
  | ret u=>
   let(v,H',I3,rv,ev,q3):=I2.after pN;subst ev;show(rv,(V.ref (s.heap.objs.size+1),H',I3,rfl,q3))
  | next=>show False.elim pN
  | brk=>show False.elim pN
  | cont=>show False.elim pN
def HS(M:Mk X.K C f)(F:ae X.prog X.w X.K X.mg X.base CX k f fd ps sp)(hr:bf (k+1) X.A)(hg:Gl X x)(hm:X.mg x=!(.ref C))(hb:fK X.K fd ps ds)(hd:af nF ds)(hx:cy CX X R)
  (ha:PA X (e::es) t) (jn:(x==("__debug__":Str))=false|>2) (he:starEach (e::es) X.env=(false, eval e X.env)::starEach es X.env|>1) (dq:(backTo pos (starEach es X.env)).any (·.1)=false|>1):
  PE X (.Call (.Name x p) (e::es) [] pos) (Qw C sp nF R t):=by
 intro δ s σ H Q I h;show wpAny_Call_Name_kw (kB I hg hm ?_ jn);show PySem.W.callWith_K (h₀:=X.base) I.ok.mod.T2 M.kp (a_ (ha pos δ s σ H _ I h) fun us s1 (vs,H1,I1,r,q)=>(I1.iL,?_)) he dq;show EY M F hr hb hd hx I1 r q
end
def Qh(C:Addr)(M:Ms)(d:Dt)(ns:List Str)(ds:List Dt):Prop:=d= .obj C ns ds\/∃k,d= .loc k/\M[k]? =!(.ins C ns ds)
section
variable{K:gV}{G:Hp}{L:List Addr}{M:Ms}{H:Hp}{C:Addr}{d:Dt}{v:V}{ns:List Str}{ds:List Dt}
def IC(r:Rl K G L M H)(n:Den K G L d v)(o:Qh C M d ns ds):∃a dx vs,v= .ref a/\H a=!(.ins C dx (ns.zip vs))/\-ns=-ds/\Ν K G L ds vs:=by
 rcases o with rfl| ⟨k,rfl,hm⟩
 .let(a,dx,vs,e,h1,hl,h2):=n;show(a,dx,vs,e,r.sub _ _ h1,hl,h2)
 .let(a,e,h1):=n;let(_,dx,vs,h2,hl,h3):=r.dF k a _ h1 hm;show(a,dx,vs,e,h2,hl,h3)
def rf{f:Str}:∀{ns:List Str} {ds:List Dt} {vs:List V} {d:Dt},Ν K G L ds vs->(ns.zip ds).lookup f=!d->∃v,(ns.zip vs).lookup f=!v/\Den K G L d v
 | [],_,_,_,_,h=>by simp at h
 | _::_,[],_,_,_,h=>by simp at h
 | g::ns,d::ds,_,d',(v,r,rfl,h1,h2),h=>by
  rw[abx,abN]at h;rw[abx,abN];cases q:f==g with
  | true=>rw[q]at h;cases h;show(v,rfl,h1)
  | false=>rw[q]at h;show rf h2 h
def qY{f:Str}:∀{ns:List Str} {ds:List Dt} {vs:List V},Ν K G L ds vs->(ns.zip ds).lookup f=none->(ns.zip vs).lookup f=none
 | [],_,_,_,_=>by simp
 | _::_,[],_,h,_=>by let h:_=_:=h;subst h;simp
 | g::ns,d::ds,_,(v,r,rfl,h1,h2),h=>by
  rw[abx,abN]at h;rw[abx,abN];cases q:f==g with
  | true=>rw[q]at h;cases h
  | false=>rw[q]at h;show qY h2 h
def ql{f:Str}{v:V}:∀{ns:List Str} {vs:List V},-ns=-vs->f∉ns->hU f v (ns.zip vs)=(ns++[f]).zip (vs++[v])
 | [],[],_,_=>rfl
 | g::ns,x::vs,hl,h=>by let hg:¬g=f:=λz=>h (by rw[z];show aal);change(if g=f then (g, v)::ns.zip vs else (g, x)::hU f v (ns.zip vs))=(g, x)::(ns++[f]).zip (vs++[v]);rw[if_neg hg,ql (by simpa using hl) λz=>h (List.mem_cons_of_mem _ z)]
 | [],_::_,hl,_=>by simp at hl
 | _::_,[],hl,_=>by simp at hl
end
def W9(C:Addr)(f:Str)(t:DE):DE:=λρ M q x=>t ρ M (λd M1=>∃ns ds v,Qh C M1 d ns ds/\(ns.zip ds).lookup f=!v/\q v M1) x
def OE(C:Addr)(m:Str)(T:DF)(to:DE)(ta:DA):DE:=λρ M q x=>to ρ M (λd M1=>(∃ns ds,Qh C M1 d ns ds/\(ns.zip ds).lookup m=none)/\ta ρ M1 (λds M2=>T (d::ds) M2 q (λC fs M'=>x ρ C fs M')) x) x
def Tg(C:Addr)(T:DF)(ta:DA):DE:=λρ M q x=>ta ρ M (λds M1=>T (.loc (-M1)::ds) (M1++[.ins C [] []]) (λd M2=>d= .aV/\q (.loc (-M1)) M2) (λC fs M'=>x ρ C fs M')) x
def OG(C:Addr)(f:Str)(to tv:DE):DS:=λDn ρ M=>tv ρ M (λy M1=>to ρ M1 (λd M2=>∃k ns ds,d= .loc k/\M2[k]? =!(.ins C ns ds)/\f∉ns/\-ns < 1000/\Dn.nx ρ (M2.set k (.ins C (ns++[f]) (ds++[y])))) Dn.x) Dn.x
structure hI(P:Program)(w:World)(K:gV)(mg:Str->Option Value)(base:Heap)(k:Nat)(C:Addr)(m:Str)(ps:List Str)(T:DF)(f:Addr)(fd:FuncData):Prop where
 ok:ae P w K mg base (bC P w) k f fd ps (cZ K T)
 b:fK K fd ps []
 c:Dm K C
 m:NW K C m f
structure Qn(P:Program)(w:World)(K:gV)(mg:Str->Option Value)(base:Heap)(k:Nat)(x:Str)(C:Addr)(ps:List Str)(T:DF)(f:Addr)(fd:FuncData):Prop where
 ok:ae P w K mg base (bC P w) k f fd ps (cZ K T)
 b:fK K fd ps []
 k:Mk K C f
 m:mg x=!(.ref C)
section
variable{X:Cx}{R:St->XK}{C:Addr}{f m x:Str}{T:DF}{k k':Nat}{a:Addr}{fd:FuncData}{ps:List Str}{e o value:Expr}{es:List Expr}{pos pos' apos p:Pos}{to te tv:DE}{ta:DA}
def Al(c:Dm X.K C)(n:hZ X.K C f)(he:JE X R e te)(hb:attributeBase e f X.env (eval e X.env)=eval e X.env|>1):JE X R (.Attribute e f pos) (W9 C f te):=
 .of (Po he hb) λσ H G L ρ M q x rl en h hx=>by show(G,L,ρ,M,_,x,rl,en,h,hx,λv H1 xz=>?_);let(d1,G1,L1,M1,e1,r1,n1,ns,ds,y,ob,hl,h1):=xz;let(p,dx,vs,rfl,hp,_,dn):=IC r1 n1 ob;let(u,hu,du):=rf dn hl;show(p,C,dx,_,u,rfl,hp,c,n,hu,y,G1,L1,M1,e1,r1,du,h1)
def iQ{pl:Sem Bool}(D:hI X.prog X.w X.K X.mg X.base k C m ps T a fd)(hr:bf k' X.A)(hx:cy (bC X.prog X.w) X R)(ho:JE X R o to)(ha:JA X R (e::es) ta)(hk:k<=k'|>2)
  (uQ:starEach (e::es) X.env=(false, eval e X.env)::starEach es X.env|>1) (dq:(backTo pos (starEach es X.env)).any (·.1)=false|>1)
  (ht:eval (.Call (.Attribute o m apos) (e::es) [] pos) X.env=(do
   let  ov<-eval o X.env
   standAt apos.atName
   let (f, first)<-holding [ov] (getMethod ov m pl)
   callWith pos f first (backTo pos (starEach (e::es) X.env)) (backToKw pos (keywordEach [] X.env)))|>1):
  JE X R (.Call (.Attribute o m apos) (e::es) [] pos) (OE C m T to ta):=
 .of (IK (pl:=pl) ho D.c D.m D.ok (hr.mono hk) D.b .nil hx ha uQ dq ht) λσ H G L ρ M q x rl en h hx=>by show(G,L,ρ,M,_,x,rl,en,h,hx,λv H1 xz=>?_);let(d1,G1,L1,M1,e1,r1,n1,(ns,ds,ob,hl),h1):=xz;let(p,dx,vs,rfl,hp,_,dn):=IC r1 n1 ob;show(p,dx,_,rfl,hp,qY dn hl,G1,L1,ρ,M1,_,x,r1,en.mono e1,h1,hx.on e1,λus H2 xz=>?_);let(JB,G2,L2,M2,e2,r2,n2,h2):=xz;change cZ X.K T (V.ref p::(us++[])) H2 _ _;rw[aa0];let K_:=e1.trans e2;show(G2,L2,d1::JB,M2,q,_,r2,(_,_,rfl,Den.mono e2.g e2.l _ _ n1,n2),h2,λv H' f=>Fin.back K_ f,λC fs M' G' L' H' od hq e' r' y=>hx σ ρ C fs M' G' L' H' od hq (K_.trans e') r' (en.mono (K_.trans e')) y)
def kh{pl:Sem Bool}(D:hI X.prog X.w X.K X.mg X.base k C m ps T a fd)(hr:bf k' X.A)(hx:cy (bC X.prog X.w) X R)(ho:JE X R o to)(hk:k<=k'|>2)
  (ht:eval (.Call (.Attribute o m apos) [] [] pos) X.env=(do
   let  ov<-eval o X.env
   standAt apos.atName
   let (f, first)<-holding [ov] (getMethod ov m pl)
   callWith pos f first (backTo pos (starEach [] X.env)) (backToKw pos (keywordEach [] X.env)))|>1):
  JE X R (.Call (.Attribute o m apos) [] [] pos) (OE C m T to Q8):=
 .of (Fw (pl:=pl) ho D.c D.m D.ok (hr.mono hk) D.b .nil hx ht) λσ H G L ρ M q x rl en h hx=>by show(G,L,ρ,M,_,x,rl,en,h,hx,λv H1 xz=>?_);let(d1,G1,L1,M1,e1,r1,n1,(ns,ds,ob,hl),h1):=xz;let(p,dx,vs,rfl,hp,_,dn):=IC r1 n1 ob;show(p,dx,_,rfl,hp,qY dn hl,?_);change cZ X.K T (V.ref p::([]++[])) H1 _ _;show(G1,L1,[d1],M1,q,_,r1,(_,_,rfl,n1,rfl),h1,λv H' f=>Fin.back e1 f,λC fs M' G' L' H' od hq e' r' y=>hx σ ρ C fs M' G' L' H' od hq (e1.trans e') r' (en.mono (e1.trans e')) y)
def QV(D:Qn X.prog X.w X.K X.mg X.base k x C ps T a fd)(hr:bf k' X.A)(hx:cy (bC X.prog X.w) X R)(ha:JA X R (e::es) ta)(hk:k+1<=k'|>2)(hg:Gl X x|>1)(jn:(x==("__debug__":Str))=false|>2)
  (he:starEach (e::es) X.env=(false, eval e X.env)::starEach es X.env|>1) (dq:(backTo pos (starEach es X.env)).any (·.1)=false|>1):JE X R (.Call (.Name x p) (e::es) [] pos) (Tg C T ta):=
 .of (HS D.k D.ok (hr.mono hk) hg D.m D.b .nil hx ha jn he dq) λσ H G L ρ M q x rl en h hx=>by
  show(G,L,ρ,M,_,x,rl,en,h,hx,λvs H1 xz y dx hy Jv fZ=>?_);let(ds,G1,L1,M1,e1,r1,n1,h1):=xz;change cZ X.K T (V.ref y::(vs++[])) _ _ _;rw[aa0];let ra:=r1.KH (o:=.own y) Jv;let ea:=r1.QL (o:=.own y) Jv;let hy2:upd H1 dx (HO.own y) y=none:=by rw[υ (Ne.symm fZ)];show hy
  let rb:=ra.MR (p:=y) (o:=.ins C dx []) (m:=.ins C [] []) hy2 (dx,[],Ζ,rfl,rfl);let eb:=ra.Wh (p:=y) (o:=.ins C dx []) hy2;let e2:=ea.trans eb;let K_:=e1.trans e2;show(_,_,.loc (-M1)::ds,_,_,_,rb,(_,_,rfl,(y,rfl,?_),Ν.mono e2.g e2.l _ _ n1),h1,fun v H' (d,G',L',M',e',r',dn,hd,hq)=>?_,λC fs M' G' L' H' od hq e' r' z=>hx σ ρ C fs M' G' L' H' od hq (K_.trans e') r' (en.mono (K_.trans e')) z)
  .rw[<-r1.len,List.getElem?_append_right (Nat.le_refl _)];simp
  .subst hd;show(dn,.loc (-M1),G',L',M',K_.trans e',r',(y,rfl,e'.l.get ?_),hq);rw[<-r1.len,List.getElem?_append_right (Nat.le_refl _)];simp
def D0(c:Dm X.K C)(n:hZ X.K C f)(ho:JE X R o to)(hv:JE X R value tv)(hs:swapsWith value (!(.Attribute o f pos')) pos.line X.env=pure false|>1):JS X R (.Assign [.Attribute o f pos'] value pos) (OG C f to tv):=
 .of (Rb ho hv hs) λσ H G L ρ M Dn rl en h hx=>by show(G,L,ρ,M,_,_,rl,en,h,hx,λy H1 xz=>?_);let(dy,G1,L1,M1,e1,r1,n1,h1):=xz;show(G1,L1,ρ,M1,_,_,r1,en.mono e1,h1,hx.on e1,λu H2 xz=>?_);let(du,G2,L2,M2,e2,r2,n2,k,ns,ds,ed,hm,hf,hz,h2):=xz;subst ed;let(p,rfl,hp):=n2;let(_,dx,vs,hH,hl,dn):=r2.dF k p _ hp hm;let Ue:-ns=-vs:=hl.trans (-dn);show(p,C,dx,_,rfl,hH,c,n,by rw[abi,<-Ue,acd];show hz,?_);rw[ql Ue hf];show(ρ,G2,L2,_,(e1.trans e2).trans (r2.Hs hp),r2.setM (m:=.ins C (ns++[f]) (ds++[dy])) hp (dx,_,Ζ,by rw[aaC,aaC,hl];rfl,dn.app (_,_,rfl,Den.mono e2.g e2.l _ _ n1,rfl)),(en.mono (e1.trans e2)).mono (r2.Hs (o:=.own p) hp),h2)
end
def Dq:List Dt->Ms->DQ->Prop
 | [d],M,q=>match mY M d with
  | some xs=>q (.loc (-M)) (M++[.lst xs])
  | none=>False
 | _,_,_=>False
section
variable{K:gV}
def Vn:xU K (λxs H Q=>∃p ys,xs=[V.ref p]/\(fQ K H p ys\/mH K H p ys)/\∀l,H l=none->Q (.ref l) (upd H l (.lst ys))) Dq:=by
 intro G0 L0 H0 G L M H vs ds q e r n h;unfold Dq at h;split at h
 .rename_i d;let(v,rfl,n1):=aQ n;split at h
  .rename_i xs hs;let(a,us,rfl,hq,dn):=p8 r n1 hs;show(a,us,rfl,hq,λl hl=>gW e r hl dn h)
  .show h.elim
 .show h.elim
end
section
variable{X:Cx}{R:St->XK}{e o i value:Expr}{t:DA}{to ti tv:DE}{p pos apos cn tO:Pos}
def CS(hm:X.mg "list"=none)(ha:JA X R [e] t)(hg:Gl X "list"|>1)(he:starEach [e] X.env=(false, eval e X.env)::starEach [] X.env|>1)(dq:(backTo pos (starEach [] X.env)).any (·.1)=false|>1):JE X R (.Call (.Name "list" p) [e] [] pos) (vL Dq t):=
 mT vX Vn hm lu ha hg @_ @_ he dq
def YI(to:DE)(t:DA):DE:=λρ M q x=>to ρ M (λd M1=>(∃k xs,d= .loc k/\M1[k]? =!(.lst xs))/\t ρ M1 (λds M2=>∃k xs y,d= .loc k/\ds=[y]/\M2[k]? =!(.lst xs)/\-xs < sizeLine/\q .aV (M2.set k (.lst (xs++[y])))) x) x
def gI(ho:JE X R o to)(ha:JA X R [e] t)(my:attributeBase o "append" X.env (eval o X.env)=eval o X.env|>1)
  (RA:((backTo cn (starEach [e] X.env)).all (λx=> ! x.1)&&(backToKw cn (keywordEach [] X.env)).all (λx=>x.1.isSome)
   &&decide (-([e]:List Expr)+-([]:List Keyword)+(if ([]:List Keyword).isEmpty then 0 else 1) < 30))=true|>1)
  (K':(apos.endLine==cn.line)=true|>1) (hs:starEach [e] X.env=(false, eval e X.env)::starEach [] X.env|>1) (sv:(backTo cn (starEach [] X.env)).any (·.1)=false|>1):
  JE X R (.Call (.Attribute o "append" apos) [e] [] cn) (YI to t):=
 .of (Uk PySem.F.plainAttrs_list PySem.F.slot_list_append PySem.F.type_list_append (r:=Ec) uM ho ha my RA K' hs sv) λσ H G L ρ M q x rl n h hx=>by show(G,L,ρ,M,_,x,rl,n,h,hx,λv H1 xz=>?_);let(d1,G1,L1,M1,e1,r1,n1,(k,xs,ed,hm),h1):=xz;subst ed;let(a,rfl,hk):=n1;let(_,vs,hH,_):=r1.dF k a _ hk hm;show(.inl (rfl,vs,.of hH),G1,L1,ρ,M1,_,x,r1,n.mono e1,h1,hx.on e1,λus H2 xz=>?_);let(ds,G2,L2,M2,e2,r2,n2,k',xs',y,ek,ed,hm2,hz,h2):=xz;cases ek;subst ed;let(u,rfl,n3):=aQ n2;let Ls:=e2.l.get hk;let(_,Iu,Q6,LD):=r2.dF k a _ Ls hm2;show(a,Iu,u,rfl,rfl,Q6,by rw[<--LD];show hz,.aV,G2,L2,_,(e1.trans e2).trans (r2.Hs Ls),r2.setM (m:=.lst (xs'++[y])) Ls (_,Ζ,LD.app (_,_,rfl,n3,rfl)),rfl,h2)
def v7(to ti tv:DE):DS:=λDn ρ M=>tv ρ M (λy M1=>to ρ M1 (λd M2=>ti ρ M2 (λdi M3=>∃k i xs j,d= .loc k/\di= .int i/\M3[k]? =!(.lst xs)/\Ik (-xs) i=!j/\Dn.nx ρ (M3.set k (.lst (xs.set j y)))) Dn.x) Dn.x) Dn.x
def ng(ho:JE X R o to)(hi:JE X R i ti)(hv:JE X R value tv)(hs:swapsWithSole [.Subscript o i tO] value pos.line X.env=pure false|>1)(hw:swappedStores [.Subscript o i tO] value X.env=pure none|>1)
  (h1:(assignEach [.Subscript o i tO] X.env).map (·.2)=[assign (.Subscript o i tO) X.env]|>1)
  (ha:(∀v,assign (.Subscript o i tO) X.env v=(do
   let  ov<-holding [v] (eval o X.env)
   let  iv<-holding [v,ov] (eval i X.env)
   standAt tO
   holding [v,ov,iv] (setItem ov iv v)
   release [v,ov,iv] []))|>3):JS X R (.Assign [.Subscript o i tO] value pos) (v7 to ti tv):=
 .of (IE hv (Rv (t:=Ol) ho hi Ll ha) hs hw h1) λσ H G L ρ M Dn rl n h hx=>by show(G,L,ρ,M,_,_,rl,n,h,hx,λv H1 xz=>?_);let(dv,G1,L1,M1,e1,r1,n1,h1):=xz;show(G1,L1,ρ,M1,_,_,r1,n.mono e1,h1,hx.on e1,λov H2 xz=>?_);let(d,G2,L2,M2,e2,r2,n2,h2):=xz;show(G2,L2,ρ,M2,_,_,r2,(n.mono e1).mono e2,h2,(hx.on e1).on e2,λiv H3 xz=>?_);let(di,G3,L3,M3,e3,r3,n3,k,i,xs,j,ed,ei,hm,hj,h3):=xz;subst ed ei;let(a,rfl,hk):=n2;let n3:iv= .int i:=n3;subst n3;let La:=e3.l.get hk;let(_,vs,hH,dn):=r3.dF k a _ La hm;let G7:=e2.trans e3;let Wj:=Den.mono G7.g G7.l _ _ n1;show(a,vs,i,j,rfl,rfl,hH,by rw[<--dn];show hj,ρ,G3,L3,_,((e1.trans e2).trans e3).trans (r3.Hs La),r3.setM (m:=.lst (xs.set j dv)) La (_,Ζ,.of (Dy Wj j dn.pair)),(((n.mono e1).mono e2).mono e3).mono (r3.Hs (o:=.own a) La),h3)
end
structure Src(K:gV)(a:Addr)(xs:List Dt)(ok:Ms->Prop)(G0:Hp)(L0:List Addr):Prop where
 at_:∀G L M H,dW G0 G->Pre L0 L->Rl K G L M H->ok M->∃vs,fQ K H a vs/\Ν K G L xs vs
def kO(M:Ms):Dt->Option (List Dt×(Ms->Prop))
 | .lst xs=>!(xs, λ_=>True)
 | .fX ns=>!(ns.map .int, λ_=>True)
 | .loc k=>match M[k]? with
  | some (.lst xs)=>!(xs, λM'=>M'[k]? =!(.lst xs))
  | _=>none
 | _=>none
def rX{K:gV}{G:Hp}{L:List Addr}{M:Ms}{H:Hp}{d:Dt}{v:V}{xs:List Dt}{ok:Ms->Prop}(r:Rl K G L M H)(n:Den K G L d v)(h:kO M d=!(xs, ok)):∃a vs,v= .ref a/\fQ K H a vs/\Src K a xs ok G L/\ok M:=by
 cases d with
 | lst ds=>
  cases h;let(a,vs,rfl,e,m):=n;show(a,vs,rfl,.of (r.sub _ _ e),⟨λG' L' M' H' g l r' _=>(vs,.of (r'.sub _ _ (g _ _ e)),Ν.mono g l _ _ m)⟩,trivial)
 | fX ns=>
  cases h;let(a,rfl,e):=n;show(a,_,rfl,r.sub.seq e,⟨λG' L' M' H' g l r' _=>(_,r'.sub.seq (g.seq e),ir)⟩,trivial)
 | loc k=>
  let(a,rfl,e):=n;let h:(match M[k]? with| some (.lst xs)=>!(xs, λM':Ms=>M'[k]? =!(.lst xs))| _=>none)=!(xs, ok):=h;split at h
  .rename_i ys hm;cases h;let(_,vs,e1,m1):=r.dF k a _ e hm;show(a,vs,rfl,.of e1,⟨λG' L' M' H' g l r' hk=>?_⟩,hm);let(_,Iu,e2,m2):=r'.dF k a _ (l.get e) hk;show(Iu,.of e2,m2)
  .cases h
 | _=>cases h
def Jt{K:gV}{G:Hp}{L:List Addr}{a:Addr}{xs:List Dt}{ok:Ms->Prop}(s:Src K a xs ok G L):Ob K (Wx K a) xs ok G L where
 go:=λi G1 L1 M1 H1 d g l r k e=>by
  let(vs,hs,n):=s.at_ G1 L1 M1 H1 g l r k;let(v,e1,n1):=n.get e
  show((vs,v,hs,e1),fun v' H' (eH,y)=>by
   subst eH;let e2:=y vs hs;rw[e1]at e2;cases e2
   show(G1,.refl _ _ _,r,n1))
 stop:=λi G1 L1 M1 H1 g l r k e=>by let(vs,hs,n):=s.at_ G1 L1 M1 H1 g l r k;show(vs,hs,by rw[<--n];show e)
def uB(M:Ms):Dt->Option (List Dt×(Ms->Prop))
 | .loc k=>kO M (.loc k)
 | d=>(Sw M d).map λxs=>(xs, λ_=>True)
def fJ(t:DE):DK:=λρ M q x=>t ρ M (λd M1=>match uB M1 d with
 | some (xs, ok)=>q xs ok M1
 | none=>False) x
def bR{X:Cx}{R:St->XK}{tg e:Expr}{te:DE}(h:JE X R e te):JK X R tg e (fJ te):=by
 intro δ s σ H Q I ⟨G,L,ρ,M,q,x,rl,n,ht,hx,hQ⟩;show a_ (h δ s σ H (Fin X.K G L H _) I (G,L,ρ,M,_,x,rl,n,ht,hx,λ_ _ f=>f)) λu s1 xz=>?_;let(v,H1,I1,rv,d,G1,L1,M1,e1,r1,n1,h1):=xz
 (try dsimp only at h1)
 cases hi:uB M1 d with
 | none=>rw[hi]at h1;show h1.elim
 | some p=>
  let(xs,ok):=p;rw[hi]at h1;let fin:∀J,Ob X.K J xs ok G1 L1->Q J H1:=λJ y=>hQ J H1 (xs,ok,G1,L1,M1,e1,r1,y,h1);let up:∀{J},ok=(λ_=>True)->Yl X.K J xs G1 L1->Ob X.K J xs ok G1 L1:=λeo y=>by subst eo;show(λi G L M H d g l r _ e=>y.go i G L M H d g l r e,λi G L M H g l r _ e=>y.stop i G L M H g l r e)
  cases d with
  | loc k=>
   let(a,vs,rfl,hs,sr,_):=rX r1 n1 hi;cases rv;show wc I1 hs (fin _ (Jt sr))
  | lst ds=>
   cases hi;let(a,vs,rfl,e,m):=n1;cases rv;show wc I1 (vs:=vs) (.of (r1.sub _ _ e)) (fin _ (up rfl (Ej (λG' g=>.of (g _ _ e)) m)))
  | fX ns=>
   cases hi;let(a,rfl,e):=n1;cases rv;show wc I1 (r1.sub.seq e) (fin _ (up rfl (Ej (λG' g=>g.seq e) ir)))
  | tup ds=>
   cases hi;let(a,vs,rfl,e,m):=n1;cases rv;show J5 I1 (vs:=vs) (.of (r1.sub _ _ e)) (fin _ (up rfl (JV (λG' g=>.of (g _ _ e)) m)))
  | kt ds=>
   cases hi;let(a,vs,rfl,e,m):=n1;cases rv;show J5 I1 (r1.sub.VL e) (fin _ (up rfl (JV (λG' g=>g.VL e) m)))
  | str z=>
   cases hi;cases n1;let(t,rfl):=rv;show Qp I1 (fin _ (up rfl PM))
  | _=>cases hi
def qu(g:Dt->En->(En->Prop)->Prop)(tb:DS)(Dn:gf)(ok:Ms->Prop):List Dt->En->Ms->Prop
 | [],ρ,M=>ok M/\Dn.nx ρ M
 | x::xs,ρ,M=>ok M/\g x ρ λρ'=>tb {Dn with nx:=qu g tb Dn ok xs,ct:=qu g tb Dn ok xs,bk:=Dn.nx} ρ' M
def qO(ti:DK)(g:Dt->En->(En->Prop)->Prop)(tb:DS):DS:=λDn ρ M=>ti ρ M (λxs ok M1=>qu g tb Dn ok xs ρ M1) Dn.x
section
variable{X:Cx}{R:St->XK}{tg iter:Expr}{body:List Stmt}{ti:DK}{gg:TG}{g:Dt->En->(En->Prop)->Prop}{tb:DS}{pos:Pos}
def eE(hi:JK X R tg iter ti)(hg:PG X tg gg)(gd:GD X.K gg g)(hb:zp X R body tb)(hp:PassesOwn (model X.prog X.w) X.A X.env X.xe:=by first| exact PassesOwn.never| exact PassesOwn.leaving)(hc:X.calm=true|>1)(hs:(∀x,foldedSetIterable iter X.env x=pure x)|>3):
  JS X R (.For tg iter body [] pos) (qO ti g tb):=.of (Cp hp hc hi hg hb hs) λσ H G L ρ M Dn rl n h hx=>by
 show(G,L,ρ,M,_,_,rl,n,h,hx,λJ H1 xz=>?_);let(xs,ok,G1,L1,M1,e1,r1,y,h1):=xz;show(λi m σ' H'=>m+i=-xs/\eN X.K G1 L1 H1 (λρ' M'=>qu g tb Dn ok (xs.drop i) ρ' M') σ' H',(-xs,rfl,ρ,G1,L1,M1,.refl _ _ _,r1,n.mono e1,by rw[acD];show h1),?_);rintro i m σ' H' ⟨hm,ρ',G',L',M',e',r',n',h'⟩;by_cases hi:i < -xs
 .right;let hd:xs[i]? =!xs[i]:=aaa hi;rw[abA hi]at h';let(au,h'):=h';let(go,yl):=y.go i G' L' M' H' _ e'.g e'.l r' au hd;show(go,eN X.K G1 L1 H1 (λρ' M'=>qu g tb Dn ok (xs.drop (i+1)) ρ' M'),λσ2 H2 f=>(m - 1,(),(),f),λv H2 hy=>?_);let(G2,e2,r2,n2):=yl v H2 hy;show gd G2 L' M' H2 _ v ρ' σ' _ _ r2 n2 (n'.mono e2) h' λρ3 σ3 n3 h3=>?_;show(G2,L',ρ3,M',_,r2,n3,h3,hx.on (e1.trans (e'.trans e2)),(λ_ _ f=>eN.back (e'.trans e2) f,λ_ _ f=>Fin.back (e1.trans (e'.trans e2)) f,λ_ _ f=>eN.back (e1.trans (e'.trans e2)) f,λ_ _ f=>eN.back (e'.trans e2) f))
 .left;rw[ab9 ()]at h';show(y.stop i G' L' M' H' e'.g e'.l r' h'.1 (),ρ',G',L',M',e1.trans e',r',n',h'.2)
end
def uX(te:DE)(cs:En)(ok:Ms->Prop):List Dt->List Dt->Ms->(List Dt->Ms->Prop)->Prop
 | [],Θ,M,k=>ok M/\k Θ M
 | x::xs,Θ,M,k=>ok M/\te ((!x)::cs) M (λd M1=>uX te cs ok xs (Θ++[d]) M1 k) jh
def oO(ti:DK)(te:DE)(Χ:List Nat):DE:=λρ M q x=>ti ρ M (λxs ok M1=>-xs<=sizeLine/\uX te (nW Χ ρ) ok xs [] M1 (λys M2=>q (.lst ys) M2)) x
def wC{te:DE}{cs:En}{ok:Ms->Prop}:∀xs,uX te cs ok xs=gE (gN 0) qj te (none::cs) ok xs
 | []=>rfl
 | x::xs=>funext λΘ=>funext λM=>funext λk=>by change(ok M/\te ((!x)::cs) M (λd M1=>uX te cs ok xs (Θ++[d]) M1 k) jh)=(ok M/\te ((!x)::cs) M (λd M1=>gE (gN 0) qj te (none::cs) ok xs (Θ++[d]) M1 k) jh);rw[wC xs]
section
variable{X:Cx}{R:St->XK}{elt iter:Expr}{x:Str}{px:Pos}{scope:Scope}{pos:Pos}{ti:DK}{te:DE}{ys:List Str}{Χ:List Nat}
def g9(S:aw X scope [x] ys Χ)(hi:JK X R (.Name x px) iter ti)(he:∀C s H fp,JE (Cx.comp X (x::ys) scope C s H fp) (λ_=>E0) elt te)(hc:X.calm=true|>1)(hs:(∀x,foldedSetIterable iter X.env x=pure x)|>3):JE X R (.ListComp elt [(.Name x px,iter,[],0)] scope pos) (oO ti te Χ):=WW false S hi (fk S (i:=0) rfl) aJ (eR (Nat.zero_lt_succ 0)) (λ_ _ _ _=>pJ) he hc hs λρ M q x h=>by unfold oO at h;simp only[wC]at h;show h
def jC{i:Nat}{y:Str}{py mU:Pos}(hN:X.N.Nodup)(LO:X.N[i]? =!y)(hy:Loc X.env.scope y)(S:aw X scope [x] ys Χ)(hi:JK X R (.Name x px) iter ti)(he:∀C s H fp,JE (Cx.comp X (x::ys) scope C s H fp) (λ_=>E0) elt te)(hc:X.calm=true|>1)(Jb:swapsWith (.ListComp elt [(.Name x px,iter,[],0)] scope pos) (!(.Name y py)) mU.line X.env=pure true|>1)(hs:(∀x,foldedSetIterable iter X.env x=pure x)|>3)(hf:X.fn y=true\/X.env.scope.names.lookup y=some .local:=by first| exact .inl rfl| exact .inr rfl| assumption):JS X R (.Assign [.Name y py] (.ListComp elt [(.Name x px,iter,[],0)] scope pos) mU) (J2 i (oO ti te Χ)):=jcS false S hi (fk S (i:=0) rfl) aJ (eR (Nat.zero_lt_succ 0)) (λ_ _ _ _=>pJ) he hc hs hN LO hy Jb hf λρ M q x h=>by unfold oO at h;simp only[wC]at h;show h
end
def nJ:∀{ns:List Int} {us:List Value},af (ns.map V.int) us->∃ts:List (Int×Tok),us=ts.map (λp=>Value.int p.1 p.2)/\ts.map (·.1)=ns
 | [],_,h=>by cases h;show([],rfl,rfl)
 | n::ns,_,h=>by
  cases h with
  | cons r t=>
   let(tk,rfl):=r;let(ts,rfl,rfl):=nJ t;show((n, tk)::ts,rfl,rfl)
def Vf(K:gV):List V->Hp->VK->Prop:=λxs H Q=>∃(p:Addr) (ns:List Int),xs=[.ref p]/\fQ K H p (ns.map V.int)/\Q (.int ns.sum) H
def K7{X:Cx}(hc:X.calm=true):cj X (.builtin "sum") (Vf X.K):=by
 intro δ s σ H xs us Q I r h;let(p,ns,rfl,hq,q):=h;let(u,rfl,r1):=iI r;cases r1;let(its,rv,pl,hz):=I.list hq;let(ts,rfl,rfl):=nJ rv;let e:(ts.map λp=>Value.int p.1 p.2).toArray=intItems ts.toArray:=by simp[intItems]
 let hl:=pl.isList;rw[e]at hl;show sum_intListG (I.ok.hd hc) hl λh' tk t' hk=>?_;show(.int (ts.map (·.1)).sum,H,I.kept hk,(t',?_),q);rw[preSum_eq,List.take_of_length_le (by simp)]
def QA:List Dt->Ms->DQ->Prop
 | [d],M,q=>∃ns:List Int,mY M d=!(ns.map .int)/\(∃xs ok,kO M d=!(xs, ok))/\q (.int ns.sum) M
 | _,_,_=>False
def lQ{K:gV}{G:Hp}{L:List Addr}:∀{ns:List Int} {vs:List V},Ν K G L (ns.map Dt.int) vs->vs=ns.map V.int
 | [],_,h=>h
 | _::_,_,(v,r,e,h1,h2)=>by let h1:v=_:=h1;rw[e,h1,lQ h2];rfl
def mL{M:Ms}{d:Dt}{xs:List Dt}{ok:Ms->Prop}(h:kO M d=!(xs, ok)):mY M d=!xs:=by
 cases d with
 | lst ds=>cases h;rfl
 | fX ns=>cases h;rfl
 | loc k=>
  let h:(match M[k]? with| some (.lst xs)=>!(xs, λM':Ms=>M'[k]? =!(.lst xs))| _=>none)=!(xs, ok):=h;change(match M[k]? with| some (.lst xs)=>!xs| _=>none)=!xs;split at h
  .rename_i ys hm;cases h;rfl
  .cases h
 | _=>cases h
def aag{K:gV}:xU K (Vf K) QA:=by
 intro G0 L0 H0 G L M H vs ds q e r n h;unfold QA at h;split at h
 .rename_i d;let(v,rfl,n1):=aQ n;let(ns,hs,(xs,ok,hl),hq):=h;let(a,us,rfl,sq,sr,au):=rX r n1 hl;rw[mL hl]at hs;cases hs;let(ws,sq2,dn):=sr.at_ G L M H (.refl _) (.refl _) r au;rw[lQ dn]at sq2;show(a,ns,rfl,sq2,.int ns.sum,G,L,M,e,r,rfl,hq)
 .show h.elim
def FF:bootBuiltins "sum"=!(.builtin "sum"):=by decide+kernel
def CU:bootBuiltins "enumerate"=!(.type "enumerate"):=by decide+kernel
section
variable{X:Cx}{R:St->XK}{e a b:Expr}{t:DA}{ta tb:DE}{p pos:Pos}
def OB(hm:X.mg "sum"=none)(ha:JA X R [e] t)(hc:X.calm=true|>1)(hg:Gl X "sum"|>1)(he:starEach [e] X.env=(false, eval e X.env)::starEach [] X.env|>1)(dq:(backTo pos (starEach [] X.env)).any (·.1)=false|>1):JE X R (.Call (.Name "sum" p) [e] [] pos) (vL QA t):=
 d9 (K7 hc) aag hm FF ha hg @_ @_ he dq
def VO:Dt->Dt->Ms->DQ->Prop:=λd e M q=>∃u xs us,qm d=!u/\mY M e=!xs/\jY xs=!us/\q (.bl (Wy u us)) M
def YV{K:gV}:ny K (rIn K false) VO:=by intro G0 L0 H0 G L M H v1 v2 d1 d2 q e r n1 n2 ⟨u,xs,us,h1,h2,h3,hq⟩;let(rfl,fu):=iG h1 n1;let(a,vs,rfl,sq,dn):=p8 r n2 h2;let(rfl,fs):=gb h3 dn;show(a,vs,rfl,sq,fu,fs,.bl _,G,L,M,e,r,rfl,hq)
def Kh(ja:JE X R a ta)(jb:JE X R b tb)(hm:behindInMarks .In b=false|>1):JT X R (.Compare a [.In] [b] pos) (kG (jq VO ta tb)):=fF EZ YV ja jb hm
end
def Inv.uJ{X:Cx}{δ:List (Addr×Obj)}{σ:St}{H:Hp}{s:Shared}{h':Heap}{its:List Addr}{T:Addr}{o:HO}{t':Nat}(I:Inv X δ σ H s)(k:∀b u,b∉its->s.heap.get? b=!u->h'.get? b=!u)(f:∀b∈its,qW X δ H b)(hT:s.heap.objs.size<=T)(new:aH X.prog X.w (upd H T o) h' T o):
  Inv X δ σ (upd H T o) {s with heap:=h',toks:=t'}:=by
 let hn:=I.au.fresh hT;let Vi:∀b u,H b=!u->b∉its:=λb u e z=>by rw[(f b z).1]at e;cases e
 show I.call (ch:=its) (g':=s.gens) (d':=s.drawn) (t':=t') (λb u q _ _ hb=>k b u hb q,λb u q _ _ hb=>(u.slots,k b u hb q),λb u q n _=>?_,λb u q hb=>(u,k b u hb q),λb xs q=>?_,λb u xs q=>?_,λb ps q=>(#[],?_)) (λb u e=>?_) I.bare λb hb=>?_
 .rw[υ (aaN (aay (aau q) hT))];show n
 .rw[υ (aF q hn)];show q
 .rw[υ (aF q hn)];show q
 .rw[υ (aF q hn),q];simp
 .by_cases hb:b=T
  .subst hb;rw[Ζ]at e;cases e;show new
  .rw[υ hb]at e;show(I.au b u e).pB (λc v hc q=>k c v ?_ q) (λc q=>by rw[υ (aF q hn)];show q) λc xs q=>by rw[υ (aF q hn)];show q
   rcases hc with z| z
   .rw[z];show Vi b u e
   .show Vi c _ z
 .let(f0,f1,f2,f3,f4,f5):=f b hb;show(f3,f1,f4,f5)
def Ite(K:gV)(l:Addr):It:=
 ⟨λi H=>∃xs x,fQ K H l xs/\xs[i]? =!x,λi H v H'=>∃p x,H p=none/\v= .ref p/\H'=upd H p (.tup [.int i,x])/\∀xs,fQ K H l xs->xs[i]? =!x,λi H=>∃xs,fQ K H l xs/\-xs<=i⟩
def GJ{P:Program}{w:World}{K:gV}{elts:List Expr}{x1:Nat}{tp:Pos}(l it e:Addr)(fZ:e≠it):Turn P w K (.Tuple elts x1 tp) (Ite K l) [e,it] e (λi h=>(∃old,IsEnum h e it i old)/\h.IsListIter it l i) where
 mem:=by simp
 obj:=λi h st b hb=>by
  let((old,he),hi):=st;rcases aaR.mp hb with rfl| hb
  .show(_,he,λv z=>by
    let z':Data.fields _=Data.cell v:=z
    cases z')
  .let e:b=it:=by simpa using hb
   subst e;let(o,e,c,d):=hi;show(o,e,λv z=>by rw[d]at z;cases z)
 keep:=λi h h' st k=>by let((old,he),hi):=st;show((old,k e (by simp) _ he),hi.at λo q=>k it (by simp) o q)
 item:=by
  intro X hP hw hK hc i δ s σ H E I hf st hg;subst hP hw hK;let((old,he),hi):=st;let(xs,x,hq,hx):=hg;let(its,rv,p,hz):=I.list hq;let(u,hu,ru):=rv.get hx;show wpAny_pyNext_enum_item he hi p.isList (x:=u) (by simpa using hu) fZ λh' ho Af hT hsz hk=>?_;show(_,rfl,wpAny_letOwnedTupleGo_enum (s:={s with heap:=h',toks:=s.toks+1}) ho λh2 he2 sb=>?_);let sb:Heap.SameBut e h' h2:=sb;let elt:e < s.heap.objs.size:=aau he;let ilt:it < s.heap.objs.size:=by let(o,q,_):=hi;show aau q
  let neT:s.heap.objs.size≠e:=acE elt;let hT2:h2.get? s.heap.objs.size=some {cls:=.type "tuple",data:=.seq #[.int i s.toks,u]}:=(sb.2 _ neT).trans hT;let I2:Inv X δ σ (upd H s.heap.objs.size (.tup [.int i,x])) {s with heap:=h2,toks:=s.toks+1}:=by
   show I.uJ (its:=[e,it]) (λb o hb q=>?_) hf (aam _) ?_
   .let h1:b≠e:=λz=>hb (by simp[z]);let h3:b≠it:=λz=>hb (by simp[z]);show(sb.2 b h1).trans (hk b o h1 h3 q)
   .show(by simp[sizeLine_eq],[.int i s.toks,u],.cons (_,rfl) (.cons ru .nil),?_);show(_,hT2,rfl,0,rfl)
  let iter:h2.IsListIter it l (i+1):=Af.at λo q=>(sb.2 it (Ne.symm fZ)).trans q;show(.ref s.heap.objs.size,_,I2,rfl,(s.heap.objs.size,x,I.au.fresh (Nat.le_refl _),rfl,rfl,λys hy=>by rw[I.gA hy hq];show hx),((u,by simpa using he2),iter),λb hb=>?_);let nb:b≠s.heap.objs.size:=by
   rcases aaR.mp hb with rfl| hb
   .show aaN elt
   .have:b=it:=by simpa using hb
    subst this;show aaN ilt
  rw[υ nb];show(hf b hb).1
 done:=by intro X hP hw hK hc i δ s σ H E I hf st hg;subst hP hw hK;let((old,he),hi):=st;let(xs,hq,hx):=hg;let(its,rv,p,hz):=I.list hq;let hl:=-rv;let(f0,f1,f2,f3,f4,f5):=hf it (by simp);show wpAny_pyNext_enum_end (I.ok.hd hc) he hi p.isList (by simp;omega) λh' ext=>⟨rfl,I.turned (t':=s.toks) (λb o hb q=>ext b o hb q) f0 f1 f3 f4 f5⟩
 self:=λ_ _ _ _ _ st h=>by let((old,he),_):=st;show wpAny_pyIter_enum he h
def jB:Nat->List Dt->List Dt
 | _,[]=>[]
 | n,x::xs=>.tup [.int n,x]::jB (n+1) xs
def m_:∀(n:Nat) (xs:List Dt),-(jB n xs)=-xs
 | _,[]=>rfl
 | n,_::xs=>by unfold jB;rw[List.length_cons,List.length_cons,m_]
def uP:∀{n i:Nat} {xs:List Dt} {d:Dt},(jB n xs)[i]? =!d->∃x,xs[i]? =!x/\d= .tup [.int ((n+i:Nat):Int),x]
 | n,i,[],d,h=>by simp[jB]at h
 | n,0,x::xs,d,h=>by unfold jB at h;simp at h;show(x,rfl,by rw[<-h];simp)
 | n,i+1,x::xs,d,h=>by unfold jB at h;let(y,h1,h2):=uP (n:=n+1) (i:=i) (xs:=xs) (d:=d) (by simpa using h);show(y,by simpa using h1,by rw[h2,show n+1+i=n+(i+1) by omega])
def IW{K:gV}{G:Hp}{L:List Addr}{a:Addr}{xs:List Dt}{ok:Ms->Prop}(s:Src K a xs ok G L):Ob K (Ite K a) (jB 0 xs) ok G L where
 go:=λi G1 L1 M1 H1 d g l r k e=>by let(vs,hs,n):=s.at_ G1 L1 M1 H1 g l r k;let(y,ey,rfl):=uP e;let(v,e1,n1):=n.get ey;show((vs,v,hs,e1),λv' H' xz=>?_);let(p,x,hp,ev,eH,hx):=xz;subst ev eH;let e2:=hx vs hs;rw[e1]at e2;cases e2;show(_,r.QL hp,r.KH hp,pU (ds:=[.int ((0+i:Nat):Int),y]) r hp (_,_,rfl,?_,_,_,rfl,n1,rfl));change V.int i=V.int _;rw[Nat.zero_add]
 stop:=λi G1 L1 M1 H1 g l r k e=>by let(vs,hs,n):=s.at_ G1 L1 M1 H1 g l r k;show(vs,hs,by rw[<--n,<-m_ 0];show e)
def SM(t:DA):DK:=λρ M q x=>t ρ M (λds M1=>∃d xs ok,ds=[d]/\kO M1 d=!(xs, ok)/\q (jB 0 xs) ok M1) x
def Dg{X:Cx}{R:St->XK}{elts:List Expr}{x1:Nat}{tp:Pos}{a:Expr}{t:DA}{p pos:Pos}(hm:X.mg "enumerate"=none)(ha:JA X R [a] t)(hg:Gl X "enumerate"|>1)(hs:starEach [a] X.env=[(false, eval a X.env)]|>1):JK X R (.Tuple elts x1 tp) (.Call (.Name "enumerate" p) [a] [] pos) (SM t):=by
 intro δ s σ H Q I ⟨G,L,ρ,M,q,x,rl,n,ht,hx,hQ⟩;show Call_ (lJ I hg hm CU (PyProof.Rows.callWith_type1 (a_ (ha pos δ s σ H (NY X.K G L H _) I (G,L,ρ,M,_,x,rl,n,ht,hx,λ_ _ f=>f)) λus s1 xz=>?_) hs rfl));let(vs,H1,I1,rv,ds,G1,L1,M1,e1,r1,n1,d,xs,ok,ed,hl,h1):=xz;subst ed;let(v,rfl,n2):=aQ n1;let(b,ws,rfl,sq,sr,_):=rX r1 n2 hl;let(u,rfl,ru):=af.one rv;cases ru;let(its,_,pl,_):=I1.list sq;show call_enumerate_list pl.isList λh' he hi hz hk=>?_;let I2:Inv X δ σ H1 {s1 with heap:=h'}:=I1.kept (t':=s1.toks) hk;show wpAny_pyIter_enum (s:={s1 with heap:=h'}) he (s1.heap.objs.size+1,[s1.heap.objs.size+1,s1.heap.objs.size],_,_,H1,rfl,I2,GJ b s1.heap.objs.size (s1.heap.objs.size+1) (acE (abU _)),((_,he),hi),λc hc=>?_,hQ _ _ (_,ok,G1,L1,M1,e1,r1,IW sr,h1));let hc:s1.heap.objs.size<=c:=by
  rcases aaR.mp hc with rfl| hc
  .show Nat.le_succ _
  .have:c=s1.heap.objs.size:=by simpa using hc
   rw[this];show aam _
 let f:=I1.Bs (H':=H1) hc (I1.au.fresh hc);show f
def N4(M:Ms):Dt->Option Value
 | .loc k=>match M[k]? with
  | some (.lst _)=>!(.type "list")
  | _=>none
 | d=>OW d
def HF(K:gV):List Dt->Ms->DQ->Prop:=λds M q=>∃d c t t' b,ds=[d,c]/\N4 M d=!t/\M_ c=!t'/\PySem.W.kitOne K t t'=!b/\q (.bl b) M
section
variable{K:gV}
def Br{G:Hp}{L:List Addr}{M:Ms}{H:Hp}{d:Dt}{v:V}{t:Value}(r:Rl K G L M H)(n:Den K G L d v)(h:N4 M d=!t):iV K H v t:=by
 by_cases hd:∃k,d= .loc k
 .let(k,rfl):=hd;let(a,rfl,e):=n;let h:(match M[k]? with| some (.lst _)=>!(Value.type "list")| _=>none)=!t:=h;split at h
  .rename_i xs hm;cases h;let(_,vs,e1,_):=r.dF k a _ e hm;show .lst e1
  .cases h
 .show Ha r n ?_;cases d with
  | loc k=>show aaO (k,rfl) hd
  | _=>show h
def Of:xU K (λxs H Q=>∃x c t t' b,xs=[x,c]/\iV K H x t/\x4 c=!t'/\PySem.W.kitOne K t t'=!b/\Q (.bl b) H) (HF K):=by intro G0 L0 H0 G L M H vs ds q e r n ⟨d,c,t,t',b,ed,h1,h2,hb,h⟩;subst ed;let(v,u,rfl,n1,n2):=eD n;show(v,u,t,t',b,rfl,Br r n1 h1,xm n2 h2,hb,aR e r h)
end
section
variable{X:Cx}{R:St->XK}{e e2:Expr}{t:DA}{p pos:Pos}
def xk(K:gV)(hm:X.mg "isinstance"=none)(ha:JA X R [e,e2] t)(he:starEach [e,e2] X.env=(false, eval e X.env)::starEach [e2] X.env|>1)(dq:(backTo pos (starEach [e2] X.env)).any (·.1)=false|>1)(hg:Gl X "isinstance"|>1)(hK:X.K=K|>1):JE X R (.Call (.Name "isinstance" p) [e,e2] [] pos) (vL (HF K) t):=by subst hK;show d9 jZ Of hm eS ha hg @_ @_ he dq
def va:∀{zs:List Str} {us:List Value},Paired (λ(z:Str) (u:Value)=>∃tk,u= .str z tk) zs us->af (zs.map V.str) us
 | _,_,.nil=>.nil
 | _,_,.cons h t=>.cons h (va t)
def Oi{x:Str}{zs:List Str}(hm:∃a o its n,X.mg x=!(.ref a)/\X.K.lookup a=!o/\o.cls= .type "tuple"/\o.data= .seq its n/\its.size<=sizeLine/\Paired (λ(z:Str) (u:Value)=>∃tk,u= .str z tk) zs its.toList)(hg:Gl X x|>1)(hd:(x==("__debug__":Str))=false|>2):JE X R (.Name x pos) (dC (.kt (zs.map .str))):=by let(a,o,its,n,h1,h2,h3,h4,h5,h6):=hm;show Od (v:=.ref a) (wN hg h1 rfl hd) λG L=>(a,zs.map V.str,rfl,.inr (o,its,n,h2,h3,h4,h5,va h6),uv)
end
def fY{te:DE}{cs:En}{ok:Ms->Prop}{f:Dt->Dt}:∀{xs Θ:List Dt} {M:Ms} {k:List Dt->Ms->Prop},ok M->(∀x∈xs,∀q:DQ,q (f x) M->te ((!x)::cs) M q jh)->k (Θ++xs.map f) M->uX te cs ok xs Θ M k
 | [],Θ,M,k,ho,_,h=>(ho,by simpa using h)
 | x::xs,Θ,M,k,ho,hf,h=>(ho,hf x List.mem_cons_self _ (fY ho (λy hy=>hf y (List.mem_cons_of_mem _ hy)) (by simpa using h)))
def cf{g:Dt->En->(En->Prop)->Prop}{tb:DS}{Dn:gf}{ok:Ms->Prop}(J:List Dt->En->Ms->Prop)(au:∀xs ρ M,J xs ρ M->ok M)
  (step:∀x xs ρ M,J (x::xs) ρ M->(∀ρ M,J xs ρ M->qu g tb Dn ok xs ρ M)->g x ρ λρ'=>tb {Dn with nx:=qu g tb Dn ok xs,ct:=qu g tb Dn ok xs,bk:=Dn.nx} ρ' M)
  (fin:∀ρ M,J [] ρ M->Dn.nx ρ M):∀(xs:List Dt) (ρ:En) (M:Ms),J xs ρ M->qu g tb Dn ok xs ρ M
 | [],ρ,M,h=>(au _ _ _ h,fin _ _ h)
 | x::xs,ρ,M,h=>(au _ _ _ h,step x xs ρ M h λρ' M' h'=>cf J au step fin xs ρ' M' h')
section
variable{K:gV}{G:Hp}{L:List Addr}
mutual
def QC:∀(d:Dt) (v:V),Den K G L d v->d.under (-L)
 | .aV,_,_=>trivial
 | .bl _,_,_=>trivial
 | .int _,_,_=>trivial
 | .str _,_,_=>trivial
 | .tup ds,_,(a,vs,e,h1,h2)=>fh ds vs h2
 | .lst ds,_,(a,vs,e,h1,h2)=>fh ds vs h2
 | .obj C ns ds,_,(a,dx,vs,e,h1,hl,h2)=>fh ds vs h2
 | .loc k,_,(a,e,h1)=>(aaj.mp h1).1
 | .ref _,_,_=>trivial
 | .ty _,_,_=>trivial
 | .fX _,_,_=>trivial
 | .kt ds,_,(a,vs,e,h1,h2)=>fh ds vs h2
 | .exc _ _ ds,_,(a,od,vs,e,h1,h2,h3,h4)=>fh ds vs h4
 | .Sh _ _ _ _ ds,_,(vs,e,h2,h3,h4)=>fh ds vs h4
def fh:∀(ds:List Dt) (vs:List V),Ν K G L ds vs->Dt.bM (-L) ds
 | [],_,_=>trivial
 | d::ds,_,(v,r,e,h1,h2)=>(QC d v h1,fh ds r h2)
end
def Rl.un{M:Ms}{H:Hp}(r:Rl K G L M H):∀m∈M,MO.under (-M) m:=λm hm=>by
 let(k,hk,e):=abJ hm;let em:M[k]? =!m:=by rw[aaa hk,e]
 let el:L[k]? =!(L[k]'(by rw[r.len];show hk)):=aaa _;let(_,q):=r.dF k _ m el em;rw[<-r.len];cases m with
 | lst ds=>let(vs,_,h):=q;show fh _ _ h
 | ins C ns ds=>let(dx,vs,_,_,h):=q;show fh _ _ h
 | cB ks ds=>let(vs,_,_,h):=q;show fh _ _ h
 | raw u=>trivial
end
def t_(M0:Ms)(q:DQ):DQ:=λd M=>∃E d',M=M0++E/\Ht (-M0) E d d'/\q d' M0
def Fin.t_{K:gV}{G0:Hp}{L0:List Addr}{M0:Ms}{H0:Hp}{q:DQ}{v:V}{H:Hp}(r0:Rl K G0 L0 M0 H0)(f:Fin K G0 L0 H0 (t_ M0 q) v H):Fin K G0 L0 H0 q v H:=by let(d,G,L,M,ex,r,dn,E,d',e,fz,hq):=f;show Fin.tX r0 (d,G,L,M,ex,r,dn,M0,E,d',e,rfl,r0.un,fz,hq)
def Vg(t:DE):DE:=λρ M q x=>t ρ M (t_ M q) x
def cC{X:Cx}{R:St->XK}{e:Expr}{t:DE}(h:JE X R e t):JE X R e (Vg t):=.of h λσ H G L ρ M q x rl n ht hx=>(G,L,ρ,M,_,x,rl,n,ht,hx,λv H1 f=>Fin.t_ rl f)
def MV{M0:Ms}{q:DQ}{d:Dt}(hu:d.under (-M0))(h:q d M0):t_ M0 q d M0:=([],d,by simp,.old hu,h)
def lO{M0 E:Ms}{q:DQ}{d d':Dt}(f:Ht (-M0) E d d')(h:q d' M0):t_ M0 q d (M0++E):=(E,d',rfl,f,h)
def fU(f:Expr->Option Dt):List Expr->Option (List Dt)
 | []=>![]
 | e::es=>match f e,fU f es with
  | some d,!ds=>!(d::ds)
  | _,_=>none
def gF:Nat->Expr->Option Dt
 | 0,e=>match e with
  | .Constant (.int i) _ _=>!(.int i)
  | .Constant (.str x) _ _=>!(.str x)
  | _=>none
 | n+1,e=>match e with
  | .Constant (.int i) _ _=>!(.int i)
  | .Constant (.str x) _ _=>!(.str x)
  | .Tuple es _ _=>if -es<=100 then (fU (gF n) es).map .tup else none
  | .List es _=>if -es<=100 then (fU (gF n) es).map .lst else none
  | _=>none
def AK{n:Nat}{e:Expr}{d:Dt}{es:List Expr}{env:Env}(h:gF n e=!d):starEach (e::es) env=(false, eval e env)::starEach es env:=by cases n <;> (unfold gF at h;split at h <;> first| rfl| cases h)
def j7{f:Expr->Option Dt}:∀{es:List Expr} {ds:List Dt},fU f es=!ds->-ds=-es
 | [],ds,h=>by cases h;rfl
 | e::es,ds,h=>by
  unfold fU at h;split at h
  .rename_i d AE h1 h2;cases h;rw[aaz,aaz,j7 h2]
  .cases h
section
variable{X:Cx}{R:St->XK}
def sQ{n:Nat}(ih:∀(e:Expr) (d:Dt),gF n e=!d->JE X R e (dC d)):∀(es:List Expr) (ds:List Dt),fU (gF n) es=!ds->JA X R es (λ_ M q _=>q ds M)
 | [],ds,h=>by cases h;show η
 | e::es,ds,h=>by
  unfold fU at h;split at h
  .rename_i d AE h1 h2;cases h;show θ (ih e d h1) (sQ ih es AE h2) (hs:=AK h1)
  .cases h
def EO{n:Nat}(h:n<=100):n<=sizeLine:=aaJ h @_
def JE.imp{e:Expr}{t t':DE}(h:JE X R e t)(hi:∀ρ M q x,t' ρ M q x->t ρ M q x):JE X R e t':=.of h λσ H G L ρ M q x rl n ht hx=>(G,L,ρ,M,q,x,rl,n,hi _ _ _ _ ht,hx,λ_ _ f=>f)
def dI:∀(n:Nat) {e:Expr} {d:Dt},gF n e=!d->JE X R e (dC d)
 | 0,e,d,h=>by
  unfold gF at h;split at h
  .cases h;show τ
  .cases h;show fm
  .cases h
 | n +1,e,d,h=>by
  unfold gF at h;split at h
  .cases h;show τ
  .cases h;show fm
  .split at h
   .rename_i es _ _ hl;cases hc:fU (gF n) es with
    | none=>rw[hc]at h;cases h
    | some ds=>
     rw[hc]at h;cases h;show(gT (sQ (λe d=>dI n) es ds hc)).imp λρ M q x hq=>(EO (by rw[j7 hc];show hl),hq)
   .cases h
  .split at h
   .rename_i es _ hl;cases hc:fU (gF n) es with
    | none=>rw[hc]at h;cases h
    | some ds=>
     rw[hc]at h;cases h;show(jg (sQ (λe d=>dI n) es ds hc)).imp λρ M q x hq=>(EO (by rw[j7 hc];show hl),hq)
   .cases h
  .cases h
end
def GV:bootBuiltins "zip"=!(.type "zip"):=by decide+kernel
def Inv.Nk{X:Cx}{δ:List (Addr×Obj)}{σ:St}{H:Hp}{s:Shared}{h':Heap}{its:List Addr}{t':Nat}(I:Inv X δ σ H s)(k:∀b u,b∉its->s.heap.get? b=!u->h'.get? b=!u)(f:∀b∈its,qW X δ H b):
  Inv X δ σ H {s with heap:=h',toks:=t'}:=by
 let Vi:∀b u,H b=!u->b∉its:=λb u e z=>by rw[(f b z).1]at e;cases e
 show I.call (ch:=its) (g':=s.gens) (d':=s.drawn) (t':=t') (λb u q _ _ hb=>k b u hb q,λb u q _ _ hb=>(u.slots,k b u hb q),λb u q n _=>n,λb u q hb=>(u,k b u hb q),λb xs q=>q,λb u xs q=>q,λb ps q=>(#[],by rw[q];simp)) (λb u e=>?_) I.bare λb hb=>?_
 .show(I.au b u e).pB (λc v hc q=>k c v ?_ q) (λc q=>q) λc xs q=>q;rcases hc with z| z
  .rw[z];show Vi b u e
  .show Vi c _ z
 .let(f0,f1,f2,f3,f4,f5):=f b hb;show(f3,f1,f4,f5)
def Itz(K:gV)(l1 l2:Addr):It:=
 ⟨λi H=>∃xs ys x y,fQ K H l1 xs/\fQ K H l2 ys/\xs[i]? =!x/\ys[i]? =!y,
  λi H v H'=>∃p x y,H p=none/\v= .ref p/\H'=upd H p (.tup [x,y])/\(∀xs,fQ K H l1 xs->xs[i]? =!x)/\∀ys,fQ K H l2 ys->ys[i]? =!y,
  λi H=>∃xs ys,fQ K H l1 xs/\fQ K H l2 ys/\(-xs<=i\/-ys<=i)⟩
def KW{P:Program}{w:World}{K:gV}{elts:List Expr}{x1:Nat}{tp:Pos}{l1 l2 i1 i2 TI TO z:Addr}(D:ZipApart z TI TO i1 i2 l1 l2):Turn P w K (.Tuple elts x1 tp) (Itz K l1 l2) [z,TI,TO,i1,i2] z (λi h=>(∃a b,IsZip h z TI TO .none/\IsPair h TI (.ref i1) (.ref i2)/\IsPair h TO a b)/\h.IsListIter i1 l1 i/\h.IsListIter i2 l2 i) where
 mem:=by simp
 obj:=λi h st b hb=>by
  let((a,c,hz,Kz,Lp),h1,h2):=st;simp only[List.mem_cons,List.not_mem_nil,or_false]at hb;rcases hb with rfl| rfl| rfl| rfl| rfl
  .show(_,hz,λv z=>by
    let z':Data.fields _=Data.cell v:=z
    cases z')
  .show(_,Kz,λv z=>by
    let z':Data.seq _=Data.cell v:=z
    cases z')
  .show(_,Lp,λv z=>by
    let z':Data.seq _=Data.cell v:=z
    cases z')
  .let(o,e,c,d):=h1;show(o,e,λv z=>by rw[d]at z;cases z)
  .let(o,e,c,d):=h2;show(o,e,λv z=>by rw[d]at z;cases z)
 keep:=λi h h' st k=>by let((a,c,hz,Kz,Lp),h1,h2):=st;show((a,c,k z (by simp) _ hz,k TI (by simp) _ Kz,k TO (by simp) _ Lp),h1.at λo q=>k i1 (by simp) o q,h2.at λo q=>k i2 (by simp) o q)
 item:=by
  intro X hP hw hK hc i δ s σ H E I hf st hg;subst hP hw hK;let((a,c,hz,Kz,Lp),h1,h2):=st;let(xs,ys,x,y,Uy,So,hx,hy):=hg;let(Y4,Yq,p1,_):=I.list Uy;let(u1,hu1,Zt):=Yq.get hx;let(I_,ZQ,p2,_):=I.list So;let(u2,hu2,ru2):=ZQ.get hy;show wpAny_pyNext_zip_item D hz Kz Lp h1 h2 p1.isList p2.isList (x:=u1) (y:=u2) (by simpa using hu1) (by simpa using hu2) λh' hz' Zy X' h2' hT hsz hk=>?_;show(_,rfl,wpAny_letOwnedTupleGo_zip (s:={s with heap:=h'}) hz' λh3 hz3 sb=>?_);let sb:Heap.SameBut z h' h3:=sb;let zlt:z < s.heap.objs.size:=aau hz;let neT:s.heap.objs.size≠z:=acE zlt;let hT3:h3.get? s.heap.objs.size=some {cls:=.type "tuple",data:=.seq #[u1,u2]}:=(sb.2 _ neT).trans hT;let lt:∀b∈[z,TI,TO,i1,i2],b < s.heap.objs.size:=λb hb=>by
   simp only[List.mem_cons,List.not_mem_nil,or_false]at hb;rcases hb with rfl| rfl| rfl| rfl| rfl
   .show zlt
   .show aau Kz
   .show aau Lp
   .let(o,q,_):=h1;show aau q
   .let(o,q,_):=h2;show aau q
  let I2:Inv X δ σ (upd H s.heap.objs.size (.tup [x,y])) {s with heap:=h3,toks:=s.toks}:=by
   show I.uJ (its:=[z,TI,TO,i1,i2]) (λb o hb q=>?_) hf (aam _) ?_
   .simp only[List.mem_cons,List.not_mem_nil,or_false,not_or]at hb;let(b1,b2,b3,b4,b5):=hb;show(sb.2 b b1).trans (hk b o b1 b3 b4 b5 q)
   .show(by simp[sizeLine_eq],[u1,u2],.cons Zt (.cons ru2 .nil),?_);show(_,hT3,rfl,0,rfl)
  show(.ref s.heap.objs.size,_,I2,rfl,(s.heap.objs.size,x,y,I.au.fresh (aam _),rfl,rfl,λzs Zu=>by rw[I.gA Zu Uy];show hx,λzs Zu=>by rw[I.gA Zu So];show hy),((u1,u2,hz3,(sb.2 _ D.TIz).trans (hk _ _ D.TIz D.TITO D.TIi1 D.TIi2 Kz),(sb.2 _ D.TOz).trans Zy),X'.at λo q=>(sb.2 i1 D.i1z).trans q,h2'.at λo q=>(sb.2 i2 D.i2z).trans q),λb hb=>?_);rw[υ (aaN (lt b hb))];show(hf b hb).1
 done:=by intro X hP hw hK hc i δ s σ H E I hf st hg;subst hP hw hK;let((a,c,hz,Kz,Lp),h1,h2):=st;let(xs,ys,Uy,So,hx):=hg;let(Y4,Yq,p1,_):=I.list Uy;let(I_,ZQ,p2,_):=I.list So;let Yd:=-Yq;let QX:=-ZQ;show wpAny_pyNext_zip_end (I.ok.hd hc) D hz Kz Lp h1 h2 p1.isList p2.isList (by rcases hx with hx| hx;(left;simp;omega);(right;simp;omega)) λh' ext=>⟨rfl,I.Nk (t':=s.toks) (its:=[z,TI,TO,i1,i2]) (λb o hb q=>?_) hf⟩;simp only[List.mem_cons,List.not_mem_nil,or_false,not_or]at hb;let(b1,b2,b3,b4,b5):=hb;show ext b o b1 b3 b4 b5 q
 self:=λ_ _ _ _ _ st h=>by let((a,c,hz,_,_),_):=st;show wpAny_pyIter_zip hz h
def pC(xs ys:List Dt):List Dt:=(xs.zip ys).map λp=>.tup [p.1,p.2]
def K8{xs ys:List Dt}{i:Nat}{d:Dt}(h:(pC xs ys)[i]? =!d):∃x y,xs[i]? =!x/\ys[i]? =!y/\d= .tup [x,y]:=by
 unfold pC at h;rw[aan]at h;cases e:(xs.zip ys)[i]? with
 | none=>rw[e]at h;cases h
 | some p=>
  rw[e]at h;cases h;let(h1,h2):=abK.mp e;show(p.1,p.2,h1,h2,rfl)
def yv(xs ys:List Dt):-(pC xs ys)=min (-xs) (-ys):=by unfold pC;rw[List.length_map,List.length_zip]
def LM{K:gV}{G:Hp}{L:List Addr}{a b:Addr}{xs ys:List Dt}{ok R3:Ms->Prop}(s:Src K a xs ok G L)(s':Src K b ys R3 G L):Ob K (Itz K a b) (pC xs ys) (λM=>ok M/\R3 M) G L where
 go:=λi G1 L1 M1 H1 d g l r k e=>by let(vs,hs,n):=s.at_ G1 L1 M1 H1 g l r k.1;let(WL,LC,n'):=s'.at_ G1 L1 M1 H1 g l r k.2;let(x,y,ex,ey,rfl):=K8 e;let(v,e1,n1):=n.get ex;let(v',e1',n1'):=n'.get ey;show((vs,WL,v,v',hs,LC,e1,e1'),λw H' xz=>?_);let(p,x2,y2,hp,ev,eH,hx,hy):=xz;subst ev eH;let e2:=hx vs hs;rw[e1]at e2;cases e2;let e3:=hy WL LC;rw[e1']at e3;cases e3;show(_,r.QL hp,r.KH hp,pU (ds:=[x,y]) r hp (_,_,rfl,n1,_,_,rfl,n1',rfl))
 stop:=λi G1 L1 M1 H1 g l r k e=>by let(vs,hs,n):=s.at_ G1 L1 M1 H1 g l r k.1;let(WL,LC,n'):=s'.at_ G1 L1 M1 H1 g l r k.2;show(vs,WL,hs,LC,?_);rw[<--n,<--n'];rw[yv]at e;omega
def XA(t:DA):DK:=λρ M q x=>t ρ M (λds M1=>∃d d' xs ys ok R3,ds=[d,d']/\kO M1 d=!(xs, ok)/\kO M1 d'=!(ys, R3)/\q (pC xs ys) (λM=>ok M/\R3 M) M1) x
def Cu{X:Cx}{R:St->XK}{elts:List Expr}{x1:Nat}{tp:Pos}{a a':Expr}{t:DA}{p pos:Pos}(hm:X.mg "zip"=none)(ha:JA X R [a,a'] t)(hg:Gl X "zip"|>1)(hs:starEach [a,a'] X.env=(false, eval a X.env)::starEach [a'] X.env|>1)(dq:(backTo pos (starEach [a'] X.env)).any (·.1)=false|>1):JK X R (.Tuple elts x1 tp) (.Call (.Name "zip" p) [a,a'] [] pos) (XA t):=by
 intro δ s σ H Q I ⟨G,L,ρ,M,q,x,rl,n,ht,hx,hQ⟩;show Call_ (lJ I hg hm GV (PyProof.Rows.callWith_type1 (a_ (ha pos δ s σ H (NY X.K G L H _) I (G,L,ρ,M,_,x,rl,n,ht,hx,λ_ _ f=>f)) λus s1 xz=>?_) hs dq));let(vs,H1,I1,rv,ds,G1,L1,M1,e1,r1,n1,d,d',xs,ys,ok,R3,ed,hl,UK,h1):=xz;subst ed;let(v,v',rfl,n2,n2'):=eD n1;let(b,ws,rfl,sq,sr,_):=rX r1 n2 hl;let(b',ws',rfl,sq',sr',_):=rX r1 n2' UK;cases rv with
 | cons ru rv=>
  cases rv with
  | cons ru' rv=>
   cases rv;cases ru;cases ru';let(its,_,pl,_):=I1.list sq;let(its',_,xV,_):=I1.list sq';let lt1:b < s1.heap.objs.size:=by let(o,q,_):=pl.isList;show aau q
   let lt2:b' < s1.heap.objs.size:=by let(o,q,_):=xV.isList;show aau q
   show call_zip_2 pl.isList xV.isList λh' hz Kz Lp hi Af hsz hk=>?_;let I2:Inv X δ σ H1 {s1 with heap:=h'}:=I1.kept (t':=s1.toks) hk;let D:ZipApart (s1.heap.objs.size+4) (s1.heap.objs.size+2) (s1.heap.objs.size+3) s1.heap.objs.size (s1.heap.objs.size+1) b b':=by let ne:∀i j:Nat,i≠j->s1.heap.objs.size+i≠s1.heap.objs.size+j:=λi j h z=>h (Nat.add_left_cancel z);let n1:∀i:Nat,b≠s1.heap.objs.size+i:=λi=>aaN (aay lt1 (abV _ _));let n2:∀i:Nat,b'≠s1.heap.objs.size+i:=λi=>aaN (aay lt2 (abV _ _));show(ne 2 4 @_,ne 3 4 @_,ne 0 4 @_,ne 1 4 @_,ne 2 3 @_,ne 2 0 @_,ne 2 1 @_,ne 3 0 @_,ne 3 1 @_,ne 0 1 @_,n1 4,n1 3,n1 0,n1 1,n2 4,n2 3,n2 0,n2 1)
   show wpAny_pyIter_zip (s:={s1 with heap:=h'}) hz (s1.heap.objs.size+4,[s1.heap.objs.size+4,s1.heap.objs.size+2,s1.heap.objs.size+3,s1.heap.objs.size,s1.heap.objs.size+1],_,_,H1,rfl,I2,KW D,((_,_,hz,Kz,Lp),hi,Af),λc hc=>?_,hQ _ _ (_,_,G1,L1,M1,e1,r1,LM sr sr',h1));let hc:s1.heap.objs.size<=c:=by
    simp only[List.mem_cons,List.not_mem_nil,or_false]at hc;rcases hc with rfl| rfl| rfl| rfl| rfl
    .show abV _ _
    .show abV _ _
    .show abV _ _
    .show aam _
    .show abV _ _
   let f:=I1.Bs (H':=H1) hc (I1.au.fresh hc);show f
section
variable{X:Cx}{R:St->XK}{elt iter c:Expr}{x y:Str}{px py tp:Pos}{scope:Scope}{pos:Pos}{ti:DK}{tc:DT}{te:DE}{ys:List Str}{Χ:List Nat}{kk:Nat}
def yn(S:aw X scope [x] ys Χ)(hi:JK X R (.Name x px) iter ti)(ht:∀C s H fp,JT (Cx.comp X (x::ys) scope C s H fp) (λ_=>E0) c tc)(he:∀C s H fp,JE (Cx.comp X (x::ys) scope C s H fp) (λ_=>E0) elt te)(hc:X.calm=true|>1)(hs:(∀x,foldedSetIterable iter X.env x=pure x)|>3):JE X R (.ListComp elt [(.Name x px,iter,[c],0)] scope pos) (qG 1 ti (gN 0) tc te Χ):=WW false S hi (fk S (i:=0) rfl) aJ (eR (Nat.zero_lt_succ 0)) (λC s H fp=>wy (ht C s H fp)) he hc hs λ_ _ _ _ h=>h
end
def cT{g:Dt->En->(En->Prop)->Prop}{tc:DT}{te:DE}{ρ0:En}{ok:Ms->Prop}{M:Ms}{k:List Dt->Ms->Prop}(ho:ok M)(b:Dt->Bool)(f:Dt->Dt):∀(xs Θ:List Dt),(∀x∈xs,∀(q:DQ) (p:Ms->Prop),(b x=true->q (f x) M)->(b x=false->p M)->g x ρ0 λρ'=>tc ρ' M (λb' M1=>match b' with| true=>te ρ' M1 q jh| false=>p M1) jh)->
  k (Θ++(xs.filter b).map f) M->gE g tc te ρ0 ok xs Θ M k
 | [],Θ,_,h=>(ho,by simpa using h)
 | x::xs,Θ,ht,h=>(ho,ht x List.mem_cons_self _ _ (λhb=>cT ho b f xs _ (λy hy=>ht y (List.mem_cons_of_mem _ hy)) (by simpa [hb] using h)) λhb=>cT ho b f xs _ (λy hy=>ht y (List.mem_cons_of_mem _ hy)) (by simpa [hb] using h))
def Fx(xs:List V)(k:Nat):tR xs (!(k:Int)) none=xs.drop k:=by
 unfold tR;rw[HT.pL,HT.ym];by_cases h:k<=-xs
 .rw[acu h,abS (by rw[abM];omega)]
 .rw[Nat.min_eq_right (),List.drop_eq_nil_of_le (Nat.le_refl _),List.drop_eq_nil_of_le ()];simp
section
variable{κ:Type} [DecidableEq κ]
def fi(Γ:List (κ×V))(k:κ):Option V:=(Γ.find? λkv=>decide (kv.1=k)).map (·.2)
def iJ(Γ:List (κ×V))(k:κ)(v:V):List (κ×V):=
 if (Γ.any λkv=>decide (kv.1=k))=true then Γ.map (λkv=>if kv.1=k then (kv.1, v) else kv) else Γ++[(k, v)]
def cM{p:κ×V}{r:List (κ×V)}{k:κ}(e:p.1=k):fi (p::r) k=!p.2:=by simp[fi,List.find?_cons,e]
def cJ{p:κ×V}{r:List (κ×V)}{k:κ}(e:¬p.1=k):fi (p::r) k=fi r k:=by simp[fi,List.find?_cons,e]
def mv(k:κ):∀Γ:List (κ×V),(Γ.any λkv=>decide (kv.1=k))=(fi Γ k).isSome
 | []=>rfl
 | p::r=>by
  rw[ab7];by_cases e:p.1=k
  .simp only[cM e,decide_eq_true e,Bool.true_or,Option.isSome_some]
  .rw[cJ e,aaB e,acv];show mv k r
def uZ(k j:κ)(y:V):∀Γ:List (κ×V),fi Γ k=none->fi (Γ++[(k, y)]) j=if j=k then !y else fi Γ j
 | [],_=>by
  by_cases e:k=j
  .rw[aaG e.symm];show cM (p:=(k, y)) e
  .rw[aaE (λz=>e z.symm)];show cJ (p:=(k, y)) e
 | p::r,hn=>by
  rw[List.cons_append];let hk:¬p.1=k:=λz=>by rw[cM z]at hn;cases hn
  rw[cJ hk]at hn;let ih:=uZ k j y r hn;by_cases e:p.1=j
  .rw[cM e,cM e,aaE (λz=>hk (e.trans z))]
  .rw[cJ e,cJ e,ih]
def jw(Γ:List (κ×V))(k:κ)(v:V):-(iJ Γ k v)<=-Γ+1:=by
 unfold iJ;split
 .rw[aae];omega
 .rw[aaC,aaz,List.length_nil];omega
def HR{Γ:List (κ×V)}{k:κ}(v:V)(h:fi Γ k=none):iJ Γ k v=Γ++[(k, v)]:=by unfold iJ;rw[mv,h];show aaE @_
def gQ.iw{o:Option V}{u:Option Value}(r:gQ o u):o.isSome=u.isSome:=by
 cases o with
 | none=>cases u with
  | none=>rfl
  | some _=>show(show False from r).elim
 | some _=>cases u with
  | none=>show(show False from r).elim
  | some _=>rfl
def KV.val{Γ:List (κ×V)}{vs:List (κ×Value)}(r:KV Γ vs)(k:κ):gQ (fi Γ k) (valueAt vs k):=by
 unfold KV at r
 induction r with
 | nil=>show True.intro
 | @cons p q ps qs h t ih=>
  let(h1,h2):=h;by_cases e:p.1=k
  .let e':q.1=k:=h1.symm.trans e;let b:valueAt (q::qs) k=!q.2:=by simp[valueAt,List.find?_cons,e']
   rw[cM e,b];show h2
  .let e':¬q.1=k:=λz=>e (h1.trans z);let b:valueAt (q::qs) k=valueAt qs k:=by simp[valueAt,List.find?_cons,e']
   rw[cJ e,b];show ih
def KV.any{Γ:List (κ×V)}{vs:List (κ×Value)}(r:KV Γ vs)(k:κ):(Γ.any λkv=>decide (kv.1=k))=vs.any λkv=>decide (kv.1=k):=by
 unfold KV at r
 induction r with
 | nil=>rfl
 | cons h t ih=>rw[ab7,ab7,ih,h.1]
def KV.Pm{Γ:List (κ×V)}{vs:List (κ×Value)}(r:KV Γ vs)(k:κ){y:V}{u:Value}(ry:aj y u):
  KV (Γ.map λkv=>if kv.1=k then (kv.1, y) else kv) (vs.map λkv=>if kv.1=k then (kv.1, u) else kv):=by
 unfold KV at r⊢
 induction r with
 | nil=>show .nil
 | @cons p q ps qs h t ih=>
  rw[aa8,aa8];show .cons ?_ ih;let(h1,h2):=h;by_cases e:p.1=k
  .rw[aaG e,aaG (h1.symm.trans e)];show(h1,ry)
  .rw[aaE e,aaE (λz=>e (h1.trans z))];show(h1,h2)
def KV.put{Γ:List (κ×V)}{vs:List (κ×Value)}(r:KV Γ vs)(k:κ){y:V}{u:Value}(ry:aj y u):KV (iJ Γ k y) (stored vs k u):=by
 unfold iJ stored;rw[r.any k];by_cases e:(vs.any λkv=>decide (kv.1=k))=true
 .rw[aaG e,aaG e];show r.Pm k ry
 .rw[aaE e,aaE e];show Paired.snoc r (rfl,ry)
def KV.keys{Γ:List (κ×V)}{vs:List (κ×Value)}(r:KV Γ vs):Γ.map (·.1)=vs.map (·.1):=by
 unfold KV at r
 induction r with
 | nil=>rfl
 | cons h t ih=>rw[aa8,aa8,ih,h.1]
def KV.length{Γ:List (κ×V)}{vs:List (κ×Value)}(r:KV Γ vs):-Γ=-vs:=Paired.length r
end
def qd{P:Program}{w:World}{k:Key}{u:Value}(r:aj (kV k) u):(bF P w).is k u=true:=by
 cases k with
 | inl i=>let(t,e):=(show∃t,u=Value.int i t from r);subst e;show x9 P w i t
 | inr x=>let(t,e):=(show∃t,u=Value.str x t from r);subst e;show yY P w x t
def uS{P:Program}{w:World}:∀{ks:List Key} {us:List Value},af (ks.map kV) us->ItemsAre (bF P w) ks us
 | [],_,r=>by rw[List.map_nil]at r;cases r;show .nil
 | k::ks,_,r=>by
  rw[aa8]at r;cases r with
  | cons h t=>show .cons (qd h) (uS t)
abbrev KT(H:Hp):List (List Key×V)->List (List Key×Addr×Value)->Prop:=Paired λp q=>p.1=q.1/\H q.2.1=!(.tup (p.1.map kV))/\aj p.2 q.2.2
def KT.val{H:Hp}{Γ:List (List Key×V)}{xs:List (List Key×Addr×Value)}(r:KT H Γ xs)(k:List Key):gQ (fi Γ k) ((atKey xs k).map (·.2)):=by
 induction r with
 | nil=>show True.intro
 | @cons p q ps qs h t ih=>
  let(h1,_,h2):=h;by_cases e:p.1=k
  .let e':q.1=k:=h1.symm.trans e;let b:atKey (q::qs) k=!q.2:=by simp[atKey,List.find?_cons,e']
   rw[cM e,b];show h2
  .let e':¬q.1=k:=λz=>e (h1.trans z);let b:atKey (q::qs) k=atKey qs k:=by simp[atKey,List.find?_cons,e']
   rw[cJ e,b];show ih
def KT.Pm{H:Hp}{Γ:List (List Key×V)}{xs:List (List Key×Addr×Value)}(r:KT H Γ xs)(k:List Key){y:V}{u:Value}(ry:aj y u):
  KT H (Γ.map λkv=>if kv.1=k then (kv.1, y) else kv) (xs.map (putAt k u)):=by
 induction r with
 | nil=>show .nil
 | @cons p q ps qs h t ih=>
  rw[aa8,aa8];show .cons ?_ ih;let(h1,h2,h3):=h;unfold putAt;by_cases e:p.1=k
  .rw[aaG e,aaG (h1.symm.trans e)];show(h1,h2,ry)
  .rw[aaE e,aaE (λz=>e (h1.trans z))];show(h1,h2,h3)
def KT.put{H:Hp}{Γ:List (List Key×V)}{xs:List (List Key×Addr×Value)}(r:KT H Γ xs)(k:List Key){b:Addr}{y:V}{u:Value}(hb:H b=!(.tup (k.map kV)))(ry:aj y u):
  KT H (iJ Γ k y) (storedH xs k b u):=by
 let e:(Γ.any λkv=>decide (kv.1=k))=(atKey xs k).isSome:=by rw[mv,(r.val k).iw,Option.isSome_map]
 unfold iJ storedH;rw[e];by_cases q:(atKey xs k).isSome=true
 .rw[aaG q,aaG q];show r.Pm k ry
 .rw[aaE q,aaE q];show Paired.snoc r (rfl,hb,ry)
def KT.keeps{H H':Hp}{Γ:List (List Key×V)}{xs:List (List Key×Addr×Value)}(r:KT H Γ xs)(ht:∀b ys,H b=!(.tup ys)->H' b=!(.tup ys)):KT H' Γ xs:=
 Paired.QQ r λ_ _ z=>(z.1,ht _ _ z.2.1,z.2.2)
section
variable{P:Program}{w:World}{H:Hp}{h:Heap}{a:Addr}
def OU{u:HO}(ok:je P w H h)(e:Rd H a u):aH P w H h a u:=e.ok ok
def fB{Γ:List (Key×V)}(ok:je P w H h)(e:Rd H a (.dK Γ)):-Γ<=sizeLine/\(a==sysModules)=false/\∃vs,KV Γ vs/\h.DictOf (bF P w) a vs:=
 show aH P w H h a (.dK Γ) from OU ok e
def IV{Γ:List (Key×V)}(ok:je P w H h)(e:H a=!(.dK Γ)):-Γ<=sizeLine/\(a==sysModules)=false/\∃vs,KV Γ vs/\h.DictOf (bF P w) a vs:=fB ok (.inl e)
def rB{ks:List Key}(ok:je P w H h)(e:H a=!(.tup (ks.map kV))):(tupleKind (bF P w)).is h ks a:=by let(_,its,r,o,h1,h2,n,h3):=(show aH P w H h a (.tup (ks.map kV)) from ok a _ e);show(o,its.toArray,n,h1,h2,h3,by simpa using uS r)
def zy{Γ:List (List Key×V)}(ok:je P w H h)(e:Rd H a (.dT Γ)):-Γ<=sizeLine/\(a==sysModules)=false/\
  ∃xs,KT H Γ xs/\h.DictOfH (tupleKind (bF P w)) a xs:=by
 let(z,y,xs,r,o,es,ep,h1,h2,h3,h4,h5):=(show aH P w H h a (.dT Γ) from OU ok e);show(z,y,xs,r,o,es,ep,h1,h2,h3,h4,λx hx=>?_,h5);let all:∀{l:List (List Key×V)} {m:List (List Key×Addr×Value)},KT H l m->∀x∈m,(tupleKind (bF P w)).is h x.1 x.2.1:=by
  intro l m q
  induction q with
  | nil=>intro x hx;show nomatch hx
  | @cons p q ps qs hq t ih=>
   intro x hx;rcases aaR.mp hx with e| hx
   .subst e;show rB ok (by rw[<-hq.1];show hq.2.1)
   .show ih x hx
 show all r x hx
def SO{Γ:List (List Key×V)}(ok:je P w H h)(e:H a=!(.dT Γ)):-Γ<=sizeLine/\(a==sysModules)=false/\
  ∃xs,KT H Γ xs/\h.DictOfH (tupleKind (bF P w)) a xs:=zy ok (.inl e)
end
def xG(H:Hp)(a:Addr)(y:V)(r:Option V):Prop:=
 (∃Γ k,Rd H a (.dK Γ)/\y=kV k/\r=fi Γ k)\/∃Γ k b,Rd H a (.dT Γ)/\y= .ref b/\H b=!(.tup (k.map kV))/\r=fi Γ k
def KP(H:Hp)(a:Addr)(y v:V)(H':Hp):Prop:=
 (∃Γ k,H a=!(.dK Γ)/\y=kV k/\-Γ < sizeLine/\H'=upd H a (.dK (iJ Γ k v)))\/
 ∃Γ k b,H a=!(.dT Γ)/\y= .ref b/\H b=!(.tup (k.map kV))/\-Γ < sizeLine/\H'=upd H a (.dT (iJ Γ k v))
def KP.k{H:Hp}{a:Addr}{Γ:List (Key×V)}{k:Key}{v:V}(e:H a=!(.dK Γ))(hl:-Γ < sizeLine):KP H a (kV k) v (upd H a (.dK (iJ Γ k v))):=.inl (Γ,k,e,rfl,hl,rfl)
section
variable{X:Cx}{δ:List (Addr×Obj)}{σ:St}{H:Hp}{s:Shared}{a:Addr}{y v:V}{u r:Value}{o:Option V}{A:Around}{E:Value->Shared->Prop}
def Inv.big(I:Inv X δ σ H s):sysModules < s.heap.objs.size:=by let h:mainGlobals < s.heap.objs.size:=(I.mod.glob.keeps I.bk).lt;show Nat.lt_trans @_ h
def Gr{Q:Value->Shared->Prop}(hu:A.units+1 < cLine)(I:Inv X δ σ H s)(g:xG H a y (!v))(ry:aj y u)(h:∀w' s',Inv X δ σ H s'->aj v w'->Q w' s'):
  wpAny (model X.prog X.w) A (getItem (.ref a) u) Q E s:=by
 rcases g with ⟨Γ,k,e,ey,l⟩| ⟨Γ,k,b,e,ey,eb,l⟩
 .subst ey;let(z,hd,vs,rel,dd):=fB I.au e;let(w',hw,AD):=gQ.some_of (v:=v) (o:=valueAt vs k) (by rw[l];show rel.val k);show wpAny_getItem_of (qd ry) dd.mapOf hw (h w' _ (I.tok _) AD)
 .subst ey;cases(show u=Value.ref b from ry);let(z,hd,xs,rel,dd):=zy I.au e;let(w',hw,AD):=gQ.some_of (v:=v) (o:=(atKey xs k).map (·.2)) (by rw[l];show rel.val k);let(p,hp,Ux):=aby.mp hw;show wpAny_getItem_heap (tupleKind_room_in1 hu) (rB I.au eb) dd hp ?_;rw[Ux];show h w' _ (I.tok _) AD
def aab{Q:Value->Shared->Prop}(hu:A.units+1 < cLine)(I:Inv X δ σ H s)(g:xG H a y o)(ry:aj y u)(h:∀s',Inv X δ σ H s'->Q (.bool o.isSome) s'):
  wpAny (model X.prog X.w) A (compareOp .In u (.ref a)) Q E s:=by
 rcases g with ⟨Γ,k,e,ey,l⟩| ⟨Γ,k,b,e,ey,eb,l⟩
 .subst ey;let(z,hd,vs,rel,dd):=fB I.au e;show wpAny_in_of (qd ry) hd dd.mapOf ?_;rw[<-(rel.val k).iw,<-l];show h _ (I.tok _)
 .subst ey;cases(show u=Value.ref b from ry);let(z,hd,xs,rel,dd):=zy I.au e;show wpAny_in_heap (tupleKind_room_in1 hu) (rB I.au eb) hd dd ?_;let q:=(rel.val k).iw;rw[Option.isSome_map]at q;rw[<-q,<-l];show h _ (I.tok _)
def MP{Q:Value->Shared->Prop}(hu:A.units+1 < cLine)(I:Inv X δ σ H s)(g:xG H a y o)(ry:aj y u)(h:∀s',Inv X δ σ H s'->Q (.bool (! o.isSome)) s'):
  wpAny (model X.prog X.w) A (compareOp .NotIn u (.ref a)) Q E s:=by
 rcases g with ⟨Γ,k,e,ey,l⟩| ⟨Γ,k,b,e,ey,eb,l⟩
 .subst ey;let(z,hd,vs,rel,dd):=fB I.au e;show wpAny_notIn_of (qd ry) hd dd.mapOf ?_;rw[<-(rel.val k).iw,<-l];show h _ (I.tok _)
 .subst ey;cases(show u=Value.ref b from ry);let(z,hd,xs,rel,dd):=zy I.au e;show wpAny_notIn_heap (tupleKind_room_in1 hu) (rB I.au eb) hd dd ?_;let q:=(rel.val k).iw;rw[Option.isSome_map]at q;rw[<-q,<-l];show h _ (I.tok _)
def xJ{h':Heap}{t':Nat}{ob:HO}(I:Inv X δ σ H s)(mu:Sk (H a))(hs:Heap.SameBut a s.heap h')(he:∃q,h'.get? a=!q)(new:aH X.prog X.w (upd H a ob) h' a ob):
  Inv X δ σ (upd H a ob) {s with heap:=h',toks:=t'}:=
 I.write (x:=a) (e:=a) mu (.inl rfl) (λb q hb z=>(hs.2 b hb).trans z) he new
def vi{P:Program}{w:World}{H':Hp}{h':Heap}{Γ:List (Key×V)}{vs:List (Key×Value)}(z:-Γ<=sizeLine)(hd:(a==sysModules)=false)(rel:KV Γ vs)(dd:h'.DictOf (bF P w) a vs):
  aH P w H' h' a (.dK Γ):=(z,hd,vs,rel,dd)
def Fh{H':Hp}{Q:Unit->Shared->Prop}(hu:A.units+1 < cLine)(I:Inv X δ σ H s)(g:KP H a y v H')(ry:aj y u)(rv:aj v r)(h:∀s',Inv X δ σ H' s'->Q Unit.unit s'):
  wpAny (model X.prog X.w) A (setItem (.ref a) u r) Q E s:=by
 rcases g with ⟨Γ,k,e,ey,l,eH⟩| ⟨Γ,k,b,e,ey,eb,l,eH⟩
 .subst ey eH;let(z,hd,vs,rel,dd):=IV I.au e;let hz:-vs<=sizeLine:=by rw[<--rel];show z
  let hl:-(iJ Γ k v)<=sizeLine:=by have:=jw Γ k v;omega
  show wpAny_setItem_pairs (hsz:=hz) (qd ry) dd λh' Kf hs=>h _ ?_;let he:∃q,h'.get? a=!q:=let (q,_,_,hq,_):=Kf;(q,hq)
  show xJ I (by rw[e];show True.intro) hs he (vi hl hd (rel.put k rv) Kf)
 .subst ey eH;cases(show u=Value.ref b from ry);let(z,hd,xs,rel,dd):=SO I.au e;let hz:-xs<=sizeLine:=by rw[<-Paired.length rel];show z
  let hl:-(iJ Γ k v)<=sizeLine:=by have:=jw Γ k v;omega
  show wpAny_setItem_heap (hsz:=hz) (tupleKind_room_in1 hu) (rB I.au eb) dd λh' Kf hs=>h _ ?_;let(q,es,ep,hq,h2,h3,h4,_,h5):=Kf;show xJ I (by rw[e];show True.intro) hs (q,hq) (hl,hd,_,(rel.put k eb rv).keeps λc ys ec=>?_,q,es,ep,hq,h2,h3,h4,h5);rw[υ (SS ec e nofun)];show ec
end
section
variable{X:Cx}{δ:List (Addr×Obj)}{σ:St}{H:Hp}{s:Shared}{a:Addr}{Γ:List (Key×V)}{k:Key}{u:Value}{A:Around}{E:Value->Shared->Prop}
def UT{Q:Value->Shared->Prop}(I:Inv X δ σ H s)(e:Rd H a (.dK Γ))(h:∀t s',Inv X δ σ H s'->Q (.int (-Γ) t) s'):wpAny (model X.prog X.w) A (call (.builtin "len") [.ref a]) Q E s:=by let(z,hd,vs,rel,dd):=fB I.au e;show call_len_dict hd dd (by rw[<--rel];rw[sizeLine_eq]at z;omega) ?_;rw[<--rel];show h _ _ (I.tok _)
end
def J1(i:Expr):Prop:=∀ov iv,subscripted i false ov iv=operate [ov,iv] (getItem ov iv)
def Dx{prog:Program}{w:World}{A:Around}{E:Value->Shared->Prop}{s:Shared}{env:Env}{value slice:Expr}{pos:Pos}{T id:String}{Q:Value->Shared->Prop}
  (hl:typeLookup (.type T) "__getitem__"=pure (!(.builtin id))) (hs:J1 slice)
  (h:wpAny (model prog w) A (eval value env) (λo s₁=>wpAny (model prog w) A (eval slice env) (λi s₂=>s₂.TypeIs o T/\wpAny (model prog w) A (getItem o i) Q E s₂) E s₁) E s):
  wpAny (model prog w) A (eval (.Subscript value slice pos) env) Q E s:=by
 show Subscript_ (abl h (λo s₁ h₁=>abl h₁ (λi s₂ h₂=>?_) λ_ _ x=>x) λ_ _ x=>x);let(hT,h₂):=h₂;unfold subscriptTail;show aaf ?_;rw[getitemInPython_of_ne hT.not_modules];show aaf (wpAny_specialOf hT hl ?_);let fin:wpAny (model prog w) A (subscripted slice false o i) (λr s₃=>wpAny (model prog w) A (letTemporaryGo value o r >>= λ_=>pure r) Q E s₃) E s₂:=by rw[hs o i];show wpAny_operating (abl h₂ (λr s₃ h₃=>aaf (wpAny_letTemporaryGo (aaw h₃))) λ_ _ x=>x)
 first
  | show aaw (aaf fin)
  | show aaf (aaw (aaf fin))
  | show aaf fin
def zx{X:Cx}{δ:List (Addr×Obj)}{σ:St}{H:Hp}{s:Shared}{a:Addr}{y:V}{o:Option V}(I:Inv X δ σ H s)(g:xG H a y o):s.TypeIs (.ref a) "dict":=by
 rcases g with ⟨Γ,k,e,_,_⟩| ⟨Γ,k,b,e,_,_,_⟩
 .let(_,_,vs,_,dd):=fB I.au e;show dd.typeIs
 .let(_,_,xs,_,dd):=zy I.au e;show dd.typeIs
def S'(td ty:TE):TE:=λσ H Q=>td σ H λx H1=>ty σ H1 λy H2=>∃a v,x= .ref a/\xG H2 a y (!v)/\Q v H2
def TR(td ty tv:TE):TS:=λD σ H=>tv σ H λv H1=>td σ H1 λx H2=>ty σ H2 λy H3=>∃a H4,x= .ref a/\KP H3 a y v H4/\D.nx σ H4
section
variable{X:Cx}{o i e value:Expr}{pos pos' tO:Pos}{td ty tv:TE}
def LP(hu:X.A.units+1 < cLine)(ho:PE X o td)(hi:PE X i ty)(hs:J1 i):PE X (.Subscript o i pos) (S' td ty):=by intro δ s σ H Q I h;show Dx PySem.F.slot_dict_getitem.lookup hs (a_ (ho δ s σ H _ I h) fun u s1 (x,H1,I1,rx,q1)=>a_ (hi δ s1 σ H1 _ I1 q1) λiv s2 xz=>?_);let(y,H2,I2,ry,a,v,ex,g,q2):=xz;subst ex;obtain rfl:u=Value.ref a:=rx;show(zx I2 g,Gr hu I2 g ry λw' s3 I3 AD=>(v,H2,I3,AD,q2))
def NJ(hu:X.A.units+1 < cLine)(ho:PE X o td)(hi:PE X i ty)(hv:PE X value tv)(hs:swapsWith value (!(.Subscript o i pos')) pos.line X.env=pure false):
  PS X (.Assign [.Subscript o i pos'] value pos) (TR td ty tv):=by
 intro δ s σ H D I h;show wpAny_Assign_Subscript (a_ (hv δ s σ H _ I h) fun r s1 (v,H1,I1,rv,q1)=>a_ (ho δ s1 σ H1 _ I1 q1) fun u s2 (x,H2,I2,rx,q2)=>a_ (hi δ s2 σ H2 _ I2 q2) λiv s3 xz=>?_) hs;let(y,H3,I3,ry,a,H4,ex,g,q3):=xz;subst ex;obtain rfl:u=Value.ref a:=rx;show Fh hu I3 g ry rv λs4 I4=>(σ,H4,I4,q3)
end
def yo{P:Program}{w:World}{H:Hp}(h:Heap)(hb:sysModules < h.objs.size):aH P w H (h.push {cls:=.type "dict",data:=.dict #[]}) h.objs.size (.dK []):=
 (aca _,beq_eq_false_iff_ne.mpr (Ne.symm (aaN hb)),[],.nil,Heap.DictOf.new h)
def P8:TE:=λ_ H Q=>∀p,H p=none->Q (.ref p) (upd H p (.dK []))
section
variable{X:Cx}{pos:Pos}
def Ku:PE X (.Dict [] [] pos) P8:=λδ s σ H Q I h=>
 wpAny_Dict_empty (.ref s.heap.objs.size,_,I.laid (a:=s.heap.objs.size) (o:=.dK []) (t':=s.toks) (λ_ _ q=>aah _ q) (aam _) (yo s.heap I.big),rfl,h _ (I.au.fresh (aam _)))
end
def AL:List (TE×TE)->St->Hp->(List (V×V)->Hp->Prop)->Prop
 | [],_,H,Q=>Q [] H
 | (tk, tv)::r,σ,H,Q=>tk σ H λx H1=>tv σ H1 λy H2=>AL r σ H2 λps H3=>Q ((x, y)::ps) H3
abbrev VV:List (V×V)->List (Value×Value)->Prop:=Paired λp q=>aj p.1 q.1/\aj p.2 q.2
def V'(X:Cx)(pos:Pos)(keys:List (Option Expr))(values:List Expr)(LW:List (TE×TE)):Prop:=
 ∀(δ:List (Addr×Obj)) (s:Shared) (σ:St) (H:Hp) (Q:List (V×V)->Hp->Prop),Inv X δ σ H s->AL LW σ H Q->
  wpAny (model X.prog X.w) X.A (evalPairs (pairTrees keys values X.env pos)) (λvs s'=>∃ps H',Inv X δ σ H' s'/\VV ps vs/\Q ps H') X.xe s
def DN{X:Cx}{pos:Pos}:V' X pos [] [] []:=λδ s σ H Q I h=>pairTrees_nil_walk ([],H,I,.nil,h)
def qL{X:Cx}{pos:Pos}{k v:Expr}{ks:List (Option Expr)}{vs:List Expr}{tk tv:TE}{LW:List (TE×TE)}(hk:PE X k tk)(hv:PE X v tv)(hr:V' X pos ks vs LW):
  V' X pos ((!k)::ks) (v::vs) ((tk, tv)::LW):=λδ s σ H Q I h=>
 pairTrees_cons_walk (a_ (hk δ s σ H _ I h) fun u s1 (x,H1,I1,rx,q1)=>a_ (hv δ s1 σ H1 _ I1 q1) fun w2 s2 (y,H2,I2,ry,q2)=>
  a_ (hr δ s2 σ H2 _ I2 q2) λws s3 (ps,H3,I3,rel,q3)=>((x, y)::ps,H3,I3,.cons (rx,ry) rel,q3))
def lA(Γ more:List (Key×V)):List (Key×V):=more.foldl (λΘ kv=>iJ Θ kv.1 kv.2) Γ
def KV.merge:∀{more:List (Key×V)} {rs:List (Key×Value)} {Γ:List (Key×V)} {vs:List (Key×Value)},KV more rs->KV Γ vs->KV (lA Γ more) (merged vs rs):=by
 intro more rs Γ vs r;unfold KV at r
 induction r generalizing Γ vs with
 | nil=>intro q;show q
 | @cons p q ps qs h t ih=>
  intro r0;let e:KV (iJ Γ p.1 p.2) (stored vs q.1 q.2):=by have:=r0.put p.1 h.2;rw[<-h.1];show this
  show ih e
def kW:∀(more Γ:List (Key×V)),-(lA Γ more)<=-Γ+-more
 | [],Γ=>by change -Γ<=-Γ+0;omega
 | p::r,Γ=>by let h1:=kW r (iJ Γ p.1 p.2);let h2:=jw Γ p.1 p.2;change(lA (iJ Γ p.1 p.2) r).length<=_;rw[aaz];omega
def qK{P:Program}{w:World}:∀{Γ:List (Key×V)} {ws:List (Value×Value)},VV (Γ.map λkv=>(kV kv.1, kv.2)) ws->∃rs,Carries (bF P w) ws rs/\KV Γ rs
 | [],_,r=>by rw[List.map_nil]at r;cases r;show([],True.intro,.nil)
 | p::Γ,_,r=>by
  rw[aa8]at r;cases r with
  | @cons a b as bs h t=>
   let(rs,c,q):=qK (P:=P) (w:=w) t;let(b1,b2):=b;show((p.1, b2)::rs,(qd h.1,rfl,c),.cons (rfl,h.2) q)
def Sx(LW:List (TE×TE)):TE:=λσ H Q=>∀p,H p=none->AL LW σ (upd H p (.dK [])) λps H2=>H2 p=!(.dK [])/\∃Γ:List (Key×V),ps=Γ.map (λkv=>(kV kv.1, kv.2))/\-Γ<=15/\Q (.ref p) (upd H2 p (.dK (lA [] Γ)))
def DW{X:Cx}{pos:Pos}{keys:List (Option Expr)}{values:List Expr}{LW:List (TE×TE)}(h:V' X pos keys values LW)(zq:keys.all (·.isSome)=true)(hl:-keys=-values)(h0:keys≠[])
  (h15:-keys<=15):PE X (.Dict keys values pos) (Sx LW):=by
 intro δ s σ H Q I q;let hn:=I.au.fresh (aam s.heap.objs.size);let I1:=I.laid (a:=s.heap.objs.size) (o:=.dK []) (h':=s.heap.push {cls:=.type "dict",data:=.dict #[]}) (t':=s.toks) (λ_ _ q=>aah _ q) (aam _) (yo s.heap I.big);show wpAny_Dict_walk (knd:=bF X.prog X.w) zq hl h0 h15 (a_ (h δ _ σ _ _ I1 (q _ hn)) λws s2 xz=>?_);let(ps,H2,I2,rel,e,Γ,ep,lk,q2):=xz;subst ep;let(rs,c,rk):=qK (P:=X.prog) (w:=X.w) rel;let(z,hd,vs0,r0,dd):=IV I2.au e;cases r0;show(rs,c,dd,λh' Kf hs=>(.ref s.heap.objs.size,_,?_,rfl,q2));let hz:-(lA [] Γ)<=sizeLine:=by let h1:=kW Γ [];rw[List.length_nil]at h1;rw[sizeLine_eq];omega
 let he:∃q,h'.get? s.heap.objs.size=!q:=let (q,_,_,hq,_):=Kf;(q,hq)
 show xJ I2 (by rw[e];show True.intro) hs he (vi hz hd (rk.merge .nil) Kf)
section
variable{X:Cx}{δ:List (Addr×Obj)}{σ:St}{H:Hp}{s:Shared}{a:Addr}{Γ:List (Key×V)}{A:Around}{E:Value->Shared->Prop}
def HY{Q:Value->Shared->Prop}(I:Inv X δ σ H s)(e:Rd H a (.dK Γ))(h:∀p s',H p=none->Inv X δ σ (upd H p (.dK Γ)) s'->Q (.ref p) s'):wpAny (model X.prog X.w) A (call (.type "dict") [.ref a]) Q E s:=by let(z,hd,vs,rel,dd):=fB I.au e;show kt_call_dict hd dd (by rw[<--rel];show z) λh' Kf hs=>?_;show h _ _ (I.au.fresh (aam _)) (I.laid (a:=s.heap.objs.size) (o:=.dK Γ) (t':=s.toks) (λb q hq=>?_) (aam _) (vi z (beq_eq_false_iff_ne.mpr (Ne.symm (aaN I.big))) rel Kf));show(hs.2 b (aaN (aau hq))).trans (aah _ hq)
end
end L2
namespace Att
open PySem PySem.W PySem.Calls PyProof.Rows
end Att
namespace L2
open PySem PySem.Spec PyProof.Rows
end L2
/- THE Xi Nh (shape;LID, My.* are V0):
  My.Adr:a structure of Nd addresses Zb Yx Uc names (classes, Gn);My.Txt K t:a structure (Prop) of Nd equations over K;
  My.BW:{K} {implicit addresses ..} (e1:nsIn K mainGlobals "law"=!(!(.ref f))) (e2:K.lookup f=!(oc,od,.func (fnOf "law" "law" params body scope dV kV doc pm an aP ct),sl)) (e3:codeIn K aP "law"=true) .. :∃t,My.Txt K t
set_option maxRecDepth 100000 in
set_option maxHeartbeats 0 in
def PySem.Challenge.cw_LID_holds : PySem.Challenge.rw_LID.Holds := by
 w_on;o_law;k_head;(case hw=>w_witness2)
 k_fill
 show L2.xB (l:=PySem.Challenge.rw_LID) (n:=63) (k:=40) (x:="script") (CX:=fun w=>..) (sp:=fun _=>My.PB) rfl @_ rfl (rfl,@_,@_) (fun w h Y=>PySem.W.kIn_of Y) ?F ?S ?C
 case F=>
  intro w mg fa h KX G MA;let T:∃t,My.Txt (L2.ZS KX) t:=by
   dsimp only[L2.ZS]
   refine' My.BW ?e1 ?e2 ?e3 ..
   (case e1=>PySem.W.k_is)
   (case e2=>PySem.W.k_is)
   ..
  let(t,T):=T;let e0:=MA.symm.trans (PySem.W.mg_of KX G T.law);cases e0;show(_,λs u=>.of_eq rfl,λbase kb nb=>My.A_ T kb nb)
 case S=>exactλw H a ns hl hO hS=>..
 case C=>show ..
(Nd tactic k_is has no namespace:write k_is) -/
namespace L2
open PySem PySem.Spec PyProof.Rows
section
variable{X:Cx}
def Fg:cj X (.builtin "len") (λxs H Q=>∃a Γ,xs=[V.ref a]/\H a=!(.dK Γ)/\Q (.int (-Γ)) H):=by intro δ s σ H xs us Q I r h;let(a,Γ,rfl,ha,q):=h;let(u,rfl,ru):=iI r;cases ru;show UT I (.inl ha) λt s' I'=>(.int (-Γ),H,I',(t,rfl),q)
end
variable{X:Cx}{G:Hp}{L L' L0:List Addr}{d:Dt}{v:V}{pos p apos:Pos}{R:St->XK}{o e b iter tg:Expr}{to te ta tb:DE}{k' n i ep:Nat}{δ:List (Addr×Obj)}{σ:St}{s:Shared}{M:Ms}{ds:List Dt}{vs:List V}{a f:Addr}{t:DA}{A:Around}{prog P:Program}{w:World}{E Q:Value->Shared->Prop}{c:Bool}{Γ:List (Key×V)}{x:Str}{scope:Scope}{ys ps:List Str}{Χ:List Nat}{iZ:List Value}{st:Stmt}{mg:Str->Option Value}{fd:FuncData}{es:List Expr}{body:List Stmt}{ks:List Key}{its:Array Value}
def z_:Dt->Option Key
 | .int i=>!(.inl i)
 | .str z=>!(.inr z)
 | _=>none
def aA(ks:List Key)(ds:List Dt)(k:Key):Option Dt:=((ks.zip ds).find? λp=>decide (p.1=k)).map (·.2)
def kf{K:gV}{k:Key}(h:z_ d=!k)(n:Den K G L d v):v=kV k:=by
 cases d with
 | int i=>cases h;show n
 | str z=>cases h;show n
 | _=>cases h
def ou{K:gV}{G:Hp}{L:List Addr}{k:Key}:∀{ks:List Key} {ds:List Dt} {vs:List V} {d:Dt},Ν K G L ds vs->aA ks ds k=!d->∃v,fi (ks.zip vs) k=!v/\Den K G L d v
 | [],_,_,_,_,h=>by cases h
 | _::_,[],_,_,_,h=>by cases h
 | c::ks,d0::ds,_,d,(v0,vs,e,n0,n),h=>by
  subst e;rw[abx];by_cases hc:c=k
  .let h':aA (c::ks) (d0::ds) k=!d0:=by unfold aA;rw[List.zip_cons_cons,List.find?_cons_of_pos (by simpa using hc)];rfl
   rw[h']at h;cases h;show(v0,cM hc,n0)
  .let h':aA (c::ks) (d0::ds) k=aA ks ds k:=by unfold aA;rw[List.zip_cons_cons,List.find?_cons_of_neg (by simpa using hc)]
   rw[h']at h;let(v,h1,h2):=ou n h;show(v,by rw[cJ hc];show h1,h2)
def Ef(to ti:DE):DE:=λρ M q x=>to ρ M (λd M1=>ti ρ M1 (λdi M2=>∃k ks ds key v,d= .loc k/\M2[k]? =!(.cB ks ds)/\z_ di=!key/\aA ks ds key=!v/\q v M2) x) x
def oz:∀(more Θ:List (Key×V)),(∀p∈more,fi Θ p.1=none)->(more.map (·.1)).Nodup->lA Θ more=Θ++more
 | [],Θ,_,_=>by change Θ=Θ++[];rw[aa0]
 | p::more,Θ,h,nd=>by
  change lA (iJ Θ p.1 p.2) more=_;rw[HR p.2 (h p aal),oz more _ (λq hq=>?_) (abq.mp nd).2]
  .simp
  .let e:=uZ p.1 q.1 p.2 Θ (h p aal);rw[show(Θ++[(p.1, p.2)])=Θ++[(p.1, p.2)] from rfl,e,aaE]
   .show h q (aai _ hq)
   .intro z;show(abq.mp nd).1 (aaH.mpr (q,hq,z))
def tCs(z:Str):TE:=λ_ H Q=>Q (.str z) H
def pcs{z:Str}{k:Nat}:PE X (.Constant (.str z) k pos) (tCs z):=Hu
section
variable{i:Expr}{ti:DE}
def bL(hr:bf k' X.A)(ho:JE X R o to)(hi:JE X R i ti)(hs:J1 i:=by intro _ _;rfl):JE X R (.Subscript o i pos) (Ef to ti):=
 .of (LP (EF hr) ho hi hs) λσ H G L ρ M q x rl n h hx=>by show(G,L,ρ,M,_,x,rl,n,h,hx,λv H1 xz=>?_);let(d1,G1,L1,M1,e1,r1,n1,h1):=xz;show(G1,L1,ρ,M1,_,x,r1,n.mono e1,h1,hx.on e1,λv2 H2 xz=>?_);let(d2,G2,L2,M2,e2,r2,n2,k,ks,ds,key,y,ed,hm,hk,hg,h2):=xz;subst ed;let(a,rfl,EV):=n1;let Ls:=e2.l.get EV;let(_,vs,hH,hl,dn):=r2.dF k a _ Ls hm;let(u,hu,du):=ou dn hg;show(a,u,rfl,.inl (_,key,.inl hH,kf hk n2,hu.symm),fin_same (e1.trans e2) r2 du h2)
end
inductive LB(K:gV)(H:Hp):Nat->V->V->Bool->Prop
 | flat {n:Nat} {x y:V} (h1:dt x=true) (h2:dt y=true):LB K H n x y (sT x y)
 | tup {n:Nat} {a b:Addr} {xs ys:List V} {f:Nat->Bool} (h1:mH K H a xs) (h2:mH K H b ys) (h:∀j x y,xs[j]? =!x->ys[j]? =!y->LB K H n x y (f j)):LB K H (n+1) (.ref a) (.ref b) ((List.range (min (-xs) (-ys))).all f&&-xs==-ys)
 | lst {n:Nat} {a b:Addr} {xs ys:List V} {f:Nat->Bool} (h1:fQ K H a xs) (h2:fQ K H b ys) (hl:-xs=-ys) (h:∀j x y,xs[j]? =!x->ys[j]? =!y->LB K H n x y (f j)):LB K H (n+1) (.ref a) (.ref b) ((List.range (-xs)).all f)
 | len {n:Nat} {a b:Addr} {xs ys:List V} (h1:fQ K H a xs) (h2:fQ K H b ys) (hl:-xs≠-ys):LB K H (n+1) (.ref a) (.ref b) false
def zB{x:V}(h:dt x=true):sT x x=true:=by cases x <;> first| rfl| (show(_==_)=true;simp)| cases h
section
variable{H:Hp}
def yX(I:Inv X δ σ H s){x y:V}{b:Bool}(h:LB X.K H n x y b):x=y->b=true:=by
 induction h with
 | flat h1 h2=>intro e;subst e;show zB h1
 | @tup n a b xs ys f h1 h2 h ih=>
  intro e;cases e;cases I.uw h1 h2;rw[acd,acm,Bool.and_true];show abO.mpr λj hj=>?_;let hj:=abg.mp hj;show ih j _ _ (aaa hj) (aaa hj) rfl
 | @lst n a b xs ys f h1 h2 hl h ih=>
  intro e;cases e;cases I.gA h1 h2;show abO.mpr λj hj=>?_;let hj:=abg.mp hj;show ih j _ _ (aaa hj) (aaa hj) rfl
 | len h1 h2 hl=>
  intro e;cases e;cases I.gA h1 h2;show aaO rfl hl
def fj{xs:List V}{its:List Value}(r:af xs its){j:Nat}(h:j < its.toArray.size):∃x,xs[j]? =!x/\aj x its.toArray[j]:=by
 let hj:j < -its:=by simpa using h
 let hx:j < -xs:=by rw[-r];show hj
 let(u,g,ru):=r.get (aaa hx);rw[aaa hj]at g;cases g;show(_,List.getElem?_eq_getElem hx,by simpa using ru)
def K0(I:Inv X δ σ H s){x y:V}{b:Bool}(h:LB X.K H n x y b):∀{A:Around} {u v:Value},aj x u->aj y v->A.units+n < cLine->SeqAt.EqAt A s u v b:=by
 induction h with
 | flat h1 h2=>exactλru rv _=>qf ru rv h1 h2
 | @tup n a b xs ys f h1 h2 h ih=>
  intro A u v ru rv hu;cases ru;cases rv;by_cases e:a=b
  .have:=yX I (.tup h1 h2 h) (aba V.ref e);rw[this,e];show SeqAt.EqAt.same _
  .let(i1,v1,t1,_):=I.tuple h1;let(i2,v2,t2,_):=I.tuple h2
   have:=SeqAt.RcAt.tuples (A:=A) (e:=f) (show s.heap.IsTuple a i1.toArray from t1) (show s.heap.IsTuple b i2.toArray from t2) () (λj g1 g2=>by
    let(x,hx,rx):=fj v1 g1;let(y,hy,ry):=fj v2 g2
    show ih j x y hx hy rx ry (by change A.units+1+n < cLine;omega))
   rw[aaM,aaM,<--v1,<--v2]at this;show SeqAt.EqAt.of_refs e this
 | @lst n a b xs ys f h1 h2 hl h ih=>
  intro A u v ru rv hu;cases ru;cases rv;by_cases e:a=b
  .have:=yX I (.lst h1 h2 hl h) (aba V.ref e);rw[this,e];show SeqAt.EqAt.same _
  .let(i1,v1,t1,_):=I.list h1;let(i2,v2,t2,_):=I.list h2
   have:=SeqAt.RcAt.lists (A:=A) (e:=f) t1.isList t2.isList (by rw[aaM,aaM,<--v1,<--v2];show hl) () (λj g1 g2=>by
    let(x,hx,rx):=fj v1 g1;let(y,hy,ry):=fj v2 g2
    show ih j x y hx hy rx ry (by change A.units+1+n < cLine;omega))
   rw[aaM,<--v1]at this;show SeqAt.EqAt.of_refs e this
 | @len n a b xs ys h1 h2 hl=>
  intro A u v ru rv hu;cases ru;cases rv;let e:a≠b:=λe=>by subst e;cases I.gA h1 h2;show hl rfl
  let(i1,v1,t1,_):=I.list h1;let(i2,v2,t2,_):=I.list h2;show SeqAt.EqAt.of_refs e (SeqAt.RcAt.lists_lengths t1.isList t2.isList (by rw[List.size_toArray,List.size_toArray,<--v1,<--v2];simpa using hl) ())
end
def S4(K:gV)(n:Nat):R2:=λx y H Q=>∃a b c,x= .ref a/\y= .ref b/\LB K H n x y c/\Q (.bl (! c)) H
section
def QF(hu:X.A.units+n < cLine):ji X (compareOp .NotEq) (S4 X.K n):=by
 intro δ s σ H x y v u Q I rx ry h;let(a,b,c,rfl,rfl,h,q):=h;cases rx;cases ry;cases h with
 | flat h1 h2=>cases h1
 | @tup n _ _ xs ys f h1 h2 h=>
  let(i1,v1,t1,_):=I.tuple h1;let(i2,v2,t2,_):=I.tuple h2;show SeqAt.RcNeAt.tuples (e:=f) (show s.heap.IsTuple a i1.toArray from t1) (show s.heap.IsTuple b i2.toArray from t2) () (λj g1 g2=>?_) _ _ _ _ ?_
  .let(x,hx,rx):=fj v1 g1;let(y,hy,ry):=fj v2 g2;show K0 I (h j x y hx hy) rx ry (by change X.A.units+1+n < cLine;omega)
  .rw[aaM,aaM,<--v1,<--v2];show(.bl _,H,I,rfl,q)
 | @lst n _ _ xs ys f h1 h2 hl h=>
  let(i1,v1,t1,_):=I.list h1;let(i2,v2,t2,_):=I.list h2;show SeqAt.RcNeAt.lists (e:=f) t1.isList t2.isList (by rw[aaM,aaM,<--v1,<--v2];show hl) () (λj g1 g2=>?_) _ _ _ _ ?_
  .let(x,hx,rx):=fj v1 g1;let(y,hy,ry):=fj v2 g2;show K0 I (h j x y hx hy) rx ry (by change X.A.units+1+n < cLine;omega)
  .rw[aaM,<--v1];show(.bl _,H,I,rfl,q)
 | @len n _ _ xs ys h1 h2 hl=>
  let(i1,v1,t1,_):=I.list h1;let(i2,v2,t2,_):=I.list h2;show SeqAt.RcNeAt.lists_lengths t1.isList t2.isList (by rw[List.size_toArray,List.size_toArray,<--v1,<--v2];simpa using hl) () _ _ _ _ (.bl _,H,I,rfl,q)
end
def nQ(M:Ms):Dt->Option (List Dt)
 | .lst xs=>!xs
 | .fX ns=>!(ns.map .int)
 | .loc k=>match M[k]? with
  | some (.lst xs)=>!xs
  | _=>none
 | _=>none
inductive FH(M:Ms):Nat->Dt->Dt->Bool->Prop
 | flat {n:Nat} {d e:Dt} {x y:V} (h1:qm d=!x) (h2:qm e=!y):FH M n d e (sT x y)
 | tup {n:Nat} {ds es:List Dt} {f:Nat->Bool} (h:∀j d e,ds[j]? =!d->es[j]? =!e->FH M n d e (f j)):FH M (n+1) (.tup ds) (.tup es) ((List.range (min (-ds) (-es))).all f&&-ds==-es)
 | lst {n:Nat} {d e:Dt} {ds es:List Dt} {f:Nat->Bool} (h1:nQ M d=!ds) (h2:nQ M e=!es) (hl:-ds=-es) (h:∀j d e,ds[j]? =!d->es[j]? =!e->FH M n d e (f j)):FH M (n+1) d e ((List.range (-ds)).all f)
 | len {n:Nat} {d e:Dt} {ds es:List Dt} (h1:nQ M d=!ds) (h2:nQ M e=!es) (hl:-ds≠-es):FH M (n+1) d e false
def e9{K:gV}{H:Hp}{xs:List Dt}(r:Rl K G L M H)(n:Den K G L d v)(h:nQ M d=!xs):∃a vs,v= .ref a/\fQ K H a vs/\Ν K G L xs vs:=by
 cases d with
 | lst ds=>cases h;let(a,vs,rfl,e,m):=n;show(a,vs,rfl,.of (r.sub _ _ e),m)
 | fX ns=>cases h;let(a,rfl,e):=n;show(a,_,rfl,r.sub.seq e,ir)
 | loc k=>
  let(a,rfl,e):=n;let h:(match M[k]? with| some (.lst xs)=>!xs| _=>none)=!xs:=h;split at h
  .rename_i ys hm;cases h;let(_,vs,e1,m1):=r.dF k a _ e hm;show(a,vs,rfl,.of e1,m1)
  .cases h
 | _=>cases h
def Ν.back{K:gV}(h:Ν K G L ds vs)(e:vs[i]? =!v):∃d,ds[i]? =!d/\Den K G L d v:=by
 let hi:i < -ds:=by rw[-h];show(aaj.mp e).1
 let(v',e',n):=h.get (aaa hi);rw[e]at e';cases e';show(_,aaa hi,n)
def Vp{K:gV}{H:Hp}(r:Rl K G L M H){e:Dt}{b:Bool}(h:FH M n d e b):∀{v u:V},Den K G L d v->Den K G L e u->LB K H n v u b:=by
 induction h with
 | flat h1 h2=>
  intro v u n1 n2;let(rfl,f1):=iG h1 n1;let(rfl,f2):=iG h2 n2;show .flat f1 f2
 | @tup n ds es f h ih=>
  intro v u n1 n2;let(a,vs,rfl,e1,m1):=n1;let(b,us,rfl,e2,m2):=n2;rw[-m1,-m2];show .tup (.of (r.sub _ _ e1)) (.of (r.sub _ _ e2)) λj x y hx hy=>?_;let(d,hd,dn):=m1.back hx;let(e,he,en):=m2.back hy;show ih j d e hd he dn en
 | @lst n d e ds es f h1 h2 hl h ih=>
  intro v u n1 n2;let(a,vs,rfl,s1,m1):=e9 r n1 h1;let(b,us,rfl,s2,m2):=e9 r n2 h2;rw[-m1];show .lst s1 s2 (by rw[<--m1,<--m2];show hl) λj x y hx hy=>?_;let(d,hd,dn):=m1.back hx;let(e,he,en):=m2.back hy;show ih j d e hd he dn en
 | @len n d e ds es h1 h2 hl=>
  intro v u n1 n2;let(a,vs,rfl,s1,m1):=e9 r n1 h1;let(b,us,rfl,s2,m2):=e9 r n2 h2;show .len s1 s2 (by rw[<--m1,<--m2];show hl)
def PV(M:Ms)(d:Dt):Prop:=(∃ds,d= .tup ds)\/∃xs,nQ M d=!xs
def Er{K:gV}{H:Hp}(r:Rl K G L M H)(n:Den K G L d v)(h:PV M d):∃a,v= .ref a:=by
 rcases h with ⟨ds,rfl⟩| ⟨xs,h⟩
 .let(a,vs,rfl,_):=n;show(a,rfl)
 .let(a,vs,rfl,_):=e9 r n h;show(a,rfl)
def Ud(n:Nat):Dt->Dt->Ms->DQ->Prop:=λd e M q=>∃b,PV M d/\PV M e/\FH M n d e b/\q (.bl (! b)) M
def X8{K:gV}:ny K (S4 K n) (Ud n):=by intro G0 L0 H0 G L M H v1 v2 d1 d2 q e r n1 n2 ⟨b,h1,h2,h,hq⟩;let(a,rfl):=Er r n1 h1;let(a',rfl):=Er r n2 h2;show(a,a',b,rfl,rfl,Vp r h n1 n2,aR e r hq)
section
variable{a l u:Expr}{tl tu:DE}{p2:Pos}
def V4{k:Nat}(hr:bf k A)(hn:n<=64):A.units+n < cLine:=abf (Nat.add_le_add_left hn _) hr.units
def Je(n:Nat)(hr:bf k' X.A)(ja:JE X R a ta)(jb:JE X R b tb)(hn:n<=64|>2)(hm:behindInMarks .NotEq b=false|>1):JT X R (.Compare a [.NotEq] [b] pos) (kG (jq (Ud n) ta tb)):=fF (QF (V4 hr hn)) X8 ja jb hm
def Gg(xs:List V)(k:Nat):tR xs none (!(k:Int))=xs.take k:=by
 unfold tR;rw[HT.pL,HT.ym,acD,Nat.sub_zero];by_cases h:k<=-xs
 .rw[acu h]
 .rw[Nat.min_eq_right (),abS (aam _),abS ()]
def Td(te tl:DE):DE:=λρ M q x=>te ρ M (λd M1=>tl ρ M1 (λdi M2=>∃ds n,nQ M2 d=!ds/\di= .int (n:Nat)/\q (.loc (-M2)) (M2++[.lst (ds.drop n)])) x) x
def nO(he:JE X R e te)(hl:JE X R l tl):JE X R (.Subscript e (.Slice (!l) none none p2) pos) (Td te tl):=
 .of (qh vv he (kD hl) Ea) λσ H G L ρ M q x rl n h hx=>by show(G,L,ρ,M,_,x,rl,n,h,hx,λv H1 xz=>?_);let(d1,G1,L1,M1,e1,r1,n1,h1):=xz;show(G1,L1,ρ,M1,_,x,r1,n.mono e1,h1,hx.on e1,λv2 H2 xz=>?_);let(d2,G2,L2,M2,e2,r2,n2,ds,k,ed,ei,h2):=xz;subst ei;let(a,vs,rfl,sq,m):=e9 r2 (Den.mono e2.g e2.l _ _ n1) ed;let n2:v2= .int k:=n2;subst n2;show(k,rfl,a,vs,rfl,sq,λp hp=>?_);rw[Fx];show gW (e1.trans e2) r2 hp (Ν.of (sF k m.pair)) h2
end
open PySem PySem.SeqAt
def tM(prog:Program)(w:World)(A:Around)(s:Shared)(y x:Value)(b:Bool):Prop:=
 ∀(E:Value->Shared->Prop) (Q:Bool->Shared->Prop),Q b s->wpAny (model prog w) A (eqBool y x) Q E s
def EU{K:Type} [DecidableEq K]{knd:KeyKind prog w K}{es:List DictEntry}{Γ:List (K×Value)}(p:Pairs knd es Γ):∀{i:Nat} {e:DictEntry},es[i]? =!e->∃k,Γ[i]? =!(k, e.val)/\knd.is k e.key=true:=by
 induction p with
 | nil=>intro i e h;simp at h
 | @cons e0 kv es Γ h1 h2 _ ih=>
  intro i e h;cases i with
  | zero=>
   have:e0=e:=by simpa using h
   subst this;show(kv.1,by rw[h2];rfl,h1)
  | succ i=>show ih (by simpa using h)
def EG{K:Type} [DecidableEq K]{knd:KeyKind prog w K}{es:Array DictEntry}{Γ:List (K×Value)}(p:Pairs knd es.toList Γ)(k:K):
  (valueAt Γ k=none/\(es.findIdx? λe=>knd.is k e.key)=none)\/∃i e,valueAt Γ k=!e.val/\(es.findIdx? λe=>knd.is k e.key)=!i/\es[i]? =!e:=by
 let hf:(es.find? λe=>knd.is k e.key).map (·.val)=valueAt Γ k:=by rw[<-Array.find?_toList];show p.find k
 cases hi:es.findIdx? λe=>knd.is k e.key with
 | none=>
  left;show(?_,rfl);rw[<-hf];have:(es.find? λe=>knd.is k e.key)=none:=by rw[Array.find?_eq_none];rw[Array.findIdx?_eq_none_iff]at hi;intro x hx;simpa using hi x hx
  rw[this];rfl
 | some i=>
  right;rw[Array.findIdx?_eq_some_iff_getElem]at hi;let(Hm,h1,h2):=hi;show(i,es[i],?_,rfl,aci Hm);rw[<-hf];have:(es.find? λe=>knd.is k e.key)=!es[i]:=by rw[Array.find?_eq_some_iff_getElem];show(h1,i,Hm,rfl,λj hj=>by simpa using h2 j hj)
  rw[this];rfl
def nv{K:Type} [DecidableEq K]{knd:KeyKind prog w K}{id:String}{b:Addr}{Γ dD:List (K×Value)}(ha:s.heap.DictOf knd a Γ)(hb:s.heap.DictOf knd b dD)(L_:(a==sysModules)=false)(jn:(b==sysModules)=false)(hl:-Γ=-dD)
  {e:Nat->Bool} (he:∀j k v,Γ[j]? =!(k, v)->(valueAt dD k=none/\e j=false)\/∃v',valueAt dD k=!v'/\tM prog w A s v v' (e j)) {Q:Bool->Shared->Prop} (h:Q ((List.range (-Γ)).all e) s):
  wpAny (model prog w) A (Builtin.Dict.samePairs id a b) Q E s:=by
 let(o1,Eh,ep1,g1,x1,d1,k1,p1,n1):=ha;let(o2,Zx,NS,g2,x2,d2,k2,p2,n2):=hb;let sa:∀{c:Addr} {Q:Unit->Shared->Prop},(c==sysModules)=false->Q Unit.unit s->wpAny (model prog w) A (Builtin.Dict.showsAll c) Q E s:=λhc hq=>by unfold Builtin.Dict.showsAll;rw[aaE (by rw[hc];decide)];show aaw hq
 unfold Builtin.Dict.samePairs;show aaf (sa L_ (aaf (sa jn (aaf (wpAny_dictEntries g1 d1 (aaf (wpAny_dictEntries g2 d2 ?_)))))));let z1:Eh.size=-Γ:=by rw[<--p1];simp
 let z2:Zx.size=-dD:=by rw[<--p2];simp
 rw[if_neg (by rw[z1,z2,hl];simp)];show aaf (wpAny_dictEpoch g1 d1 ?_);show aaf ?_;rw[Std.Legacy.Range.forIn_eq_forIn_range'];let sz:[:Eh.size].size=Eh.size:=by simp[Std.Legacy.Range.size]
 rw[sz];show wpAny_forIn_list _ (λrest b s'=>s'=s/\b.1=none/\∃i,rest=List.range' i (Eh.size - i)/\i<=Eh.size/\((List.range i).all e=true)) _ ?_ ?_ _ _ (rfl,rfl,0,by simp,Nat.zero_le _,rfl)
 .rintro x rest b s' ⟨rfl,hb,i,hr,hi,zq⟩;let Hm:i < Eh.size:=by
   rcases Nat.lt_or_ge i Eh.size with h'| h'
   .show h'
   .rw[Nat.sub_eq_zero_of_le h']at hr;cases hr
  rw[show Eh.size - i=(Eh.size - (i+1))+1 by omega,List.range'_succ]at hr;injection hr with hx hrest
  subst hx;show aaf (wpAny_dictEntries g1 d1 ?_);rw[aci Hm];dsimp only;let(k,EV,Ls):=EU p1 (i:=x) (e:=Eh[x]) (by rw[Array.getElem?_toList,aci Hm]);let(k',La,hk4):=k1 Eh[x] (Array.getElem_mem Hm);obtain rfl:k=k':=knd.inj _ _ _ Ls La;rw[hk4];show aaf (abl (Q:=λr Sn=>Sn=s'/\r=e x) (E:=E) ?_ (fun r Sn (es,er)=>?_) λ_ _ h'=>h')
  .show wpAny_holding (aaf (wpAny_dictFind_of Ls g2 d2 k2 ?_));rcases he x k _ EV with ⟨h1,h2⟩| ⟨v',h1,h2⟩
   .rcases EG p2 k with ⟨_,q⟩| ⟨j,f,q,_⟩
    .rw[q];show aaw (rfl,h2.symm)
    .rw[h1]at q;cases q
   .rcases EG p2 k with ⟨q,_⟩| ⟨j,f,q,q1,q2⟩
    .rw[h1]at q;cases q
    .rw[q1];dsimp only;show aaf (wpAny_dictEntries g2 d2 ?_);rw[q2];dsimp only;rw[h1]at q;obtain rfl:v'=f.val:=aav q;show wpAny_holding (h2 _ _ (rfl,rfl))
  .subst es er;cases hex:e x with
   | false=>
    rw[aaG (by rfl)];show aaw (aaw ?_);have:(List.range (-Γ)).all e=false:=by rw[List.all_eq_false];show(x,abg.mpr (),by rw[hex];decide)
    rw[this]at h;show h
   | true=>
    rw[aaE @_];show aaf (wpAny_dictEpoch g1 d1 ?_);rw[if_neg (by simp)];show aaw (rfl,rfl,x+1,hrest,(),?_);rw[List.range_succ,List.all_append,zq];simp[hex]
 .rintro⟨b1,b2⟩ s' ⟨rfl,hb,i,hr,hi,zq⟩;let hb:b1=none:=hb;subst hb;have:i=Eh.size:=by have:=aba List.length hr;rw[List.length_range']at this;simp at this;omega
  subst this;rw[z1]at zq;rw[zq]at h;show aaw h
def kT{K:Type} [DecidableEq K]{knd:KeyKind prog w K}{id:String}{b:Addr}{Γ dD:List (K×Value)}(ha:s.heap.DictOf knd a Γ)(hb:s.heap.DictOf knd b dD)(L_:(a==sysModules)=false)(jn:(b==sysModules)=false)(hl:-Γ≠-dD)
  {Q:Bool->Shared->Prop} (h:Q false s):wpAny (model prog w) A (Builtin.Dict.samePairs id a b) Q E s:=by
 let(o1,Eh,ep1,g1,x1,d1,k1,p1,n1):=ha;let(o2,Zx,NS,g2,x2,d2,k2,p2,n2):=hb;let sa:∀{c:Addr} {Q:Unit->Shared->Prop},(c==sysModules)=false->Q Unit.unit s->wpAny (model prog w) A (Builtin.Dict.showsAll c) Q E s:=λhc hq=>by unfold Builtin.Dict.showsAll;rw[aaE (by rw[hc];decide)];show aaw hq
 unfold Builtin.Dict.samePairs;show aaf (sa L_ (aaf (sa jn (aaf (wpAny_dictEntries g1 d1 (aaf (wpAny_dictEntries g2 d2 ?_)))))));let z1:Eh.size=-Γ:=by rw[<--p1];simp
 let z2:Zx.size=-dD:=by rw[<--p2];simp
 rw[if_pos (by rw[z1,z2];simpa using hl)];show aaf (wpAny_rule (aaw h))
section
variable{K:Type} [DecidableEq K]{knd:KeyKind prog w K}{b:Addr}{Γ dD:List (K×Value)}
def qZ(ha:s.heap.DictOf knd a Γ)(hb:s.heap.DictOf knd b dD)(hu:A.units < cLine)(h:∀{E:Value->Shared->Prop} {Q:Bool->Shared->Prop},Q c s->wpAny (model prog w) A.in1 (Builtin.Dict.samePairs (toString "dict."++toString "__eq__") a b) Q E s)(q:Q (.bool c) s):wpAny (model prog w) A (richCompare .Eq (.ref a) (.ref b)) Q E s:=by
 show wpAny_richCompare_same_room ha.typeIs hb.typeIs F.slot_dict_eq (wpAny_call_entry F.slot_dict_eq ha.typeIs F.entry_dict_eq ?_ (F.args_dict_eq_2 _ _)) hu;change wpAny _ _ (Builtin.Dict.dictSlotArgs "__eq__" ([.ref a,.ref b],[]) >>= _) _ _ s;show aaf ?_;unfold Builtin.Dict.dictSlotArgs;show aaf (wpAny_notOrdered_dict ha.typeIs ?_);show aaf (m:=slotArgs "__eq__" 1 _) (aaw ?_);show aaw ?_;show aaf (wpAny_isInstance hb.typeIs isSubtype_dict_dict ?_);rw[aaE @_];show aaf (aaw (aaf (aaw (aaf (h ?_)))));let e:(c==true)=c:=by cases c <;> rfl
 show aaw (Value.bool (c==true),rfl,(nofun,?_));rw[e];show q
def Gx(ha:s.heap.DictOf knd a Γ)(hb:s.heap.DictOf knd b dD)(L_:(a==sysModules)=false)(jn:(b==sysModules)=false)(hu:A.units < cLine)(hl:-Γ=-dD){e:Nat->Bool}(he:∀j k v,Γ[j]? =!(k, v)->(valueAt dD k=none/\e j=false)\/∃v',valueAt dD k=!v'/\tM prog w A.in1 s v v' (e j))
   (q:Q (.bool ((List.range (-Γ)).all e)) s):wpAny (model prog w) A (richCompare .Eq (.ref a) (.ref b)) Q E s:=qZ ha hb hu (λh=>nv ha hb L_ jn hl he h) q
def tV(ha:s.heap.DictOf knd a Γ)(hb:s.heap.DictOf knd b dD)(L_:(a==sysModules)=false)(jn:(b==sysModules)=false)(hu:A.units < cLine)(hl:-Γ≠-dD)
   (q:Q (.bool false) s):wpAny (model prog w) A (richCompare .Eq (.ref a) (.ref b)) Q E s:=qZ ha hb hu (λh=>kT ha hb L_ jn hl h) q
def tM.same(v:Value):tM prog w A s v v true:=λE Q h=>SeqAt.EqAt.same v prog w E Q h
def tM.of_refs{k:Bool}(fZ:a≠b)(h:∀(E:Value->Shared->Prop) (Q:Value->Shared->Prop),Q (.bool k) s->wpAny (model prog w) A (richCompare .Eq (.ref a) (.ref b)) Q E s):tM prog w A s (.ref a) (.ref b) k:=λE Q hq=>by unfold eqBool;show wpAny_holding ?_;show wpAny_ite_split (λP5=>aaO (by have:=eq_of_beq P5;injection this) fZ) (λ_=>?_);show aaf (h E _ (wpAny_truthy_bool hq))
end
inductive wY(H:Hp):Nat->V->V->Bool->Prop
 | flat {n:Nat} {x y:V} (h1:dt x=true) (h2:dt y=true):wY H n x y (sT x y)
 | cB {n:Nat} {a b:Addr} {Γ dD:List (Key×V)} {e:Nat->Bool} (h1:Rd H a (.dK Γ)) (h2:Rd H b (.dK dD)) (hl:-Γ=-dD) (hn:∀j k v,Γ[j]? =!(k, v)->fi dD k=none->e j=false)
   (h:∀j k v v',Γ[j]? =!(k, v)->fi dD k=!v'->wY H n v v' (e j)):wY H (n+1) (.ref a) (.ref b) ((List.range (-Γ)).all e)
 | len {n:Nat} {a b:Addr} {Γ dD:List (Key×V)} (h1:Rd H a (.dK Γ)) (h2:Rd H b (.dK dD)) (hl:-Γ≠-dD):wY H (n+1) (.ref a) (.ref b) false
def zX{κ:Type} [DecidableEq κ]:∀{Γ:List (κ×V)} {j:Nat} {k:κ} {v:V},(Γ.map (·.1)).Nodup->Γ[j]? =!(k, v)->fi Γ k=!v
 | [],j,k,v,_,h=>by simp at h
 | p::r,0,k,v,_,h=>by
  have:p=(k, v):=by simpa using h
  subst this;show cM rfl
 | p::r,j+1,k,v,hn,h=>by
  let h:r[j]? =!(k, v):=by simpa using h
  rw[aa8,abq]at hn;have:¬p.1=k:=λe=>hn.1 (by rw[e];show aaH.mpr (_,aaI h,rfl));rw[cJ this];show zX hn.2 h
def BF{H:Hp}{u v:HO}(h1:Rd H a u)(h2:Rd H a v)(hu:∀o w,u≠ .tX o w)(hv:∀o w,v≠ .tX o w):u=v:=by
 rcases h1 with h1| ⟨o,h1⟩ <;> rcases h2 with h2| ⟨o',h2⟩ <;> rw[h1]at h2
 .show aav h2
 .show aaO (aav h2) (hu _ _)
 .show aaO (aav h2).symm (hv _ _)
 .have:=aav h2;injection this
def wZ{κ:Type}:∀{Γ:List (κ×V)} {vs:List (κ×Value)},KV Γ vs->∀{j:Nat} {k:κ} {u:Value},vs[j]? =!(k, u)->∃v,Γ[j]? =!(k, v)/\aj v u
 | _,_,.nil,j,k,u,h=>by simp at h
 | _,_,.cons (a:=p) (b:=q) r t,0,k,u,h=>by
  have:q=(k, u):=by simpa using h
  subst this;let e:p.1=k:=r.1;show(p.2,by change (!p)=_;rw[<-e],r.2)
 | _,_,.cons r t,j+1,k,u,h=>by let(v,e,rv):=wZ t (show _=!(k, u) by simpa using h);show(v,by simpa using e,rv)
section
variable{H:Hp}
def IX(I:Inv X δ σ H s)(h:Rd H a (.dK Γ)):(Γ.map (·.1)).Nodup:=by let(_,_,vs,r,o,es,ep,_,_,_,_,_,n):=fB I.au h;rw[r.keys];show n
def GP(I:Inv X δ σ H s){x y:V}{b:Bool}(h:wY H n x y b):x=y->b=true:=by
 induction h with
 | flat h1 h2=>intro e;subst e;show zB h1
 | @cB n a b Γ dD f h1 h2 hl hn h ih=>
  intro e;cases e;have:=BF h1 h2 (λ_ _ z=>nomatch z) (λ_ _ z=>nomatch z);cases this;show abO.mpr λj hj=>?_;let hj:=abg.mp hj;let g:Γ[j]? =!(Γ[j].1, Γ[j].2):=aaa hj;show ih j _ _ _ g (zX (IX I h1) g) rfl
 | len h1 h2 hl=>
  intro e;cases e;have:=BF h1 h2 (λ_ _ z=>nomatch z) (λ_ _ z=>nomatch z);cases this;show aaO rfl hl
def Dd{vs:List (Key×Value)}(r:KV Γ vs)(k:Key):(fi Γ k=none/\valueAt vs k=none)\/∃v u,fi Γ k=!v/\valueAt vs k=!u/\aj v u:=by
 have:=r.val k;cases h1:fi Γ k with
 | none=>
  cases h2:valueAt vs k with
  | none=>show .inl (rfl,rfl)
  | some u=>rw[h1,h2]at this;show this.elim
 | some v=>
  cases h2:valueAt vs k with
  | none=>rw[h1,h2]at this;show this.elim
  | some u=>rw[h1,h2]at this;show .inr (v,u,rfl,rfl,this)
def P7(I:Inv X δ σ H s){x y:V}(h:wY H n x y c):∀{A:Around} {u v:Value},aj x u->aj y v->A.units+n < cLine->tM X.prog X.w A s u v c:=by
 induction h with
 | flat h1 h2=>exactλru rv _ E Q q=>qf ru rv h1 h2 X.prog X.w E Q q
 | @cB n a b Γ dD f h1 h2 hl hn h ih=>
  intro A u v ru rv hu;cases ru;cases rv;by_cases e:a=b
  .have:=GP I (.cB h1 h2 hl hn h) (aba V.ref e);rw[this,e];show tM.same _
  .let(_,z1,vs,r1,d1):=fB I.au h1;let(_,z2,Iu,r2,d2):=fB I.au h2;show tM.of_refs e λE Q q=>?_;rw[-r1]at q;show Gx d1 d2 z1 z2 () (by rw[<--r1,<--r2];show hl) (λj k u hj=>?_) q;let(v,hv,rv):=wZ r1 hj;rcases Dd r2 k with ⟨q1,q2⟩| ⟨v',u',q1,q2,q3⟩
   .show .inl (q2,hn j k v hv q1)
   .show .inr (u',q2,ih j k v v' hv q1 rv q3 (by change A.units+1+n < cLine;omega))
 | @len n a b Γ dD h1 h2 hl=>
  intro A u v ru rv hu;cases ru;cases rv;let e:a≠b:=λe=>by subst e;have:=BF h1 h2 (λ_ _ z=>nomatch z) (λ_ _ z=>nomatch z);cases this;show hl rfl
  let(_,z1,vs,r1,d1):=fB I.au h1;let(_,z2,Iu,r2,d2):=fB I.au h2;show tM.of_refs e λE Q q=>tV d1 d2 z1 z2 () (by rw[<--r1,<--r2];show hl) q
end
def Ou(K:gV):List V->Hp->VK->Prop:=λxs H Q=>∃(p:Addr) (ns:List Int),xs=[.ref p]/\fQ K H p (ns.map V.int)/\ns≠[]/\∀m∈ns,(∀a∈ns,m<=a)->Q (.int m) H
def FJ(hc:X.calm=true):cj X (.builtin "min") (Ou X.K):=by
 intro δ s σ H xs us Q I r h;let(p,ns,rfl,hq,fZ,q):=h;let(u,rfl,r1):=iI r;cases r1;let(its,rv,pl,hz):=I.list hq;let(ts,rfl,rfl):=nJ rv;let e:(ts.map λp=>Value.int p.1 p.2).toArray=intItems ts.toArray:=by simp[intItems]
 let hl:=pl.isList;rw[e]at hl;let hsz:0 < ts.toArray.size:=by
  cases ts with
  | nil=>show aaO rfl fZ
  | cons a l=>simp
 show min_intList (I.ok.hd hc) hl hsz λv h' tk hv hk=>?_;let(t,rfl):=intItems_at hv;let(h1,h2):=argBest_lt (numAt ts.toArray) (ts.toArray.size - 1);show(.int _,H,I.kept hk,(t,rfl),q _ ?_ λa ha=>?_)
 .rw[numAt_eq];show getD_mem (by rw[List.length_map];simp at h1 hsz⊢;omega)
 .let(j,hj,rfl):=mem_getD ha;rw[aae]at hj;have:=h2 j (by simp;omega);rw[numAt_eq,numAt_eq]at this;rw[numAt_eq];show this
def Lg:List Dt->Ms->DQ->Prop
 | [d],M,q=>∃ns:List Int,nQ M d=!(ns.map .int)/\ns≠[]/\∀m∈ns,(∀a∈ns,m<=a)->q (.int m) M
 | _,_,_=>False
def U5{K:gV}:xU K (Ou K) Lg:=by
 intro G0 L0 H0 G L M H vs ds q e r n h;unfold Lg at h;split at h
 .rename_i d;let(v,rfl,n1):=aQ n;let(ns,hs,fZ,hq):=h;let(a,us,rfl,sq,dn):=e9 r n1 hs;rw[lQ dn]at sq;show(a,ns,rfl,sq,fZ,λm hm hle=>(.int m,G,L,M,e,r,rfl,hq m hm hle))
 .show h.elim
section
variable{a f:Expr}{tf:DE}{cn:Pos}
def RV(hm:X.mg "min"=none)(ha:JA X R [e] t)(hc:X.calm=true|>1)(he:starEach [e] X.env=(false, eval e X.env)::starEach [] X.env|>1)(dq:(backTo pos (starEach [] X.env)).any (·.1)=false|>1)(hg:Gl X "min"|>1):JE X R (.Call (.Name "min" p) [e] [] pos) (vL Lg t):=
 d9 (FJ hc) U5 hm uo ha hg @_ @_ he dq
end
section
variable{elt c:Expr}{z:Str}{px pz tp:Pos}{ti:DK}{tc:DT}{kk:Nat}
def vO{y:Str}{py mU:Pos}(hN:X.N.Nodup)(LO:X.N[i]? =!y)(hy:Loc X.env.scope y)(S:aw X scope [x] ys Χ)(hi:JK X R (.Name x px) iter ti)(ht:∀C s H fp,JT (Cx.comp X (x::ys) scope C s H fp) (λ_=>E0) c tc)(he:∀C s H fp,JE (Cx.comp X (x::ys) scope C s H fp) (λ_=>E0) elt te)(hc:X.calm=true|>1)(Jb:swapsWith (.ListComp elt [(.Name x px,iter,[c],0)] scope pos) (!(.Name y py)) mU.line X.env=pure true|>1)(hs:(∀x,foldedSetIterable iter X.env x=pure x)|>3)(hf:X.fn y=true\/X.env.scope.names.lookup y=some .local:=by first| exact .inl rfl| exact .inr rfl| assumption):JS X R (.Assign [.Name y py] (.ListComp elt [(.Name x px,iter,[c],0)] scope pos) mU) (J2 i (qG 1 ti (gN 0) tc te Χ)):=jcS false S hi (fk S (i:=0) rfl) aJ (eR (Nat.zero_lt_succ 0)) (λC s H fp=>wy (ht C s H fp)) he hc hs hN LO hy Jb hf λ_ _ _ _ h=>h
end
def FZ(M:Ms):Dt->Option (List Dt)
 | .lst xs=>!xs
 | .loc k=>match M[k]? with
  | some (.lst xs)=>!xs
  | _=>none
 | _=>none
def vF{K:gV}{H:Hp}{xs:List Dt}(r:Rl K G L M H)(n:Den K G L d v)(h:FZ M d=!xs):∃a vs,v= .ref a/\H a=!(.lst vs)/\Ν K G L xs vs:=by
 cases d with
 | lst ds=>cases h;let(a,vs,rfl,e,m):=n;show(a,vs,rfl,r.sub _ _ e,m)
 | loc k=>
  let(a,rfl,e):=n;let h:(match M[k]? with| some (.lst xs)=>!xs| _=>none)=!xs:=h;split at h
  .rename_i ys hm;cases h;let(_,vs,e1,m1):=r.dF k a _ e hm;show(a,vs,rfl,e1,m1)
  .cases h
 | _=>cases h
def OD:Dt->Dt->Ms->DQ->Prop:=λd e M q=>∃xs ys,FZ M d=!xs/\FZ M e=!ys/\-xs+-ys<=sizeLine/\q (.lst (xs++ys)) M
def T9{K:gV}:ny K Q3 OD:=by intro G0 L0 H0 G L M H v1 v2 d1 d2 q e r n1 n2 ⟨xs,ys,h1,h2,hz,hq⟩;let(p1,w1,rfl,e1,m1):=vF r n1 h1;let(p2,w2,rfl,e2,m2):=vF r n2 h2;show(p1,p2,w1,w2,rfl,rfl,e1,e2,by rw[<--m1,<--m2];show hz,λp hp=>?_);show kj e r hp (pV r hp (m1.app m2)) hq
section
variable{a:Expr}
def k4(ja:JE X R a ta)(jb:JE X R b tb):JE X R (.BinOp a .Add b pos) (jq OD ta tb):=vB K3 T9 ja jb
end
section
variable{l:Expr}{tl:DE}{p2:Pos}
def Iw(te tl:DE):DE:=λρ M q x=>te ρ M (λd M1=>tl ρ M1 (λdi M2=>∃ds n,nQ M2 d=!ds/\di= .int (n:Nat)/\q (.loc (-M2)) (M2++[.lst (ds.take n)])) x) x
def wK(he:JE X R e te)(hl:JE X R l tl):JE X R (.Subscript e (.Slice none (!l) none p2) pos) (Iw te tl):=
 .of (qh vv he Ea (kD hl)) λσ H G L ρ M q x rl n h hx=>by show(G,L,ρ,M,_,x,rl,n,h,hx,λv H1 xz=>?_);let(d1,G1,L1,M1,e1,r1,n1,h1):=xz;show(G1,L1,ρ,M1,_,x,r1,n.mono e1,h1,hx.on e1,λv2 H2 xz=>?_);let(d2,G2,L2,M2,e2,r2,n2,ds,k,ed,ei,h2):=xz;subst ei;let(a,vs,rfl,sq,m):=e9 r2 (Den.mono e2.g e2.l _ _ n1) ed;let n2:v2= .int k:=n2;subst n2;show(k,rfl,a,vs,rfl,sq,λp hp=>?_);rw[Gg];show gW (e1.trans e2) r2 hp (Ν.of (rV k m.pair)) h2
end
def Ak(g:Dt->En->(En->Prop)->Prop)(te:DE)(ρ0:En)(ok:Ms->Prop):List Dt->List Dt->Ms->(List Dt->Ms->Prop)->Prop
 | [],Θ,M,k=>ok M/\k Θ M
 | x::xs,Θ,M,k=>ok M/\g x ρ0 λρ'=>te ρ' M (λd M2=>Ak g te ρ0 ok xs (Θ++[d]) M2 k) jh
def CG(n:Nat)(ti:DK)(g:Dt->En->(En->Prop)->Prop)(te:DE)(Χ:List Nat):DE:=λρ M q x=>ti ρ M (λxs ok M1=>-xs<=sizeLine/\Ak g te (List.replicate n none++nW Χ ρ) ok xs [] M1 (λys M2=>q (.lst ys) M2)) x
def Dj{g:Dt->En->(En->Prop)->Prop}{te:DE}{cs:En}{ok:Ms->Prop}:∀xs,Ak g te cs ok xs=gE g qj te cs ok xs
 | []=>rfl
 | x::xs=>funext λΘ=>funext λM=>funext λk=>by change(ok M/\g x cs λρ'=>te ρ' M (λd M1=>Ak g te cs ok xs (Θ++[d]) M1 k) jh)=(ok M/\g x cs λρ'=>te ρ' M (λd M1=>gE g qj te cs ok xs (Θ++[d]) M1 k) jh);rw[Dj xs]
section
variable{elt:Expr}{y:Str}{px py tp:Pos}{ti:DK}{kk:Nat}
def EA(S:aw X scope [x,y] ys Χ)(hi:JK X R (.Tuple [.Name x px,.Name y py] kk tp) iter ti)(he:∀C s H fp,JE (Cx.comp X (x::y::ys) scope C s H fp) (λ_=>E0) elt te)(hc:X.calm=true|>1)(hs:(∀x,foldedSetIterable iter X.env x=pure x)|>3):JE X R (.ListComp elt [(.Tuple [.Name x px,.Name y py] kk tp,iter,[],0)] scope pos) (CG 2 ti (g2 0 1) te Χ):=WW false S hi (NN hc S) oj (EW (Nat.zero_lt_succ 1) (Nat.lt_succ_self 1)) (λ_ _ _ _=>pJ) he hc hs λρ M q x h=>by unfold CG at h;simp only[Dj]at h;show h
end
def nR{g:Dt->En->(En->Prop)->Prop}{te:DE}{ρ0:En}{ok:Ms->Prop}{M:Ms}{k:List Dt->Ms->Prop}(ho:ok M)(f:Dt->Dt):∀(xs Θ:List Dt),(∀x∈xs,∀q:DQ,q (f x) M->g x ρ0 λρ'=>te ρ' M q jh)->k (Θ++xs.map f) M->Ak g te ρ0 ok xs Θ M k
 | [],Θ,_,h=>(ho,by simpa using h)
 | x::xs,Θ,ht,h=>(ho,ht x List.mem_cons_self _ (nR ho f xs _ (λy hy=>ht y (List.mem_cons_of_mem _ hy)) (by simpa using h)))
def E3(xs:List V)(a b:Nat):tR xs (!(a:Int)) (!(b:Int))=(xs.drop a).take (b - a):=by
 unfold tR;rw[HT.pL,HT.pL];by_cases ha:a<=-xs
 .rw[acu ha];by_cases hb:b<=-xs
  .rw[acu hb]
  .rw[Nat.min_eq_right (),abS (by rw[abM];omega),abS (by rw[abM];omega)]
 .let h1:min a (-xs)=-xs:=Nat.min_eq_right ();rw[h1,List.drop_of_length_le (aam (-xs)),List.drop_of_length_le (show -xs<=a by omega)];simp
section
variable{l u a:Expr}{tl tu:DE}{p2:Pos}
def UU(te tl tu:DE):DE:=λρ M q x=>te ρ M (λd M1=>tl ρ M1 (λdi M2=>∃n:Nat,di= .int n/\tu ρ M2 (λdu M3=>∃ds m,nQ M3 d=!ds/\du= .int (m:Nat)/\q (.loc (-M3)) (M3++[.lst ((ds.drop n).take (m - n))])) x) x) x
def uL(he:JE X R e te)(hl:JE X R l tl)(hu:JE X R u tu):JE X R (.Subscript e (.Slice (!l) (!u) none p2) pos) (UU te tl tu):=
 .of (qh vv he (kD hl) (kD hu)) λσ H G L ρ M q x rl n h hx=>by show(G,L,ρ,M,_,x,rl,n,h,hx,λv H1 xz=>?_);let(d1,G1,L1,M1,e1,r1,n1,h1):=xz;show(G1,L1,ρ,M1,_,x,r1,n.mono e1,h1,hx.on e1,λv2 H2 xz=>?_);let(d2,G2,L2,M2,e2,r2,n2,k,ek,h2):=xz;subst ek;let n2:v2= .int k:=n2;subst n2;show(k,rfl,G2,L2,ρ,M2,_,x,r2,(n.mono e1).mono e2,h2,(hx.on e1).on e2,λv3 H3 xz=>?_);let(d3,G3,L3,M3,e3,r3,n3,ds,m,ed,em,h3):=xz;subst em;let G7:=e2.trans e3;let(a,vs,rfl,sq,dn):=e9 r3 (Den.mono G7.g G7.l _ _ n1) ed;let n3:v3= .int m:=n3;subst n3;show(m,rfl,a,vs,rfl,sq,λp hp=>?_);rw[E3];show gW (e1.trans G7) r3 hp (Ν.of (rV (m - k) (sF k dn.pair))) h3
def Om:Dt->Dt->Ms->DQ->Prop:=λd e M q=>∃xs k,FZ M d=!xs/\e= .int k/\ - (2 ^ 63)<=k/\k < 2 ^ 63/\-xs * k.toNat<=sizeLine/\q (.loc (-M)) (M++[.lst (List.replicate k.toNat xs).flatten])
def Ut{K:gV}:ny K P_ Om:=by intro G0 L0 H0 G L M H v1 v2 d1 d2 q e r n1 n2 ⟨xs,k,h1,h2,a,b,hz,hq⟩;let(p1,w1,rfl,e1,m1):=vF r n1 h1;subst h2;let n2:v2= .int k:=n2;subst n2;show(p1,k,w1,rfl,rfl,e1,a,b,by rw[<--m1];show hz,λp hp=>?_);show gW e r hp (Ν.of (wa m1.pair k.toNat)) hq
def AH(ja:JE X R a ta)(jb:JE X R b tb):JE X R (.BinOp a .Mult b pos) (jq Om ta tb):=vB KN Ut ja jb
end
inductive Sm(K:gV)(x C:Addr)(H0:Hp)(G:Hp)(L:List Addr)(M:Ms)(H:Hp)(fs:List (Str×Dt)):Prop
 | mk (r:Rl K G L M H) (gx:G x=none) (lx:x∉L) (od:Option Addr) (hx:H x=!(xN x C od))
   (hd:(fs=[]/\od=none)\/∃dx vs,od=!dx/\dx≠x/\H0 dx=none/\G dx=none/\dx∉L/\H dx=!(.xd ((fs.map (·.1)).zip vs))/\Ν K G L (fs.map (·.2)) vs)
section
variable{K:gV}{x C:Addr}{H0 G' H H':Hp}{M':Ms}{fs:List (Str×Dt)}
def Ex.off(e:Ex G L H G' L' H'){b:Addr}{o:HO}(h:H b=!o)(g:G b=none)(l:b∉L):H' b=!o/\G' b=none/\b∉L':=
 (e.out b o h l,e.fr b g (by rw[h];simp),λz=>(e.new b z).elim l λq=>by rw[h]at q;cases q)
def Sm.on(i:Sm K x C H0 G L M H fs)(e:Ex G L H G' L' H')(r':Rl K G' L' M' H'):Sm K x C H0 G' L' M' H' fs:=by
 let(r,gx,lx,od,hx,hd):=i;let(a1,a2,a3):=e.off hx gx lx;show(r',a2,a3,od,a1,?_);rcases hd with hd| ⟨dx,vs,d1,d2,d3,d4,d5,d6,d7⟩
 .show .inl hd
 .let(b1,b2,b3):=e.off d6 d4 d5;show .inr (dx,vs,d1,d2,d3,b2,b3,b1,Ν.mono e.g e.l _ _ d7)
def Rl.mD{o:HO}(r:Rl K G L M H)(g:G a=none)(l:a∉L):Rl K G L M (upd H a o) where
 sub:=λb u e=>by rw[υ (λz=>by rw[z,g]at e;cases e)];show r.sub b u e
 len:=r.len
 nd:=r.nd
 dF:=λk b m h1 h2=>by let(q1,q2):=r.dF k b m h1 h2;show(q1,q2.mono (.refl _) (.refl _) (υ λz=>l (z▸aaI h1)))
def Ex.mD{G0 Z5:Hp}{o:HO}(e:Ex G0 L0 Z5 G L H)(h:Z5 a=none):Ex G0 L0 Z5 G L (upd H a o) where
 g:=e.g
 l:=e.l
 fr:=e.fr
 out:=λb u h1 h2=>by rw[υ (λz=>by rw[z,h]at h1;cases h1)];show e.out b u h1 h2
 new:=e.new
 uY:=λb h1=>by
  by_cases z:b=a
  .rw[z,Ζ];simp
  .rw[υ z];show e.uY b h1
end
abbrev DI:=En->Ms->List (Str×Dt)->(En->Ms->List (Str×Dt)->Prop)->Prop
inductive Uj(K:gV)(x C:Addr)(G0:Hp)(L0:List Addr)(H0:Hp)(t:DI)(De:oW)(σ:St)(H:Hp):Prop
 | mk (G:Hp) (L:List Addr) (ρ:En) (M:Ms) (fs:List (Str×Dt)) (k:En->Ms->List (Str×Dt)->Prop) (e:Ex G0 L0 H0 G L H) (h0:H0 x=none) (i:Sm K x C H0 G L M H fs) (n:gP K G L ρ σ) (hs:σ[0]? =!(!(.ref x))) (h:t ρ M fs k)
   (hQ:∀σ' H' G' L' ρ' M' Ho,Ex G0 L0 H0 G' L' H'->Sm K x C H0 G' L' M' H' Ho->gP K G' L' ρ' σ'->σ'[0]? =!(!(.ref x))->k ρ' M' Ho->De.nx σ' H')
def VE(X:Cx)(C:Addr)(st:Stmt)(t:DI):Prop:=∀x G0 L0 H0,PS X st (Uj X.K x C G0 L0 H0 t)
def Vw(X:Cx)(C:Addr)(st:List Stmt)(t:DI):Prop:=∀x G0 L0 H0,xT X st (Uj X.K x C G0 L0 H0 t)
def XX(t u:DI):DI:=λρ M fs k=>t ρ M fs λρ' M' Ho=>u ρ' M' Ho k
def SA(te:DE):DI:=λρ M fs k=>te ρ M (λ_ M'=>k ρ M' fs) jh
def WX(f:Str)(te:DE):DI:=λρ M fs k=>f∉fs.map (·.1)/\-fs < 900/\te ρ M (λd M'=>k ρ M' (fs++[(f, d)])) jh
section
variable{C D fI:Addr}{Bn newId bz:String}{dn sn f:Str}{p1 pos':Pos}{e2 value:Expr}{rest:List Stmt}{t u:DI}
def PS.imp{t u:TS}(h:PS X st t)(hi:∀D σ H,u D σ H->t D σ H):PS X st u:=λδ s σ H D I q=>h δ s σ H D I (hi D σ H q)
def xT.imp{st:List Stmt}{t u:TS}(h:xT X st t)(hi:∀D σ H,u D σ H->t D σ H):xT X st u:=λδ s σ H D I q=>h δ s σ H D I (hi D σ H q)
def Rz(h:VE X C st t):Vw X C [st] t:=λx G0 L0 H0=>C6 (h x G0 L0 H0)
def M7(h:VE X C st t)(h2:Vw X C rest u):Vw X C (st::rest) (XX t u):=λx G0 L0 H0=>(yd (h x G0 L0 H0) (h2 x G0 L0 H0)).imp λDe σ H (G,L,ρ,M,fs,k,e,h0,i,n,hs,ht,hQ)=>
 (G,L,ρ,M,fs,_,e,h0,i,n,hs,ht,λσ' H' G' L' ρ' M' Ho e' i' n' LC hk=>(G',L',ρ',M',Ho,k,e',h0,i',n',LC,hk,hQ))
def Ny{pl:Sem Bool}(F:ExcBaseFacts Bn newId bz iZ)(c:fR X.K C iZ newId fI)(d:C5 X.K D bz)(hm:X.mg dn=!(.ref D))(he:JE X (λ_=>E0) e2 te)(hN:X.N[0]? =!sn|>1)(hv:Vz X.env.scope sn:=by first| exact Or.inl rfl| exact Or.inr (Or.inl rfl)| exact Or.inr (Or.inr rfl))(hg:Gl X dn|>1)
  (hd:(sn==("__debug__":Str))=false|>2) (xS:(sn==("__classdict__":Str))=false|>2) (jn:(dn==("__debug__":Str))=false|>2)
  (h1:starEach [.Name sn p1,e2] X.env=(false, eval (.Name sn p1) X.env)::starEach [e2] X.env|>1) (h2:starEach [e2] X.env=(false, eval e2 X.env)::starEach [] X.env|>1) (dq:(backTo pos (starEach [e2] X.env)).any (·.1)=false|>1)
  (ht:eval (.Call (.Attribute (.Name dn p) "__init__" apos) [.Name sn p1,e2] [] pos) X.env=(do
   let  ov<-eval (.Name dn p) X.env
   standAt apos.atName
   let (f, first)<-holding [ov] (getMethod ov "__init__" pl)
   callWith pos f first (backTo pos (starEach [.Name sn p1,e2] X.env)) (backToKw pos (keywordEach [] X.env)))|>1)
  (Jb:swapsWith (.Call (.Attribute (.Name dn p) "__init__" apos) [.Name sn p1,e2] [] pos) none pos'.line X.env=pure false|>1):
  VE X C (.Expr (.Call (.Attribute (.Name dn p) "__init__" apos) [.Name sn p1,e2] [] pos) pos') (SA te):=λx G0 L0 H0=>
 (D9 (Ih (pl:=pl) F c d hg hm (vm (Cw hN hv hd xS) (vm he JG h2) h1) jn h1 dq ht) Jb).imp fun De σ H (G,L,ρ,M,fs,k,e,h0,i,n,hs,h,hQ)=>by show(_,hs,G,L,ρ,M,_,jh,(let (r,_,_,_,_,_):=i;r),n,h,sO,λv H1 xz=>?_);let(d1,G1,L1,M1,e1,r1,n1,hk):=xz;let i1:=i.on e1 r1;let(_,_,_,od,hx,_):=id i1;show(x,v,od,rfl,hx,hQ σ H1 G1 L1 ρ M1 fs (e.trans e1) i1 (n.mono e1) hs hk)
def Q1(c:fR X.K C iZ newId fI)(nt:HZ X.K C f)(hv:JE X (λ_=>E0) value te)(hex:X.ex=[]|>1)(hN:X.N[0]? =!sn|>1)(hvi:Vz X.env.scope sn:=by first| exact Or.inl rfl| exact Or.inr (Or.inl rfl)| exact Or.inr (Or.inr rfl))
  (hd:(sn==("__debug__":Str))=false|>2) (xS:(sn==("__classdict__":Str))=false|>2) (hs:swapsWith value (!(.Attribute (.Name sn p1) f pos')) pos.line X.env=pure false|>1):
  VE X C (.Assign [.Attribute (.Name sn p1) f pos'] value pos) (WX f te):=λx G0 L0 H0=>
 (LX hex c nt (Cw hN hvi hd xS) hv hs).imp λDe σ H (G,L,ρ,M,fs,k,e,h0,i,n,OK,(hf,hl,h),hQ)=>by
  show(G,L,ρ,M,_,jh,(let (r,_,_,_,_,_):=i;r),n,h,sO,λy H1 xz=>?_);let(d1,G1,L1,M1,e1,r1,n1,hk):=xz;let i1:=i.on e1 r1;let Nn:=e.trans e1;let(_,gx,lx,od,hx,Xp):=id i1;show(_,OK,x,rfl,?_);rcases Xp with ⟨rfl,rfl⟩| ⟨dx,vs,rfl,d2,d3,d4,d5,d6,d7⟩
  .show .inl (hx,λdx Jv fZ=>?_);let gd:G1 dx=none:=r1.sub.free Jv;let ld:dx∉L1:=r1.G8 Jv;let h0d:H0 dx=none:=by
    cases q:H0 dx with
    | none=>rfl
    | some o=>show absurd Jv (Nn.uY dx (by rw[q];simp))
   show hQ σ _ G1 L1 ρ M1 [(f, d1)] ((Nn.mD h0).mD h0d) ((r1.mD gx lx).mD gd ld,gx,lx,!dx,by rw[υ (Ne.symm fZ),Ζ],.inr (dx,[y],rfl,fZ,h0d,gd,ld,by rw[Ζ];rfl,(y,[],rfl,n1,rfl))) (n.mono e1) OK hk
  .let Ue:-(fs.map (·.1))=-vs:=by rw[<--d7,aae,aae]
   show .inr (dx,_,hx,d2,d6,by rw[abi,<-Ue,acd,aae];omega,?_);rw[ql Ue hf];show hQ σ _ G1 L1 ρ M1 (fs++[(f, d1)]) (Nn.mD d3) (r1.mD d4 d5,gx,lx,!dx,by rw[υ (Ne.symm d2)];show hx,.inr (dx,vs++[y],rfl,d2,d3,d4,d5,by rw[Ζ,abb];rfl,by rw[abb];show d7.app (y,[],rfl,n1,rfl))) (n.mono e1) OK hk
end
abbrev Sa:=List Dt->Ms->(List (Str×Dt)->Ms->Prop)->Prop
inductive XM(K:gV)(C:Addr)(T:Sa)(vs:List V)(H:Hp)(Q:VK)(E:XK):Prop
 | mk (x:Addr) (us:List V) (H0:Hp) (G:Hp) (L:List Addr) (ds:List Dt) (M:Ms) (q:List (Str×Dt)->Ms->Prop) (ev:vs= .ref x::us) (eH:H=upd H0 x (xN x C none)) (h0:H0 x=none) (r:Rl K G L M H0) (n:Ν K G L ds us) (h:T ds M q)
   (hQ:∀H' G' L' M' fs,Ex G L H0 G' L' H'->Sm K x C H0 G' L' M' H' fs->q fs M'->Q .aV H')
def Ks(N:List Str)(ds:List Dt):En:=(iT N (.aV::ds)).set 0 none
section
variable{K:gV}{base:Heap}
def gP.forget{K:gV}{ρ:En}(h:gP K G L ρ σ)(i:Nat):gP K G L (ρ.set i none) σ:=by
 show(by rw[aa7];show h.len,λj d' e=>?_);by_cases hj:i=j
 .subst hj;let hl:i < -ρ:=by have:=(aaj.mp e).1;rwa[aa7]at this
  rw[aaV hl]at e;cases e
 .rw[abd hj]at e;show h.dF j d' e
def dh.okI{qual:Str}{N:List Str}{k:Nat}{C:Addr}{T:Sa}(F:dh K x qual st f fd)(S:Β N ps (ν st))(len:∀ds M q,T ds M q->-ds+1=-ps)
  (mG:∀(aP:Value) (A:Around) (outer:List Env) (s:Shared) (H:Hp) (E:XK),bf k (A.deeper (envOfC qual (ν st) s.heap.objs.size f aP))->
   ∃t,Vw (jN (bC P w) P w K mg base N qual (ν st) f aP A outer s H E) C (de st) t/\∀ds M q,T ds M q->t (Ks N ds) M [] (λ_ M' fs=>q fs M')):
  ae P w K mg base (bC P w) (k+1) f fd ps (XM K C T):=by
 show F.okX S (λvs H Q E h=>?_) (λaP A outer s H vs Q E hr h=>?_)
 .let(x,us,H0,G,L,ds,M,q,rfl,rfl,h0,r,n,hT,hQ):=h;rw[aaz,<--n];show len _ _ _ hT
 .let(t,j,ht):=mG aP A outer s H E hr;let(x,us,H0,G,L,ds,M,q,rfl,rfl,h0,r,n,hT,hQ):=h;let gx:G x=none:=r.sub.free h0;let lx:x∉L:=r.G8 h0;show(_,j x G L H0,G,L,Ks N ds,M,[],_,(Ex.refl G L H0).mD h0,h0,(r.mD gx lx,gx,lx,none,Ζ,.inl (rfl,rfl)),?_,rfl,ht ds M q hT,λσ' H' G' L' ρ' M' Ho e i _ _ hk=>hQ H' G' L' M' Ho e i hk);have:=(qA (N:=N) (K:=K) (G:=G) (L:=L) (ds:=.ref x::ds) (vs:=.ref x::us) (_,_,rfl,rfl,n)).forget 0;show this
end
structure Xe(P:Program)(w:World)(K:gV)(mg:Str->Option Value)(base:Heap)(k:Nat)(x:Str)(C:Addr)(iZ:List Value)(newId:String)(ps:List Str)(T:Sa)(f:Addr)(fd:FuncData):Prop where
 ok:ae P w K mg base (bC P w) k f fd ps (XM K C T)
 b:fK K fd ps []
 c:fR K C iZ newId f
 m:mg x=!(.ref C)
def ET(C:Addr)(T:Sa)(t:DA):DS:=λDn ρ M=>t ρ M (λds M1=>-ds<=sizeLine/\T ds M1 (λfs M2=>fs≠[]/\Dn.x ρ C fs M2)) Dn.x
section
variable{K:gV}{G' H H':Hp}{x dx:Addr}{o:HO}
def Ex.leave(e:Ex G L H G' L' H')(hx:H x=none)(hd:H dx=none)(gd:G' dx=none)(fZ:dx≠x):Ex G L H (upd G' dx o) L' (Lz x H') where
 g:=λb u q=>by rw[υ (λz=>by have:=e.g _ _ q;rw[z,gd]at this;cases this)];show e.g b u q
 l:=e.l
 fr:=λb h1 h2=>by rw[υ (λz=>h2 (by rw[z];show hd))];show e.fr b h1 h2
 out:=λb u h1 h2=>by rw[dR (λz=>by rw[z,hx]at h1;cases h1)];show e.out b u h1 h2
 new:=e.new
 uY:=λb h=>by rw[dR (λz=>h (by rw[z];show hx))];show e.uY b h
def Rl.leave(r:Rl K G L M H)(gx:G x=none)(lx:x∉L)(gd:G dx=none)(ld:dx∉L)(hd:H dx=!o)(fZ:dx≠x):Rl K (upd G dx o) L M (Lz x H) where
 sub:=λb u e=>by
  by_cases hb:b=dx
  .subst hb;rw[Ζ]at e;cases e;rw[dR fZ];show hd
  .rw[υ hb]at e;rw[dR (λz=>by rw[z,gx]at e;cases e)];show r.sub b u e
 len:=r.len
 nd:=r.nd
 dF:=λk a m h1 h2=>by let(q1,q2):=r.dF k a m h1 h2;let ha:=aaI h1;show(by rw[υ (show a≠dx fromλz=>ld (z▸ha))];show q1,q2.mono (λb u e=>by rw[υ (λz=>by rw[z,gd]at e;cases e)];show e) (.refl _) (dR λz=>lx (z▸ha)))
end
section
variable{C fI:Addr}{Bn newId bz:String}{np cn:Pos}{k:Nat}{T:Sa}
def FQ(D:Xe X.prog X.w X.K X.mg X.base k x C iZ newId ps T fI fd)(hr:bf k' X.A)(hR:C4 X R)(F:ExcBaseFacts Bn newId bz iZ)(ha:JA X R (e::es) t)(hk:k+1<=k'|>2)(hc:X.calm=true|>1)(hex:X.ex=[]|>1)(hg:Gl X x|>1)
  (jn:(x==("__debug__":Str))=false|>2) (he:starEach (e::es) X.env=(false, eval e X.env)::starEach es X.env|>1) (dq:(backTo cn (starEach es X.env)).any (·.1)=false|>1):
  JS X R (.Raise (!(.Call (.Name x np) (e::es) [] cn)) none pos) (ET C T t):=.of (G9 hR hc hex F D.c D.ok (hr.mono hk) D.b hg D.m ha jn he dq) λσ H G L ρ M Dn rl n h hx=>by
 show(G,L,ρ,M,_,_,rl,n,h,hx,fun vs H1 (ds,G1,L1,M1,e1,r1,n1,hz,h1)=>(by rw[<--n1];show hz,λxa hxa=>?_));show(xa,vs,H1,G1,L1,ds,M1,_,rfl,rfl,hxa,r1,n1,h1,λH' G' L' M' fs ex ist xz=>?_);let(hf,hq):=xz;let(r',gx,lx,od,Wc,hd):=ist;show(rfl,od,Wc,?_);rcases hd with ⟨z,_⟩| ⟨dx,ws,rfl,d2,d3,d4,d5,d6,d7⟩
 .show aaO z hf
 .let eF:Ex G1 L1 H1 (upd G' dx (.xd ((fs.map (·.1)).zip ws))) L' (Lz xa H'):=ex.leave hxa d3 d4 d2;let rF:=r'.leave gx lx d4 d5 d6 d2;show hx σ ρ C fs M' _ L' _ (!dx) hq (e1.trans eF) rF (n.mono (e1.trans eF)) (.inr (hf,dx,ws,rfl,Ζ,Ν.mono (λb u e=>by rw[υ (λz=>by rw[z,d4]at e;cases e)];show e) (.refl _) _ _ d7))
end
def R0(x:Addr)(d:Dt):Option Dt->Option Dt
 | some (.ref a)=>if a=x then !d else !(.ref a)
 | o=>o
def DB(i:Nat)(x:Addr)(d:Dt)(Dn:gf):gf:=(λρ M=>Dn.nx ((ρ.set i none).map (R0 x d)) M,λ_ _=>False,λ_ _=>False,λ_ _=>False,jh)
def OI(K:gV)(D:Addr)(i:Nat)(tb:DS)(ts:Addr->DS):DS:=λDn ρ M=>
 tb {Dn with x:=λρ' C fs M'=>PySem.W.subIn K (.ref C) (.ref D)=!true/\∀x,ts x (DB i x (.exc C (fs.map (·.1)) (fs.map (·.2))) Dn) (ρ'.set i (!(.ref x))) M'} ρ M
def gP.R0{K:gV}{ρ:En}{x:Addr}(h:gP K G L ρ σ)(hd:Den K G L d (.ref x)):gP K G L (ρ.map (R0 x d)) σ:=by
 show(by rw[aae];show h.len,λi d' e=>?_);rw[aan]at e;let(o,ho,e'):=aby.mp e;clear e;cases o with
 | none=>cases e'
 | some d0=>
  by_cases hr:∃a,d0= .ref a
  .let(a,rfl):=hr;let(v,h1,h2):=h.dF i _ ho;cases h2;let e2:(if a=x then !d else !(.ref a))=!d':=e';by_cases z:a=x
   .rw[aaG z]at e2;cases e2;rw[z]at h1;show(_,h1,hd)
   .rw[aaE z]at e2;cases e2;show(_,h1,rfl)
  .let e2:(!d0)=!d':=by
    cases d0 with
    | ref a=>show aaO (a,rfl) hr
    | _=>show e'
   cases e2;show h.dF i _ ho
section
variable{D:Addr}{dn n:Str}{b₀:Stmt}{cx:List Stmt}{Aw np:Pos}{tb:DS}{ts:Addr->DS}{nU:List Value}{h9:String}
def Ni(hN:X.N.Nodup)(hi:X.N[i]? =!n)(d:gL X.K D nU h9)(IY:nU.contains (.type "BaseException")=true)(hm:X.mg dn=!(.ref D))
  (hb:∀(R:St->XK) (δ:List (Addr×Obj)),zp (Cx.Q7 X R δ) R body tb)
  (hs:∀(x:Addr) (pn:List (Addr×Obj)),zp (Cx.cx X x pn) (λ_=>E0) (b₀::cx) (ts x)) (hk:X.env.scope.names.lookup n=some .local|>1) (hc:X.calm=true|>1) (hex:X.ex=[]|>1) (uQ:X.stack=X.env::X.outer|>1) (hf:X.env.frame=!X.env.locals|>1) (hg:Gl X dn|>1) (jn:(dn==("__debug__":Str))=false|>2):
  JS X R (.Try body [.ExceptHandler (!(.Name dn np)) (!n) (b₀::cx) Aw] [] [] pos) (OI X.K D i tb ts):=
 .of (Mb (tb:=λR=>LY X.K R tb) (ts:=λx=>LY X.K (λ_=>E0) (ts x)) hN hi hk hc hex uQ hf d IY hg hm hb hs jn) λσ H G L ρ M Dn rl n h hx=>by
  show⟨λσ' cls od H'=>∃ρ' C fs M' G' L',cls= .ref C/\(PySem.W.subIn X.K (.ref C) (.ref D)=!true/\∀x,ts x (DB i x (.exc C (fs.map (·.1)) (fs.map (·.2))) Dn) (ρ'.set i (!(.ref x))) M')/\Ex G L H G' L' H'/\Rl X.K G' L' M' H'/\gP X.K G' L' ρ' σ'/\Qt X.K G' L' H' fs od,?_,?_⟩
  .show(G,L,ρ,M,_,rl,n,h,λσ' ρ' C fs M' G' L' H' od hq e r n y=>(ρ',C,fs,M',G',L',rfl,hq,e,r,n,y),(λ_ _ f=>f,λ_ _ f=>f,λ_ _ f=>f,λ_ _ f=>f))
  .rintro σ' cls od H' ⟨ρ',C,fs,M',G',L',rfl,⟨XZ,Xu⟩,e,r,n',y⟩;show(C,rfl,XZ,λx XE=>?_);show(G',L',_,M',_,r,n'.set i (d:=.ref x) rfl,Xu x,sO,(λσ1 H1 xz Si=>?_,λ_ _ (_,_,_,_,_,_,_,f)=>f.elim,λ_ _ (_,_,_,_,_,_,_,f)=>f.elim,λ_ _ (_,_,_,_,_,_,_,f)=>f.elim));let(ρ1,G1,L1,M1,e1,r1,n1,h1):=xz;let e2:=r1.QL (o:=xO x C od) Si;let r2:=r1.KH (o:=xO x C od) Si;let eg:=e1.trans e2;show(_,_,L1,M1,e.trans eg,r2,((n1.unset i).mono e2).R0 ?_,h1);rcases y with ⟨rfl,rfl⟩| ⟨fZ,dx,vs,rfl,q1,q2⟩
   .show(x,none,[],rfl,Ζ,.inl (rfl,rfl),rfl,rfl)
   .show(x,!dx,vs,rfl,Ζ,.inr (dx,rfl,eg.g _ _ q1),by rw[aae,aae],Ν.mono eg.g eg.l _ _ q2)
end
def dXA(K:gV)(f:Str)(te:DE):DE:=λρ M q x=>te ρ M (λd M1=>∃C ns ds v,d= .exc C ns ds/\oZ K C/\XAt K C f/\(ns.zip ds).lookup f=!v/\q v M1) x
def UI(K:gV):List Dt->Ms->DQ->Prop:=λds M q=>(∃C ns xs c t' b,ds=[.exc C ns xs,c]/\oZ K C/\M_ c=!t'/\PySem.W.kitOne K (.ref C) t'=!b/\q (.bl b) M)\/HF K ds M q
section
variable{e2:Expr}{f:Str}
def Bk(K:gV)(he:JE X R e te)(hb:attributeBase e f X.env (eval e X.env)=eval e X.env|>1)(hK:X.K=K|>1):JE X R (.Attribute e f pos) (dXA K f te):=by
 subst hK;show .of (Nx he hb) λσ H G L ρ M q x rl en h hx=>by
  show(G,L,ρ,M,_,x,rl,en,h,hx,λv H1 xz=>?_);let(d1,G1,L1,M1,e1,r1,n1,C,ns,ds,y,ed,ty,xa,hl,h1):=xz;subst ed;let(a,od,vs,rfl,g1,g2,g3,dn):=n1;let(u,hu,du):=rf dn hl;rcases g2 with ⟨rfl,rfl⟩| ⟨dx,rfl,g4⟩
  .cases hl
  .show(a,C,dx,_,u,rfl,r1.sub _ _ g1,r1.sub _ _ g4,ty,xa,hu,y,G1,L1,M1,e1,r1,du,h1)
def Fs:cj X (.builtin "isinstance") (λxs H Q=>P6 X.K xs H Q\/∃x c t t' b,xs=[x,c]/\iV X.K H x t/\x4 c=!t'/\PySem.W.kitOne X.K t t'=!b/\Q (.bl b) H):=by
 intro δ s σ H xs us Q I r h;rcases h with h| h
 .show IJ δ s σ H xs us Q I r h
 .show jZ δ s σ H xs us Q I r h
def Y'{K:gV}:xU K (λxs H Q=>P6 K xs H Q\/∃x c t t' b,xs=[x,c]/\iV K H x t/\x4 c=!t'/\PySem.W.kitOne K t t'=!b/\Q (.bl b) H) (UI K):=by
 intro G0 L0 H0 G L M H vs ds q e r n h;rcases h with ⟨C,ns,xs,c,t',b,ed,ty,hc,hk,hq⟩| h
 .subst ed;let(v,u,rfl,n1,n2):=eD n;let(a,od,ws,rfl,g1,g2,g3,dn):=n1;show .inl (a,C,od,u,t',b,rfl,r.sub _ _ g1,λdx hd=>?_,ty,xm n2 hc,hk,aR e r hq);subst hd;rcases g2 with ⟨_,z⟩| ⟨dx',z,g4⟩
  .cases z
  .cases z;show(_,r.sub _ _ g4)
 .show .inr (Of G0 L0 H0 G L M H vs ds q e r n h)
def iH(K:gV)(hm:X.mg "isinstance"=none)(ha:JA X R [e,e2] t)(he:starEach [e,e2] X.env=(false, eval e X.env)::starEach [e2] X.env|>1)(dq:(backTo pos (starEach [e2] X.env)).any (·.1)=false|>1)(hg:Gl X "isinstance"|>1)(hK:X.K=K|>1):JE X R (.Call (.Name "isinstance" p) [e,e2] [] pos) (vL (UI K) t):=by subst hK;show d9 Fs Y' hm eS ha hg @_ @_ he dq
end
def Es(ks:List Key)(k:Key):Bool:=ks.any λc=>decide (c=k)
def nE{k:Key}:∀{ks:List Key} {vs:List V},-ks=-vs->(fi (ks.zip vs) k).isSome=Es ks k
 | [],[],_=>rfl
 | c::ks,v::vs,h=>by
  let h:-ks=-vs:=by simpa using h
  rw[abx];by_cases e:c=k
  .rw[cM e];subst e;simp[Es]
  .rw[cJ e,nE h];unfold Es;rw[ab7,aaB e,acv]
section
variable{i a:Expr}{ti:DE}
def qF:JE X R (.Dict [] [] pos) (λ_ M q _=>q (.loc (-M)) (M++[.cB [] []])):=
 .of Ku λσ H G L ρ M q x rl n h hx=>by intro p hp;show(.loc (-M),G,L++[p],_,rl.Wh hp,rl.MR (m:=.cB [] []) hp ([],Ζ,rfl,rfl),(p,rfl,by rw[<-rl.len,List.getElem?_append_right (Nat.le_refl _)];simp),h)
def UR:Dt->Dt->Ms->DQ->Prop:=λdi d M q=>∃k ks ds key,d= .loc k/\M[k]? =!(.cB ks ds)/\z_ di=!key/\q (.bl (Es ks key)) M
def RS(hu:X.A.units+1 < cLine):ji X (compareOp .In) (λy x H Q=>∃a o,x=V.ref a/\xG H a y o/\Q (.bl o.isSome) H):=by intro δ s σ H x y u v Q I rx ry ⟨a,o,ex,g,q⟩;subst ex;obtain rfl:v=Value.ref a:=ry;show aab hu I g rx λs3 I3=>(.bl o.isSome,H,I3,rfl,q)
def aad{K:gV}:ny K (λy x H Q=>∃a o,x=V.ref a/\xG H a y o/\Q (.bl o.isSome) H) UR:=by intro G0 L0 H0 G L M H v1 v2 d1 d2 q e r n1 n2 ⟨k,ks,ds,key,ed,hm,hk,h⟩;subst ed;let(a,rfl,EV):=n2;let(_,vs,hH,hl,dn):=r.dF k a _ EV hm;show(a,_,rfl,.inl (_,key,.inl hH,kf hk n1,rfl),?_);let QX:-ks=-vs:=hl.trans (-dn);rw[nE QX];show aR e r h
def TF(hr:bf k' X.A)(ja:JE X R a ta)(jb:JE X R b tb)(hm:behindInMarks .In b=false|>1):JE X R (.Compare a [.In] [b] pos) (jq UR ta tb):=zW (RS (EF hr)) aad ja jb hm
end
def jI(ks:List Key)(k:Key):List Key:=if Es ks k=true then ks else ks++[k]
def jf{α:Type}(k:Key)(v:α):List Key->List α->List α
 | c::ks,x::xs=>(if c=k then v else x)::jf k v ks xs
 | _,_=>[]
def g7{α:Type}(ks:List Key)(k:Key)(xs:List α)(v:α):List α:=if Es ks k=true then jf k v ks xs else xs++[v]
def uK{α:Type}{k:Key}{v:α}:∀{ks:List Key} {xs:List α},-ks=-xs->-(jf k v ks xs)=-ks
 | [],[],_=>rfl
 | _::ks,_::xs,h=>by
  let h:-ks=-xs:=by simpa using h
  change(jf k v ks xs).length+1=-ks+1;rw[uK h]
def uT{k:Key}{v:V}:∀{ks:List Key} {vs:List V},-ks=-vs->(ks.zip vs).map (λkv=>if kv.1=k then (kv.1, v) else kv)=ks.zip (jf k v ks vs)
 | [],[],_=>rfl
 | c::ks,x::vs,h=>by
  let h:-ks=-vs:=by simpa using h
  rw[abx,aa8,uT h];change _=(c, if c=k then v else x)::ks.zip (jf k v ks vs)
  congr 1
  change(if c=k then (c, v) else (c, x))=_;split <;> rfl
def ud{K:gV}{G:Hp}{L:List Addr}{k:Key}{d:Dt}{v:V}(n:Den K G L d v):∀{ks:List Key} {ds:List Dt} {vs:List V},Ν K G L ds vs->-ks=-ds->Ν K G L (jf k d ks ds) (jf k v ks vs)
 | [],[],_,h,_=>by cases h;rfl
 | c::ks,x::ds,_,(y,vs,e,n0,ns),hl=>by
  subst e;let hl:-ks=-ds:=by simpa using hl
  show(_,_,rfl,?_,ud n ns hl);change Den K G L (if c=k then d else x) (if c=k then v else y);split
  .show n
  .show n0
def QS{k:Key}(h:-ks=-vs):iJ (ks.zip vs) k v=(jI ks k).zip (g7 ks k vs v):=by
 unfold iJ jI g7;rw[mv,nE h];split
 .show uT h
 .rw[List.zip_append h];rfl
def lB(to ti tv:DE):DS:=λDn ρ M=>tv ρ M (λy M1=>to ρ M1 (λd M2=>ti ρ M2 (λdi M3=>∃k ks ds key,d= .loc k/\M3[k]? =!(.cB ks ds)/\z_ di=!key/\-ks < 1000/\Dn.nx ρ (M3.set k (.cB (jI ks key) (g7 ks key ds y)))) Dn.x) Dn.x) Dn.x
section
variable{i value:Expr}{ti tv:DE}{pos':Pos}
def fV(hr:bf k' X.A)(ho:JE X R o to)(hi:JE X R i ti)(hv:JE X R value tv)(hs:swapsWith value (!(.Subscript o i pos')) pos.line X.env=pure false|>1):JS X R (.Assign [.Subscript o i pos'] value pos) (lB to ti tv):=
 .of (NJ (EF hr) ho hi hv hs) λσ H G L ρ M Dn rl n h hx=>by
  show(G,L,ρ,M,_,_,rl,n,h,hx,λv H1 xz=>?_);let(dv,G1,L1,M1,e1,r1,n1,h1):=xz;show(G1,L1,ρ,M1,_,_,r1,n.mono e1,h1,hx.on e1,λov H2 xz=>?_);let(d,G2,L2,M2,e2,r2,n2,h2):=xz;show(G2,L2,ρ,M2,_,_,r2,(n.mono e1).mono e2,h2,(hx.on e1).on e2,λiv H3 xz=>?_);let(di,G3,L3,M3,e3,r3,n3,k,ks,ds,key,ed,hm,hk,hlen,h3):=xz;subst ed;let(a,rfl,Dz):=n2;let La:=e3.l.get Dz;let(_,vs,hH,hl,dn):=r3.dF k a _ La hm;let G7:=e2.trans e3;let Wj:=Den.mono G7.g G7.l _ _ n1;let QX:-ks=-vs:=hl.trans (-dn);obtain rfl:iv=kV key:=kf hk n3;let z:-(ks.zip vs) < sizeLine:=by rw[abi];show abf (Nat.min_le_left _ _) (Nat.lt_trans hlen @_)
  show(a,_,rfl,KP.k hH z,ρ,G3,L3,_,((e1.trans e2).trans e3).trans (r3.Hs La),r3.setM (m:=.cB (jI ks key) (g7 ks key ds dv)) La (g7 ks key vs v,by rw[Ζ,QS QX],?_,?_),(((n.mono e1).mono e2).mono e3).mono (r3.Hs (o:=.own a) La),h3)
  .unfold jI g7;split
   .rw[uK hl]
   .rw[aaC,aaC,hl];rfl
  .unfold g7;split
   .show ud Wj dn hl
   .show dn.app (_,_,rfl,Wj,rfl)
end
inductive EI(M:Ms):Nat->Dt->Dt->Bool->Prop
 | flat {n:Nat} {d e:Dt} {x y:V} (h1:qm d=!x) (h2:qm e=!y):EI M n d e (sT x y)
 | cB {n k1 k2:Nat} {ks Gk:List Key} {ds JB:List Dt} {f:Nat->Bool} (h1:M[k1]? =!(.cB ks ds)) (h2:M[k2]? =!(.cB Gk JB)) (hl:-ks=-Gk) (hn:∀j k,ks[j]? =!k->aA Gk JB k=none->f j=false)
   (h:∀j k d d',ks[j]? =!k->ds[j]? =!d->aA Gk JB k=!d'->EI M n d d' (f j)):EI M (n+1) (.loc k1) (.loc k2) ((List.range (-ks)).all f)
 | len {n k1 k2:Nat} {ks Gk:List Key} {ds JB:List Dt} (h1:M[k1]? =!(.cB ks ds)) (h2:M[k2]? =!(.cB Gk JB)) (hl:-ks≠-Gk):EI M (n+1) (.loc k1) (.loc k2) false
def uF{K:gV}{G:Hp}{L:List Addr}:∀{ds:List Dt} {vs:List V},Ν K G L ds vs->∀{j:Nat} {v:V},vs[j]? =!v->∃d,ds[j]? =!d/\Den K G L d v
 | [],vs,h,j,v,e=>by cases h;simp at e
 | d::ds,_,(y,r,e0,n0,ns),0,v,e=>by
  subst e0;have:y=v:=by simpa using e
  subst this;show(d,rfl,n0)
 | d::ds,_,(y,r,e0,n0,ns),j+1,v,e=>by subst e0;let(d',h1,h2):=uF ns (show r[j]? =!v by simpa using e);show(d',by simpa using h1,h2)
def xK{K:gV}{G:Hp}{L:List Addr}{k:Key}:∀{ks:List Key} {ds:List Dt} {vs:List V},Ν K G L ds vs->-ks=-ds->(aA ks ds k=none/\fi (ks.zip vs) k=none)\/∃d v,aA ks ds k=!d/\fi (ks.zip vs) k=!v/\Den K G L d v
 | [],ds,vs,_,_=>.inl (rfl,rfl)
 | c::ks,[],vs,_,hl=>by simp at hl
 | c::ks,d::ds,_,(y,r,e0,n0,ns),hl=>by
  subst e0;let hl:-ks=-ds:=by simpa using hl
  let e1:aA (c::ks) (d::ds) k=if c=k then !d else aA ks ds k:=by
   unfold aA;rw[abx,List.find?_cons];by_cases e:c=k
   .rw[if_pos e];simp[e]
   .rw[if_neg e];simp[e]
  rw[abx,e1];by_cases e:c=k
  .rw[aaG e,cM e];show .inr (d,y,rfl,rfl,n0)
  .rw[aaE e,cJ e];show xK ns hl
def SJ{K:gV}{H:Hp}(r:Rl K G L M H){e:Dt}(h:EI M n d e c):∀{x y:V},Den K G L d x->Den K G L e y->wY H n x y c:=by
 induction h with
 | flat h1 h2=>
  intro x y n1 n2;let(e1,f1):=iG h1 n1;let(e2,f2):=iG h2 n2;subst e1 e2;show .flat f1 f2
 | @cB n k1 k2 ks Gk ds JB f h1 h2 hl hn h ih=>
  intro x y n1 n2;let(a,rfl,a1):=n1;let(b,rfl,b1):=n2;let(_,vs,hH,hz,dn):=r.dF k1 a _ a1 h1;let(_,Iu,Q6,Oo,LD):=r.dF k2 b _ b1 h2;let l1:-(ks.zip vs)=-ks:=by rw[abi,<--dn,hz,acd]
  let l2:-(Gk.zip Iu)=-Gk:=by rw[abi,<--LD,Oo,acd]
  have:=wY.cB (H:=H) (n:=n) (e:=f) (.inl hH) (.inl Q6) (by rw[l1,l2];show hl) (λj k v hj hv=>by
   let(g1,g2):=abK.mp hj;rcases xK (k:=k) LD Oo with ⟨q1,_⟩| ⟨d',v',_,q2,_⟩
   .show hn j k g1 q1
   .rw[hv]at q2;cases q2) (λj k v v' hj hv=>by
   let(g1,g2):=abK.mp hj;let(d0,g3,g4):=uF dn g2;rcases xK (k:=k) LD Oo with ⟨_,q1⟩| ⟨d',v2,q1,q2,q3⟩
   .rw[hv]at q1;cases q1
   .rw[hv]at q2;obtain rfl:v'=v2:=aav q2
    show ih j k d0 d' g1 g3 q1 g4 q3)
  rwa[l1]at this
 | @len n k1 k2 ks Gk ds JB h1 h2 hl=>
  intro x y n1 n2;let(a,rfl,a1):=n1;let(b,rfl,b1):=n2;let(_,vs,hH,hz,dn):=r.dF k1 a _ a1 h1;let(_,Iu,Q6,Oo,LD):=r.dF k2 b _ b1 h2;let l1:-(ks.zip vs)=-ks:=by rw[abi,<--dn,hz,acd]
  let l2:-(Gk.zip Iu)=-Gk:=by rw[abi,<--LD,Oo,acd]
  show .len (.inl hH) (.inl Q6) (by rw[l1,l2];show hl)
section
variable{i f a v1 v2:Expr}{ti tx t1 t2:DE}{cn:Pos}
def Eu:Dt->Dt->Ms->DQ->Prop:=λdi d M q=>∃k ks ds key,d= .loc k/\M[k]? =!(.cB ks ds)/\z_ di=!key/\q (.bl (! Es ks key)) M
def GW(hu:X.A.units+1 < cLine):ji X (compareOp .NotIn) (λy x H Q=>∃a o,x=V.ref a/\xG H a y o/\Q (.bl (! o.isSome)) H):=by intro δ s σ H x y u v Q I rx ry ⟨a,o,ex,g,q⟩;subst ex;obtain rfl:v=Value.ref a:=ry;show MP hu I g rx λs3 I3=>(.bl (! o.isSome),H,I3,rfl,q)
def NB{K:gV}:ny K (λy x H Q=>∃a o,x=V.ref a/\xG H a y o/\Q (.bl (! o.isSome)) H) Eu:=by intro G0 L0 H0 G L M H v1 v2 d1 d2 q e r n1 n2 ⟨k,ks,ds,key,ed,hm,hk,h⟩;subst ed;let(a,rfl,EV):=n2;let(_,vs,hH,hl,dn):=r.dF k a _ EV hm;show(a,_,rfl,.inl (_,key,.inl hH,kf hk n1,rfl),?_);let QX:-ks=-vs:=hl.trans (-dn);rw[nE QX];show aR e r h
def uu(hr:bf k' X.A)(ja:JE X R a ta)(jb:JE X R b tb)(hm:behindInMarks .NotIn b=false|>1):JT X R (.Compare a [.NotIn] [b] pos) (kG (jq Eu ta tb)):=fF (GW (EF hr)) NB ja jb hm
def vK:cj X (.type "dict") (λxs H Q=>∃a Γ,xs=[V.ref a]/\Rd H a (.dK Γ)/\∀p,H p=none->Q (.ref p) (upd H p (.dK Γ))):=by
 intro δ s σ H xs us Q I r ⟨a,Γ,ex,e,q⟩;subst ex;cases r with
 | cons r1 r2=>
  cases r2;cases r1;show HY I e λp s' hp I'=>(.ref p,_,I',rfl,q p hp)
def Ja:List Dt->Ms->DQ->Prop
 | [d],M,q=>∃k ks ds,d= .loc k/\M[k]? =!(.cB ks ds)/\q (.loc (-M)) (M++[.cB ks ds])
 | _,_,_=>False
def T3{K:gV}:xU K (λxs H Q=>∃a Γ,xs=[V.ref a]/\Rd H a (.dK Γ)/\∀p,H p=none->Q (.ref p) (upd H p (.dK Γ))) Ja:=by
 intro G0 L0 H0 G L M H vs ds q e r n h;unfold Ja at h;split at h
 .rename_i d;let(v,rfl,n1):=aQ n;let(k,ks,ds,ed,hm,h):=h;subst ed;let(a,rfl,hk):=n1;let(_,vs,hH,hl,dn):=r.dF k a _ hk hm;show(a,_,rfl,.inl hH,λp hp=>?_);show(.loc (-M),G,L++[p],_,e.trans (r.Wh hp),r.MR (m:=.cB ks ds) hp (vs,Ζ,hl,Ν.mono (.refl _) ([p],rfl) _ _ dn),(p,rfl,by rw[<-r.len,List.getElem?_append_right (Nat.le_refl _)];simp),h)
 .show h.elim
def sM:bootBuiltins "dict"=!(.type "dict"):=by decide+kernel
def Jq(hm:X.mg "dict"=none)(ha:JA X R [e] t)(hg:Gl X "dict"|>1)(he:starEach [e] X.env=(false, eval e X.env)::starEach [] X.env|>1)(dq:(backTo pos (starEach [] X.env)).any (·.1)=false|>1):JE X R (.Call (.Name "dict" p) [e] [] pos) (vL Ja t):=
 mT vK T3 hm sM ha hg @_ @_ he dq
end
section
variable{f v1 v2:Expr}{tx t1 t2:DE}{cn:Pos}
def EB{K:gV}{G1:Hp}{L1:List Addr}{H1:Hp}{H:Hp}{p:Addr}{q:DQ}(e:Ex G1 L1 H1 G L H)(r:Rl K G L M H)(Hl:H1 p=none)(hg:G p=none)(hl:p∉L)(h:H p=!(.dK (ks.zip vs)))(hk:-ks=-ds)(n:Ν K G L ds vs)(k:q (.loc (-M)) (M++[.cB ks ds])):Fin K G1 L1 H1 q (.ref p) H:=by
 show(.loc (-M),G,L++[p],M++[.cB ks ds],(e.g,e.l.trans ([p],rfl),e.fr,e.out,λb hb=>?_,e.uY),(r.sub,by rw[List.length_append,List.length_append,r.len];rfl,List.nodup_append.mpr (r.nd,by simp,λa ha b hb=>?_),λk a m h1 h2=>?_),(p,rfl,by rw[<-r.len,List.getElem?_append_right (Nat.le_refl _)];simp),k)
 .rcases aa3.mp hb with z| z
  .show e.new b z
  .let e:b=p:=by simpa using z
   right;rw[e];show Hl
 .let e:b=p:=by simpa using hb
  rw[e];exactλz=>hl (z▸ha)
 .by_cases sU:k < -L
  .rw[aaF sU]at h1;rw[aaF (by rw[<-r.len];show sU)]at h2;let(q1,q2):=r.dF k a m h1 h2;show(q1,q2.mono (.refl _) ([p],rfl) rfl)
  .let e:k=-L:=by have:=(aaj.mp h1).1;rw[aaC]at this;simp at this;omega
   rw[e,aat (aam _)]at h1;rw[e,r.len,aat (aam _)]at h2;simp at h1 h2;subst h1 h2;show(hg,vs,h,hk,Ν.mono (.refl _) ([p],rfl) _ _ n)
def p9{z1 z2:Str}{c1 c2:Nat}{p1 p2:Pos}(hv1:JE X R v1 t1)(Wt:JE X R v2 t2)(fZ:z1≠z2|>2):
  JE X R (.Dict [!(.Constant (.str z1) c1 p1),!(.Constant (.str z2) c2 p2)] [v1,v2] pos) (λρ M q x=>t1 ρ M (λd1 M1=>t2 ρ M1 (λd2 M2=>q (.loc (-M2)) (M2++[.cB [Sum.inr z1,Sum.inr z2] [d1,d2]])) x) x):=
 .of (DW (qL pcs hv1 (qL pcs Wt DN)) rfl rfl (by simp) (by change 2<=15;decide)) λσ H G L ρ M q x rl n h hx=>by
  intro p hp;let gn:G p=none:=rl.sub.free hp;let ln:p∉L:=rl.G8 hp;let e0:Ex G L H G L (upd H p (.dK [])):=(.refl _,.refl _,λ_ h _=>h,λb u h1 _=>by rw[υ (λz=>by rw[z,hp]at h1;cases h1)];show h1,λ_ h=>.inl h,λb h=>by rw[υ (λz=>h (by rw[z];show hp))];show h)
  let r0:Rl X.K G L M (upd H p (.dK [])):=(λb u e=>by rw[υ (λz=>by rw[z,gn]at e;cases e)];show rl.sub b u e,rl.len,rl.nd,λi a m h1 h2=>by
   let(q1,q2):=rl.dF i a m h1 h2
   show(q1,q2.mono (.refl _) (.refl _) (υ λz=>q2.there (by rw[z];show hp))))
  show(G,L,ρ,M,_,x,r0,n,h,hx.on e0,λu1 H1 xz=>?_);let(d1,G1,L1,M1,e1,r1,n1,h1):=xz;let Hl:H1 p=!(.dK []):=e1.out _ _ Ζ ln;let g1:G1 p=none:=e1.fr _ gn (by rw[Ζ];simp);let l1:p∉L1:=λz=>(e1.new _ z).elim ln λq=>by rw[Ζ]at q;cases q
  show(G1,L1,ρ,M1,_,x,r1,n.mono (e0.trans e1),h1,hx.on (e0.trans e1),λu2 H2 xz=>?_);let(d2,G2,L2,M2,e2,r2,n2,h2):=xz;let Ux:H2 p=!(.dK []):=e2.out _ _ Hl l1;let g2:G2 p=none:=e2.fr _ g1 (by rw[Hl];simp);let l2:p∉L2:=λz=>(e2.new _ z).elim l1 λq=>by rw[Hl]at q;cases q
  show(Ux,[(Sum.inr z1, u1),(Sum.inr z2, u2)],rfl,by change 2<=15;decide,?_);rw[oz _ [] (λ_ _=>rfl) (by simp[fZ]),List.nil_append];let Sb:=(e0.trans e1).trans e2;let Zh:∀{b:Addr} {w:HO},G2 b=!w->b≠p:=λe z=>by rw[z,g2]at e;cases e
  show EB (G:=G2) (L:=L2) (M:=M2) (ks:=[Sum.inr z1,Sum.inr z2]) (ds:=[d1,d2]) (vs:=[u1,u2]) (Sb.g,Sb.l,Sb.fr,λb w h1 h2=>?_,Sb.new,λb h=>?_) (λb w e=>?_,r2.len,r2.nd,λi a m h1 h2=>?_) hp g2 l2 Ζ rfl (_,_,rfl,Den.mono e2.g e2.l _ _ n1,_,_,rfl,n2,rfl) h2
  .rw[υ (λz=>by rw[z,hp]at h1;cases h1)];show Sb.out b w h1 h2
  .by_cases hb:b=p
   .rw[hb,Ζ];simp
   .rw[υ hb];show Sb.uY b h
  .rw[υ (Zh e)];show r2.sub b w e
  .let(q1,q2):=r2.dF i a m h1 h2;show(q1,q2.mono (.refl _) (.refl _) (υ λz=>l2 (by rw[<-z];show aaI h1)))
end
def QB:Dt->Bool
 | .aV=>true
 | _=>false
def Df{K:gV}(n:Den K G L d v):decide (v= .aV)=QB d:=by
 cases d with
 | aV=>cases n;rfl
 | bl b=>cases n;rfl
 | int i=>cases n;rfl
 | str x=>cases n;rfl
 | tup ds=>let(a,vs,rfl,_):=n;rfl
 | lst ds=>let(a,vs,rfl,_):=n;rfl
 | obj C ns ds=>let(a,dx,vs,rfl,_):=n;rfl
 | loc k=>let(a,rfl,_):=n;rfl
 | ref a=>cases n;rfl
 | ty m=>cases n;rfl
 | fX ns=>let(a,rfl,_):=n;rfl
 | kt ds=>let(a,vs,rfl,_):=n;rfl
 | exc C ns ds=>let(a,od,vs,rfl,_):=n;rfl
 | Sh x C od ns ds=>let(vs,rfl,_):=n;rfl
def SN:Dt->Dt->Ms->DQ->Prop:=λd e M q=>e= .aV/\q (.bl (QB d)) M
def Oq:Dt->Dt->Ms->DQ->Prop:=λd e M q=>e= .aV/\q (.bl (! QB d)) M
def Yr{K:gV}:ny K (λx y H Q=>y= .aV/\Q (.bl (decide (x= .aV))) H) SN:=by intro G0 L0 H0 G L M H v1 v2 d1 d2 q e r n1 n2 ⟨e2,h⟩;subst e2;show(n2,?_);rw[Df n1];show aR e r h
def Ul{K:gV}:ny K (λx y H Q=>y= .aV/\Q (.bl (! decide (x= .aV))) H) Oq:=by intro G0 L0 H0 G L M H v1 v2 d1 d2 q e r n1 n2 ⟨e2,h⟩;subst e2;show(n2,?_);rw[Df n1];show aR e r h
section
variable{a:Expr}
def Q5(ja:JE X R a ta)(jb:JE X R b tb):JT X R (.Compare a [.Is] [b] pos) (kG (jq SN ta tb)):=fF Km Yr ja jb (fG _)
def NF(ja:JE X R a ta)(jb:JE X R b tb):JT X R (.Compare a [.IsNot] [b] pos) (kG (jq Oq ta tb)):=fF NK Ul ja jb (fG _)
end
def iy{α:Type}(is:List Nat)(xs:List α):List α:=is.filterMap λi=>xs[i]?
def Bm{α β:Type}{F:α->β->Prop}:∀{xs:List α} {ys:List β},Paired F xs ys->∀{i:Nat} {x:α},xs[i]? =!x->∃y,ys[i]? =!y/\F x y
 | _,_,.nil,i,x,h=>by simp at h
 | _,_,.cons r t,0,x,h=>by obtain rfl:=aav h;show(_,rfl,r)
 | _,_,.cons r t,i+1,x,h=>by let(y,e,f):=Bm t (show _=!x by simpa using h);show(y,by simpa using e,f)
def qw{α β:Type}{F:α->β->Prop}{xs:List α}{ys:List β}(p:Paired F xs ys):∀is:List Nat,Paired F (iy is xs) (iy is ys)
 | []=>.nil
 | i::is=>by
  let ih:=qw p is;unfold iy at ih⊢;rw[aco,aco];cases hx:xs[i]? with
  | none=>
   have:ys[i]? =none:=by rw[List.getElem?_eq_none_iff]at hx⊢;rw[<-Paired.length p];show hx
   rw[this];show ih
  | some x=>
   let(y,hy,r):=Bm p hx;rw[hy];show .cons r ih
def GK{a b:Nat}(its:List Value)(hb:0 < b)(ha:a<=-its):slicePick its.toArray (!(a:Int)) none (!(b:Int))=(iy (sliceRange a (-its) b) its).toArray:=by
 let hs:sliceBounds (!(a:Int)) none (!(b:Int)) (-its)=((a:Int), (-its:Int),(b:Int)):=by
  unfold sliceBounds;let h1:(b:Int) > 0:=()
  let h2:¬(a:Int) < 0:=()
  simp only[Option.getD_some,h1,if_true,h2,if_false];show Prod.ext ?_ rfl;change max (0:Int) (min (a:Int) (-its:Int))=a;omega
 unfold slicePick;rw[aaM,hs]
 congr 1
 unfold iy
 congr 1
 funext i
 simp
section
variable{l k:Expr}{te tl tk:TE}{p2:Pos}
def UO(K:gV)(a b:Nat)(te tl tk:TE):TE:=λσ H Q=>te σ H λx H1=>tl σ H1 λy H2=>∃i:Int,y= .int i/\(!i)=!(a:Int)/\tk σ H2 λz H3=>∃j:Int,z= .int j/\(!j)=!(b:Int)/\∃c xs,x= .ref c/\fQ K H3 c xs/\a<=-xs/\-(sliceRange a (-xs) b)<=-xs/\∀p,H3 p=none->Q (.ref p) (upd H3 p (.lst (iy (sliceRange a (-xs) b) xs)))
def Ip{α:Type}{xs:List α}:∀is:List Nat,-(iy is xs)<=-is:=λis=>List.length_filterMap_le _ _
def L9{a b:Nat}(hb:0 < b)(he:PE X e te)(hl:PE X l tl)(hk:PE X k tk):PE X (.Subscript e (.Slice (!l) none (!k) p2) pos) (UO X.K a b te tl tk):=by intro δ s σ H Q I h;show Subscript_ (a_ (he δ s σ H _ I h) λv s1 xz=>?_);let(x,H1,I1,r1,q1):=xz;show wpAny_Slice (a_ (kD hl δ s1 σ H1 (λo H2=>o=!(a:Int)/\tk σ H2 λz H3=>∃j:Int,z= .int j/\(!j)=!(b:Int)/\∃c xs,x= .ref c/\fQ X.K H3 c xs/\a<=-xs/\-(sliceRange a (-xs) b)<=-xs/\∀p,H3 p=none->Q (.ref p) (upd H3 p (.lst (iy (sliceRange a (-xs) b) xs)))) I1 q1) λvl s2 xz=>?_);let(o1,H2,I2,pl,el,q2):=xz;rw[evalPart_none];show aaw ?_;show a_ (kD hk δ s2 σ H2 (λo H3=>o=!(b:Int)/\∃c xs,x= .ref c/\fQ X.K H3 c xs/\a<=-xs/\-(sliceRange a (-xs) b)<=-xs/\∀p,H3 p=none->Q (.ref p) (upd H3 p (.lst (iy (sliceRange a (-xs) b) xs)))) I2 q2) λvs s3 xz=>?_;let(o,H3,I3,ps,eo,c,xs,ex,hx,ha,hn,q):=xz;subst el eo ex;cases r1;let I4:Inv X δ σ H3 {s3 with heap:=s3.heap.push {cls:=.type "slice",data:=.fields #[vl,.none,vs]}}:=I3.kept (t':=s3.toks) λb ob q=>aah _ q;let(its,r,ht,hz):=I4.list hx;let hlen:=-r;change wpAny (model X.prog X.w) X.A (subscriptTail e (.Slice (!l) none (!k) p2) (.ref c) (.ref s3.heap.objs.size)) (EP X δ σ Q) X.xe {s3 with heap:=s3.heap.push {cls:=.type "slice",data:=.fields #[vl,.none,vs]}};show tail_any (ops:=[.ref c,.ref s3.heap.objs.size]) ht.isList.typeIs slot_list_getitem.lookup ?_ (by with_unfolding_all rfl);show wpAny_getItem_list_slice ht.isList (Heap.IsSliceOf.new ..) pl .none ps (λz=>by injection z with z;omega) ?_ (by rw[aaM] <;> omega);rw[GK its hb (),<-hlen];show(.ref _,_,I4.laid (t':=s3.toks) (o:=.lst (iy (sliceRange a (-xs) b) xs)) (λb ob q=>aah _ q) (aam _) ?_,rfl,q _ (I4.au.fresh (aam _)));show(aaJ (Ip _) (aaJ hn hz),_,0,qw r _,aaS _ rfl)
end
section
variable{l k a:Expr}{tl tk:DE}{p2 cn:Pos}
def N7(a b:Nat)(te tl tk:DE):DE:=λρ M q x=>te ρ M (λd M1=>tl ρ M1 (λdi M2=>di= .int a/\tk ρ M2 (λdk M3=>∃ds,nQ M3 d=!ds/\dk= .int b/\a<=-ds/\-(sliceRange a (-ds) b)<=-ds/\q (.loc (-M3)) (M3++[.lst (iy (sliceRange a (-ds) b) ds)])) x) x) x
def QE{a b:Nat}(he:JE X R e te)(hl:JE X R l tl)(hk:JE X R k tk)(hb:0 < b|>2):JE X R (.Subscript e (.Slice (!l) none (!k) p2) pos) (N7 a b te tl tk):=
 .of (L9 hb he hl hk) λσ H G L ρ M q x rl n h hx=>by show(G,L,ρ,M,_,x,rl,n,h,hx,λv H1 xz=>?_);let(d1,G1,L1,M1,e1,r1,n1,h1):=xz;show(G1,L1,ρ,M1,_,x,r1,n.mono e1,h1,hx.on e1,λv2 H2 xz=>?_);let(d2,G2,L2,M2,e2,r2,n2,ei,h2):=xz;subst ei;let n2:v2= .int a:=n2;subst n2;show(_,rfl,rfl,G2,L2,ρ,M2,_,x,r2,(n.mono e1).mono e2,h2,(hx.on e1).on e2,λv3 H3 xz=>?_);let(d3,G3,L3,M3,e3,r3,n3,ds,ed,ek,ha,hn,h3):=xz;subst ek;let n3:v3= .int b:=n3;subst n3;let G7:=e2.trans e3;let(c,vs,rfl,sq,m):=e9 r3 (Den.mono G7.g G7.l _ _ n1) ed;let hl:=-m;show(_,rfl,rfl,c,vs,rfl,sq,by rw[<-hl];show ha,by rw[<-hl];show hn,λp hp=>?_);rw[<-hl];show gW (e1.trans G7) r3 hp (Ν.of (qw m.pair _)) h3
end
def IT(P:Program)(w:World)(a:Addr)(Γ:List (Key×V))(ep:Nat)(h:Heap):Prop:=-Γ<=sizeLine/\(a==sysModules)=false/\∃vs,KV Γ vs/\h.DictAt (bF P w) a vs ep
def vR(P:Program)(w:World)(a:Addr)(Γ:List (Key×V))(ep:Nat):HO:=.ext (IT P w a Γ ep)
section
variable{P':Program}{w':World}{H:Hp}{h:Heap}
def DY(ok:je P w H h)(e:H a=!(vR P' w' a Γ ep)):IT P' w' a Γ ep h:=(ok a _ e).1
def QP(x:IT P' w' a Γ ep h):aH P w H h a (vR P' w' a Γ ep):=by
 show(x,?_,λh1 h2 y k=>?_)
 .let(_,_,vs,_,o,es,e,_):=x;show(o,e)
 .let(z,hd,vs,r,o,es,e,c):=y;show(z,hd,vs,r,o,es,k _ e,c)
end
section
variable{H:Hp}
def Inv.PF(I:Inv X δ σ H s)(mu:Sk (H a))(x:IT X.prog X.w a Γ ep s.heap):Inv X δ σ (upd H a (vR X.prog X.w a Γ ep)) s:=by
 let he:∃u,s.heap.get? a=!u:=let (_,_,_,_,o,_,e,_):=x;(o,e)
 show I.write (x:=a) (e:=a) (h':=s.heap) (t':=s.toks) mu (.inl rfl) (λb u _ q=>q) he (QP x)
def Inv.walkOut(I:Inv X δ σ H s)(e:H a=!(vR X.prog X.w a Γ ep)):Inv X δ σ (upd H a (.dK Γ)) s:=by
 let(z,hd,vs,r,dd):=DY I.au e;let he:∃u,s.heap.get? a=!u:=let (o,_,e,_):=dd;(o,e)
 show I.write (x:=a) (e:=a) (h':=s.heap) (t':=s.toks) (by rw[e];show True.intro) (.inl rfl) (λb u _ q=>q) he (vi z hd r dd.dictOf)
def OO{k:Key}{u:Value}(h:(bF P w).is k u=true):aj (kV k) u:=by
 rcases ba h with ⟨i,t,rfl,rfl⟩| ⟨x,t,rfl,rfl⟩
 .show(t,rfl)
 .show(t,rfl)
end
def WT(P:Program)(w:World)(a:Addr)(Γ:List (Key×V))(ep:Nat):It:=
 (λi H=>H a=!(vR P w a Γ ep)/\i < -Γ,λi H x H'=>H'=H/\∃kv,Γ[i]? =!kv/\x=kV kv.1,λi H=>H a=!(vR P w a Γ ep)/\-Γ<=i)
def GG{K:gV}(a it:Addr)(Γ:List (Key×V))(ep:Nat):Turn P w K tg (WT P w a Γ ep) [it] it (λi h=>h.IsKeyIter it a i (-Γ) ep) where
 mem:=by simp
 obj:=λi h st b hb=>by
  let e:b=it:=by simpa using hb
  subst e;let(o,e,c,d):=st;show(o,e,λv z=>by rw[d]at z;cases z)
 keep:=λi h h' st k=>by let(o,e,r):=st;show(o,k it (by simp) o e,r)
 item:=by
  intro X hP hw hK hc i δ s σ H E I hf st hg;subst hP hw hK;let(hq,hi):=hg;let(z,hd,vs,rel,dd):=DY I.au hq;let(f0,f1,f2,f3,f4,f5):=hf it (by simp);let hx:Γ[i]? =!Γ[i]:=aaa hi;let(q,So,r1,r2):=Bm rel hx;let(k,v):=q;let ZE:s.heap.IsKeyIter it a i (-vs) ep:=by rw[<--rel];show st
  show wpAny_pyNext_dict_item ZE dd So λkey h' hk wD sb=>?_;let wD:h'.IsKeyIter it a (i+1) (-Γ) ep:=by rw[-rel];show wD
  let I1:Inv X δ σ H {s with heap:=h'}:=I.turned (t':=s.toks) (λb o hb e=>(sb.2 b hb).trans e) f0 f1 f3 f4 f5;let(o,e,c,d):=id wD;show(key,rfl,uW (s:={s with heap:=h'}) e c d @_ (kV k,H,I1,OO hk,(rfl,Γ[i],hx,by rw[r1]),wD,λb hb=>(hf b hb).1))
 done:=by
  intro X hP hw hK hc i δ s σ H E I hf st hg;subst hP hw hK;let(hq,hi):=hg;let(z,hd,vs,rel,dd):=DY I.au hq;let(f0,f1,f2,f3,f4,f5):=hf it (by simp);let ZE:s.heap.IsKeyIter it a i (-vs) ep:=by rw[<--rel];show st
  show wpAny_pyNext_dict_end (I.ok.hd hc) ZE dd (abX (by rw[<--rel];show hi)) λh' eb=>(rfl,I.turned (t':=s.toks) (λb o hb e=>eb b o hb e) f0 f1 f3 f4 f5)
 self:=λ_ _ _ _ _ st h=>wpAny_pyIter_keyiter st h
section
variable{H:Hp}{Q:It->Hp->Prop}
def NT(I:Inv X δ σ H s)(e:H a=!(.dK Γ))(q:∀ep,Q (WT X.prog X.w a Γ ep) (upd H a (vR X.prog X.w a Γ ep))):wpAny (model X.prog X.w) X.A (pyIter (.ref a)) (LG X δ σ tg Q) E s:=by
 let(z,hd,vs,rel,dd):=IV I.au e;let(ep,dd):=dd.dictAt;show wpAny_pyIter_dict hd dd ?_;let I1:=I.PF (by rw[e];show True.intro) (show IT X.prog X.w a Γ ep s.heap from(z,hd,vs,rel,dd));show(s.heap.objs.size,[s.heap.objs.size],_,_,_,rfl,I1.kept (t':=s.toks) λb o e=>aah _ e,GG a _ Γ ep,(_,aaS _ rfl,rfl,by rw[-rel];rfl),λb hb=>?_,q ep);let e:b=s.heap.objs.size:=by simpa using hb
 subst e;show I1.Bs (aam _) (I1.au.fresh (aam _))
end
def NxW(P:Program)(w:World)(D:oW):St->Hp->Prop:=λσ H=>∃a Γ ep,H a=!(vR P w a Γ ep)/\D.nx σ (upd H a (.dK Γ))
section
variable{t:TS}{i:Expr}{td ty:TE}
def uk(h:PS X st t):PS X st (λD σ H=>t {D with nx:=NxW X.prog X.w D} σ H):=by
 intro δ s σ H D I h';show a_ (h δ s σ H _ I h') λf s' sp=>?_;cases f with
 | next=>
  let(σ',H',I',a,Γ,ep,e,q):=sp;show(σ',_,I'.walkOut e,q)
 | brk=>show sp
 | cont=>show sp
 | ret u=>show sp
def Rq(P:Program)(w:World)(td ty:TE):TE:=λσ H Q=>td σ H λx H1=>ty σ H1 λy H2=>∃a Γ ep k v,x= .ref a/\H2 a=!(vR P w a Γ ep)/\y=kV k/\fi Γ k=!v/\Q v H2
def JL(ho:PE X o td)(hi:PE X i ty)(hs:J1 i):PE X (.Subscript o i pos) (Rq X.prog X.w td ty):=by intro δ s σ H Q I h;show Dx PySem.F.slot_dict_getitem.lookup hs (a_ (ho δ s σ H _ I h) fun u s1 (x,H1,I1,rx,q1)=>a_ (hi δ s1 σ H1 _ I1 q1) λiv s2 xz=>?_);let(y,H2,I2,ry,a,Γ,ep,k,v,ex,e,ey,l,q2):=xz;subst ex ey;obtain rfl:u=Value.ref a:=rx;let(z,hd,vs,rel,dd):=DY I2.au e;let dd:=dd.dictOf;let(w',hw,AD):=gQ.some_of (v:=v) (o:=valueAt vs k) (by rw[<-l];show rel.val k);show(dd.typeIs,wpAny_getItem_of (qd ry) dd.mapOf hw (v,H2,I2.tok _,AD,q2))
end
def iD:Key->Dt
 | .inl i=>.int i
 | .inr x=>.str x
def v8{K:gV}{G:Hp}{L:List Addr}:∀k:Key,Den K G L (iD k) (kV k)
 | .inl _=>rfl
 | .inr _=>rfl
def QY(P:Program)(w:World)(t:TE):TI:=λσ H R=>t σ H λv H1=>∃a Γ,v= .ref a/\H1 a=!(.dK Γ)/\∀ep,R (WT P w a Γ ep) (upd H1 a (vR P w a Γ ep))
def Em{t:TE}(h:PE X e t):PI X tg e (QY X.prog X.w t):=by intro δ s σ H R I ht;show a_ (h δ s σ H _ I ht) λu s1 xz=>?_;let(v,H1,I1,rv,a,Γ,ev,ha,q):=xz;subst ev;obtain rfl:u=Value.ref a:=rv;show NT I1 ha q
section
variable{k1 v1 k2 v2:Expr}{s1 t1 s2 t2:DE}
structure Hj(K:gV)(G0:Hp)(L0:List Addr)(H0:Hp)(p:Addr)(G:Hp)(L:List Addr)(M:Ms)(H:Hp):Prop where
 ex:Ex G0 L0 (upd H0 p (.dK [])) G L H
 rl:Rl K G L M H
 at_:H p=!(.dK [])
 g:G p=none
 l:p∉L
def Hj.on{K:gV}{G0:Hp}{H0:Hp}{p:Addr}{H:Hp}(a:Hj K G0 L0 H0 p G L M H){G':Hp}{M':Ms}{H':Hp}(e:Ex G L H G' L' H')(r:Rl K G' L' M' H'):Hj K G0 L0 H0 p G' L' M' H':=
 (a.ex.trans e,r,e.out _ _ a.at_ a.l,e.fr _ a.g (by rw[a.at_];simp),λz=>(e.new _ z).elim a.l λq=>by rw[a.at_]at q;cases q)
def V1{K:gV}{H:Hp}{p:Addr}(rl:Rl K G L M H)(hp:H p=none):Ex G L H G L (upd H p (.dK []))/\Hj K G L H p G L M (upd H p (.dK [])):=by
 let gn:G p=none:=rl.sub.free hp;let ln:p∉L:=rl.G8 hp;let e0:Ex G L H G L (upd H p (.dK [])):=(.refl _,.refl _,λ_ h _=>h,λb u h1 _=>by rw[υ (λz=>by rw[z,hp]at h1;cases h1)];show h1,λ_ h=>.inl h,λb h=>by rw[υ (λz=>h (by rw[z];show hp))];show h)
 let r0:Rl K G L M (upd H p (.dK [])):=(λb u e=>by rw[υ (λz=>by rw[z,gn]at e;cases e)];show rl.sub b u e,rl.len,rl.nd,λi a m h1 h2=>by
  let(q1,q2):=rl.dF i a m h1 h2
  show(q1,q2.mono (.refl _) (.refl _) (υ λz=>q2.there (by rw[z];show hp))))
 show(e0,.refl _ _ _,r0,Ζ,gn,ln)
def Hj.fin{K:gV}{G0:Hp}{H0:Hp}{p:Addr}{H:Hp}{q:DQ}(a:Hj K G0 L0 H0 p G L M H)(e0:Ex G0 L0 H0 G0 L0 (upd H0 p (.dK [])))(hp:H0 p=none)(hk:-ks=-ds)(n:Ν K G L ds vs)(k:q (.loc (-M)) (M++[.cB ks ds])):Fin K G0 L0 H0 q (.ref p) (upd H p (.dK (ks.zip vs))):=by
 let e:=e0.trans a.ex;let Zh:∀{b:Addr} {w:HO},G b=!w->b≠p:=λe z=>by rw[z,a.g]at e;cases e
 show EB (G:=G) (L:=L) (M:=M) (ks:=ks) (ds:=ds) (vs:=vs) (e.g,e.l,e.fr,λb w h1 h2=>?_,e.new,λb h=>?_) (λb w e=>?_,a.rl.len,a.rl.nd,λi c m h1 h2=>?_) hp a.g a.l Ζ hk n k
 .rw[υ (λz=>by rw[z,hp]at h1;cases h1)];show e.out b w h1 h2
 .by_cases hb:b=p
  .rw[hb,Ζ];simp
  .rw[υ hb];show e.uY b h
 .rw[υ (Zh e)];show a.rl.sub b w e
 .let(q1,q2):=a.rl.dF i c m h1 h2;show(q1,q2.mono (.refl _) (.refl _) (υ λz=>a.l (by rw[<-z];show aaI h1)))
def C1(s1 t1:DE):DE:=λρ M q x=>s1 ρ M (λc1 M1=>t1 ρ M1 (λd1 M2=>∃y1,z_ c1=!y1/\q (.loc (-M2)) (M2++[.cB [y1] [d1]])) x) x
def x8(EV:JE X R k1 s1)(hv1:JE X R v1 t1):JE X R (.Dict [!k1] [v1] pos) (C1 s1 t1):=
 .of (DW (qL EV hv1 DN) rfl rfl (by simp) (by change 1<=15;decide)) λσ H G L ρ M q x rl n h hx=>by intro p hp;let(e0,a0):=V1 rl hp;show(G,L,ρ,M,_,x,a0.rl,n,h,hx.on e0,λu1 H1 xz=>?_);let(d1,G1,L1,M1,e1,r1,n1,h1):=xz;let a1:=a0.on e1 r1;show(G1,L1,ρ,M1,_,x,r1,n.mono (e0.trans e1),h1,hx.on (e0.trans e1),λu2 H2 xz=>?_);let(d2,G2,L2,M2,e2,r2,n2,y1,hy,h2):=xz;let a2:=a1.on e2 r2;obtain rfl:u1=kV y1:=kf hy n1;show(a2.at_,[(y1, u2)],rfl,by change 1<=15;decide,?_);rw[oz _ [] (λ_ _=>rfl) (by simp),List.nil_append];show a2.fin (ks:=[y1]) (ds:=[d2]) (vs:=[u2]) e0 hp rfl (_,_,rfl,n2,rfl) h2
end
def KG:List Dt->Ms->DQ->Prop
 | [d],M,q=>∃k ks ds,d= .loc k/\M[k]? =!(.cB ks ds)/\q (.int (-ks)) M
 | _,_,_=>False
def Vx{K:gV}:xU K (λxs H Q=>∃a Γ,xs=[V.ref a]/\H a=!(.dK Γ)/\Q (.int (-Γ)) H) KG:=by
 intro G0 L0 H0 G L M H vs ds q e r n h;unfold KG at h;split at h
 .let(k,ks,ds,rfl,hm,h):=h;let(v,rfl,n1):=aQ n;let(a,rfl,hk):=n1;let(_,vs,hH,hl,dn):=r.dF k a _ hk hm;show(a,_,rfl,hH,.int (-ks),G,L,M,e,r,?_,h);change V.int _=V.int _;rw[abi,<--dn,<-hl,acd]
 .show h.elim
section
def RM(hm:X.mg "len"=none)(ha:JA X R [e] t)(hg:Gl X "len"|>1)(he:starEach [e] X.env=(false, eval e X.env)::starEach [] X.env|>1)(dq:(backTo pos (starEach [] X.env)).any (·.1)=false|>1):JE X R (.Call (.Name "len" p) [e] [] pos) (vL KG t):=
 d9 Fg Vx hm PySem.boot_len ha hg @_ @_ he dq
end
structure GS(K:gV)(x:Str)(st:Stmt)(T:Addr)(its:Array Value)(f:Addr)(fd:FuncData):Prop where
 ex:∃(oc:Value) (od:Option Addr) (kV doc pm:Value) (an:Option Addr) (aP ct:Value) (uy:Array (Option Value)),
  fd=PySem.W.fnOf x x (fL st) (de st) (ν st) (.ref T) kV doc pm an aP ct/\K.lookup f=!(oc,od,.func fd,uy)/\PySem.W.codeIn K aP x=true
 tup:∃o n,K.lookup T=!o/\o.data= .seq its n
 kp:PySem.W.keepIn K (.ref f)=true
section
variable{K:gV}{base:Heap}
def GS.eK{U:Addr}{N:List Str}{k:Nat}{T:DF}(F:GS K x st U its f fd)(S:Β N ps (ν st))(len:∀ds M q x,T ds M q x->-ds=-ps)
  (mG:∀(aP:Value) (A:Around) (outer:List Env) (s:Shared) (H:Hp) (E:XK),bf k (A.deeper (envOfC x (ν st) s.heap.objs.size f aP))->
   ∃t,zp (jN (bC P w) P w K mg base N x (ν st) f aP A outer s H E) (λ_=>E) (de st) t/\∀ds M q x,T ds M q x->t {nx:=λ_ M'=>q .aV M',rt:=q,x:=λ_=>x} (iT N ds) M):
  ae P w K mg base (bC P w) (k+1) f fd ps (cZ K T):=by
 let(oc,od,kV,doc,pm,an,aP,ct,uy,rfl,lk,xS):=F.ex;show OT lk xS S (λvs H Q E h=>?_) λA outer s H vs Q E hr h=>?_
 .let(G,L,ds,M,q,x,rl,n,hT,_):=h;rw[<--n];show len _ _ _ _ hT
 .let(t,j,ht):=mG aP A outer s H E hr;let(G,L,ds,M,q,x,rl,n,hT,hQ,hE):=h;show(_,j,G,L,iT N ds,M,_,rl,qA n,ht ds M q x hT,λσ ρ C fs M' G' L' H' od hx e r _ y=>hE C fs M' G' L' H' od hx e r y,(λσ' H' (ρ',G',L',M',e,r,_,h)=>hQ _ _ (.aV,G',L',M',e,r,rfl,h),λv H' f=>hQ v H' f,λ_ _ (_,_,_,_,_,_,_,h)=>h.elim,λ_ _ (_,_,_,_,_,_,_,h)=>h.elim))
def GS.binds{U:Addr}{ds:List Value}(F:GS K x st U its f fd)
  (h:∀(kV doc pm:Value) (an:Option Addr) (aP ct:Value) (us:List Value),-(us++ds)=-ps->∃k,bindArgs (PySem.W.fnOf x x (fL st) (de st) (ν st) (.ref U) kV doc pm an aP ct) (us,[])=(seqItems? (.ref U) >>= k)/\k (!its)=pure (ps.zip (us++ds))):fK K fd ps ds:=by
 let(oc,od,kV,doc,pm,an,aP,ct,uy,rfl,lk,xS):=F.ex;let(o,n,l,e):=F.tup;intro s us hK hl;let(k,h1,h2):=h kV doc pm an aP ct us hl;show BindsTo.of_defaults rfl (hK _ _ l) e h1 h2
structure Q4(P:Program)(w:World)(K:gV)(mg:Str->Option Value)(base:Heap)(k:Nat)(x:Str)(ps:List Str)(T:DF)(Pa:List Dt)(f:Addr)(fd:FuncData):Prop where
 ok:ae P w K mg base (bC P w) k f fd ps (cZ K T)
 b:∃(nF:List V) (ds:List Value),fK K fd ps ds/\af nF ds/\∀G L,Ν K G L Pa nF
 m:mg x=!(.ref f)
 kp:PySem.W.keepIn K (.ref f)=true
end
def z5{K:gV}{G:Hp}{L:List Addr}:∀{ds es:List Dt} {vs us:List V},Ν K G L ds vs->Ν K G L es us->Ν K G L (ds++es) (vs++us)
 | [],_,vs,us,h,k=>by obtain rfl:vs=[]:=h;show k
 | _::_,_,_,_,(v,r,e,a,b),h=>by subst e;show(v,_,rfl,a,z5 b h)
def Qc(T:DF)(Pa:List Dt)(t:DA):DE:=λρ M q x=>t ρ M (λds M1=>T (ds++Pa) M1 q (λC fs M'=>x ρ C fs M')) x
section
variable{T:DF}{k:Nat}{Pa:List Dt}
def SR(C:Q4 X.prog X.w X.K X.mg X.base k x ps T Pa f fd)(hr:bf k' X.A)(hx:cy (bC X.prog X.w) X R)(ha:JA X R (e::es) t)(hk:k<=k'|>2)(hg:Gl X x|>1)(jn:(x==("__debug__":Str))=false|>2)
  (he:starEach (e::es) X.env=(false, eval e X.env)::starEach es X.env|>1) (dq:(backTo pos (starEach es X.env)).any (·.1)=false|>1):JE X R (.Call (.Name x p) (e::es) [] pos) (Qc T Pa t):=by
 let(nF,ds,hb,hv,hd):=C.b;show .of (yN C.ok (hr.mono hk) hg C.m C.kp hb hv hx ha jn he dq) λσ H G L ρ M q x rl n h hx=>?_;show(G,L,ρ,M,_,x,rl,n,h,hx,λvs H1 xz=>?_);let(ds,G1,L1,M1,e1,r1,n1,h1):=xz;show(G1,L1,ds++Pa,M1,q,_,r1,z5 n1 (hd G1 L1),h1,λv H' f=>Fin.back e1 f,λC fs M' G' L' H' od hq e' r' y=>hx σ ρ C fs M' G' L' H' od hq (e1.trans e') r' (n.mono (e1.trans e')) y)
end
def Oy(K:gV):List Dt->Ms->DQ->Prop:=λds M q=>∃k c ks es t' b,ds=[.loc k,c]/\M[k]? =!(.cB ks es)/\M_ c=!t'/\PySem.W.kitOne K (.type "dict") t'=!b/\q (.bl b) M
def Tb{K:gV}:xU K (λxs H Q=>∃x c t t' b,xs=[x,c]/\iV K H x t/\x4 c=!t'/\PySem.W.kitOne K t t'=!b/\Q (.bl b) H) (Oy K):=by intro G0 L0 H0 G L M H vs ds q e r n ⟨k,c,ks,es,t',b,ed,h1,h2,hb,h⟩;subst ed;let(v,u,rfl,n1,n2):=eD n;let(a,rfl,ka):=n1;let(_,vs,e1,_):=r.dF k a _ ka h1;show(_,u,_,t',b,rfl,.dK e1,xm n2 h2,hb,aR e r h)
section
variable{e2:Expr}
def Rt(K:gV)(hm:X.mg "isinstance"=none)(ha:JA X R [e,e2] t)(he:starEach [e,e2] X.env=(false, eval e X.env)::starEach [e2] X.env|>1)(dq:(backTo pos (starEach [e2] X.env)).any (·.1)=false|>1)(hg:Gl X "isinstance"|>1)(hK:X.K=K|>1):JE X R (.Call (.Name "isinstance" p) [e,e2] [] pos) (vL (Oy K) t):=by subst hK;show d9 jZ Tb hm eS ha hg @_ @_ he dq
end
section
variable{K:Type} [DecidableEq K]{knd:KeyKind prog w K}{b:Addr}{Γ dD:List (K×Value)}
def sx(ha:s.heap.DictOf knd a Γ)(hb:s.heap.DictOf knd b dD)(hu:A.units < cLine)(h:∀{E:Value->Shared->Prop} {Q:Bool->Shared->Prop},Q c s->wpAny (model prog w) A.in1 (Builtin.Dict.samePairs (toString "dict."++toString "__ne__") a b) Q E s)(q:Q (.bool (! c)) s):wpAny (model prog w) A (richCompare .NotEq (.ref a) (.ref b)) Q E s:=by
 show wpAny_richCompare_same_room ha.typeIs hb.typeIs F.slot_dict_ne (wpAny_call_entry F.slot_dict_ne ha.typeIs F.entry_dict_ne ?_ (F.args_dict_ne_2 _ _)) hu;change wpAny _ _ (Builtin.Dict.dictSlotArgs "__ne__" ([.ref a,.ref b],[]) >>= _) _ _ s;show aaf ?_;unfold Builtin.Dict.dictSlotArgs;show aaf (wpAny_notOrdered_dict ha.typeIs ?_);show aaf (m:=slotArgs "__ne__" 1 _) (aaw ?_);show aaw ?_;show aaf (wpAny_isInstance hb.typeIs isSubtype_dict_dict ?_);rw[aaE @_];show aaf (aaw (aaf (aaw (aaf (h ?_)))));let e:(c==false)= ! c:=by cases c <;> rfl
 show aaw (Value.bool (c==false),rfl,(nofun,?_));rw[e];show q
end
def OR(n:Nat):R2:=λx y H Q=>∃a b c,x= .ref a/\y= .ref b/\wY H n x y c/\Q (.bl (! c)) H
def NG(hu:X.A.units+n < cLine):ji X (compareOp .NotEq) (OR n):=by
 intro δ s σ H x y v u Q I rx ry h;let(a,b,c,rfl,rfl,h,q):=h;cases rx;cases ry;cases h with
 | flat h1 h2=>cases h1
 | @cB n _ _ Γ dD f h1 h2 hl hn h=>
  let(_,z1,vs,r1,d1):=fB I.au h1;let(_,z2,Iu,r2,d2):=fB I.au h2;rw[-r1]at q;change wpAny _ _ (richCompare .NotEq _ _) _ _ s;show sx d1 d2 () (λhq=>nv d1 d2 z1 z2 (by rw[<--r1,<--r2];show hl) (e:=f) (λj k u hj=>?_) hq) (.bl _,H,I,rfl,q);let(v,hv,rv):=wZ r1 hj;rcases Dd r2 k with ⟨q1,q2⟩| ⟨v',u',q1,q2,q3⟩
  .show .inl (q2,hn j k v hv q1)
  .show .inr (u',q2,P7 I (h j k v v' hv q1) rv q3 (by change X.A.units+1+n < cLine;omega))
 | @len n _ _ Γ dD h1 h2 hl=>
  let(_,z1,vs,r1,d1):=fB I.au h1;let(_,z2,Iu,r2,d2):=fB I.au h2;change wpAny _ _ (richCompare .NotEq _ _) _ _ s;show sx d1 d2 () (λhq=>kT d1 d2 z1 z2 (by rw[<--r1,<--r2];show hl) hq) (.bl _,H,I,rfl,q)
def VX(n:Nat):Dt->Dt->Ms->DQ->Prop:=λd e M q=>∃k1 k2 c,d= .loc k1/\e= .loc k2/\EI M n d e c/\q (.bl (! c)) M
def XH{K:gV}:ny K (OR n) (VX n):=by intro G0 L0 H0 G L M H v1 v2 d1 d2 q e r n1 n2 ⟨k1,k2,c,e1,e2,h,hq⟩;have:=SJ r h n1 n2;subst e1 e2;let(a,rfl,_):=n1;let(b,rfl,_):=n2;show(a,b,c,rfl,rfl,this,aR e r hq)
section
variable{a:Expr}
def RH(n:Nat)(hr:bf k' X.A)(ja:JE X R a ta)(jb:JE X R b tb)(hn:n<=64|>2)(hm:behindInMarks .NotEq b=false|>1):JT X R (.Compare a [.NotEq] [b] pos) (kG (jq (VX n) ta tb)):=fF (NG (V4 hr hn)) XH ja jb hm
end
def HU{α β:Type}{F:α->β->Prop}:∀{xs:List α} {ys:List β},-xs=-ys->(∀(i:Nat) x y,xs[i]? =!x->ys[i]? =!y->F x y)->Paired F xs ys
 | [],[],_,_=>.nil
 | x::xs,y::ys,hl,h=>.cons (h 0 x y rfl rfl) (HU (by simpa using hl) λi a b ha hb=>h (i+1) a b (by simpa using ha) (by simpa using hb))
section
variable{K:Type} [DecidableEq K]{knd:KeyKind prog w K}
def GL{Γ:List (K×Value)}{Q:Bool->Shared->Prop}(hm:s.heap.DictOf knd a Γ)(h:Q false s):wpAny (model prog w) A (Builtin.List.listLengthHint (.ref a)) Q E s:=by
 unfold Builtin.List.listLengthHint;show aaf (wpAny_specialOf hm.typeIs F.slot_dict_len.lookup ?_);generalize Sq:("dict.__len__":String)=id0
 wp_delta
 rw[show splitId id0=!("dict", "__len__") from by subst Sq;decide+kernel];subst Sq;show aaf (wpAny_isInstance hm.typeIs isSubtype_dict_dict ?_);show wpAny_ite_split (λP5=>aaO P5 @_) (λ_=>?_);show wpAny_ite_split (λ_=>?_) (λP5=>aaO (by decide+kernel) P5);show aaf (wpAny_typeOf hm.typeIs ?_);show aaw h
def yR{R:Result->Shared->Prop}{d:Addr}{Γ:List (K×Value)}(hh:A.handled=none)(hd:(d==sysModules)=false)(hm:s.heap.DictAt knd d Γ ep)(hlen:-Γ<=sizeLine)(S:Addr)(res:Value)(c₀:Nat)(hS:s.heap.get? S=some {cls:=.type "list",data:=.seq #[] c₀})
  (hR:∀h' tk pF c',(∀b o,b≠S->s.heap.get? b=!o->h'.get? b=!o)->h'.get? S=some {cls:=.type "list",dict:=none,data:=.seq pF c',slots:= #[]}->
   ItemsOf (λi v=>∃k x,Γ[i]? =!(k, x)/\knd.is k v=true) pF (-Γ)->R (.ok (.ret res)) {s with heap:=h',toks:=tk}):
  wpAny (model prog w) A.in1 (Builtin.List.listExtendWith (.ref S) (.ref d) res)
   (λfin s'=>match fin with| .done f=>R (.ok f) s'| .again c'=>c'.quiet=true/\codeAny (model prog w) A c' R s') (λe s'=>R (.error e) s') s:=by
 let Uo:S≠d:=λe=>by let(o,es,ho,hc,_):=hm;rw[<-e,hS]at ho;cases ho;show absurd hc.1 (by simp)
 let WY:S < s.heap.objs.size:=aau hS;let hdI:d≠s.heap.objs.size:=aaN hm.lt_size;let hSI:S≠s.heap.objs.size:=aaN WY;let hSf:S∉[s.heap.objs.size,d]:=λq=>by
  rcases aaR.mp q with q| q
  .show hSI q
  .show Uo (abj.mp q)
 let W:=(Walks.dictKeys (prog:=prog) (w:=w) (knd:=knd) (A:=A.in1) hh s.heap.objs.size d hdI Γ ep).toS
 let key:∀(h:Heap) (c₁ tk:Nat),h.IsKeyIter s.heap.objs.size d 0 (-Γ) ep->h.DictAt knd d Γ ep->(∀b o,b≠S->s.heap.get? b=!o->h.get? b=!o)->
   h.get? S=some {cls:=.type "list",data:=.seq #[] c₁}->codeAny (model prog w) A (.builtin "list.extend.loop" ([.ref S,.ref s.heap.objs.size,res],[])) R {s with heap:=h,toks:=tk}:=by
  intro h c₁ tk hit L_ hk yU;show codeAny_extend_loopS W hlen S hSf res (-Γ) 0 _ #[] c₁ rfl (aca _) (hit,L_) yU (ItemsOf.nil _) λs' pF c' hm V2 wI=>?_;rw[Moved.eq_with hm];show hR s'.heap s'.toks pF c' (λb o hb e=>hm.heap b o (λPC=>?_) (hk b o hb e)) V2 wI;rcases aaR.mp PC with e'| PC
  .show hb e'
  .show aaO (aau e) (by rw[abj.mp PC];show abv _)
 let hT:=hm.dictOf.typeIs;unfold Builtin.List.listExtendWith;show aaf (wpAny_typeOf hT ?_);let h1:Builtin.List.listSameRef (.ref S) (.ref d)=false:=by simp[Builtin.List.listSameRef,Uo]
 let h2:(Value.type "dict"==Value.type "list")=false:=@_
 let h3:(Value.type "dict"==Value.type "tuple")=false:=@_
 simp only[h1,h2,h3,Bool.or_false,Bool.false_eq_true,if_false];show aaf (wpAny_pyIter_dict hd hm ?_);show aaf (wpAny_holding (GL (hm.push _).dictOf ?_));let Hv:(s.heap.push {cls:=.type "dict_keyiterator",data:=.fields #[.ref d,.int 0 0,.int (-Γ) 0,.int ep 0]}).IsKeyIter s.heap.objs.size d 0 (-Γ) ep:=(_,aaS _ rfl,rfl,rfl);let yU:=aah {cls:=.type "dict_keyiterator",data:=.fields #[.ref d,.int 0 0,.int (-Γ) 0,.int ep 0]} hS;show wpAny_ite_split (λ_=>?_) (λ_=>aaw (plainId_quiet F.plain_extend_loop _,key _ c₀ _ Hv (hm.push _) (λb o _ e=>aah _ e) yU));show aaf (wpAny_rule ?_);show aaf ?_;change wpAny _ _ (updateSeq S (·.push .none) >>= λ_=>updateSeq S (·.pop)) _ _ _;show aaf (wpAny_updateSeq yU rfl ?_);let DH:=Heap.get?_update_self (Obj.mapSeq (·.push Value.none)) yU rfl;show wpAny_updateSeq (hz:=by seq_fits) DH rfl ?_;let Tu:=Heap.get?_update_self (Obj.mapSeq (·.pop)) DH rfl;let zd:∀b o,b≠S->(s.heap.push {cls:=.type "dict_keyiterator",data:=.fields #[.ref d,.int 0 0,.int (-Γ) 0,.int ep 0]}).get? b=!o->(((s.heap.push {cls:=.type "dict_keyiterator",data:=.fields #[.ref d,.int 0 0,.int (-Γ) 0,.int ep 0]}).update S (Obj.mapSeq (·.push Value.none))).update S (Obj.mapSeq (·.pop))).get? b=!o:=λb o hb e=>(Heap.get?_update_other _ _ (Ne.symm hb)).trans ((Heap.get?_update_other _ _ (Ne.symm hb)).trans e);show aaw (plainId_quiet F.plain_extend_loop _,key _ _ _ (Hv.at λo e=>zd _ o (Ne.symm hSI) e) ((hm.push _).at' λo e=>zd _ o (Ne.symm Uo) e) (λb o hb e=>zd b o hb (aah _ e)) Tu)
def qr{d:Addr}{Γ:List (K×Value)}(hh:A.handled=none)(hd:(d==sysModules)=false)(hm:s.heap.DictAt knd d Γ ep)(hlen:-Γ<=sizeLine)
  (hQ:∀h' tk pF c',(∀b o,s.heap.get? b=!o->h'.get? b=!o)->
   h'.get? s.heap.objs.size=some {cls:=.type "list",dict:=none,data:=.seq pF c',slots:= #[]}->ItemsOf (λi v=>∃k x,Γ[i]? =!(k, x)/\knd.is k v=true) pF (-Γ)->Q (.ref s.heap.objs.size) {s with heap:=h',toks:=tk}):
  wpAny (model prog w) A (call (.type "list") [.ref d]) Q E s:=by
 show callType_codes (Q₁:=λobj s₁=>obj= .ref s.heap.objs.size/\s₁={s with heap:=s.heap.push {cls:=.type "list",data:=.seq #[]}}) F.called_list (F.typeCall_list_1 _) F.entry_list_init
  (code_list_new _ (rfl,rfl)) λobj s₁ h₁=>?_
 let(rfl,rfl):=h₁;let hS:(s.heap.push {cls:=.type "list",data:=.seq #[]}).get? s.heap.objs.size=some {cls:=.type "list",data:=.seq #[]}:=aaS _ rfl;show((_,hS,rfl),F.args_list_init_2 _ _,?_);let hm1:=hm.push {cls:=.type "list",data:=.seq #[]};generalize hS0:s.heap.objs.size=S at hS hQ⊢;change wpAny _ _ (do let  old<-Builtin.List.listItems (.ref S);Builtin.List.listUpdate (.ref S) (λ_=> #[]);letGo old.toList.reverse;Builtin.List.listExtendWith (.ref S) (.ref d) .none) _ _ _;show aaf ?_;unfold Builtin.List.listItems;show aaf (wpAny_seqItems hS rfl (aaw ?_));change wpAny _ _ (updateSeq S (λ_=> #[]) >>= λ_=>letGo (#[]:Array Value).toList.reverse >>= λ_=>Builtin.List.listExtendWith (.ref S) (.ref d) .none) _ _ _;show aaf (wpAny_updateSeq hS rfl ?_);let DH:=Heap.get?_update_self (Obj.mapSeq (λ_=>(#[]:Array Value))) hS rfl
 let zd:∀b o,b≠S->(s.heap.push {cls:=.type "list",data:=.seq #[]}).get? b=!o->((s.heap.push {cls:=.type "list",data:=.seq #[]}).update S (Obj.mapSeq (λ_=>(#[]:Array Value)))).get? b=!o:=
  λb o hb e=>(Heap.get?_update_other _ _ (Ne.symm hb)).trans e
 show aaf (wpAny_letGo ?_);let Uo:d≠S:=λe=>aaO hm.lt_size (by rw[hS0,e];show abv _);show yR (A:=A.in1) hh hd (hm1.at' λo e=>zd d o Uo e) hlen S .none _ DH λh' tk pF c' hk V2 wI=>?_;show(rfl,hQ h' tk pF c' (λb o e=>hk b o ?_ (zd b o ?_ (aah _ e))) V2 wI)
 all_goals exactλz=>aaO (aau e) (by rw[hS0,z];show abv _)
end
section
def tj(hc:X.calm=true):cj X (.type "list") (λxs H Q=>∃a Γ,xs=[V.ref a]/\Rd H a (.dK Γ)/\∀p,H p=none->Q (.ref p) (upd H p (.lst (Γ.map λkv=>kV kv.1)))):=by
 intro δ s σ H xs us Q I r ⟨a,Γ,ex,e,q⟩;subst ex;let(u,rfl,rx):=iI r;cases rx;let(z,hd,vs,rel,dd):=fB I.au e;let(ep,da):=dd.dictAt;let vl:=-rel;show qr (I.ok.hd hc) hd da () λh' tk pF c' kp el it=>?_;let hv:af (Γ.map λkv=>kV kv.1) pF.toList:=by let(il,ip):=it;show HU (by rw[List.length_map];show rel.length.trans (il.symm.trans (by simp))) λi x y hx hy=>?_;rw[aan]at hx;let(k,u,hk,hi):=ip i y (by simpa using hy);let(v,hv,_):=wZ rel hk;rw[hv]at hx;cases hx;show OO hi
 show(.ref s.heap.objs.size,_,I.laid (t':=tk) kp (Nat.le_refl _) (show aH X.prog X.w _ h' _ (.lst _) from(by rw[List.length_map];show z,pF.toList,c',hv,by simpa using el)),rfl,q _ (I.au.fresh (Nat.le_refl _)))
end
def zD{K:gV}{G:Hp}{L:List Addr}:∀ks:List Key,Ν K G L (ks.map iD) (ks.map kV)
 | []=>rfl
 | k::ks=>(kV k,ks.map kV,rfl,v8 k,zD ks)
def BX:List Dt->Ms->DQ->Prop
 | [d],M,q=>∃k ks ds,d= .loc k/\M[k]? =!(.cB ks ds)/\q (.loc (-M)) (M++[.lst (ks.map iD)])
 | _,_,_=>False
def Qg{K:gV}:xU K (λxs H Q=>∃a Γ,xs=[V.ref a]/\Rd H a (.dK Γ)/\∀p,H p=none->Q (.ref p) (upd H p (.lst (Γ.map λkv=>kV kv.1)))) BX:=by
 intro G0 L0 H0 G L M H vs ds q e r n h;unfold BX at h;split at h
 .rename_i d;let(v,rfl,n1):=aQ n;let(k,ks,ds,ed,hm,h):=h;subst ed;let(a,rfl,hk):=n1;let(_,vs,hH,hl,dn):=r.dF k a _ hk hm;show(a,_,rfl,.inl hH,λp hp=>?_);let e1:(ks.zip vs).map (λkv=>kV kv.1)=ks.map kV:=by
   have:((ks.zip vs).map Prod.fst).map kV=ks.map kV:=by rw[List.map_fst_zip (by rw[hl,-dn];show aam _)]
   rw[<-this,aaT];rfl
  rw[e1];show gW e r hp (zD ks) h
 .show h.elim
section
variable{a:Expr}
def LQ(hm:X.mg "list"=none)(ha:JA X R [e] t)(hg:Gl X "list"|>1)(he:starEach [e] X.env=(false, eval e X.env)::starEach [] X.env|>1)(dq:(backTo pos (starEach [] X.env)).any (·.1)=false|>1)(hc:X.calm=true|>1):JE X R (.Call (.Name "list" p) [e] [] pos) (vL BX t):=
 mT (tj hc) Qg hm lu ha hg @_ @_ he dq
end
def oD:Option Int->Dt
 | none=>.aV
 | some i=>.int i
def oV:Option Int->V
 | none=>.aV
 | some i=>.int i
def qJ{K:gV}{G:Hp}{L:List Addr}:∀is:List (Option Int),Ν K G L (is.map oD) (is.map oV)
 | []=>rfl
 | none::is=>(_,_,rfl,rfl,qJ is)
 | some _::is=>(_,_,rfl,rfl,qJ is)
def CV{K:gV}{G:Hp}{L:List Addr}:∀{is:List (Option Int)} {vs:List V},Ν K G L (is.map oD) vs->vs=is.map oV
 | [],vs,h=>h
 | i::is,vs,h=>by
  let(v,r,rfl,h1,h2):=h;let h1:v=oV i:=by cases i <;> show h1
  rw[h1,CV h2];rfl
def p7(P:Program)(w:World)(ks:List Key)(is:List (Option Int))(ep:Nat):Addr->HO:=λa=>vR P w a (ks.zip (is.map oV)) ep
def pD(g:Dt->En->(En->Prop)->Prop)(tb:DS)(Dn:gf)(k:Nat)(u:Addr->HO)(m:MO):List Key->En->Ms->Prop
 | [],ρ,M=>M[k]? =!(.raw u)/\Dn.nx ρ (M.set k m)
 | x::xs,ρ,M=>M[k]? =!(.raw u)/\g (iD x) ρ λρ'=>tb {Dn with nx:=pD g tb Dn k u m xs,ct:=pD g tb Dn k u m xs,bk:=λρ M=>M[k]? =!(.raw u)/\Dn.nx ρ (M.set k m)} ρ' M
def Vt(P:Program)(w:World)(te:DE)(g:Dt->En->(En->Prop)->Prop)(tb:DS):DS:=λDn ρ M=>te ρ M (λd M1=>∃k ks is,d= .loc k/\M1[k]? =!(.cB ks (is.map oD))/\∀ep,pD g tb Dn k (p7 P w ks is ep) (.cB ks (is.map oD)) ks ρ (M1.set k (.raw (p7 P w ks is ep)))) Dn.x
section
variable{i:Expr}{ti:DE}{gg:TG}{g:Dt->En->(En->Prop)->Prop}{tb:DS}
def xr(hi:JE X R iter te)(hg:PG X tg gg)(gd:GD X.K gg g)(hb:zp X R body tb)(hp:PassesOwn (model X.prog X.w) X.A X.env X.xe:=by first| exact PassesOwn.never| exact PassesOwn.leaving)(hc:X.calm=true|>1)(hs:(∀x,foldedSetIterable iter X.env x=pure x)|>3):
  JS X R (.For tg iter body [] pos) (Vt X.prog X.w te g tb):=.of (uk (Cp hp hc (Em hi) hg hb hs)) λσ H G L ρ M Dn rl n h hx=>by
 show(G,L,ρ,M,_,_,rl,n,h,hx,λv H1 xz=>?_);let(d,G1,L1,M1,e1,r1,n1,k,ks,is,ed,hk,h1):=xz;subst ed;let(a,rfl,Dz):=n1;let(hGa,vs,hH,hl,dn):=r1.dF k a _ Dz hk;let ZI:=CV dn;subst ZI;rw[aae]at hl;show(a,_,rfl,hH,λep=>?_);let h1:=h1 ep;generalize hu:p7 X.prog X.w ks is ep=u at h1;let Lu:vR X.prog X.w a (ks.zip (is.map oV)) ep=u a:=by rw[<-hu];rfl
 let r2:Rl X.K G1 L1 (M1.set k (.raw u)) (upd H1 a (vR X.prog X.w a (ks.zip (is.map oV)) ep)):=r1.setM (m:=.raw u) Dz (show upd H1 a _ a=!(u a) by rw[Ζ,Lu]);let e2:Ex G1 L1 H1 G1 L1 (upd H1 a (vR X.prog X.w a (ks.zip (is.map oV)) ep)):=r1.Hs Dz;let zl:-(ks.zip (is.map oV))=-ks:=by rw[abi,aae];omega
 generalize Q6:upd H1 a (vR X.prog X.w a (ks.zip (is.map oV)) ep)=H2 at r2 e2;let K_:=e1.trans e2;let out:∀{G':Hp} {L':List Addr} {H':Hp} {M':Ms} {ρ':En} {σ':St},Ex G1 L1 H2 G' L' H'->Rl X.K G' L' M' H'->gP X.K G' L' ρ' σ'->M'[k]? =!(.raw u)->Dn.nx ρ' (M'.set k (.cB ks (is.map oD)))->NxW X.prog X.w (tP X.K G L H Dn) σ' H':=λ{G' L' H' M' ρ' σ'} e' r' n' hm hnx=>by let B5:=e'.l.get Dz;let L6:H' a=!(u a):=(r'.dF k a _ B5 hm).2;show(a,ks.zip (is.map oV),ep,by rw[Lu];show L6,ρ',G',L',_,(K_.trans e').trans (r'.Hs B5),r'.setM (m:=.cB ks (is.map oD)) B5 (is.map oV,Ζ,by rw[aae];show hl,qJ is),n'.mono (r'.Hs (o:=.own a) B5),hnx)
 show(λi m σ' H'=>m+i=-ks/\eN X.K G1 L1 H2 (λρ' M'=>pD g tb Dn k u (.cB ks (is.map oD)) (ks.drop i) ρ' M') σ' H',(-ks,rfl,ρ,G1,L1,_,.refl _ _ _,r2,n.mono e1,by rw[acD];show h1),?_);rintro i m σ' H' ⟨hm,ρ',G',L',M',e',r',n',h'⟩;let B5:=e'.l.get Dz;by_cases hi:i < -ks
 .right;rw[abA hi]at h';let(Xz,h'):=h';let L6:H' a=!(u a):=(r'.dF k a _ B5 Xz).2;show((by rw[Lu];show L6,()),eN X.K G1 L1 H2 (λρ' M'=>pD g tb Dn k u (.cB ks (is.map oD)) (ks.drop (i+1)) ρ' M'),λσ2 H3 f=>(m - 1,(),(),f),λv H3 hy=>?_);let(rfl,kv,Sy,rfl):=hy;let EV:kv.1=ks[i]:=by rw[abK]at Sy;have:=Sy.1;rw[aaa hi]at this;show(aav this).symm
  rw[EV];show gd G' L' M' H3 _ _ ρ' σ' _ _ r' (v8 _) n' h' λρ3 σ3 n3 h3=>?_;show(G',L',ρ3,M',_,r',n3,h3,hx.on (K_.trans e'),(λ_ _ f=>eN.back e' f,λ_ _ f=>Fin.back (K_.trans e') f,λσ4 H4 f=>?_,λ_ _ f=>eN.back e' f));let(ρ4,G4,L4,M4,e4,r4,n4,hm4,h4):=f;show out (e'.trans e4) r4 n4 hm4 h4
 .left;rw[ab9 ()]at h';let L6:H' a=!(u a):=(r'.dF k a _ B5 h'.1).2;show((by rw[Lu];show L6,()),out e' r' n' h'.1 h'.2)
def HD(P:Program)(w:World)(to ti:DE):DE:=λρ M q x=>to ρ M (λd M1=>ti ρ M1 (λdi M2=>∃k ks is ep key j,d= .loc k/\M2[k]? =!(.raw (p7 P w ks is ep))/\z_ di=!key/\aA ks (is.map oD) key=!j/\q j M2) x) x
def wk(ho:JE X R o to)(hi:JE X R i ti)(hs:J1 i:=by intro _ _;rfl):JE X R (.Subscript o i pos) (HD X.prog X.w to ti):=
 .of (JL ho hi hs) λσ H G L ρ M q x rl n h hx=>by show(G,L,ρ,M,_,x,rl,n,h,hx,λv H1 xz=>?_);let(d1,G1,L1,M1,e1,r1,n1,h1):=xz;show(G1,L1,ρ,M1,_,x,r1,n.mono e1,h1,hx.on e1,λv2 H2 xz=>?_);let(d2,G2,L2,M2,e2,r2,n2,k,ks,is,ep,key,j,ed,hm,hk,hg,h2):=xz;subst ed;let(a,rfl,EV):=n1;let Ls:=e2.l.get EV;let hH:H2 a=!(p7 X.prog X.w ks is ep a):=(r2.dF k a _ Ls hm).2;obtain rfl:v2=kV key:=kf hk n2;let(v,hv,dv):=ou (K:=X.K) (G:=G2) (L:=L2) (qJ is) hg;show(a,_,ep,key,v,rfl,hH,rfl,hv,_,G2,L2,M2,e1.trans e2,r2,dv,h2)
end
def RI(P:Program)(w:World)(i:Nat)(to:DE)(tc:DT)(te:DE)(Χ:List Nat):DS:=λDn ρ M=>to ρ M (λd M1=>∃k ks is,d= .loc k/\M1[k]? =!(.cB ks (is.map oD))/\-ks<=sizeLine/\∀ep,gE (gN 0) tc te (none::nW Χ ρ) (λM'=>M'[k]? =!(.raw (p7 P w ks is ep))) (ks.map iD) [] (M1.set k (.raw (p7 P w ks is ep))) λys M2=>M2[k]? =!(.raw (p7 P w ks is ep))/\Dn.nx (ρ.set i (!(.lst ys))) (M2.set k (.cB ks (is.map oD)))) Dn.x
section
variable{elt c:Expr}{px:Pos}{tc:DT}
def yy{y:Str}{py mU:Pos}(hN:X.N.Nodup)(LO:X.N[i]? =!y)(hy:Loc X.env.scope y)(S:aw X scope [x] ys Χ)(hi:JE X R iter to)(ht:∀C s H fp,JT (Cx.comp X (x::ys) scope C s H fp) (λ_=>E0) c tc)(he:∀C s H fp,JE (Cx.comp X (x::ys) scope C s H fp) (λ_=>E0) elt te)(hc:X.calm=true|>1)(Jb:swapsWith (.ListComp elt [(.Name x px,iter,[c],0)] scope pos) (!(.Name y py)) mU.line X.env=pure true|>1)(hs:(∀x,foldedSetIterable iter X.env x=pure x)|>3)(hf:X.fn y=true\/X.env.scope.names.lookup y=some .local:=by first| exact .inl rfl| exact .inr rfl| assumption):JS X R (.Assign [.Name y py] (.ListComp elt [(.Name x px,iter,[c],0)] scope pos) mU) (RI X.prog X.w i to tc te Χ):=
 .of (uk (oX (tc:=Bu X.K (λ_=>E0) tc) (te:=rq X.K (λ_=>E0) te) hN LO hy S hc (Em hi) (fk S (i:=0) rfl) (eR (Nat.zero_lt_succ 0)) (λC s H fp=>wy (ht C s H fp)) he Jb hs hf)) λσ H G L ρ M Dn rl n h hx=>by
  show(G,L,ρ,M,_,_,rl,n,h,hx,λv H1 xz=>?_);let(d,G1,L1,M1,e1,r1,n1,k,ks,is,ed,hk,hz,h1):=xz;subst ed;let(a,rfl,Dz):=n1;let(hGa,vs,hH,hl,dn):=r1.dF k a _ Dz hk;let ZI:=CV dn;subst ZI;rw[aae]at hl;show(a,_,rfl,hH,λep D hD=>?_);let h1:=h1 ep;generalize hu:p7 X.prog X.w ks is ep=u at h1;let Lu:vR X.prog X.w a (ks.zip (is.map oV)) ep=u a:=by rw[<-hu];rfl
  let r2:Rl X.K G1 L1 (M1.set k (.raw u)) (upd H1 a (vR X.prog X.w a (ks.zip (is.map oV)) ep)):=r1.setM (m:=.raw u) Dz (show upd H1 a _ a=!(u a) by rw[Ζ,Lu]);let e2:Ex G1 L1 H1 G1 L1 (upd H1 a (vR X.prog X.w a (ks.zip (is.map oV)) ep)):=r1.Hs Dz;let zl:-(ks.zip (is.map oV))=-ks:=by rw[abi,aae];omega
  generalize Q6:upd H1 a (vR X.prog X.w a (ks.zip (is.map oV)) ep)=H2 at r2 e2 hD;let yl:Ob X.K (WT X.prog X.w a (ks.zip (is.map oV)) ep) (ks.map iD) (λM'=>M'[k]? =!(.raw u)) G1 L1:=by
   show(λi G' L' M' H' d g l r' au hd=>?_,λi G' L' M' H' g l r' au hd=>?_)
   .let L6:H' a=!(u a):=(r'.dF k a _ (l.get Dz) au).2;let hi:i < -ks:=by have:=(aaj.mp hd).1;rwa[aae]at this
    show((by rw[Lu];show L6,()),λv H3 hy=>?_);let(rfl,kv,Sy,rfl):=hy;rw[abK]at Sy;rw[aan,Sy.1]at hd;let hd:iD kv.1=d:=aav hd;rw[<-hd];show(G',.refl _ _ _,r',v8 _)
   .let L6:H' a=!(u a):=(r'.dF k a _ (l.get Dz) au).2;rw[aae]at hd;show(by rw[Lu];show L6,())
  show qE aJ r2 ((n.mono e1).mono e2) yl hD (by rw[aae];show hz) h1 fun G3 L3 M3 H3 ds vs e3 r3 g3 l3 Zq n3 (hm,hq)=>?_;let Px:=e3.l.get Dz;let WG:H3 a=!(u a):=(r3.dF k a _ Px hm).2;show(a,ks.zip (is.map oV),ep,by rw[Lu];show WG,?_);let ne:D≠a:=λz=>by rw[z,WG,<-Lu]at Zq;cases Zq
  let(d4,G4,L4,M4,e4,r4,n4,h4):=Dv (q:=λd M=>Dn.nx (ρ.set i (!d)) M) (e3.trans (r3.Hs Px)) (r3.setM (m:=.cB ks (is.map oD)) Px (is.map oV,Ζ,by rw[aae];show hl,qJ is)) hD g3 l3 (by rw[υ ne];show Zq) n3 hq;let e14:=(e1.trans e2).trans e4;show(_,G4,L4,M4,e14,r4,(n.mono e14).set i n4,h4)
end
end L2
namespace Fr0
variable{b t:Int}
def g(a b:Int):Int:=(Int.gcd a b:Nat)
def zj{a:Int}(h:b≠0):0 < g a b:=by have:=Int.gcd_pos_of_ne_zero_right a h;unfold g;omega
def J7{a:Int}(h:0<=a):g a 0=a:=by unfold g;rw[Int.gcd_zero_right];omega
def Ld{a:Int}(hb:0 < b):g b (a.fmod b)=g a b:=by
 unfold g;rw[abT a (aas hb),Int.gcd_comm a b]
 congr 1
 show Int.gcd_right_eq_iff.mpr λc hc=>?_;rw[Int.emod_def];constructor
 .intro h;have:=Int.dvd_add h (Int.dvd_mul_of_dvd_left (c:=a / b) hc);rwa[Int.sub_add_cancel]at this
 .intro h;show Int.dvd_sub h (Int.dvd_mul_of_dvd_left (c:=a / b) hc)
def Oz(a b:Int):g (if a < 0 then - a else a) (if b < 0 then - b else b)=g a b:=by unfold g;split <;> split <;> simp
def dv(t b:Int):Int:=if b < 0 then - (g t b) else g t b
def ak(t b:Int):Int×Int:=(t.fdiv (dv t b), b.fdiv (dv t b))
def EC(h:b≠0):dv t b≠0:=by have:=zj (a:=t) h;unfold dv;split <;> omega
def As{k p:Int}(h:k≠0):(k * p).fdiv k=p:=by rw[abc];show Int.mul_fdiv_cancel p h
def HL(h:b≠0):∃p q:Int,t=dv t b * p/\b=dv t b * q/\0 < q/\Int.gcd p q=1:=by
 let hg:=zj (a:=t) h;let h0:0 < Int.gcd t b:=Int.gcd_pos_of_ne_zero_right t h;let(p,hp):=Int.gcd_dvd_left t b;let(q,hq):=Int.gcd_dvd_right t b;let hc:Int.gcd p q=1:=by
  let e:=Int.gcd_ediv_gcd_ediv_gcd h0;let n0:(Int.gcd t b:Int)≠0:=()
  let e1:t / (Int.gcd t b:Int)=p:=by
   conv=>lhs;arg 1;rw[hp]
   show abC p n0
  let e2:b / (Int.gcd t b:Int)=q:=by
   conv=>lhs;arg 1;rw[hq]
   show abC q n0
  rwa[e1,e2]at e
 let zO:t=g t b * p:=hp;let pN:b=g t b * q:=hq;by_cases hb:b < 0
 .let hd:dv t b= - (g t b):=by unfold dv;rw[if_pos hb]
  show(- p,- q,?_,?_,?_,?_)
  .rw[hd,Int.neg_mul_neg];show zO
  .rw[hd,Int.neg_mul_neg];show pN
  .have:g t b * q < 0:=by rw[<-pN];show hb
   by_cases q0:0<=q
   .show aaO (abn (aas hg) q0) ()
   .omega
  .simpa using hc
 .let hd:dv t b=g t b:=by unfold dv;rw[if_neg hb]
  show(p,q,by rw[hd];show zO,by rw[hd];show pN,?_,hc);have:0 < g t b * q:=by rw[<-pN];omega
  show Int.pos_of_mul_pos_right this hg
def fW  (h : b ≠ 0) : ∃p q : Int,ak t b = (p, q) /\ 0 < q /\ Int.gcd p q = 1 /\ t = dv t b * p /\ b = dv t b * q :=by
  obtain⟨p,q,hp,hq,h0,hc⟩ :=HL (t :=t) h;let n0 :=EC (t :=t) h;show(p,q,?_,h0,hc,hp,hq);unfold ak
  have e1 : t.fdiv (dv t b) = p := by conv => lhs; arg 1; rw [hp]
                                      show As n0
  have e2 : b.fdiv (dv t b) = q := by conv => lhs; arg 1; rw [hq]
                                      show As n0
  rw[e1,e2]
def b7(h:b≠0):t * (ak t b).2=b * (ak t b).1:=by
 let(p,q,e,_,_,hp,hq):=fW (t:=t) h;rw[e];change t * q=b * p
 calc t * q=dv t b * p * q:=by rw[<-hp]
  _=dv t b * q * p:=by rw[acw,abc p q,<-acw]
  _=b * p:=by rw[<-hq]
def cL(h:b≠0):0 < (ak t b).2:=by let(p,q,e,h0,_):=fW (t:=t) h;rw[e];show h0
def yk(h:b≠0):Int.gcd (ak t b).1 (ak t b).2=1:=by let(p,q,e,_,hc,_):=fW (t:=t) h;rw[e];show hc
def pb{k m n:Int}(h:k∣m * n)(hc:Int.gcd k m=1):k∣n:=by have:=(Int.dvd_gcd_mul_iff_dvd_mul (k:=k) (n:=m) (m:=n)).mpr h;rw[hc]at this;simpa using this
def Bc{p q p' q':Int}(hq:0 < q)(pN:0 < q')(h:Int.gcd p q=1)(h':Int.gcd p' q'=1)(e:p * q'=p' * q):p=p'/\q=q':=by
 let d1:q∣q':=by have:q∣p * q':=(p',by rw[e,abc]);show pb this (by rw[Int.gcd_comm];show h)
 let d2:q'∣q:=by have:q'∣p' * q:=(p,by rw[<-e,abc]);show pb this (by rw[Int.gcd_comm];show h')
 let eq:q=q':=Int.le_antisymm (acf pN d1) (acf hq d2);subst eq;show(Int.eq_of_mul_eq_mul_right () e,rfl)
def Ng{p q:Int}(h:b≠0)(hq:0 < q)(hc:Int.gcd p q=1)(e:t * q=b * p):ak t b=(p, q):=by
 let h1:=b7 (t:=t) h;let h2:=cL (t:=t) h;let h3:=yk (t:=t) h;let h4:(ak t b).1 * q=p * (ak t b).2:=by
  have:b * ((ak t b).1 * q)=b * (p * (ak t b).2):=by rw[<-acw,<-h1,Int.mul_right_comm,e,acw]
  show aaZ h this
 have:=Bc h2 hq h3 hc h4;show Prod.ext this.1 this.2
def vg(h:b≠0):(dv t b).natAbs<=b.natAbs:=by
 let e:(dv t b).natAbs=Int.gcd t b:=by unfold dv g;split <;> omega
 rw[e];show Int.gcd_le_natAbs_right t h
def zi  (h : b ≠ 0) : (ak t b).1.natAbs <= t.natAbs :=by
  obtain⟨p,q,e,_,_,hp,_⟩ :=fW (t :=t) h;let n0 :=EC (t :=t) h;rw[e];change p.natAbs <= t.natAbs
  have : t.natAbs = (dv t b).natAbs * p.natAbs := by conv => lhs; rw [hp]
                                                     show abo _ _
  rw[this];show Nat.le_mul_of_pos_left _ ()
def mE  (h : b ≠ 0) : (ak t b).2.natAbs <= b.natAbs :=by
  obtain⟨p,q,e,_,_,_,hq⟩ :=fW (t :=t) h;let n0 :=EC (t :=t) h;rw[e];change q.natAbs <= b.natAbs
  have : b.natAbs = (dv t b).natAbs * q.natAbs := by conv => lhs; rw [hq]
                                                     show abo _ _
  rw[this];show Nat.le_mul_of_pos_left _ ()
def ME(h:0 < b):ak t b=(t.fdiv (g t b), b.fdiv (g t b)):=by unfold ak dv;rw[aaE ()]
end Fr0
namespace Tx
open PySem PySem.NumText
end Tx
namespace Bz
variable{f:Nat->Int}{n i a m:Nat}{μ ρ:List Nat}{d B:Int}
abbrev Row:=Nat->Int
variable{γ:List Row}{A W:Nat->Row}{w:Row}
abbrev Fn:=List Nat->Int
def Lx(x:Row):Fn->Fn
 | _,[]=>0
 | F,c::cs=>x c * F cs - Lx x (λt=>F (c::t)) cs
def AM(x:Row):∀(cs:List Nat) (F G:Fn),Lx x (λt=>F t+G t) cs=Lx x F cs+Lx x G cs
 | [],F,G=>by simp[Lx]
 | c::cs,F,G=>by have:=AM x cs (λt=>F (c::t)) (λt=>G (c::t));simp only[Lx];rw[this];grind
def lE(x:Row)(k:Int):∀(cs:List Nat) (F:Fn),Lx x (λt=>k * F t) cs=k * Lx x F cs
 | [],F=>by simp[Lx]
 | c::cs,F=>by have:=lE x k cs (λt=>F (c::t));simp only[Lx];rw[this];grind
def Jf(x:Row)(cs:List Nat)(F G:Fn):Lx x (λt=>F t - G t) cs=Lx x F cs - Lx x G cs:=by
 let h1:=AM x cs F (λt=>(- 1) * G t);let h2:=lE x (- 1) cs G;let e:(λt=>F t - G t)=λt=>F t+(- 1) * G t:=by funext t;grind
 rw[e,h1,h2];grind
def D4(x:Row):∀(cs:List Nat),Lx x (λ_=>0) cs=0
 | []=>rfl
 | c::cs=>by simp only[Lx];rw[D4 x cs];simp
def xH(x y:Row):∀(cs:List Nat) (F:Fn),Lx x (Lx y F) cs= - Lx y (Lx x F) cs
 | [],F=>rfl
 | c::cs,F=>by let ih:=xH x y cs (λt=>F (c::t));let e1:(λt=>Lx y F (c::t))=λt=>y c * F t - Lx y (λu=>F (c::u)) t:=rfl;let e2:(λt=>Lx x F (c::t))=λt=>x c * F t - Lx x (λu=>F (c::u)) t:=rfl;change x c * Lx y F cs - Lx x (λt=>Lx y F (c::t)) cs= - (y c * Lx x F cs - Lx y (λt=>Lx x F (c::t)) cs);rw[e1,e2,Jf,Jf,lE,lE,ih];grind
def NV(x:Row)(cs:List Nat)(F:Fn):Lx x (Lx x F) cs=0:=by have:=xH x x cs F;omega
def wJ(x:Row)(d:Nat):∀(cs:List Nat) (F:Fn),Lx x F (cs++[d])=Lx x (λt=>F (t++[d])) cs+(- 1) ^ (-cs) * (x d * F cs)
 | [],F=>by simp[Lx]
 | c::cs,F=>by have:=wJ x d cs (λt=>F (c::t));change x c * F (cs++[d]) - Lx x (λt=>F (c::t)) (cs++[d])=_;rw[this];change _=(x c * F (cs++[d]) - Lx x (λt=>F (c::(t++[d]))) cs)+(- 1) ^ (-cs+1) * (x d * F (c::cs));let e:(λt=>F (c::(t++[d])))=λt=>(λu=>F (c::u)) (t++[d]):=rfl;rw[e,abY];grind
def Aq(x:Row){F G:Fn}{n:Nat}:∀(cs:List Nat),(∀t,-t+1=-cs->F t=G t)->Lx x F cs=Lx x G cs:=by
 intro cs
 induction cs generalizing F G with
 | nil=>intro _;rfl
 | cons c cs ih=>
  intro h;simp only[Lx];rw[h cs (by simp),ih (F:=λt=>F (c::t)) (G:=λt=>G (c::t)) λt ht=>h (c::t) (by simp;omega)]
def ω(f:Nat->Int):Nat->Int
 | 0=>0
 | n+1=>ω f n+f n
def gG(f g:Nat->Int):∀n,ω (λi=>f i+g i) n=ω f n+ω g n
 | 0=>rfl
 | n+1=>by simp only[ω];rw[gG f g n];omega
def Ξ(k:Int)(f:Nat->Int):∀n,ω (λi=>k * f i) n=k * ω f n
 | 0=>by simp[ω]
 | n+1=>by simp only[ω];rw[Ξ k f n,Int.mul_add]
def ξ{f g:Nat->Int}:∀{n:Nat},(∀i,i < n->f i=g i)->ω f n=ω g n
 | 0,_=>rfl
 | n+1,h=>by simp only[ω];rw[ξ λi hi=>h i (),h n ()]
def iC(h:∀i,i < n->f i=0):ω f n=0:=by
 rw[ξ h];clear h
 induction n with
 | zero=>rfl
 | succ n ih=>simp only[ω];rw[ih];rfl
def iA{j:Nat}(hj:j < n)(h:∀i,i < n->i≠j->f i=0):ω f n=f j:=by
 induction n with
 | zero=>omega
 | succ n ih=>
  simp only[ω];by_cases e:j=n
  .subst e;rw[iC λi hi=>h i () ()];omega
  .rw[ih () λi hi fZ=>h i () fZ,h n () ()];omega
def lC(f:Nat->Int):∀n,ω f (n+1)=f 0+ω (λi=>f (i+1)) n
 | 0=>by simp[ω]
 | n+1=>by have:=lC f n;rw[show ω f (n+1+1)=ω f (n+1)+f (n+1) from rfl,this];simp only[ω];omega
def cR(f:Nat->Nat->Int)(m:Nat):∀n,ω (λi=>ω (f i) m) n=ω (λj=>ω (λi=>f i j) n) m
 | 0=>by rw[show ω (λi=>ω (f i) m) 0=0 from rfl];show(iC λ_ _=>rfl).symm
 | n+1=>by rw[show ω (λi=>ω (f i) m) (n+1)=ω (λi=>ω (f i) m) n+ω (f n) m from rfl,cR f m n,<-gG];rfl
def vw(x:Row):∀(cs:List Nat) (F:Fn),Lx x F cs=ω (λp=>(- 1) ^ p * (x (cs.getD p 0) * F (cs.eraseIdx p))) (-cs)
 | [],F=>rfl
 | c::cs,F=>by
  let ih:=vw x cs (λt=>F (c::t));change x c * F cs - Lx x (λt=>F (c::t)) cs=_;rw[aaz,lC,ih];let e:ω (λp=>(- 1) ^ (p+1) * (x ((c::cs).getD (p+1) 0) * F ((c::cs).eraseIdx (p+1)))) (-cs)= - 1 * ω (λp=>(- 1) ^ p * (x (cs.getD p 0) * F (c::cs.eraseIdx p))) (-cs):=by rw[<-Ξ];show ξ λp _=>?_;simp only[List.getD_cons_succ,List.eraseIdx_cons_succ];rw[Int.pow_succ];grind
  rw[e];simp only[List.getD_cons_zero,List.eraseIdx_cons_zero,Int.pow_zero];omega
def F0:Fn:=λcs=>if cs=[] then 1 else 0
def D:List Row->Fn
 | []=>F0
 | x::xs=>Lx x (D xs)
def nc(y:Row):∀(xs ys:List Row) (cs:List Nat),D (xs++y::ys) cs=(- 1) ^ (-xs) * D (y::(xs++ys)) cs
 | [],ys,cs=>by simp
 | x::xs,ys,cs=>by
  change Lx x (D (xs++y::ys)) cs=_;let e:D (xs++y::ys)=λt=>(- 1) ^ (-xs) * D (y::(xs++ys)) t:=by funext t;show nc y xs ys t
  rw[e,lE];change(- 1) ^ (-xs) * Lx x (Lx y (D (xs++ys))) cs=(- 1) ^ (-xs+1) * Lx y (Lx x (D (xs++ys))) cs;rw[xH x y,Int.pow_succ];grind
def U7(y:Row)(xs ys zs:List Row)(cs:List Nat):D (xs++y::(ys++y::zs)) cs=0:=by
 rw[nc];let e:D (y::(xs++(ys++y::zs))) cs=Lx y (λt=>D (xs++(ys++y::zs)) t) cs:=rfl;let e2:(λt=>D (xs++(ys++y::zs)) t)=λt=>(- 1) ^ (-(xs++ys)) * Lx y (D (xs++ys++zs)) t:=by
  funext t
  rw[<-abm,nc];rfl
 rw[e,e2,lE,NV];simp
def eO(γ:List Row)(μ:List Nat)(p k:Nat):Int:=(- 1) ^ (p+k) * D (γ.eraseIdx k) (μ.eraseIdx p)
def zr:Row:=λ_=>0
def Qq(n:Nat):((- 1:Int) ^ n) * (- 1) ^ n=1:=by
 induction n with
 | zero=>rfl
 | succ n ih=>rw[Int.pow_succ];grind
def IL{α:Type}:∀{l:List α} {k:Nat} (h:k < -l),l=l.take k++l[k]::l.drop (k+1):=by intro l k h;rw[List.getElem_cons_drop,List.take_append_drop]
def Hk{α:Type}{l:List α}{k:Nat}(hi:i < -l)(fZ:i≠k):l[i]∈l.eraseIdx k:=by rw[List.mem_eraseIdx_iff_getElem];show(i,hi,fZ,rfl)
def PA{k:Nat}(hl:-μ=-γ)(hi:i < -γ)(hk:k < -γ):ω (λp=>γ.getD i zr (μ.getD p 0) * eO γ μ p k) (-γ)=if i=k then D γ μ else 0:=by
 let gi:γ.getD i zr=γ[i]:=by rw[aac,aaa hi];rfl
 let e:ω (λp=>γ.getD i zr (μ.getD p 0) * eO γ μ p k) (-γ)=(- 1) ^ k * D (γ.getD i zr::γ.eraseIdx k) μ:=by change _=(- 1) ^ k * Lx (γ.getD i zr) (D (γ.eraseIdx k)) μ;rw[vw,<-Ξ,hl];show ξ λp _=>?_;unfold eO;rw[Int.pow_add];grind
 rw[e,gi];by_cases h:i=k
 .subst h;rw[aaG rfl];let s:=IL hi;let f:=nc γ[i] (γ.take i) (γ.drop (i+1)) μ;rw[<-s,ack,acu ()]at f;rw[f,List.eraseIdx_eq_take_drop_succ]
 .rw[aaE h];let(ys,zs,e2):=List.append_of_mem (Hk hi h);rw[e2];have:=U7 γ[i] [] ys zs μ;rw[show D (γ[i]::(ys++γ[i]::zs)) μ=0 from this];simp
def vt(x:Row)(g:Nat->Int)(F:Nat->Fn)(cs:List Nat):∀n,Lx x (λt=>ω (λk=>g k * F k t) n) cs=ω (λk=>g k * Lx x (F k) cs) n
 | 0=>D4 x cs
 | n+1=>by have:=AM x cs (λt=>ω (λk=>g k * F k t) n) (λt=>g n * F n t);change Lx x (λt=>ω (λk=>g k * F k t) n+g n * F n t) cs=_;rw[this,vt x g F cs n,lE];rfl
def OJ(c:Nat):∀(γ:List Row) (t:List Nat),D γ (t++[c])=ω (λk=>(- 1) ^ (-t+k) * (γ.getD k zr c * D (γ.eraseIdx k) t)) (-γ)
 | [],t=>by change F0 (t++[c])=0;unfold F0;simp
 | x::xs,t=>by
  change Lx x (D xs) (t++[c])=_;rw[wJ,aaz,lC];let e:Lx x (λu=>D xs (u++[c])) t=ω (λk=>(- 1) ^ (-t+(k+1)) * ((x::xs).getD (k+1) zr c * D ((x::xs).eraseIdx (k+1)) t)) (-xs):=by
   let e1:Lx x (λu=>D xs (u++[c])) t=Lx x (λu=>ω (λk=>((- 1) ^ (-t+(k+1)) * xs.getD k zr c) * D (xs.eraseIdx k) u) (-xs)) t:=by show Aq x (n:=0) t λu hu=>?_;rw[OJ c xs u];show ξ λk _=>?_;rw[<-hu,show -u+1+(k+1)=-u+k+1+1 by omega,Int.pow_succ,Int.pow_succ];grind
   rw[e1,vt x (λk=>(- 1) ^ (-t+(k+1)) * xs.getD k zr c) (λk=>D (xs.eraseIdx k))];show ξ λk _=>?_;simp only[List.getD_cons_succ,List.eraseIdx_cons_succ];change _=(- 1) ^ (-t+(k+1)) * (xs.getD k zr c * Lx x (D (xs.eraseIdx k)) t);grind
  rw[e];simp only[List.getD_cons_zero,List.eraseIdx_cons_zero,Nat.add_zero];omega
def Hx{y:Row}{c:Nat}(hl:-μ=-γ):D (γ++[y]) (μ++[c])=y c * D γ μ - ω (λp=>y (μ.getD p 0) * ω (λk=>eO γ μ p k * γ.getD k zr c) (-γ)) (-γ):=by
 rw[nc,aa0];change(- 1) ^ (-γ) * Lx y (D γ) (μ++[c])=_;rw[wJ];let e1:Lx y (λt=>D γ (t++[c])) μ= - ((- 1) ^ (-γ) * ω (λp=>y (μ.getD p 0) * ω (λk=>eO γ μ p k * γ.getD k zr c) (-γ)) (-γ)):=by
  let e2:Lx y (λt=>D γ (t++[c])) μ=Lx y (λt=>ω (λk=>(- ((- 1) ^ (-γ+k) * γ.getD k zr c)) * D (γ.eraseIdx k) t) (-γ)) μ:=by show Aq y (n:=0) μ λt ht=>?_;rw[OJ c γ t];show ξ λk _=>?_;rw[<-hl,<-ht,show -t+1+k=-t+k+1 by omega,Int.pow_succ];grind
  rw[e2,vt y (λk=> - ((- 1) ^ (-γ+k) * γ.getD k zr c)) (λk=>D (γ.eraseIdx k))];let e3:ω (λk=> - ((- 1) ^ (-γ+k) * γ.getD k zr c) * Lx y (D (γ.eraseIdx k)) μ) (-γ)=ω (λk=>ω (λp=> - ((- 1) ^ (-γ)) * (y (μ.getD p 0) * (eO γ μ p k * γ.getD k zr c))) (-γ)) (-γ):=by show ξ λk _=>?_;rw[vw,<-Ξ,hl];show ξ λp _=>?_;unfold eO;rw[Int.pow_add,Int.pow_add];grind
  rw[e3,cR];let e4:ω (λp=>ω (λk=> - ((- 1) ^ (-γ)) * (y (μ.getD p 0) * (eO γ μ p k * γ.getD k zr c))) (-γ)) (-γ)=ω (λp=> - ((- 1) ^ (-γ)) * (y (μ.getD p 0) * ω (λk=>eO γ μ p k * γ.getD k zr c) (-γ))) (-γ):=by show ξ λp _=>?_;rw[Ξ,Ξ]
  rw[e4,Ξ];grind
 rw[e1,hl];let s:=Qq (-γ);generalize ((- 1:Int) ^ (-γ))=z at *
 generalize ω _ (-γ)=q;grind
def Lc{v:Nat->Int}{e:Int}{k:Nat}(hl:-μ=-γ)(hi:i < -γ)(hk:k < -γ)
  (h:∀p,p < -γ->ω (λj=>v j * γ.getD j zr (μ.getD p 0)) (-γ)=if i=p then e else 0):v k * D γ μ=e * eO γ μ i k:=by
 let a:ω (λp=>ω (λj=>v j * γ.getD j zr (μ.getD p 0)) (-γ) * eO γ μ p k) (-γ)=e * eO γ μ i k:=by rw[iA hi λp hp fZ=>by rw[h p hp,if_neg (Ne.symm fZ)];simp];rw[h i hi,aaG rfl]
 let b:ω (λp=>ω (λj=>v j * γ.getD j zr (μ.getD p 0)) (-γ) * eO γ μ p k) (-γ)=ω (λj=>v j * ω (λp=>γ.getD j zr (μ.getD p 0) * eO γ μ p k) (-γ)) (-γ):=by
  let e1:ω (λp=>ω (λj=>v j * γ.getD j zr (μ.getD p 0)) (-γ) * eO γ μ p k) (-γ)=ω (λp=>ω (λj=>v j * (γ.getD j zr (μ.getD p 0) * eO γ μ p k)) (-γ)) (-γ):=by show ξ λp _=>?_;rw[abc,<-Ξ];show ξ λj _=>?_;grind
  rw[e1,cR];show ξ λj _=>?_;rw[<-Ξ]
 rw[<-a,b,iA hk λj hj fZ=>by rw[PA hl hj hk,if_neg fZ];simp];rw[PA hl hk hk,aaG rfl]
def ind(a k:Nat):Int:=if a=k then 1 else 0
def rv(A:Nat->Row)(n:Nat)(w:Row)(x:Nat):Int:=ω (λk=>w k * A k x) n
def mZ(h:a < n):ω (λk=>ind a k * f k) n=f a:=by rw[iA h λi _ fZ=>by unfold ind;rw[if_neg (Ne.symm fZ)];simp];unfold ind;rw[if_pos rfl];simp
def xw{u v:Row}{a b:Int}(h:∀k,w k=a * u k - b * v k)(x:Nat):rv A n w x=a * rv A n u x - b * rv A n v x:=by
 unfold rv;let e:ω (λk=>w k * A k x) n=ω (λk=>a * (u k * A k x)+(- b) * (v k * A k x)) n:=ξ λk _=>by rw[h k];grind
 rw[e,gG,Ξ,Ξ];grind
def Jg{r:Nat}{g:Nat->Int}{u:Nat->Row}(h:∀k,w k=ω (λj=>g j * u j k) r)(x:Nat):rv A n w x=ω (λj=>g j * rv A n (u j) x) r:=by
 unfold rv;let e:ω (λk=>w k * A k x) n=ω (λk=>ω (λj=>g j * (u j k * A k x)) r) n:=ξ λk _=>by rw[h k,abc,<-Ξ];show ξ λj _=>by grind
 rw[e,cR];show ξ λj _=>Ξ _ _ _
def CO(h:a < n)(x:Nat):rv A n (ind a) x=A a x:=by unfold rv;show mZ (f:=λk=>A k x) h
structure St(A:Nat->Row)(n:Nat)(ρ μ:List Nat)(q:Nat->Nat)(d:Int)(W:Nat->Row):Prop where
 lc:-μ=-ρ
 rn:-ρ<=n
 Ma:∀i,i < n->q i < n
 yB:∀j,j < -ρ->ρ.getD j 0 < n
 det:D (ρ.map A) μ=d
 wp:∀i,i < -ρ->∀k,W i k=ω (λj=>eO (ρ.map A) μ i j * ind (ρ.getD j 0) k) (-ρ)
 wn:∀i,-ρ<=i->i < n->∀k,W i k=d * ind (q i) k - ω (λp=>A (q i) (μ.getD p 0) * W p k) (-ρ)
 one:∀i p,i < -ρ->p < -ρ->rv A n (W i) (μ.getD p 0)=if i=p then d else 0
section
variable{q:Nat->Nat}
def sR{j:Nat}(h:j < -ρ):(ρ.map A).getD j zr=A (ρ.getD j 0):=by rw[aac,aan,aaa h,aac,aaa h];rfl
def St.Sd(s:St A n ρ μ q d W)(hi:i < -ρ)(x:Nat):rv A n (W i) x=ω (λj=>eO (ρ.map A) μ i j * A (ρ.getD j 0) x) (-ρ):=by rw[Jg (u:=λj=>ind (ρ.getD j 0)) (s.wp i hi)];show ξ λj hj=>by rw[CO (s.yB j hj)]
def St.Rf(s:St A n ρ μ q d W)(h1:-ρ<=i)(hi:i < n)(x:Nat):rv A n (W i) x=d * A (q i) x - ω (λp=>A (q i) (μ.getD p 0) * rv A n (W p) x) (-ρ):=by
 let h:∀k,W i k=d * ind (q i) k - 1 * ω (λp=>A (q i) (μ.getD p 0) * W p k) (-ρ):=λk=>by rw[s.wn i h1 hi k];omega
 rw[xw h x,CO (s.Ma i hi),Jg (w:=λk=>ω (λp=>A (q i) (μ.getD p 0) * W p k) (-ρ)) (u:=W) (λk=>rfl)];omega
def St.zero(s:St A n ρ μ q d W){p:Nat}(h1:-ρ<=i)(hi:i < n)(hp:p < -ρ):rv A n (W i) (μ.getD p 0)=0:=by
 rw[s.Rf h1 hi];let e:ω (λp'=>A (q i) (μ.getD p' 0) * rv A n (W p') (μ.getD p 0)) (-ρ)=A (q i) (μ.getD p 0) * d:=by rw[iA hp λp' zO fZ=>by rw[s.one p' p zO hp,if_neg fZ];simp];rw[s.one p p hp hp,aaG rfl]
 rw[e];grind
def St.head(s:St A n ρ μ q d W)(hr:-ρ < n)(c:Nat):D ((ρ++[q (-ρ)]).map A) (μ++[c])=rv A n (W (-ρ)) c:=by
 rw[abb,s.Rf (aam _) hr];change D (ρ.map A++[A (q (-ρ))]) (μ++[c])=_;rw[Hx (by rw[aae];show s.lc),s.det,aae,abc]
 congr 1
 show ξ λp hp=>?_;rw[s.Sd hp]
 congr 1
 show ξ λk hk=>by rw[sR hk]
def mz{j:Nat}{l:List Nat}(h:j < -l):(l++[a]).getD j 0=l.getD j 0:=by rw[aac,aaF h,<-aac]
def mB{l:List Nat}:(l++[a]).getD (-l) 0=a:=by simp
def mix(f:Nat->Int)(s:St A n ρ μ q d W)(a L:Int)(g:Nat->Int):
  ω (λj=>(if j < -ρ then a * g j+L * ω (λp=>A (q (-ρ)) (μ.getD p 0) * eO (ρ.map A) μ p j) (-ρ) else - (L * d)) * f ((ρ++[q (-ρ)]).getD j 0)) (-ρ+1)
  =a * ω (λj=>g j * f (ρ.getD j 0)) (-ρ) - L * (d * f (q (-ρ)) - ω (λp=>A (q (-ρ)) (μ.getD p 0) * ω (λj=>eO (ρ.map A) μ p j * f (ρ.getD j 0)) (-ρ)) (-ρ)):=by
 rw[show∀F:Nat->Int,ω F (-ρ+1)=ω F (-ρ)+F (-ρ) fromλ_=>rfl,mB,aaE (abv _)]
 let e:ω (λj=>(if j < -ρ then a * g j+L * ω (λp=>A (q (-ρ)) (μ.getD p 0) * eO (ρ.map A) μ p j) (-ρ) else - (L * d)) * f ((ρ++[q (-ρ)]).getD j 0)) (-ρ)
   =ω (λj=>a * (g j * f (ρ.getD j 0))+L * ω (λp=>A (q (-ρ)) (μ.getD p 0) * (eO (ρ.map A) μ p j * f (ρ.getD j 0))) (-ρ)) (-ρ):=by
  show ξ λj hj=>?_;rw[aaG hj,mz hj];let e2:ω (λp=>A (q (-ρ)) (μ.getD p 0) * (eO (ρ.map A) μ p j * f (ρ.getD j 0))) (-ρ)=f (ρ.getD j 0) * ω (λp=>A (q (-ρ)) (μ.getD p 0) * eO (ρ.map A) μ p j) (-ρ):=by rw[<-Ξ];show ξ λp _=>by grind
  rw[e2];grind
 rw[e,gG,Ξ,Ξ,cR (λj p=>A (q (-ρ)) (μ.getD p 0) * (eO (ρ.map A) μ p j * f (ρ.getD j 0)))]
 let e3:ω (λp=>ω (λj=>A (q (-ρ)) (μ.getD p 0) * (eO (ρ.map A) μ p j * f (ρ.getD j 0))) (-ρ)) (-ρ)=ω (λp=>A (q (-ρ)) (μ.getD p 0) * ω (λj=>eO (ρ.map A) μ p j * f (ρ.getD j 0)) (-ρ)) (-ρ):=
  ξ λp _=>Ξ _ _ _
 rw[e3];grind
def St.step(s:St A n ρ μ q d W)(hr:-ρ < n)(c:Nat)(d0:d≠0)(h0:rv A n (W (-ρ)) c≠0):
  ∃W':Nat->Row,St A n (ρ++[q (-ρ)]) (μ++[c]) q (rv A n (W (-ρ)) c) W'/\(∀k,W' (-ρ) k=W (-ρ) k)/\
   ∀i,i < n->i≠-ρ->∀k,d * W' i k=rv A n (W (-ρ)) c * W i k - rv A n (W i) c * W (-ρ) k:=by
 let hd:=s.head hr c;generalize hE:rv A n (W (-ρ)) c=E at *
 let lr:-((ρ++[q (-ρ)]).map A)=-ρ+1:=by simp
 let lc':-(μ++[c])=-((ρ++[q (-ρ)]).map A):=by rw[lr];simp[s.lc]
 let cg:∀p,p < -ρ->(μ++[c]).getD p 0=μ.getD p 0:=λp hp=>mz (by rw[s.lc];show hp);let cl:(μ++[c]).getD (-ρ) 0=c:=by rw[<-s.lc];show mB
 let rg:∀j,j < -ρ+1->((ρ++[q (-ρ)]).map A).getD j zr=A ((ρ++[q (-ρ)]).getD j 0):=λj hj=>sR (by simp;omega);let head:∀j,j < -ρ+1->(if j < -ρ then (0:Int) * 0+(- 1) * ω (λp=>A (q (-ρ)) (μ.getD p 0) * eO (ρ.map A) μ p j) (-ρ) else - ((- 1) * d))=eO ((ρ++[q (-ρ)]).map A) (μ++[c]) (-ρ) j:=λj hj=>by
  have:=Lc (γ:=(ρ++[q (-ρ)]).map A) (μ:=μ++[c]) (v:=λj=>if j < -ρ then (0:Int) * 0+(- 1) * ω (λp=>A (q (-ρ)) (μ.getD p 0) * eO (ρ.map A) μ p j) (-ρ) else - ((- 1) * d)) (e:=E) (i:=-ρ) (k:=j) lc' (by rw[lr];omega) (by rw[lr];show hj) (λp hp=>by
   rw[lr]at hp⊢;let e1:=mix (λa=>A a ((μ++[c]).getD p 0)) s 0 (- 1) (λ_=>0);let e2:ω (λj=>(if j < -ρ then (0:Int) * 0+(- 1) * ω (λp=>A (q (-ρ)) (μ.getD p 0) * eO (ρ.map A) μ p j) (-ρ) else - ((- 1) * d)) * ((ρ++[q (-ρ)]).map A).getD j zr ((μ++[c]).getD p 0)) (-ρ+1)=_:=(ξ λj hj=>by rw[rg j hj]).trans e1;rw[e2];let e3:d * A (q (-ρ)) ((μ++[c]).getD p 0) - ω (λp'=>A (q (-ρ)) (μ.getD p' 0) * ω (λj=>eO (ρ.map A) μ p' j * A (ρ.getD j 0) ((μ++[c]).getD p 0)) (-ρ)) (-ρ)=rv A n (W (-ρ)) ((μ++[c]).getD p 0):=by
    rw[s.Rf (aam _) hr]
    congr 1
    show ξ λp' zO=>by rw[s.Sd zO]
   rw[e3];by_cases Ft:p < -ρ
   .rw[cg p Ft,s.zero (Nat.le_refl _) hr Ft,if_neg ()];simp
   .have:p=-ρ:=()
    subst this
    rw[cl,hE,aaG rfl];omega)
  rw[hd]at this;show aaZ h0 ?_;rw[<-this];grind
 let hk:∀k,W (-ρ) k=ω (λj=>eO ((ρ++[q (-ρ)]).map A) (μ++[c]) (-ρ) j * ind ((ρ++[q (-ρ)]).getD j 0) k) (-ρ+1):=λk=>by
  let e1:=mix (λa=>ind a k) s 0 (- 1) (λ_=>0);let e2:ω (λj=>eO ((ρ++[q (-ρ)]).map A) (μ++[c]) (-ρ) j * ind ((ρ++[q (-ρ)]).getD j 0) k) (-ρ+1)=_:=(ξ λj hj=>by rw[<-head j hj]).trans e1;rw[e2,s.wn _ (aam _) hr k];let e3:ω (λp=>A (q (-ρ)) (μ.getD p 0) * W p k) (-ρ)=ω (λp=>A (q (-ρ)) (μ.getD p 0) * ω (λj=>eO (ρ.map A) μ p j * ind (ρ.getD j 0) k) (-ρ)) (-ρ):=ξ λp hp=>by rw[s.wp p hp k]
  rw[e3];omega
 let above:∀i,i < -ρ->∀j,j < -ρ+1->(if j < -ρ then E * eO (ρ.map A) μ i j+rv A n (W i) c * ω (λp=>A (q (-ρ)) (μ.getD p 0) * eO (ρ.map A) μ p j) (-ρ) else - (rv A n (W i) c * d))=d * eO ((ρ++[q (-ρ)]).map A) (μ++[c]) i j:=λi hi j hj=>by
  have:=Lc (γ:=(ρ++[q (-ρ)]).map A) (μ:=μ++[c]) (v:=λj=>if j < -ρ then E * eO (ρ.map A) μ i j+rv A n (W i) c * ω (λp=>A (q (-ρ)) (μ.getD p 0) * eO (ρ.map A) μ p j) (-ρ) else - (rv A n (W i) c * d)) (e:=d * E) (i:=i) (k:=j) lc' (by rw[lr];omega) (by rw[lr];show hj) (λp hp=>by
   rw[lr]at hp⊢;let e1:=mix (λa=>A a ((μ++[c]).getD p 0)) s E (rv A n (W i) c) (λj=>eO (ρ.map A) μ i j);let e2:ω (λj=>(if j < -ρ then E * eO (ρ.map A) μ i j+rv A n (W i) c * ω (λp=>A (q (-ρ)) (μ.getD p 0) * eO (ρ.map A) μ p j) (-ρ) else - (rv A n (W i) c * d)) * ((ρ++[q (-ρ)]).map A).getD j zr ((μ++[c]).getD p 0)) (-ρ+1)=_:=(ξ λj hj=>by rw[rg j hj]).trans e1;rw[e2];let e3:d * A (q (-ρ)) ((μ++[c]).getD p 0) - ω (λp'=>A (q (-ρ)) (μ.getD p' 0) * ω (λj=>eO (ρ.map A) μ p' j * A (ρ.getD j 0) ((μ++[c]).getD p 0)) (-ρ)) (-ρ)=rv A n (W (-ρ)) ((μ++[c]).getD p 0):=by
    rw[s.Rf (aam _) hr]
    congr 1
    show ξ λp' zO=>by rw[s.Sd zO]
   rw[e3,<-s.Sd hi];by_cases Ft:p < -ρ
   .rw[cg p Ft,s.zero (aam _) hr Ft,s.one i p hi Ft];split <;> grind
   .have:p=-ρ:=()
    subst this
    rw[cl,hE,if_neg ()];grind)
  rw[hd]at this;show aaZ h0 ?_;rw[Int.mul_comm,this];grind
 let abk:∀i,i < -ρ->∀k,d * ω (λj=>eO ((ρ++[q (-ρ)]).map A) (μ++[c]) i j * ind ((ρ++[q (-ρ)]).getD j 0) k) (-ρ+1)=E * W i k - rv A n (W i) c * W (-ρ) k:=λi hi k=>by
  let e1:=mix (λa=>ind a k) s E (rv A n (W i) c) (λj=>eO (ρ.map A) μ i j);let e2:d * ω (λj=>eO ((ρ++[q (-ρ)]).map A) (μ++[c]) i j * ind ((ρ++[q (-ρ)]).getD j 0) k) (-ρ+1)=_:=((Ξ _ _ _).symm.trans (ξ λj hj=>by rw[above i hi j hj];grind)).trans e1;rw[e2,s.wn _ (aam _) hr k,s.wp i hi k];let e3:ω (λp=>A (q (-ρ)) (μ.getD p 0) * W p k) (-ρ)=ω (λp=>A (q (-ρ)) (μ.getD p 0) * ω (λj=>eO (ρ.map A) μ p j * ind (ρ.getD j 0) k) (-ρ)) (-ρ):=ξ λp hp=>by rw[s.wp p hp k]
  rw[e3]
 let  V:Nat->Row:=λi k=>if i=-ρ then W (-ρ) k else ω (λj=>eO ((ρ++[q (-ρ)]).map A) (μ++[c]) i j * ind ((ρ++[q (-ρ)]).getD j 0) k) (-ρ+1)
 let  W':Nat->Row:=λi k=>if i < -ρ+1 then V i k else E * ind (q i) k - ω (λp=>A (q i) ((μ++[c]).getD p 0) * V p k) (-ρ+1)
 let Wr:∀k,W' (-ρ) k=W (-ρ) k:=λk=>by change(if -ρ < -ρ+1 then (if -ρ=-ρ then W (-ρ) k else _) else _)=_;rw[aaG (abU _),aaG rfl]
 let Wi:∀i,i < -ρ->∀k,W' i k=ω (λj=>eO ((ρ++[q (-ρ)]).map A) (μ++[c]) i j * ind ((ρ++[q (-ρ)]).getD j 0) k) (-ρ+1):=λi hi k=>by change(if i < -ρ+1 then (if i=-ρ then _ else _) else _)=_;rw[aaG (),aaE ()]
 let WV:∀p,p < -ρ+1->∀k,W' p k=V p k:=λp hp k=>by change(if p < -ρ+1 then V p k else _)=_;rw[aaG hp]
 let Wn:∀i,-ρ+1<=i->∀k,W' i k=E * ind (q i) k - ω (λp=>A (q i) ((μ++[c]).getD p 0) * W' p k) (-ρ+1):=λi hi k=>by
  change(if i < -ρ+1 then V i k else _)=_;rw[aaE ()]
  congr 1
  show ξ λp hp=>by rw[WV p hp]
 let H:∀i,i < n->i≠-ρ->∀k,d * W' i k=E * W i k - rv A n (W i) c * W (-ρ) k:=λi hi fZ k=>by
  by_cases xE:i < -ρ
  .rw[Wi i xE k];show abk i xE k
  .rw[Wn i () k,s.wn i () hi k,s.Rf () hi c];rw[show∀F:Nat->Int,ω F (-ρ+1)=ω F (-ρ)+F (-ρ) fromλ_=>rfl,cl,Wr];let e1:d * ω (λp=>A (q i) ((μ++[c]).getD p 0) * W' p k) (-ρ)=ω (λp=>E * (A (q i) (μ.getD p 0) * W p k)+(- (W (-ρ) k)) * (A (q i) (μ.getD p 0) * rv A n (W p) c)) (-ρ):=by rw[<-Ξ];show ξ λp hp=>?_;have:=abk p hp k;rw[cg p hp,Wi p hp k];grind
   rw[gG,Ξ,Ξ]at e1;grind
 show(W',(by simp[s.lc],by simp;omega,s.Ma,λj hj=>?_,hd,λi hi k=>?_,λi h1 hi k=>?_,λi p hi hp=>?_),Wr,H)
 .by_cases hjr:j < -ρ
  .rw[mz hjr];show s.yB j hjr
  .have:j=-ρ:=by simp at hj;omega
   rw[this,mB];show s.Ma _ hr
 .rw[show(ρ++[q (-ρ)]).length=-ρ+1 by simp]at hi⊢;by_cases xE:i < -ρ
  .show Wi i xE k
  .have:i=-ρ:=()
   subst this;rw[Wr k];show hk k
 .rw[show(ρ++[q (-ρ)]).length=-ρ+1 by simp]at h1⊢;show Wn i h1 k
 .rw[show(ρ++[q (-ρ)]).length=-ρ+1 by simp]at hi hp;let hrr:∀x,rv A n (W' (-ρ)) x=rv A n (W (-ρ)) x:=λx=>by unfold rv;show ξ λk _=>by rw[Wr k]
  by_cases xE:i < -ρ
  .let Yn:d * rv A n (W' i) ((μ++[c]).getD p 0)=E * rv A n (W i) ((μ++[c]).getD p 0) - rv A n (W i) c * rv A n (W (-ρ)) ((μ++[c]).getD p 0):=by have:=xw (A:=A) (n:=n) (w:=λk=>d * W' i k) (u:=W i) (v:=W (-ρ)) (a:=E) (b:=rv A n (W i) c) (λk=>H i () () k) ((μ++[c]).getD p 0);rw[<-this];unfold rv;rw[<-Ξ];show ξ λk _=>by grind
   show aaZ d0 ?_;rw[Yn];by_cases Ft:p < -ρ
   .rw[cg p Ft,s.zero (aam _) hr Ft,s.one i p xE Ft];split <;> grind
   .have:p=-ρ:=()
    subst this;rw[cl,hE,if_neg ()];grind
  .have:i=-ρ:=()
   subst this;rw[hrr];by_cases Ft:p < -ρ
   .rw[cg p Ft,s.zero (aam _) hr Ft,aaE ()]
   .have:p=-ρ:=()
    subst this;rw[cl,hE,aaG rfl]
end
def St.start:St A n [] [] id 1 (λi=>ind i) where
 lc:=rfl
 rn:=aca _
 Ma:=λ_ h=>h
 yB:=λ_ h=>aaO h (abD _)
 det:=rfl
 wp:=λ_ h=>aaO h (abD _)
 wn:=λi _ _ k=>by change ind i k=1 * ind i k - 0;omega
 one:=λ_ _ h=>aaO h (abD _)
def St.perm{q:Nat->Nat}(s:St A n ρ μ q d W){π:Nat->Nat}(h1:∀i,i < -ρ->π i=i)(h2:∀i,-ρ<=i->i < n->-ρ<=π i/\π i < n):St A n ρ μ (λi=>q (π i)) d (λi=>W (π i)) where
 lc:=s.lc
 rn:=s.rn
 Ma:=λi hi=>s.Ma _ (by
  by_cases h:i < -ρ
  .rw[h1 i h];show hi
  .show(h2 i () hi).2)
 yB:=s.yB
 det:=s.det
 wp:=λi hi k=>by change W (π i) k=_;rw[h1 i hi];show s.wp i hi k
 wn:=λi hi hn k=>by
  let(a,b):=h2 i hi hn;have:=s.wn (π i) a b k;rw[this]
  congr 1
  show ξ λp hp=>by rw[h1 p hp]
 one:=λi p hi hp=>by change rv A n (W (π i)) _=_;rw[h1 i hi];show s.one i p hi hp
def Ab(x B:Int):Prop:= - B<=x/\x<=B
def Ab.mul{x y C:Int}(h:Ab x B)(h':Ab y C):Ab (x * y) (B * C):=by
 let(a,b):=h;let(c,d):=h';let B0:0<=B:=()
 let C0:0<=C:=()
 let hb:x.natAbs<=B.natAbs:=()
 let hc:y.natAbs<=C.natAbs:=()
 let hm:=Nat.mul_le_mul hb hc;rw[<-abo,<-abo]at hm;let p:=abn B0 C0;show((),())
def Ab.add{x y C:Int}(h:Ab x B)(h':Ab y C):Ab (x+y) (B+C):=(by have:=h.1;have:=h'.1;omega,by have:=h.2;have:=h'.2;omega)
def Ab.sub{x y C:Int}(h:Ab x B)(h':Ab y C):Ab (x - y) (B+C):=(by have:=h.1;have:=h'.2;omega,by have:=h.2;have:=h'.1;omega)
def Ab.mono{x C:Int}(h:Ab x B)(h':B<=C):Ab x C:=(by have:=h.1;omega,by have:=h.2;omega)
def Ab.sum{f:Nat->Int}{B:Int}:∀{n:Nat},(∀i,i < n->Ab (f i) B)->Ab (ω f n) (n * B)
 | 0,_=>(by simp[ω],by simp[ω])
 | n+1,h=>by
  let i:=Ab.sum (n:=n) λi hi=>h i ();have:=Ab.add i (h n ());let e:(n:Int) * B+B=((n+1:Nat):Int) * B:=by rw[show((n+1:Nat):Int)=(n:Int)+1 from rfl,Int.add_mul,Int.one_mul]
  rw[e]at this;show this
def Ab.pow{k:Nat}{x:Int}(h:Ab x B):Ab ((- 1) ^ k * x) B:=by
 rcases(by induction k with
  | zero=>show .inl rfl
  | succ k ih=>rw[Int.pow_succ];rcases ih with e| e <;> rw[e] <;> simp:((- 1:Int) ^ k=1\/(- 1:Int) ^ k= - 1)) with e| e
 .rw[e,Int.one_mul];show h
 .rw[e];let(a,b):=h;show((),())
def Ab.det{B:Int}(B0:1<=B):∀(γ:List Row) (μ:List Nat),(∀x∈γ,∀c∈μ,Ab (x c) B)->-μ<=12->Ab (D γ μ) ((12 * B) ^ (-γ))
 | [],μ,_,_=>by
  change Ab (F0 μ) ((12 * B) ^ 0);rw[Int.pow_zero];unfold F0;split
  .show(@_,@_)
  .show(@_,@_)
 | x::γ,μ,h,hl=>by
  change Ab (Lx x (D γ) μ) _;rw[vw,aaz,abY];let P0:(0:Int)<=(12 * B) ^ (-γ):=ab1 ();let each:∀p,p < -μ->Ab ((- 1) ^ p * (x (μ.getD p 0) * D γ (μ.eraseIdx p))) (B * (12 * B) ^ (-γ)):=λp hp=>by
   show Ab.pow (Ab.mul ?_ (Ab.det B0 γ (μ.eraseIdx p) (λy hy c hc=>h y (aai _ hy) c (acq hc)) ?_))
   .rw[aac,aaa hp];show h x aal _ (aaU hp)
   .rw[List.length_eraseIdx];split <;> omega
  show(Ab.sum each).mono ?_;let Q0:0<=B * (12 * B) ^ (-γ):=abn () P0;have:=aaQ (show(-μ:Int)<=12 by omega) Q0;show abG this ?_;let e:12 * (B * (12 * B) ^ (-γ))=(12 * B) ^ (-γ) * (12 * B):=by grind
  omega
section
variable{q:Nat->Nat}
structure Bd(A:Nat->Row)(n m:Nat)(B:Int):Prop where
 b1:1<=B
 ab:∀k x,k < n->x < m->Ab (A k x) B
def top(B:Int)(r:Nat):Int:=(12 * B) ^ (r+3)
def wj{b:Nat}(h:1<=B)(P5:a<=b):(12 * B) ^ a<=(12 * B) ^ b:=by
 let(c,rfl):=Nat.exists_eq_add_of_le P5;rw[Int.pow_add];let p:(1:Int)<=(12 * B) ^ c:=by have:0 < (12 * B) ^ c:=Int.pow_pos ();omega
 let q:(0:Int)<=(12 * B) ^ a:=ab1 ();have:=aaD p q;omega
def St.abs(s:St A n ρ μ q d W)(b:Bd A n m B)(hc:∀c∈μ,c < m)(hr:-ρ<=12):
  (∀i k,i < n->Ab (W i k) (top B (-ρ)))/\(∀i x,i < n->x < m->Ab (rv A n (W i) x) (top B (-ρ)))/\Ab d (top B (-ρ)):=by
 let B0:=b.b1;let mem:∀j,j < -ρ->ρ.getD j 0∈ρ:=λj hj=>by rw[aac,aaa hj];show aaU hj
 let ρn:∀a∈ρ,a < n:=λa ha=>by let(j,hj,e):=abJ ha;have:=s.yB j hj;rw[aac,aaa hj]at this;rw[<-e];show this
 let ent:∀x∈ρ.map A,∀c∈μ,Ab (x c) B:=λx hx c BV=>by let(a,ha,rfl):=aaH.mp hx;show b.ab a c (ρn a ha) (hc c BV)
 let cl:-μ<=12:=by rw[s.lc];show hr
 let hd:Ab d ((12 * B) ^ (-ρ)):=by have:=Ab.det B0 (ρ.map A) μ ent cl;rw[s.det,aae]at this;show this
 let WB:∀p k,Ab (eO (ρ.map A) μ p k) ((12 * B) ^ (-ρ)):=λp k=>by
  unfold eO;show Ab.pow ((Ab.det B0 _ _ (λx hx c BV=>ent x (acq hx) c (acq BV)) ?_).mono (wj B0 ?_))
  .rw[List.length_eraseIdx];split <;> omega
  .rw[List.length_eraseIdx,aae];split <;> omega
 let i1:∀a k,Ab (ind a k) 1:=λa k=>by unfold ind;split <;> show(@_,@_)
 let P0:(0:Int)<=(12 * B) ^ (-ρ):=ab1 ();let Nf:∀{C:Int},0<=C->(-ρ:Int) * C<=12 * C:=λh=>aaQ () h;let c1:12 * (12 * B) ^ (-ρ)<=(12 * B) ^ (-ρ+1):=by rw[abY];have:=aaD (show(12:Int)<=12 * B by omega) P0;omega
 let wp:∀i k,i < -ρ->Ab (W i k) ((12 * B) ^ (-ρ+1)):=λi k hi=>by rw[s.wp i hi k];show(Ab.sum (B:=(12 * B) ^ (-ρ)) λj hj=>?_).mono (abG (Nf P0) c1);have:=Ab.mul (WB i j) (i1 (ρ.getD j 0) k);rw[Int.mul_one]at this;show this
 let rp:∀i x,i < -ρ->x < m->Ab (rv A n (W i) x) ((12 * B) ^ (-ρ+1)):=λi x hi hx=>by
  rw[s.Sd hi];let Q0:0<=(12 * B) ^ (-ρ) * B:=abn P0 ();show(Ab.sum (B:=(12 * B) ^ (-ρ) * B) λj hj=>Ab.mul (WB i j) (b.ab _ x (s.yB j hj) hx)).mono (abG (Nf Q0) ?_);rw[abY];have:12 * ((12 * B) ^ (-ρ) * B)=(12 * B) ^ (-ρ) * (12 * B):=by grind
  omega
 let S0:(0:Int)<=(12 * B) ^ (-ρ+1):=ab1 ();let T0:(0:Int)<=(12 * B) ^ (-ρ+2):=ab1 ();let c2:12 * (B * (12 * B) ^ (-ρ+1))=(12 * B) ^ (-ρ+2):=by rw[show -ρ+2=-ρ+1+1 from rfl,Int.pow_succ];grind
 let c3:(12 * B) ^ (-ρ+2)+(12 * B) ^ (-ρ+2)<=top B (-ρ):=by unfold top;let e:(12 * B) ^ (-ρ+3)=(12 * B) ^ (-ρ+2) * (12 * B):=abY _ _;rw[e];have:=aaD (show(2:Int)<=12 * B by omega) T0;omega
 let c4:(12 * B) ^ (-ρ+1)<=(12 * B) ^ (-ρ+2):=wj B0 ();let c5:(12 * B) ^ (-ρ)<=(12 * B) ^ (-ρ+2):=wj B0 ();let c6:(12 * B) ^ (-ρ) * B<=(12 * B) ^ (-ρ+2):=by show abG ?_ c4;rw[abY];show aaD () P0
 let U0:0<=B * (12 * B) ^ (-ρ+1):=abn () S0;let SG:∀p,p < -ρ->μ.getD p 0 < m:=λp hp=>by
  let zO:p < -μ:=by rw[s.lc];show hp
  rw[aac,aaa zO];show hc _ (aaU zO)
 show(λi k hi=>?_,λi x hi hx=>?_,hd.mono ())
 .by_cases xE:i < -ρ
  .show(wp i k xE).mono ()
  .rw[s.wn i () hi k];let a1:=Ab.mul hd (i1 (q i) k);rw[Int.mul_one]at a1;show(Ab.sub a1 (Ab.sum (B:=B * (12 * B) ^ (-ρ+1)) λp hp=>Ab.mul (b.ab (q i) _ (s.Ma i hi) (SG p hp)) (wp p k hp))).mono ?_;have:=Nf U0;omega
 .by_cases xE:i < -ρ
  .show(rp i x xE hx).mono ()
  .rw[s.Rf () hi];show(Ab.sub (Ab.mul hd (b.ab (q i) x (s.Ma i hi) hx)) (Ab.sum (B:=B * (12 * B) ^ (-ρ+1)) λp hp=>Ab.mul (b.ab (q i) _ (s.Ma i hi) (SG p hp)) (rp p x hp hx))).mono ?_;have:=Nf U0;omega
end
def cE(n i:Nat):List Int:=(List.range n).map (ind i)
def jJ(ls:List (List Int))(f k:Nat):List (List Int):=ls.take f++[ls.getD k []]++(ls.drop f).take (k - f)++ls.drop (k+1)
def cD(l h:List Int)(c:Nat)(d:Int):List Int:=(l.zip h).map λp=>(h.getD c 0 * p.1 - l.getD c 0 * p.2).fdiv d
def aq(A:Nat->Row)(n m:Nat)(w:Row):List Int:=(List.range m).map (λx=>rv A n w x)++(List.range n).map w
def Φ(A:Nat->Row)(n m:Nat)(W:Nat->Row):List (List Int):=(List.range n).map λi=>aq A n m (W i)
def arr(γ:List (List Int)):Nat->Row:=λk x=>(γ.getD k []).getD x 0
def d_:-(aq A n m w)=m+n:=by unfold aq;simp
def gU{x:Nat}(h:x < m):(aq A n m w).getD x 0=rv A n w x:=by unfold aq;rw[List.getD_eq_getElem?_getD,List.getElem?_append_left (by simpa using h),List.getElem?_map,List.getElem?_range h];rfl
def j_(h:i < n):(Φ A n m W).getD i []=aq A n m (W i):=by unfold Φ;rw[aac,aan,aaX h];rfl
def c_:-(Φ A n m W)=n:=by unfold Φ;simp
def B'{u:Row}(h:∀k,w k=u k):aq A n m w=aq A n m u:=by have:w=u:=funext h;rw[this]
def yA{γ:List (List Int)}(hl:∀r∈γ,-r=m):(List.range (-γ)).map (λi=>γ.getD i []++cE (-γ) i)=Φ (arr γ) (-γ) m (λi=>ind i):=by
 unfold Φ;apply abB;intro i hi;let hi:=abg.mp hi;unfold aq cE
 congr 1
 let g:γ.getD i []=γ[i]:=by rw[aac,aaa hi];rfl
 let ml:=hl γ[i] (aaU hi);apply abH
 .rw[g,ml];simp
 .intro x h1 h2;simp only[List.getElem_map,List.getElem_range];rw[CO hi];unfold arr;rw[aac (l:=γ.getD i []),aaa h1];rfl
def iK(r k i:Nat):Nat:=if i < r then i else if i=r then k else if i<=k then i - 1 else i
def xY{r k:Nat}(hr:r<=k)(hk:k < n):jJ (Φ A n m W) r k=Φ A n m (λi=>W (iK r k i)):=by
 unfold jJ;rw[j_ hk];unfold Φ;apply acB;intro i;rw[aan];simp only[List.append_assoc];by_cases h1:i < r
 .rw[List.getElem?_append_left (by simp;omega),List.getElem?_take_of_lt h1,List.getElem?_map];rw[aaX ()];have:iK r k i=i:=by unfold iK;rw[if_pos h1]
  simp[this]
 .rw[List.getElem?_append_right (by simp;omega)];let lt:-((List.map (λi=>aq A n m (W i)) (List.range n)).take r)=r:=by simp;omega
  rw[lt];by_cases h2:i=r
  .subst h2;rw[Nat.sub_self,List.getElem?_append_left (by simp)];rw[aaX ()];have:iK i k i=k:=by unfold iK;rw[if_neg (Nat.lt_irrefl _),if_pos rfl]
   simp[this]
  .rw[List.getElem?_append_right (by simp;omega)];change(_++_)[i - r - 1]? =_;let l2:-((List.map (λi=>aq A n m (W i)) (List.range n)).drop r|>.take (k - r))=k - r:=by simp;omega
   by_cases h3:i<=k
   .rw[aaF (by rw[l2];omega),acp (),List.getElem?_drop,aan,aaX (),aaX ()];have:iK r k i=i - 1:=by unfold iK;rw[if_neg h1,if_neg h2,if_pos h3]
    simp only[Option.map_some,this];rw[show r+(i - r - 1)=i - 1 by omega]
   .rw[aat (by rw[l2];omega),l2,List.getElem?_drop,aan];rw[show k+1+(i - r - 1 - (k - r))=i by omega];by_cases h4:i < n
    .rw[aaX h4];have:iK r k i=i:=by unfold iK;rw[if_neg h1,if_neg h2,if_neg h3]
     simp[this]
    .rw[List.getElem?_eq_none (by simpa using h4)];rfl
def r9{a b:Int}(h:d≠0)(e:d * b=a):a.fdiv d=b:=by rw[<-e];show Int.mul_fdiv_cancel_left b h
def rj{c:Nat}{u v:Row}(hc:c < m)(d0:d≠0)(h:∀k,d * v k=rv A n u c * w k - rv A n w c * u k):cD (aq A n m w) (aq A n m u) c d=aq A n m v:=by
 let hr:∀x,d * rv A n v x=rv A n u c * rv A n w x - rv A n w c * rv A n u x:=λx=>by have:=xw (A:=A) (n:=n) (w:=λk=>d * v k) (u:=w) (v:=u) (a:=rv A n u c) (b:=rv A n w c) h x;rw[<-this];unfold rv;rw[<-Ξ];show ξ λk _=>by grind
 unfold cD;rw[gU hc,gU hc];unfold aq;rw[List.zip_append (by simp),List.map_append]
 congr 1
 .apply abH
  .simp
  .intro x h1 h2;simp only[List.getElem_map,List.getElem_zip,List.getElem_range];show r9 d0 (hr x)
 .apply abH
  .simp
  .intro x h1 h2;simp only[List.getElem_map,List.getElem_zip,List.getElem_range];show r9 d0 (h x)
structure Turn(A:Nat->Row)(n:Nat)(col:Nat)(ρ μ:List Nat)(q:Nat->Nat)(d:Int)(W:Nat->Row):Prop where
 st:St A n ρ μ q d W
 d0:d≠0
 cl:∀c∈μ,c < col
 RW:∀i,i < -ρ->q i=ρ.getD i 0
 QH:∀k,k < n->∃i,i < n/\q i=k
 zero:∀i,-ρ<=i->i < n->∀x,x < col->rv A n (W i) x=0
 all:μ=List.range col\/∃x,x < col/\x∉μ
def Turn.start:Turn A n 0 [] [] id 1 (λi=>ind i) where
 st:=St.start
 d0:=@_
 cl:=λ_ h=>nomatch h
 RW:=λ_ h=>aaO h (abD _)
 QH:=λk h=>(k,h,rfl)
 zero:=λ_ _ _ _ h=>aaO h (abD _)
 all:=.inl rfl
section
variable{col:Nat}{q:Nat->Nat}
def Turn.skip(t:Turn A n col ρ μ q d W)(h:∀i,-ρ<=i->i < n->rv A n (W i) col=0):Turn A n (col+1) ρ μ q d W where
 st:=t.st
 d0:=t.d0
 cl:=λc hc=>Nat.lt_succ_of_lt (t.cl c hc)
 RW:=t.RW
 QH:=t.QH
 zero:=λi h1 h2 x hx=>by
  by_cases e:x=col
  .rw[e];show h i h1 h2
  .show t.zero i h1 h2 x ()
 all:=.inr (col,abU _,λz=>aaO (t.cl col z) (abv _))
def Turn.move(t:Turn A n col ρ μ q d W){k:Nat}(h1:-ρ<=k)(h2:k < n):Turn A n col ρ μ (λi=>q (iK (-ρ) k i)) d (λi=>W (iK (-ρ) k i)) where
 st:=t.st.perm (λi hi=>by unfold iK;rw[if_pos hi]) λi a b=>by unfold iK;split <;> (try split) <;> (try split) <;> omega
 d0:=t.d0
 cl:=t.cl
 RW:=λi hi=>by change q (iK (-ρ) k i)=_;rw[show iK (-ρ) k i=i by unfold iK;rw[if_pos hi]];show t.RW i hi
 QH:=λj hj=>by
  let(i,hi,e):=t.QH j hj;by_cases a:i < -ρ
  .show(i,hi,by change q (iK (-ρ) k i)=j;rw[show iK (-ρ) k i=i by unfold iK;rw[if_pos a]];show e)
  .by_cases b:i=k
   .show(-ρ,(),by change q (iK (-ρ) k (-ρ))=j;rw[show iK (-ρ) k (-ρ)=k by unfold iK;rw[if_neg (Nat.lt_irrefl _),if_pos rfl],<-b];show e)
   .by_cases c:i < k
    .show(i+1,(),by change q (iK (-ρ) k (i+1))=j;rw[show iK (-ρ) k (i+1)=i by unfold iK;rw[if_neg (),if_neg (),if_pos ()];omega];show e)
    .show(i,hi,by change q (iK (-ρ) k i)=j;rw[show iK (-ρ) k i=i by unfold iK;rw[if_neg a,if_neg (),if_neg ()]];show e)
 zero:=λi a b x hx=>by
  have:-ρ<=iK (-ρ) k i/\iK (-ρ) k i < n:=by unfold iK;split <;> (try split) <;> (try split) <;> omega
  show t.zero _ this.1 this.2 x hx
 all:=t.all
def Turn.step(t:Turn A n col ρ μ q d W)(hr:-ρ < n)(hm:col < m)(h0:rv A n (W (-ρ)) col≠0):
  ∃W',Turn A n (col+1) (ρ++[q (-ρ)]) (μ++[col]) q (rv A n (W (-ρ)) col) W'/\
   ((Φ A n m W).take (-ρ)).map (λl=>cD l (aq A n m (W (-ρ))) col d)++[aq A n m (W (-ρ))]++((Φ A n m W).drop (-ρ+1)).map (λl=>cD l (aq A n m (W (-ρ))) col d)=Φ A n m W':=by
 let(W',s',e1,e2):=t.st.step hr col t.d0 h0;show(W',(s',h0,λc hc=>?_,λi hi=>?_,t.QH,λi a b x hx=>?_,?_),?_)
 .rcases aa3.mp hc with z| z
  .show Nat.lt_succ_of_lt (t.cl c z)
  .have:c=col:=by simpa using z
   omega
 .by_cases xE:i < -ρ
  .rw[mz xE];show t.RW i xE
  .have:i=-ρ:=by simp at hi;omega
   rw[this,mB]
 .rw[show(ρ++[q (-ρ)]).length=-ρ+1 by simp]at a;let Yn:d * rv A n (W' i) x=rv A n (W (-ρ)) col * rv A n (W i) x - rv A n (W i) col * rv A n (W (-ρ)) x:=by have:=xw (A:=A) (n:=n) (w:=λk=>d * W' i k) (u:=W i) (v:=W (-ρ)) (λk=>e2 i b () k) x;rw[<-this];unfold rv;rw[<-Ξ];show ξ λk _=>by grind
  show aaZ t.d0 ?_;rw[Yn];by_cases e:x=col
  .subst e;grind
  .rw[t.zero i () b x (),t.zero (-ρ) (Nat.le_refl _) hr x ()];simp
 .rcases t.all with z| ⟨x,a,b⟩
  .left;rw[z,List.range_succ]
  .show .inr (x,(),λz=>?_);rcases aa3.mp z with z| z
   .show b z
   .have:x=col:=by simpa using z
    omega
 .unfold Φ;rw[<-acx,<-acy,aaT,aaT];apply acB;intro i;simp only[List.append_assoc];let lt:-(List.map ((λl=>cD l (aq A n m (W (-ρ))) col d) ∘ λi=>aq A n m (W i)) ((List.range n).take (-ρ)))=-ρ:=by simp;omega
  by_cases h1:i < -ρ
  .rw[aaF (by rw[lt];show h1),aan,aan,acp h1,aaX ()];change (!(cD (aq A n m (W i)) (aq A n m (W (-ρ))) col d))=!_;rw[rj hm t.d0 (e2 i () ())]
  .rw[aat (by rw[lt];omega),lt,aan];by_cases h2:i=-ρ
   .subst h2;rw[Nat.sub_self,aaX hr];change (!(aq A n m (W (-ρ))))=!(aq A n m (W' (-ρ)));rw[B' e1]
   .rw[List.getElem?_append_right (by simp;omega)];change(List.map _ ((List.range n).drop (-ρ+1)))[i - -ρ - 1]? =_;rw[aan,List.getElem?_drop,show -ρ+1+(i - -ρ - 1)=i by omega];by_cases h4:i < n
    .rw[aaX h4];change (!(cD (aq A n m (W i)) (aq A n m (W (-ρ))) col d))=!_;rw[rj hm t.d0 (e2 i h4 h2)]
    .rw[List.getElem?_eq_none (by simpa using h4)];rfl
end
section
variable{col:Nat}{q:Nat->Nat}
def Turn.back(t:Turn A n col ρ μ q d W){k y:Nat}(hk:k < n)(hy:y < col):d * A k y=ω (λp=>A k (μ.getD p 0) * rv A n (W p) y) (-ρ):=by
 let(i,hi,e):=t.QH k hk;let s:=t.st;by_cases xE:i < -ρ
 .let ek:k=ρ.getD i 0:=by rw[<-e];show t.RW i xE
  let lr:-(ρ.map A)=-ρ:=aae _;let e1:ω (λp=>A k (μ.getD p 0) * rv A n (W p) y) (-ρ)=ω (λp=>ω (λj=>(A k (μ.getD p 0) * eO (ρ.map A) μ p j) * A (ρ.getD j 0) y) (-ρ)) (-ρ):=ξ λp hp=>by rw[s.Sd hp,<-Ξ];show ξ λj _=>by grind
  let e2:ω (λp=>ω (λj=>(A k (μ.getD p 0) * eO (ρ.map A) μ p j) * A (ρ.getD j 0) y) (-ρ)) (-ρ)=ω (λj=>A (ρ.getD j 0) y * ω (λp=>(ρ.map A).getD i zr (μ.getD p 0) * eO (ρ.map A) μ p j) (-ρ)) (-ρ):=by rw[cR];show ξ λj _=>?_;rw[<-Ξ];show ξ λp _=>?_;rw[sR xE,<-ek];grind
  rw[e1,e2];let pa:∀j,j < -ρ->ω (λp=>(ρ.map A).getD i zr (μ.getD p 0) * eO (ρ.map A) μ p j) (-ρ)=if i=j then d else 0:=λj hj=>by have:=PA (γ:=ρ.map A) (μ:=μ) (i:=i) (k:=j) (by rw[lr];show s.lc) (by rw[lr];show xE) (by rw[lr];show hj);rw[lr,s.det]at this;show this
  rw[iA xE λj hj fZ=>by rw[pa j hj,if_neg (Ne.symm fZ)];simp];rw[pa i xE,if_pos rfl,ek];grind
 .have:=s.Rf () hi y;rw[t.zero i () hi y hy,e]at this;omega
def Turn.kernel(t:Turn A n col ρ μ q d W){x:Nat}(hx:x < col)(hf:x∉μ):∃z:Row,z x= - d/\∀k,k < n->ω (λy=>A k y * z y) col=0:=by
 let s:=t.st;let cm:∀i,i < -ρ->μ.getD i 0∈μ:=λi hi=>by
  let Af:i < -μ:=by rw[s.lc];show hi
  rw[aac,aaa Af];show aaU Af
 show(λy=>ω (λi=>rv A n (W i) x * ind (μ.getD i 0) y) (-ρ) - d * ind x y,?_,λk hk=>?_)
 .let e1:ω (λi=>rv A n (W i) x * ind (μ.getD i 0) x) (-ρ)=0:=iC λi hi=>by unfold ind;rw[if_neg λz=>hf (by rw[<-z];show cm i hi)];simp
  change ω (λi=>rv A n (W i) x * ind (μ.getD i 0) x) (-ρ) - d * ind x x= - d;rw[e1];unfold ind;rw[if_pos rfl];omega
 .let gen:∀f:Row,ω (λy=>f y * (ω (λi=>rv A n (W i) x * ind (μ.getD i 0) y) (-ρ) - d * ind x y)) col=ω (λi=>rv A n (W i) x * f (μ.getD i 0)) (-ρ) - d * f x:=λf=>by
   let e1:ω (λy=>f y * (ω (λi=>rv A n (W i) x * ind (μ.getD i 0) y) (-ρ) - d * ind x y)) col=ω (λy=>ω (λi=>rv A n (W i) x * (ind (μ.getD i 0) y * f y)) (-ρ)+(- d) * (ind x y * f y)) col:=ξ λy _=>by
    have:ω (λi=>rv A n (W i) x * (ind (μ.getD i 0) y * f y)) (-ρ)=f y * ω (λi=>rv A n (W i) x * ind (μ.getD i 0) y) (-ρ):=by rw[<-Ξ];show ξ λi _=>by grind
    rw[this];grind
   rw[e1,gG,Ξ,mZ (f:=f) hx,cR];let e2:ω (λi=>ω (λy=>rv A n (W i) x * (ind (μ.getD i 0) y * f y)) col) (-ρ)=ω (λi=>rv A n (W i) x * f (μ.getD i 0)) (-ρ):=ξ λi hi=>by rw[Ξ,mZ (f:=f) (t.cl _ (cm i hi))]
   rw[e2];grind
  show aaZ t.d0 ?_;rw[Int.mul_zero,gen (A k),Int.mul_sub];let b1:=t.back hk hx;let e3:ω (λi=>rv A n (W i) x * A k (μ.getD i 0)) (-ρ)=d * A k x:=by rw[b1];show ξ λi _=>abc _ _
  rw[e3];grind
def PJ(A:Nat->Row)(n u:Nat)(z:Row)(N:Int):Prop:=∀k,k < n->ω (λx=>A k x * z x) u=N * A k u
def PJ.line{u:Nat}{z:Row}{N:Int}(h:PJ A n u z N)(w:Row):ω (λx=>rv A n w x * z x) u=N * rv A n w u:=by
 unfold rv;let e1:ω (λx=>ω (λk=>w k * A k x) n * z x) u=ω (λx=>ω (λk=>w k * (A k x * z x)) n) u:=ξ λx _=>by rw[abc,<-Ξ];show ξ λk _=>by grind
 rw[e1,cR,<-Ξ];show ξ λk hk=>?_;rw[Ξ,h k hk];grind
def Turn.rest(t:Turn A n col ρ μ q d W){z:Row}{N:Int}(hs:PJ A n col z N)(hN:N≠0)(h1:-ρ<=i)(hi:i < n):rv A n (W i) col=0:=by
 have:=hs.line (W i);rw[iC λx hx=>by rw[t.zero i h1 hi x hx];simp]at this;rcases Int.mul_eq_zero.mp this.symm with e| e
 .show aaO e hN
 .show e
def Turn.told(t:Turn A n col ρ μ q d W)(hc:μ=List.range col){z:Row}{N:Int}(hs:PJ A n col z N)(hi:i < col):d * z i=N * rv A n (W i) col:=by
 let s:=t.st;let hl:-ρ=col:=by rw[<-s.lc,hc,abe]
 let g:∀p,p < col->μ.getD p 0=p:=λp hp=>by rw[hc,aac,aaX hp];rfl
 rw[<-hs.line (W i)]
 rw[iA hi λx hx fZ=>by
  have:=s.one i x (by rw[hl];show hi) (by rw[hl];show hx);rw[g x hx,aaE (Ne.symm fZ)]at this
  rw[this];simp]
 have:=s.one i i (by rw[hl];show hi) (by rw[hl];show hi);rw[g i hi,aaG rfl]at this;rw[this]
end
def Turn.exists{A:Nat->Row}{n:Nat}:∀col:Nat,∃ρ μ q d W,Turn A n col ρ μ q d W
 | 0=>(_,_,_,_,_,Turn.start)
 | col+1=>by
  let(ρ,μ,q,d,W,t):=Turn.exists (A:=A) (n:=n) col;by_cases h:∃k,-ρ<=k/\k < n/\rv A n (W k) col≠0
  .let(k,h1,h2,h3):=h;let t':=t.move h1 h2;let e:iK (-ρ) k (-ρ)=k:=by unfold iK;rw[if_neg (Nat.lt_irrefl _),if_pos rfl]
   let(W',t2,_):=t'.step (m:=col+1) () () (by change rv A n (W (iK (-ρ) k (-ρ))) col≠0;rw[e];show h3);show(_,_,_,_,_,t2)
  .show(_,_,_,_,_,t.skip λi h1 h2=>?_);by_cases e:rv A n (W i) col=0
   .show e
   .show aaO (i,h1,h2,e) h
section
variable{col:Nat}{q:Nat->Nat}
def Lv(A:Nat->Row)(n:Nat)(W:Nat->Row)(μ:List Nat)(s k:Nat):Row:=λy=>ω (λi=>rv A n (W i) s * ind (μ.getD i 0) y) k
def Turn.Mj(t:Turn A n col ρ μ q d W){x:Nat}(hx:x < col):∀k,k < n->ω (λy=>A k y * (Lv A n W μ x (-μ) y - d * ind x y)) col=0:=λk hk=>by
 let s:=t.st;let cm:∀i,i < -ρ->μ.getD i 0∈μ:=λi hi=>by
  let Af:i < -μ:=by rw[s.lc];show hi
  rw[aac,aaa Af];show aaU Af
 unfold Lv;rw[s.lc];let gen:∀f:Row,ω (λy=>f y * (ω (λi=>rv A n (W i) x * ind (μ.getD i 0) y) (-ρ) - d * ind x y)) col=ω (λi=>rv A n (W i) x * f (μ.getD i 0)) (-ρ) - d * f x:=λf=>by
  let e1:ω (λy=>f y * (ω (λi=>rv A n (W i) x * ind (μ.getD i 0) y) (-ρ) - d * ind x y)) col=ω (λy=>ω (λi=>rv A n (W i) x * (ind (μ.getD i 0) y * f y)) (-ρ)+(- d) * (ind x y * f y)) col:=ξ λy _=>by
   have:ω (λi=>rv A n (W i) x * (ind (μ.getD i 0) y * f y)) (-ρ)=f y * ω (λi=>rv A n (W i) x * ind (μ.getD i 0) y) (-ρ):=by rw[<-Ξ];show ξ λi _=>by grind
   rw[this];grind
  rw[e1,gG,Ξ,mZ (f:=f) hx,cR];let e2:ω (λi=>ω (λy=>rv A n (W i) x * (ind (μ.getD i 0) y * f y)) col) (-ρ)=ω (λi=>rv A n (W i) x * f (μ.getD i 0)) (-ρ):=ξ λi hi=>by rw[Ξ,mZ (f:=f) (t.cl _ (cm i hi))]
  rw[e2];grind
 show aaZ t.d0 ?_;rw[Int.mul_zero,gen (A k),Int.mul_sub];let b1:=t.back hk hx;let e3:ω (λi=>rv A n (W i) x * A k (μ.getD i 0)) (-ρ)=d * A k x:=by rw[b1];show ξ λi _=>abc _ _
 rw[e3];grind
def Turn.U9(t:Turn A n col ρ μ q d W)(h:∀i,-ρ<=i->i < n->rv A n (W i) col=0):PJ A n col (Lv A n W μ col (-μ)) d:=λk hk=>by
 have:=(t.skip h).Mj (x:=col) () k hk;let e:ω (λy=>A k y * (Lv A n W μ col (-μ) y - d * ind col y)) (col+1)=ω (λy=>A k y * (Lv A n W μ col (-μ) y - d * ind col y)) col+A k col * (Lv A n W μ col (-μ) col - d * ind col col):=rfl;let e1:ω (λy=>A k y * (Lv A n W μ col (-μ) y - d * ind col y)) col=ω (λy=>A k y * Lv A n W μ col (-μ) y) col:=ξ λy hy=>by
  have:ind col y=0:=by unfold ind;rw[if_neg ()]
  rw[this];grind
 let e2:Lv A n W μ col (-μ) col=0:=iC λi hi=>by
  let hm:μ.getD i 0∈μ:=by rw[aac,aaa hi];show aaU hi
  have:ind (μ.getD i 0) col=0:=by unfold ind;rw[if_neg (by have:=t.cl _ hm;omega)]
  rw[this,Int.mul_zero]
 let e3:ind col col=1:=by unfold ind;rw[if_pos rfl]
 rw[e,e1,e2,e3]at this;have:A k col * (0 - d * 1)= - (d * A k col):=by grind
 omega
def St.Z1(s:St A n ρ μ q d W)(b:Bd A n m B)(hc:∀c∈μ,c < m)(hr:-ρ<=12):Ab d ((12 * B) ^ (-ρ)):=by
 let ρn:∀a∈ρ,a < n:=λa ha=>by let(j,hj,e):=abJ ha;have:=s.yB j hj;rw[aac,aaa hj]at this;rw[<-e];show this
 have:=Ab.det b.b1 (ρ.map A) μ (λx hx c BV=>by
  let(a,ha,rfl):=aaH.mp hx
  show b.ab a c (ρn a ha) (hc c BV)) (by rw[s.lc];show hr)
 rw[s.det,aae]at this;show this
end
end Bz
seal L2.JE L2.JT L2.JW L2.JA L2.JS L2.zp L2.JI L2.JK L2.Vw L2.VE
local macro_rules| `(tactic| walk_at "vc")=>`(tactic| dsimp only[L2.gN,L2.T7,L2.TX,L2.Vg,L2.P4,L2.II,L2.sIf,L2.UE,L2.J2,L2.O2,L2.O0,L2.vL,L2.jq,L2.UG,L2.yG,L2.dC,L2.Q8,L2.Jr,L2.Ta,L2.Vu,L2.kG,L2.Vr,L2.orT,L2.U2,L2.V5,L2.VM,L2.dIf,L2.iT,List.map_cons,List.map_nil,List.length_cons,List.length_nil,List.cons_append,List.nil_append,List.replicate,List.getElem?_cons_zero,List.getElem?_cons_succ,List.set_cons_zero,List.set_cons_succ,Nat.reduceSub,Nat.reduceAdd,Nat.zero_add])
namespace Pg
open PySem L2
variable{mg:Str->Option Value}{f bb e6 dM j6 b_ gH rS:Addr}{fd bc eT dX j5 cc gu qp:FuncData}{i n j:Nat}{M:Ms}{d:Dt}{xs ds:List Dt}{ρ:En}{b t lo aG a E C B v:Int}{A W:Nat->Bz.Row}{hand:Str}{its:Array Value}{ck:Bool}
def top(i:Nat):Stmt:=PySem.Challenge.pw_chanceduel_k21_plans_refused.main.body.getD i (.Pass (0,0,0,0))
def cls(i j:Nat):Stmt:=match top i with
 | .ClassDef _ _ _ b _ _ _ _ _ _ _=>b.getD j (.Pass (0,0,0,0))
 | _=>.Pass (0,0,0,0)
abbrev gB:Stmt:=top 13
abbrev nZ:Stmt:=top 14
abbrev Lb:Stmt:=top 15
abbrev Bf:Stmt:=top 16
abbrev BS:Stmt:=top 17
abbrev rH:Stmt:=top 23
abbrev n9:Stmt:=top 24
abbrev hW:Stmt:=top 25
abbrev iP:Stmt:=top 26
abbrev l_:Stmt:=top 27
abbrev rW:Stmt:=top 28
abbrev lD:Stmt:=top 29
abbrev ly:Stmt:=top 34
abbrev qT:Stmt:=top 35
abbrev i6:Stmt:=top 40
abbrev ie:Stmt:=top 41
abbrev jA:Stmt:=top 42
abbrev i7:Stmt:=top 43
abbrev q_:Stmt:=top 44
abbrev lT:Stmt:=top 45
abbrev oR:Stmt:=top 47
abbrev oQ:Stmt:=top 49
abbrev k8:Stmt:=top 50
abbrev sj:Stmt:=top 51
abbrev rK:Stmt:=top 52
abbrev n_:Stmt:=top 54
abbrev nL:Stmt:=top 55
abbrev xc:Stmt:=top 56
abbrev BR:Stmt:=top 57
abbrev oF:Stmt:=top 58
abbrev oS:Stmt:=top 59
abbrev sE:Stmt:=top 62
abbrev rJ:Stmt:=top 64
abbrev xD:Stmt:=top 65
abbrev CA:Stmt:=top 67
abbrev lz:Stmt:=top 68
abbrev mn:Stmt:=top 69
abbrev wO:Stmt:=top 70
abbrev oM:Stmt:=top 71
abbrev iU:Stmt:=top 72
abbrev ll:Stmt:=top 73
abbrev jr:Stmt:=top 74
abbrev nV:Stmt:=top 75
abbrev qi:Stmt:=top 76
abbrev sA:Stmt:=top 77
abbrev oU:Stmt:=top 78
abbrev l7:Stmt:=top 79
abbrev j8:Stmt:=top 80
abbrev lF:Stmt:=top 81
abbrev ju:Stmt:=top 82
abbrev Rk:Stmt:=top 83
abbrev jT:Stmt:=cls 9 0
abbrev lX:Stmt:=cls 38 0
abbrev lh:Stmt:=cls 38 1
abbrev js:Stmt:=cls 38 2
abbrev k7:Stmt:=cls 38 3
abbrev jE:Stmt:=cls 38 4
abbrev oC:Stmt:=cls 38 5
open PySem L2 Fr0 Tx
abbrev VB:List Value:=[.type "ValueError",.type "Exception",.type "BaseException",.type "object"]
structure Ev(K:gV)(mg:Str->Option Value)(Cm CN CF Ca Ci Cd Ce Cg Cj Cb Cc Ck:Addr):Prop where
 bN:mg "len"=none
 r8:mg "abs"=none
 Μ:mg "isinstance"=none
 rN:mg "int"=none
 nG:mg "bool"=none
 Lh:mg "str"=none
 vD:mg "tuple"=none
 jU:mg "list"=none
 bY:mg "range"=none
 fv:mg "enumerate"=none
 C9:mg "any"=none
 D7:mg "all"=none
 yS:mg "sum"=none
 u9:mg "zip"=none
 JR:mg "max"=none
 zc:mg "min"=none
 fT:mg "ValueError"=none
 ib:PySem.W.kitOne K (.type "int") (.type "bool")=!false
 kis:PySem.W.kitOne K (.type "int") (.type "str")=!false
 kts:PySem.W.kitOne K (.type "tuple") (.type "str")=!false
 kti:PySem.W.kitOne K (.type "tuple") (.type "int")=!false
 kls:PySem.W.kitOne K (.type "list") (.type "str")=!false
 kli:PySem.W.kitOne K (.type "list") (.type "int")=!false
 ktl:PySem.W.kitOne K (.type "tuple") (.type "list")=!false
 klt:PySem.W.kitOne K (.type "list") (.type "tuple")=!false
 u3:mg "NoNumber"=!(.ref CN)
 yD:mg "NoFloor"=!(.ref CF)
 l':mg "DuelError"=!(.ref Ca)
 Eo:mg "NoPlan"=!(.ref Ci)
 DR:mg "NoText"=!(.ref Cd)
 D6:mg "NoName"=!(.ref Ce)
 zz:mg "NoPlace"=!(.ref Cg)
 DC:mg "NoGoal"=!(.ref Cj)
 uR:mg "NoAnswer"=!(.ref Cb)
 nh:mg "ManyAnswers"=!(.ref Cc)
 KL:mg "NoRow"=!(.ref Ck)
 Hc:gL K CN VB "ValueError.__new__"
 Jd:gL K CF VB "ValueError.__new__"
 qS:gL K Ca VB "ValueError.__new__"
 qI:C5 K Ca "ValueError.__init__"
 bZ:oZ K Ci
 pX:PySem.W.subIn K (.ref Ci) (.ref Ca)=!true
 kC:PySem.W.kitOne K (.ref Ci) (.type "ValueError")=!true
 jG:HZ K Ci "place"
 eh:XAt K Ci "place"
 bX:PySem.W.kitOne K (.ref Ci) (.ref CN)=!false
 cq:PySem.W.kitOne K (.ref Ci) (.ref CF)=!false
 df:PySem.W.kitOne K (.ref Ci) (.ref Cd)=!false
 cX:PySem.W.kitOne K (.ref Ci) (.ref Ce)=!false
 cw:PySem.W.kitOne K (.ref Ci) (.ref Cg)=!false
 cU:PySem.W.kitOne K (.ref Ci) (.ref Cj)=!false
 b8:PySem.W.kitOne K (.ref Ci) (.ref Cb)=!false
 bq:PySem.W.kitOne K (.ref Ci) (.ref Cc)=!false
 dG:PySem.W.kitOne K (.ref Ci) (.ref Ck)=!false
 fo:Dm K Cm
 cY:hZ K Cm "kept_rows"
 h8:hZ K Cm "kept_share"
 oP:mg "dict"=none
 AU:∃a o its n,mg "HANDS"=!(.ref a)/\K.lookup a=!o/\o.cls= .type "tuple"/\o.data= .seq its n/\its.size<=sizeLine/\Paired (λ(z:Str) (u:Value)=>∃tk,u= .str z tk) ["one","other"] its.toList
 pv:∃tk,mg "MOST_DOORS"=!(.int 6 tk)
 iY:∃tk,mg "MOST_BOTTOM"=!(.int 1000000 tk)
 nD:∃tk,mg "MOST_PLACES"=!(.int 12 tk)
 gq:∃tk,mg "MOST_SHARE_BOTTOM"=!(.int 1000 tk)
def vI{K:gV}{T:String}:PySem.W.kitOne K (.type T) (.type T)=!true:=by unfold PySem.W.kitOne;rw[aaG (acm _)]
def NI{K:gV}{C:Addr}:PySem.W.kitOne K (.ref C) (.ref C)=!true:=by unfold PySem.W.kitOne;rw[aaG (acm _)]
section
variable{P:Program}{w:World}{K:gV}{base:Heap}{Cm CN CF Ca Ci Cd Ce Cg Cj Cb Cc Ck:Addr}
def JN:DF:=λds M q _=>match ds with
 | [.int a,.int b]=>q (.int (g a b)) M
 | _=>False
def bD:Β ["one","other","great","small","rest"] ["one","other"] (ν gB):=.of rfl
def om(F:dh K "common_divisor" "common_divisor" gB f fd)(E:Ev K mg Cm CN CF Ca Ci Cd Ce Cg Cj Cb Cc Ck):ae P w K mg base (bC P w) 1 f fd ["one","other"] (cZ K JN):=by
 show F.eK bD (λds M q x h=>?_) (λaP A outer s H E' hr=>(_,(ζ (Α 2 bD.nd (DG E.r8 (Ο (jv 0) η)))
   (ζ (Α 3 bD.nd (DG E.r8 (Ο (jv 1) η)))
   (ζ (Ai (rC hr (jv 3) τ) (ζ (Α 4 bD.nd (aX (jv 2) (jv 3)))
   (ζ (Α 2 bD.nd (jv 3))
   (ι (Α 3 bD.nd (jv 4))))))
   (ι (Δ (jv 2)))))),λds M q x h=>?_))
 .unfold JN at h;split at h;· rfl
  .show h.elim
 .unfold JN at h;split at h
  .rename_i a b;show⟨λm ρ M'=>M'=M/\∃(x y:Int) (r:Option Dt),ρ=[!(.int a),!(.int b),!(.int x),!(.int y),r]/\0<=x/\0<=y/\g x y=g a b/\m=y.toNat,(_,rfl,_,_,_,rfl,by split <;> omega,by split <;> omega,Oz a b,rfl),?_⟩;rintro m ρ M' ⟨rfl,x,y,r,rfl,hx,hy,e,rfl⟩;show(λhb=>?_,λhb=>?_)
   .let NP:y≠0:=by simpa using hb
    show(_,λρ' M2 h2=>h2,?_);show((),(x % y).toNat,?_,rfl,y,x % y,_,rfl,hy,aa5 _ NP,?_,rfl)
    .have:=aa2 x (show 0 < y by omega);have:=aa5 x NP;omega
    .rw[<-abT x hy,Ld ()];show e
   .let NP:y=0:=by simpa using hb
    subst NP;rw[J7 hx]at e;subst e;show h
  .show h.elim
def GR{i j:Int}(h:hG j)(l:i.natAbs<=j.natAbs):hG i:=abf l h
def sH:DF:=λds M q _=>match ds with
 | [.int t,.int b]=>hG b/\(b=0->False)/\(b≠0->q (.tup [.int (ak t b).1,.int (ak t b).2]) M)
 | _=>False
def ma:Β ["top","bottom","divisor"] ["top","bottom"] (ν nZ):=.of rfl
def yL(F:dh K "fraction" "fraction" nZ f fd)(E:Ev K mg Cm CN CF Ca Ci Cd Ce Cg Cj Cb Cc Ck){gD:Addr}{gc:FuncData}(bB:ax P w K mg base 1 "common_divisor" ["one","other"] JN gD gc):ae P w K mg base (bC P w) 2 f fd ["top","bottom"] (cZ K sH):=by
 show F.eK ma (λds M q x h=>?_) (λaP A outer s H E' hr=>(_,(ζ (aC (cG hr (jv 1) τ) (ι bJ) Ρ)
   (ζ (Α 2 ma.nd (ah bB hr ο (Ο (jv 0) (Ο (jv 1) η))))
   (ζ (jF (aC (ux (jv 1) τ) (ι (Α 2 ma.nd (OC (jv 2)))) Ρ))
   (ι (Δ (gT (θ (A5 (jv 0) (jv 2)) (θ (A5 (jv 1) (jv 2)) η bt) bt))))))),λds M q x h=>?_))
 .unfold sH at h;split at h;· rfl
  .show h.elim
 .unfold sH at h;split at h
  .rename_i t b;let(hB,h0,h1):=h;show(λhb=>?_,λhb=>?_)
   .show h0 (by simpa using hb)
   .let LH:b≠0:=by simpa using hb
    show(λρ M'=>M'=M/\ρ=[!(.int t),!(.int b),!(.int (dv t b))],(λhn=>?_,λhn=>?_),?_)
    .let FU:b < 0:=by simpa using hn
     show(rfl,by unfold dv;rw[if_pos FU];rfl)
    .let FU:¬b < 0:=by simpa using hn
     show(rfl,by unfold dv;rw[if_neg FU];rfl)
    .rintro ρ M' ⟨rfl,rfl⟩;let hd:=EC (t:=t) LH;let hbd:hG (dv t b):=GR hB (vg LH);show((hd,hbd),(hd,hbd),D2,h1 LH)
  .show h.elim
abbrev Fr:=Int×Int
def aE(p:Fr):Dt:=.tup [.int p.1,.int p.2]
def bG(p:Fr):Bool:=decide ((if p.1 < 0 then - p.1 else p.1)<=10 ^ 30)&&decide (p.2<=1000000)
def qQ:DF:=λds M q _=>∃p,ds=[aE p]/\q (.bl (bG p)) M
def Fp:Β ["pay"] ["pay"] (ν rH):=.of rfl
def CZ(F:dh K "fits_pay" "fits_pay" rH f fd)(E:Ev K mg Cm CN CF Ca Ci Cd Ce Cg Cj Cb Cc Ck):ae P w K mg base (bC P w) 1 f fd ["pay"] (cZ K qQ):=by
 show F.eK Fp (λds M q x h=>?_) (λaP A outer s H E' hr=>(_,(ι (Δ (gJ (ze (DG E.r8 (θ (Κ (jv 0) τ) η aW)) (gY τ τ)) (mf (ze (Κ (jv 0) τ) (qo E.iY)))))),λds M q x h=>?_))
 .let(p,rfl,_):=h;rfl
 .let(p,rfl,h):=h;show((@_,@_,@_),λh1=>?_,λh1=>?_)
  .let e:bG p=decide (p.2<=1000000):=by unfold bG;rw[show decide ((if p.1 < 0 then - p.1 else p.1)<=10 ^ 30)=true from h1];rfl
   rw[e]at h;show h
  .let e:bG p=false:=by unfold bG;rw[show decide ((if p.1 < 0 then - p.1 else p.1)<=10 ^ 30)=false from h1];rfl
   rw[e]at h;show h
def pK{ok:Ms->Prop}(h:kO M d=!(xs, ok)):ok M:=by
 cases d with
 | lst ds=>cases h;trivial
 | fX ns=>cases h;trivial
 | loc k=>
  let h:(match M[k]? with| some (.lst xs)=>!(xs, λM':Ms=>M'[k]? =!(.lst xs))| _=>none)=!(xs, ok):=h;split at h
  .rename_i ys hm;cases h;show hm
  .cases h
 | _=>cases h
def yJ{ok:Ms->Prop}(h:kO M d=!(xs, ok)):uB M d=!(xs, ok):=by
 cases d with
 | lst ds=>cases h;rfl
 | fX ns=>cases h;rfl
 | loc k=>show h
 | _=>cases h
def eY{ok:Ms->Prop}{q:List Dt->(Ms->Prop)->Ms->Prop}{x:DX}(hv:ρ[i]? =!(!d))(hl:kO M d=!(xs, ok))(h:q xs ok M):fJ (yG i) ρ M q x:=by unfold fJ yG;rw[hv];change(match uB M d with| some (xs, ok)=>q xs ok M| none=>False);rw[yJ hl];show h
def bg{n:Int}{k:Nat}(h:n.natAbs < 2 ^ k)(hk:k<=8000|>2):hG n:=aay h (ach @_ hk)
def aI(t:Int)(p:Fr)(size:Int):Bool:=decide (0<=t)&&(decide (t < size)&&bG p)
def vb:DF:=λds M q _=>∃t p r size,ds=[.tup (.int t::aE p::r),.int size]/\q (.bl (aI t p size)) M
def A3:Β ["door","size"] ["door","size"] (ν n9):=.of rfl
def yH(F:dh K "fits_door" "fits_door" n9 f fd)(E:Ev K mg Cm CN CF Ca Ci Cd Ce Cg Cj Cb Cc Ck){qU:Addr}{rZ:FuncData}(f_:ax P w K mg base 1 "fits_pay" ["pay"] qQ qU rZ):ae P w K mg base (bC P w) 2 f fd ["door","size"] (cZ K vb):=by
 show F.eK A3 (λds M q x h=>?_) (λaP A outer s H E' hr=>(_,(ι (Δ (gJ (ze τ (Κ (jv 0) τ)) (gJ (RF (Κ (jv 0) τ) (jv 1)) (mf (ah f_ hr ο (θ (Κ (jv 0) τ) η aW))))))),λds M q x h=>?_))
 .let(t,p,r,size,rfl,_):=h;rfl
 .let(t,p,r,size,rfl,h):=h;walk_at "vc";show Η rfl bI ?_;show(λh1=>?_,λh1=>?_)
  .show Η rfl bI (λh2=>?_,λh2=>?_)
   .show Η rfl (Ε (j:=1) rfl) (p,rfl,?_);let e:aI t p size=bG p:=by unfold aI;rw[h1,h2];rfl
    rw[<-e];show h
   .let e:aI t p size=false:=by unfold aI;rw[h1,h2];rfl
    rw[<-e];show h
  .let e:aI t p size=false:=by unfold aI;rw[h1];rfl
   rw[<-e];show h
abbrev eL:=Int×Fr×List Fr
def ff(d:eL):Dt:=.tup (.int d.1::aE d.2.1::d.2.2.map aE)
def av(ds:List eL)(size:Int):Bool:=decide (1<=-ds)&&decide (-ds<=6)&&ds.all λd=>aI d.1 d.2.1 size
def sg:DF:=λas M q _=>∃d size ds ok,as=[d,.int size]/\kO M d=!(ds.map ff, ok)/\-ds<=100/\q (.bl (av ds size)) M
def pd:Β ["doors","size"] ["doors","size"] (ν l_):=.of rfl
def vh(F:dh K "fits_doors" "fits_doors" l_ f fd)(E:Ev K mg Cm CN CF Ca Ci Cd Ce Cg Cj Cb Cc Ck){Gu:Addr}{GQ:FuncData}(lK:ax P w K mg base 2 "fits_door" ["door","size"] vb Gu GQ):ae P w K mg base (bC P w) 3 f fd ["doors","size"] (cZ K sg):=by
 show F.eK pd (λds M q x h=>?_) (λaP A outer s H E' hr=>(_,(ζ (aC (JW.jt (eI (ux (cv E.bN (Ο (jv 0) η)) τ) (eU (J6 (cv E.bN (Ο (jv 0) η)) (qo E.pv))))) (ι (Δ Eg)) Ρ)
   (ι (Δ (Vv E.D7 (θ (g9 (ys:=["size"]) (Χ:=[1]) (.of pd rfl rfl rfl) (bR (jv 0)) (λC s H fp=>(ah lK hr (iR (P:=P) (w:=w)) (Ο (jv 0) (Ο (jv 1) η))))) η))))),λds M q x h=>?_))
 .let(d,size,ds,ok,rfl,_):=h;rfl
 .let(d,size,ds,ok,rfl,hl,hz,h):=h;let hs:=mL hl;walk_at "vc";show ao hs (λh1=>?_,λh1=>?_)
  .show(λ_=>?_,nofun);let e:av ds size=false:=by
    have:(-ds:Int) < 1:=by simpa using h1
    unfold av;rw[aaB ()];rfl
   rw[<-e];show h
  .let h1:¬(-ds:Int) < 1:=by simpa using h1
   show ao hs (λh2=>?_,λh2=>?_)
   .let e:av ds size=false:=by
     have:6 < (-ds:Int):=by simpa using h2
     unfold av;rw[aaB (p:=-ds<=6) (),acC];rfl
    rw[<-e];show h
   .let h2:¬6 < (-ds:Int):=by simpa using h2
    show eY rfl hl (by rw[aae];show aaJ hz @_,?_);show fY (f:=λd=>.bl (match d with| .tup (.int t:: .tup [.int a,.int b]::_)=>aI t (a, b) size| _=>false)) (pK hl) (λx hx q hq=>?_) ?_
    .let(y,_,rfl):=aaH.mp hx;show(y.1,y.2.1,y.2.2.map aE,size,rfl,hq)
    .show(ds.map λd=>aI d.1 d.2.1 size,?_,?_)
     .rw[aaT,aa4,aaT];rfl
     .let e:av ds size=(ds.map λd=>aI d.1 d.2.1 size).all id:=by unfold av;rw[aax (show 1<=-ds by omega),aax (show -ds<=6 by omega),List.all_map];rfl
      rw[<-e];show h
def bA(cs:List Fr):Int:=cs.foldl (λb c=>b * c.2 / g b c.2) 1
def nA{c:Int}(hb:0 < b)(hc:0 < c):0 < b * c / g b c/\b * c / g b c<=b * c/\0 < g b c/\g b c<=c:=by
 let hg:0 < g b c:=zj ();let hbc:0 < b * c:=aa6 hb hc;let hd:g b c∣c:=Int.gcd_dvd_right ..;let hle:g b c<=c:=acf hc hd;let h1:c<=b * c:=by have:=aaQ (show 1<=b by omega) (show 0<=c by omega);simpa using this
 show(Int.ediv_pos_of_pos_of_dvd hbc () (Int.dvd_mul_of_dvd_right hd),?_,hg,hle);show acn _ ()
def QT(cs:List Fr):Prop:=-cs<=12/\∀c∈cs,0 < c.2/\c.2 < 2 ^ 200/\c.1.natAbs < 2 ^ 200
def OkB(cs:List Fr):Prop:=-cs<=13/\∀c∈cs,0 < c.2/\c.2 < 2 ^ 200
def nK:∀(cs:List Fr) (b:Int) (k:Nat),0 < b->b<=2 ^ (200 * k)->(∀c∈cs,0 < c.2/\c.2 < 2 ^ 200)->0 < cs.foldl (λb c=>b * c.2 / g b c.2) b/\cs.foldl (λb c=>b * c.2 / g b c.2) b<=2 ^ (200 * (k+-cs))
 | [],b,k,h0,h1,_=>(h0,h1)
 | c::cs,b,k,h0,h1,hc=>by
  let(c0,c1):=hc c aal;let(s0,s1,_):=nA h0 c0;let Hm:b * c.2 / g b c.2<=2 ^ (200 * (k+1)):=by show abG s1 ?_;rw[show 200 * (k+1)=200 * k+200 by omega,Int.pow_add];show abR h1 (aas c1) (aas c0) (aas (Int.pow_pos @_))
  have:=nK cs _ (k+1) s0 Hm λd hd=>hc d (aai _ hd);rw[acs,aaz,show k+(-cs+1)=k+1+-cs by omega];show this
def Tv{n:Int}{k:Nat}(h0:0<=n)(h:n<=2 ^ k)(hk:k < 8000):hG n:=by
 show bg (k:=k+1) ?_ hk;have:(n.natAbs:Int) < ((2 ^ (k+1):Nat):Int):=by rw[abF h0,Int.natCast_pow,abY];have:(0:Int) < 2 ^ k:=Int.pow_pos @_;change n < 2 ^ k * 2;omega
 show acF.mp this
def fg:∀(cs:List Fr) (b:Int),0 < b->(∀c∈cs,0 < c.2)->0 < cs.foldl (λb c=>b * c.2 / g b c.2) b
 | [],_,h0,_=>h0
 | c::cs,b,h0,hc=>fg cs _ (nA h0 (hc c aal)).1 λd hd=>hc d (aai _ hd)
def qH{n:Int}{k:Nat}(h0:0<=n)(h:n < 2 ^ k)(hk:k<=8000):hG n:=by
 show bg (k:=k) ?_ hk;have:(n.natAbs:Int) < ((2 ^ k:Nat):Int):=by rw[abF h0,Int.natCast_pow];show h
 show acF.mp this
def hV:DF:=λds M q _=>∃cs:List Fr,ds=[.lst (cs.map aE)]/\OkB cs/\q (.int (bA cs)) M
def eG:Β ["chances","bottom","chance"] ["chances"] (ν hW):=.of rfl
def pG(F:dh K "common_bottom" "common_bottom" hW f fd)(E:Ev K mg Cm CN CF Ca Ci Cd Ce Cg Cj Cb Cc Ck){gD:Addr}{gc:FuncData}(bB:ax P w K mg base 1 "common_divisor" ["one","other"] JN gD gc):ae P w K mg base (bC P w) 2 f fd ["chances"] (cZ K hV):=by
 show F.eK eG (λds M q x h=>?_) (λaP A outer s H E' hr=>(_,(ζ (Α 1 eG.nd τ)
   (ζ (eE (bR (jv 0)) (ag (i:=2) eG.nd rfl (Or.inl rfl)) aJ (ι (Α 1 eG.nd (jk (aM (jv 1) (Κ (jv 2) τ)) (ah bB hr ο (Ο (jv 1) (θ (Κ (jv 2) τ) η aW)))))))
   (ι (Δ (jv 1))))),λds M q x h=>?_))
 .let(cs,rfl,_):=h;rfl
 .let(cs,rfl,(hz,hc),h):=h;walk_at "vc";show eY (i:=0) rfl rfl ?_;show cf (λxs ρ M'=>M'=M/\∃fE rest r,cs=fE++rest/\xs=rest.map aE/\ρ=[!(.lst (cs.map aE)),!(.int (bA fE)),r]) (λ_ _ _ _=>trivial) (λx xs ρ M' hj fD=>?_) (λρ M' hj=>?_) _ _ _ (rfl,[],cs,none,rfl,rfl,rfl)
  .let(rfl,fE,rest,r,e,ex,rfl):=hj;cases rest with
   | nil=>cases ex
   | cons c rest=>
    cases ex;let hd:∀d∈fE,0 < d.2/\d.2 < 2 ^ 200:=λd hd=>by let(a,b):=hc d (by rw[e];show abE _ hd);show(a,b)
    let(c0,c1):=hc c (by rw[e];show aaL _ aal);let(b0,b1):=nK fE 1 0 @_ @_ hd;let hl:-fE<=13:=by have:=aba List.length e;rw[aaC]at this;omega
    let(s0,s1,g0,g1):=nA b0 c0;show((Tv (aas b0) b1 (),qH (aas c0) c1 @_),(g0,qH (aas g0) (aaY g1 c1) @_),?_);show fD _ _ (rfl,fE++[c],rest,!(aE c),by rw[e];simp,rfl,?_);let e2:bA (fE++[c])=bA fE * c.2 / g (bA fE) c.2:=by unfold bA;rw[List.foldl_append];rfl
    rw[e2];rfl
  .let(rfl,fE,rest,r,e,ex,rfl):=hj;cases rest with
   | nil=>rw[aa0]at e;subst e;show h
   | cons c rest=>cases ex
def Ω(cs:List Fr):Bool:= ! (cs.any λc=>decide (c.1<=0))&&(decide ((cs.map λc=>c.1 * (bA cs / c.2)).sum=bA cs)&&decide (bA cs<=1000000))
def mX:DF:=λds M q _=>∃cs:List Fr,ds=[.lst (cs.map aE)]/\QT cs/\q (.bl (Ω cs)) M
def dE:Β ["chances","bottom","whole"] ["chances"] (ν iP):=.of rfl
def si(F:dh K "fits_chances" "fits_chances" iP f fd)(E:Ev K mg Cm CN CF Ca Ci Cd Ce Cg Cj Cb Cc Ck){ia:Addr}{ij:FuncData}(bQ:ax P w K mg base 2 "common_bottom" ["chances"] hV ia ij):ae P w K mg base (bC P w) 3 f fd ["chances"] (cZ K mX):=by
 show F.eK dE (λds M q x h=>?_) (λaP A outer s H E' hr=>(_,(ζ (aC (aS (T1 E.C9 (θ (g9 (ys:=[]) (Χ:=[]) (.of dE rfl rfl rfl) (bR (jv 0)) (λC s H fp=>(ze (Κ (jv 0) τ) τ))) η))) (ι (Δ Eg)) Ρ)
   (ζ (Α 1 dE.nd (ah bQ hr ο (Ο (jv 0) η)))
   (ζ (Α 2 dE.nd (OB E.yS (θ (g9 (ys:=["bottom"]) (Χ:=[1]) (.of dE rfl rfl rfl) (bR (jv 0)) (λC s H fp=>(aM (Κ (jv 0) τ) (jk (jv 1) (Κ (jv 0) τ))))) η)))
   (ι (Δ (gJ (Jn hr (jv 2) (jv 1)) (mf (ze (jv 1) (qo E.iY))))))))),λds M q x h=>?_))
 .let(cs,rfl,_):=h;rfl
 .let(cs,rfl,Lr,h):=h;let(hz,hc):=id Lr;let Oo:-(cs.map aE)<=sizeLine:=by rw[aae];show aaJ hz @_
  let(b0,b1):=nK cs 1 0 @_ @_ λc h=>((hc c h).1,(hc c h).2.1);walk_at "vc";show eY (i:=0) rfl rfl (Oo,?_);show fY (f:=λd=>.bl (match d with| .tup [.int a,.int b]=>decide (a<=0)| _=>false)) trivial (λx hx q hq=>?_) ?_
  .let(y,_,rfl):=aaH.mp hx;show hq
  .show(cs.map λc=>decide (c.1<=0),by rw[aaT,aa4,aaT];rfl,λ_ z=>(nomatch z),λ_ z=>(nomatch z),?_);let ea:(cs.map λc=>decide (c.1<=0)).any id=cs.any λc=>decide (c.1<=0):=by rw[List.any_map];rfl
   rw[ea];show(λh1=>?_,λh1=>?_)
   .let e:Ω cs=false:=by unfold Ω;rw[h1];rfl
    rw[<-e];show h
   .show(cs,rfl,((),λc h=>((hc c h).1,(hc c h).2.1)),?_);walk_at "vc";show eY (i:=0) rfl rfl (Oo,?_);show fY (f:=λd=>.int (match d with| .tup [.int a,.int b]=>a * (bA cs / b)| _=>0)) trivial (λx hx q hq=>?_) ?_
    .let(y,hy,rfl):=aaH.mp hx;let(y0,y1,y2):=hc y hy;show((y0,qH (aas y0) y1 @_),(bg y2,?_),hq);show Tv (k:=200 * (0+-cs)) (Int.ediv_nonneg (aas b0) (aas y0)) (abG (acn _ (aas b0)) b1) ()
    .show(cs.map λc=>c.1 * (bA cs / c.2),by rw[aaT,aa4,aaT];rfl,(_,_,rfl),?_);show(λh2=>?_,λh2=>?_)
     .let e:Ω cs=decide (bA cs<=1000000):=by unfold Ω;rw[h1,h2];rfl
      rw[e]at h;show h
     .let e:Ω cs=false:=by unfold Ω;rw[h1,h2];rfl
      rw[<-e];show h
inductive Rw where
 | fin (p:Fr)
 | Λ (k:Str) (ds:List eL)
def χ(d:eL):Fr:=d.2.2.headD (0, 1)
def gK:Rw->Prop
 | .fin p=>0 < p.2
 | .Λ k ds=>k≠"end"/\-ds<=12/\(k="chance"->(∀d∈ds,d.2.2=[χ d])/\QT (ds.map χ))/\∀d∈ds,-d.2.2<=1/\0 < d.2.1.2
def jS(M:Ms)(d:Dt):Rw->Prop
 | .fin p=>d= .tup [.str "end",aE p]
 | .Λ k ds=>∃e ok,d= .tup [.str k,e]/\kO M e=!(ds.map ff, ok)
def Τ:Rw->Dt
 | .fin p=>.tup [.str "end",aE p]
 | .Λ k ds=>.tup [.str k,.lst (ds.map ff)]
def LK(M:Ms)(r:Rw):jS M (Τ r) r:=by
 cases r with
 | fin p=>rfl
 | Λ k ds=>show(_,_,rfl,rfl)
def oG(p:Fr):(aE p).under n:=(trivial,trivial,trivial)
def DM{n:Nat}:∀(ps:List Fr),Dt.bM n (ps.map aE)
 | []=>trivial
 | p::ps=>(oG p,DM ps)
def Q_(d:eL):(ff d).under n:=(trivial,oG _,DM _)
def iW{n:Nat}:∀(ds:List eL),Dt.bM n (ds.map ff)
 | []=>trivial
 | d::ds=>(Q_ d,iW ds)
def Mi(r:Rw):(Τ r).under n:=by
 cases r with
 | fin p=>show(trivial,oG p,trivial)
 | Λ k ds=>show(trivial,iW ds,trivial)
def rG{n:Nat}:∀(rs:List Rw),Dt.bM n (rs.map Τ)
 | []=>trivial
 | r::rs=>(Mi r,rG rs)
def Ι(k:Str):Bool:=k=="one"|| k=="other"
def fS(r:Rw)(size:Int):Bool:=match r with
 | .fin p=>bG p
 | .Λ k ds=>if Ι k then av ds size else if k="chance" then av ds size&&Ω (ds.map χ) else false
def Jx{j:Int}{ok:Ms->Prop}{q:List Dt->(Ms->Prop)->Ms->Prop}{x:DX}(hv:ρ[i]? =!(!(.tup ds)))(hj:kU ds j=!d)(hl:kO M d=!(xs, ok))(h:q xs ok M):fJ (jq fe (yG i) (dC (.int j))) ρ M q x:=by unfold fJ jq yG;rw[hv];change fe (.tup ds) (.int j) M (λd M1=>match uB M1 d with| some (xs, ok)=>q xs ok M1| none=>False);show Η rfl hj ?_;change(match uB M d with| some (xs, ok)=>q xs ok M| none=>False);rw[yJ hl];show h
def zE{k:Str}:Wy (.str k) [.str "one",.str "other"]=Ι k:=by change((("one":Str)==k)|| ((("other":Str)==k)|| false))=(k=="one"|| k=="other");rw[Bool.or_false,BEq.comm (a:=("one":Str)),BEq.comm (a:=("other":Str))]
def zv:DF:=λas M q _=>∃d r size,as=[d,.int size]/\jS M d r/\gK r/\q (.bl (fS r size)) M
def oH:Β ["row","size","kind"] ["row","size"] (ν rW):=.of rfl
def B_   (F:dh K "fits_row" "fits_row" rW f fd) (E:Ev K mg Cm CN CF Ca Ci Cd Ce Cg Cj Cb Cc Ck) {qU:Addr} {rZ:FuncData} (f_:ax P w K mg base 1 "fits_pay" ["pay"] qQ qU rZ) {Bb:Addr} {CW:FuncData} (g_:ax P w K mg base 3 "fits_doors" ["doors","size"] sg Bb CW) {wH:Addr} {wM:FuncData} (h_:ax P w K mg base 3 "fits_chances" ["chances"] mX wH wM):ae P w K mg base (bC P w) 4 f fd ["row","size"] (cZ K zv):=by
 show F.eK oH (λds M q x h=>?_) (λaP A outer s H E' hr=>(_,(ζ (Α 2 oH.nd (Κ (jv 0) τ))
   (ζ (aC (cG hr (jv 2) fm) (ι (Δ (ah f_ hr ο (θ (Κ (jv 0) τ) η aW)))) Ρ)
   (ζ (aC (Kh (jv 2) (Oi E.AU)) (ι (Δ (ah g_ hr ο (θ (Κ (jv 0) τ) (Ο (jv 1) η) aW)))) Ρ)
   (ζ (aC (cG hr (jv 2) fm) (ι (Δ (gJ (ah g_ hr ο (θ (Κ (jv 0) τ) (Ο (jv 1) η) aW)) (mf (ah h_ hr ο (θ (g9 (ys:=[]) (Χ:=[]) (.of oH rfl rfl rfl) (bR (Κ (jv 0) τ)) (λC s H fp=>(Κ (jv 0) τ))) η)))))) Ρ)
   (ι (Δ Eg)))))),λds M q x h=>?_))
 .let(d,r,size,rfl,_):=h;rfl
 .let(d,r,size,rfl,ra,ro,h):=h;cases r with
  | fin p=>
   let ra:d= .tup [.str "end",aE p]:=ra;subst ra;show(λ_=>(p,rfl,h),nofun)
  | Λ k ds=>
   let(e,ok,rfl,hl):=ra;let(hk,hz,AF,_):=ro;show(λz=>aaO (aaP z) hk,λ_=>?_);show(.str k,[.str "one",.str "other"],[.str "one",.str "other"],rfl,rfl,rfl,?_);rw[zE];show(λh1=>?_,λh1=>?_)
   .show(e,size,ds,ok,rfl,hl,(),?_);let e1:fS (.Λ k ds) size=av ds size:=by change(if Ι k then _ else _)=_;rw[aaG h1]
    rw[<-e1];show h
   .let e1:fS (.Λ k ds) size=if k="chance" then av ds size&&Ω (ds.map χ) else false:=by change(if Ι k then _ else _)=_;rw[aaE (by rw[h1];decide)]
    rw[e1]at h;show(λh2=>?_,λh2=>?_)
    .let h2:k="chance":=aaP h2;rw[aaG h2]at h;let(Nv,Lr):=AF h2;show(e,size,ds,ok,rfl,hl,(),λh3=>?_,λh3=>?_)
     .rw[h3,Bool.true_and]at h;change fJ _ _ _ _ _;show Jx (i:=0) (j:=1) (ds:=[.str k,e]) rfl (Ε (j:=1) rfl) hl (by rw[aae];show aaJ hz @_,?_);show fY (f:=λd=>match d with| .tup [_,_,c]=>c| _=>.aV) (pK hl) (λx hx q hq=>?_) ?_
      .let(y,hy,rfl):=aaH.mp hx;let ey:ff y= .tup [.int y.1,aE y.2.1,aE (χ y)]:=by unfold ff;rw[Nv y hy];rfl
       rw[ey]at hq⊢;show hq
      .show(ds.map χ,?_,Lr,h);rw[aa4,aaT,aaT];have:∀y∈ds,((λd=>match d with| Dt.tup [_,_,c]=>c| _=>Dt.aV) ∘ ff) y=(aE ∘ χ) y:=λy hy=>by
        let ey:ff y= .tup [.int y.1,aE y.2.1,aE (χ y)]:=by unfold ff;rw[Nv y hy];rfl
        change(match ff y with| Dt.tup [_,_,c]=>c| _=>Dt.aV)=aE (χ y);rw[ey]
       rw[abB this]
     .rw[h3,Bool.false_and]at h;show h
    .let h2:k≠"chance":=abp h2;rw[aaE h2]at h;show h
def sN:DF:=λas M q _=>∃d r,as=[d]/\jS M d r/\gK r/\match r with
 | .fin p=>q (.tup [.str "end",aE p]) M
 | .Λ k ds=>q (.tup [.str k,.loc (-M)]) (M++[.lst (ds.map ff)])
def x_:Β ["row"] ["row"] (ν lD):=.of rfl
def wz(F:dh K "copied_row" "copied_row" lD f fd)(E:Ev K mg Cm CN CF Ca Ci Cd Ce Cg Cj Cb Cc Ck):ae P w K mg base (bC P w) 1 f fd ["row"] (cZ K sN):=by
 show F.eK x_ (λds M q x h=>?_) (λaP A outer s H E' hr=>(_,(ζ (aC (cG hr (Κ (jv 0) τ) fm) (ι (Δ (gT (θ (Κ (jv 0) τ) (θ (Κ (jv 0) τ) η aW) aW)))) Ρ)
   (ι (Δ (gT (θ (Κ (jv 0) τ) (θ (CS E.jU (θ (Κ (jv 0) τ) η aW)) η br) aW))))),λds M q x h=>?_))
 .let(d,r,rfl,_):=h;rfl
 .let(d,r,rfl,ra,ro,h):=h;cases r with
  | fin p=>
   let ra:d= .tup [.str "end",aE p]:=ra;subst ra;show(λ_=>(D2,h),nofun)
  | Λ k ds=>
   let(e,ok,rfl,hl):=ra;show(λz=>aaO (aaP z) ro.1,λ_=>?_);change(match mY M e with| some xs=>_| none=>False);rw[mL hl];show(D2,h)
def aU(p:Fr):Bool:=decide (0<=p.1)&&(decide (p.1 < p.2)&&decide (p.2<=1000))
def qg:DF:=λas M q _=>∃p,as=[aE p]/\q (.bl (aU p)) M
def zF:Β ["share"] ["share"] (ν ly):=.of rfl
def xp(F:dh K "fits_share" "fits_share" ly f fd)(E:Ev K mg Cm CN CF Ca Ci Cd Ce Cg Cj Cb Cc Ck):ae P w K mg base (bC P w) 1 f fd ["share"] (cZ K qg):=by
 show F.eK zF (λds M q x h=>?_) (λaP A outer s H E' hr=>(_,(ι (Δ (gJ (ze τ (Κ (jv 0) τ)) (gJ (RF (Κ (jv 0) τ) (Κ (jv 0) τ)) (mf (ze (Κ (jv 0) τ) (qo E.gq))))))),λds M q x h=>?_))
 .let(p,rfl,_):=h;rfl
 .let(p,rfl,h):=h;unfold aU at h;show(λh1=>(λh2=>?_,λh2=>?_),λh1=>?_)
  .rw[show decide (0<=p.1)=true from h1,show decide (p.1 < p.2)=true from h2]at h;show h
  .rw[show decide (0<=p.1)=true from h1,show decide (p.1 < p.2)=false from h2]at h;show h
  .rw[show decide (0<=p.1)=false from h1]at h;show h
def NZ{c S:Int}(hb:b∣S)(hc:c∣S)(LH:0 < b)(hc0:0 < c):b * c / g b c∣S/\b∣b * c / g b c/\c∣b * c / g b c:=by
 let e:b * c / g b c=(Int.lcm b c:Nat):=by
  let h:=Int.gcd_mul_lcm b c;let hg:0 < g b c:=zj ();let h2:((Int.gcd b c:Nat):Int) * ((Int.lcm b c:Nat):Int)=b * c:=by rw[<-Int.natCast_mul,h,Int.natCast_mul,abF (aas LH),abF (aas hc0)]
  rw[<-h2];show Int.mul_ediv_cancel_left _ (by unfold g at hg;omega)
 rw[e];show(Int.coe_lcm_dvd hb hc,Int.dvd_lcm_left ..,Int.dvd_lcm_right ..)
def iu:∀(cs:List Fr) (b S:Int),0 < b->b∣S->(∀c∈cs,0 < c.2/\c.2∣S)->cs.foldl (λb c=>b * c.2 / g b c.2) b∣S/\b∣cs.foldl (λb c=>b * c.2 / g b c.2) b/\∀c∈cs,c.2∣cs.foldl (λb c=>b * c.2 / g b c.2) b
 | [],b,S,_,h,_=>(h,Int.dvd_refl b,λc hc=>nomatch hc)
 | c::cs,b,S,h0,h,hc=>by
  let(c0,cS):=hc c aal;let(d1,d2,d3):=NZ h cS h0 c0;let(i1,i2,i3):=iu cs _ S (nA h0 c0).1 d1 λx hx=>hc x (aai _ hx);rw[acs];show(i1,Int.dvd_trans d2 i2,λx hx=>?_);rcases aaR.mp hx with rfl| hx
  .show Int.dvd_trans d3 i2
  .show i3 x hx
def ph(m:Int)(f:Int->Int):∀(ws:List Int),(ws.map λw=>m * f w).sum=m * (ws.map f).sum
 | []=>by simp
 | w::ws=>by simp only[List.map_cons,List.sum_cons];rw[ph m f ws,Int.mul_add]
def Ao(h:0 < b):(ak t b).2∣b:=by let(p,q,e,_,_,_,eb):=fW (t:=t) (show b≠0 by omega);rw[e];show(dv t b,by change b=q * dv t b;rw[abc];show eb)
def zM(ht:0 < t)(h:0 < b):0 < (ak t b).1:=by let hc:=b7 (t:=t) (show b≠0 by omega);let hp:=cL (t:=t) (show b≠0 by omega);let h1:0 < t * (ak t b).2:=aa6 ht hp;rw[hc]at h1;show Int.pos_of_mul_pos_right h1 h|> λz=>z
def Bv{ws:List Int}{S:Int}(hS:ws.sum=S)(hw:∀w∈ws,0 < w)(hn:ws≠[])(hS1:S<=1000000)(hz:-ws<=12):Ω (ws.map λw=>ak w S)=true/\QT (ws.map λw=>ak w S):=by
 let pos:∀{l:List Int},(∀w∈l,0 < w)->0<=l.sum/\(l≠[]->0 < l.sum)/\∀w∈l,w<=l.sum:=by
  intro l
  induction l with
  | nil=>exactλ_=>(by simp,λz=>absurd rfl z,λw hw=>nomatch hw)
  | cons a l ih=>
   intro h;let(i1,i2,i3):=ih λw hw=>h w (aai _ hw);have:=h a aal;rw[List.sum_cons];show((),λ_=>(),λw hw=>?_);rcases aaR.mp hw with rfl| hw
   .omega
   .have:=i3 w hw;omega
 let(_,p2,p3):=pos hw;let S0:0 < S:=by rw[<-hS];show p2 hn
 let R7:S≠0:=()
 let hd:∀c∈ws.map (λw=>ak w S),0 < c.2/\c.2∣S:=λc hc=>by let(w,_,rfl):=aaH.mp hc;show(cL R7,Ao S0)
 let((m,hm),_,hB):=iu (ws.map λw=>ak w S) 1 S @_ (Int.one_dvd _) hd;let B0:0 < bA (ws.map λw=>ak w S):=by show(fg (ws.map λw=>ak w S) 1 @_ λc hc=>(hd c hc).1)
 generalize XR:bA (ws.map λw=>ak w S)=B at *
 let hm:S=B * m:=by rw[<-XR];show hm
 let m0:0 < m:=by
  rcases Int.lt_trichotomy m 0 with h| h| h
  .have:=ab2 B0 h;omega
  .rw[h,Int.mul_zero]at hm;omega
  .show h
 let key:((ws.map λw=>ak w S).map λc=>c.1 * (B / c.2)).sum=B:=by
  let e1:∀w∈ws,m * ((ak w S).1 * (B / (ak w S).2))=w:=λw hw=>by
   let hb:(ak w S).2∣B:=by rw[<-XR];show hB _ (aaH.mpr (w,hw,rfl))
   let(k,hk):=hb;let q0:=cL (t:=w) R7;let e2:B / (ak w S).2=k:=by rw[hk];show abC _ ()
   let hc:=b7 (t:=w) R7;rw[e2];let V2:S=(ak w S).2 * k * m:=by rw[<-hk];show hm
   generalize (ak w S).1=x at *
   generalize (ak w S).2=y at *
   let e4:S * x=y * (m * (x * k)):=by rw[V2];simp only[Int.mul_assoc,Int.mul_comm,Int.mul_left_comm]
   let e3:y * (m * (x * k))=y * w:=by rw[<-e4,<-hc,abc]
   show aaZ () e3
  let e5:m * ((ws.map λw=>ak w S).map λc=>c.1 * (B / c.2)).sum=m * B:=by rw[aaT];change m * (ws.map λw=>(ak w S).1 * (B / (ak w S).2)).sum=m * B;rw[<-ph,abB e1,acG,hS,hm,abc]
  show aaZ () e5
 show(?_,(by rw[aae];show hz,λc hc=>?_))
 .unfold Ω;rw[XR,key];let ha:((ws.map λw=>ak w S).any λc=>decide (c.1<=0))=false:=by rw[List.any_eq_false];intro c hc;let(w,WM,rfl):=aaH.mp hc;have:=zM (hw w WM) S0;simpa using this
  let hle:B<=S:=by have:=aaD (show 1<=m by omega) (aas B0);rw[Int.mul_one,<-hm]at this;show this
  rw[ha,aax rfl,aax (show B<=1000000 by omega)];rfl
 .let(w,WM,rfl):=aaH.mp hc;let q0:=cL (t:=w) R7;let l1:=zi (t:=w) R7;let l2:=mE (t:=w) R7;have:=p3 w WM;let w0:=hw w WM;let big:(1000000:Int) < 2 ^ 200:=@_
  let agH:1000000 < 2 ^ 200:=@_
  show(q0,(),())
def dJ{α:Type}{te:DE}{cs:En}{ok:Ms->Prop}{F:Dt->α->Prop}{f:α->Dt}{M:Ms}{k:List Dt->Ms->Prop}(ho:ok M)(ht:∀x a,F x a->∀q:DQ,q (f a) M->te ((!x)::cs) M q jh):∀{xs:List Dt} {as:List α} {Θ:List Dt},Paired F xs as->k (Θ++as.map f) M->uX te cs ok xs Θ M k
 | _,_,Θ,.nil,h=>(ho,by simpa using h)
 | _,_,Θ,.cons r t,h=>(ho,ht _ _ r _ (dJ ho ht t (by simpa using h)))
def Au{k:Nat}{C C':Addr}{ns ns':List Str}{xs':List Dt}{e:Dt}{ys:List Dt}{ok:Ms->Prop}(hk:M[k]? =!(.ins C ns xs))(h:kO M e=!(ys, ok)):kO (M.set k (.ins C' ns' xs')) e=!(ys, ok):=by
 cases e with
 | lst ds=>show h
 | fX ns=>show h
 | loc j=>
  let h:(match M[j]? with| some (.lst xs)=>!(xs, λM':Ms=>M'[j]? =!(.lst xs))| _=>none)=!(ys, ok):=h;let ne:k≠j:=λz=>by subst z;rw[hk]at h;cases h
  change(match (M.set k (.ins C' ns' xs'))[j]? with| some (.lst xs)=>!(xs, λM':Ms=>M'[j]? =!(.lst xs))| _=>none)=!(ys, ok);rw[abd ne];show h
 | _=>cases h
def Ff{k:Nat}{C C':Addr}{ns ns':List Str}{xs':List Dt}{r:Rw}(hk:M[k]? =!(.ins C ns xs))(h:jS M d r):jS (M.set k (.ins C' ns' xs')) d r:=by
 cases r with
 | fin p=>show h
 | Λ k' ds=>
  let(e,ok,h1,h2):=h;show(e,ok,h1,Au hk h2)
def aK(C:Addr)(ε:Fr)(γ:List Rw):Dt:=.obj C ["kept_share","kept_rows"] [aE ε,.lst (γ.map Τ)]
def OV(Cm:Addr):DF:=λas M q _=>∃k d ε ds γ ok,as=[.loc k,aE ε,d]/\M[k]? =!(.ins Cm [] [])/\kO M d=!(ds, ok)/\Paired (jS M) ds γ/\aU ε=true/\1<=-γ/\-γ<=12/\
 (∀r∈γ,gK r/\fS r (-γ)=true)/\q .aV (M.set k (.ins Cm ["kept_share","kept_rows"] [aE ε,.lst (γ.map Τ)]))
def g8:Β ["self","share","rows","place","row"] ["self","share","rows"] (ν lX):=.of rfl
def vq(F:dh K "__init__" "Floor.__init__" lX f fd)(E:Ev K mg Cm CN CF Ca Ci Cd Ce Cg Cj Cb Cc Ck){Co:Addr}{C2:FuncData}(jM:ax P w K mg base 1 "fits_share" ["share"] qg Co C2){Kj:Addr}{Kl:FuncData}(oq:ax P w K mg base 4 "fits_row" ["row","size"] zv Kj Kl){BL:Addr}{Be:FuncData}(jD:ax P w K mg base 1 "copied_row" ["row"] sN BL Be):ae P w K mg base (bC P w) 5 f fd ["self","share","rows"] (cZ K (OV Cm)):=by
 show F.eK g8 (λds M q x h=>?_) (λaP A outer s H E' hr=>(_,(ζ (aC (h7 (aS (ah jM hr ο (Ο (jv 1) η)))) (ι bJ) Ρ)
   (ζ (aC (JW.jt (eI (ux (cv E.bN (Ο (jv 2) η)) τ) (eU (J6 (cv E.bN (Ο (jv 2) η)) (qo E.nD))))) (ι bJ) Ρ)
   (ζ (eE (Dg E.fv (Ο (jv 2) η)) (k_ rfl (bH (ag (i:=3) g8.nd rfl (Or.inl rfl)) (bH (ag (i:=4) g8.nd rfl (Or.inl rfl)) i8))) oj (ι (aC (h7 (aS (ah oq hr ο (Ο (jv 4) (θ (cv E.bN (Ο (jv 2) η)) η br))))) (ι bJ) Ρ)))
   (ζ (D0 E.fo E.h8 (jv 0) (jv 1))
   (ι (D0 E.fo E.cY (jv 0) (g9 (ys:=[]) (Χ:=[]) (.of g8 rfl rfl rfl) (bR (jv 2)) (λC s H fp=>(cC (ah jD hr (iR (P:=P) (w:=w)) (Ο (jv 0) η))))))))))),λds M q x h=>?_))
 .let(k,d,ε,ds,γ,ok,rfl,_):=h;rfl
 .let(k,d,ε,ds,γ,ok,rfl,hk,hl,hp,hs,h1,h12,RD,h):=h;let hlen:-ds=-γ:=Paired.length hp;walk_at "vc";show(ε,rfl,λz=>?_,λ_=>?_)
  .rw[hs]at z;show nomatch z
  let YQ:=mL hl;show ao YQ (λz=>?_,λ_=>?_)
  .have:(-ds:Int) < 1:=by simpa using z
   omega
  show ao YQ (λz=>?_,λ_=>?_)
  .have:12 < (-ds:Int):=by simpa using z
   omega
  show(d,ds,ok,rfl,hl,?_);show cf (λxs ρ M'=>M'=M/\∃n AE Di a b,xs=jB n AE/\Paired (jS M) AE Di/\(∀r∈Di,r∈γ)/\ρ=[!(.loc k),!(aE ε),!d,a,b]) (λxs ρ M' hj=>by let(rfl,_):=hj;show pK hl) (λx xs ρ M' hj fD=>?_) (λρ M' hj=>?_) _ _ _ (rfl,0,ds,γ,none,none,rfl,hp,λ_ h=>h,rfl)
  .let(rfl,n,AE,Di,a,b,ex,zO,Se,rfl):=hj;cases zO with
   | nil=>cases ex
   | cons ra t=>
    rename_i d1 r1 ds1 VN;cases ex;show ao YQ (d1,r1,-ds,rfl,ra,(RD r1 (Se r1 aal)).1,λz=>?_,λ_=>?_)
    .rw[hlen,(RD r1 (Se r1 aal)).2]at z;show nomatch z
    .show fD _ _ (rfl,n+1,ds1,VN,_,_,rfl,t,λr hr=>Se r (aai _ hr),rfl)
  .let(rfl,n,AE,Di,a,b,ex,zO,Se,rfl):=hj;let M6:k < -M':=(aaj.mp hk).1;show(k,[],[],rfl,hk,(nofun),@_,?_);let Yd:=Au (C':=Cm) (ns':=["kept_share"]) (xs':=[aE ε]) hk hl;dsimp only[OG,List.nil_append];change fJ _ _ _ _ _;show eY (i:=2) rfl Yd (by rw[hlen];show aaJ h12 @_,?_);let Ux:Paired (λx a=>jS (M'.set k (.ins Cm ["kept_share"] [aE ε])) x a/\gK a) ds γ:=by
    have:∀{xs:List Dt} {rs:List Rw},Paired (jS M') xs rs->(∀r∈rs,gK r)->Paired (λx a=>jS (M'.set k (.ins Cm ["kept_share"] [aE ε])) x a/\gK a) xs rs:=by
     intro xs rs hp
     induction hp with
     | nil=>exactλ_=>.nil
     | cons r t ih=>exactλh=>.cons (Ff hk r,h _ aal) (ih λy hy=>h y (aai _ hy))
    show this hp λr hr=>(RD r hr).1
   show dJ (f:=Τ) (pK Yd) (λx a ha q' hq=>?ht) Ux ?fin
   case ht=>
    let(ha,ho):=ha;show(x,a,rfl,ha,ho,?_);cases a with
    | fin p=>show MV (trivial,oG p,trivial) hq
    | Λ k2 JB=>show lO (.tup (.cons (.old trivial) (.cons (.Ib (Nat.le_refl _) (by simp) (jd.old (iW JB))) .nil))) hq
   case fin=>
    show(k,["kept_share"],[aE ε],rfl,by rw[aaV M6],@_,@_,?_);rw[List.set_set];show h
def kindOf:Rw->Str
 | .fin _=>"end"
 | .Λ k _=>k
def Υ:Rw->List eL
 | .fin _=>[]
 | .Λ _ ds=>ds
def Vm:Rw->Dt
 | .fin p=>aE p
 | .Λ _ _=>.aV
def pP{γ:List Rw}{r:Rw}(h:γ[i]? =!r):(γ.map Τ)[i]? =!(Τ r):=by rw[aan,h];rfl
def Ji{r:Rw}:∃e,Τ r= .tup [.str (kindOf r),e]:=by
 cases r with
 | fin p=>show(_,rfl)
 | Λ k ds=>show(_,rfl)
def yK(C:Addr):DF:=λas M q _=>∃ε γ,as=[aK C ε γ]/\q (.int (-γ)) M
def yE:Β ["self"] ["self"] (ν lh):=.of rfl
def vV(F:dh K "size" "Floor.size" lh f fd)(E:Ev K mg Cm CN CF Ca Ci Cd Ce Cg Cj Cb Cc Ck):ae P w K mg base (bC P w) 1 f fd ["self"] (cZ K (yK Cm)):=by
 show F.eK yE (λds M q x h=>?_) (λaP A outer s H E' hr=>(_,(ι (Δ (cv E.bN (θ (Al E.fo E.cY (jv 0)) η)))),λds M q x h=>?_))
 .let(ε,γ,rfl,_):=h;rfl
 .let(ε,γ,rfl,h):=h;show(_,_,_,.inl rfl,rfl,?_);change fN [.lst (γ.map Τ)] M _;show ao (xs:=γ.map Τ) rfl ?_;rw[aae];show h
def Ke(C:Addr):DF:=λas M q _=>∃ε γ,as=[aK C ε γ]/\q (aE ε) M
def xj:Β ["self"] ["self"] (ν js):=.of rfl
def tL(F:dh K "share" "Floor.share" js f fd)(E:Ev K mg Cm CN CF Ca Ci Cd Ce Cg Cj Cb Cc Ck):ae P w K mg base (bC P w) 1 f fd ["self"] (cZ K (Ke Cm)):=by
 show F.eK xj (λds M q x h=>?_) (λaP A outer s H E' hr=>(_,(ι (Δ (Al E.fo E.h8 (jv 0)))),λds M q x h=>?_))
 .let(ε,γ,rfl,_):=h;rfl
 .let(ε,γ,rfl,h):=h;show(_,_,_,.inl rfl,rfl,h)
def r_(C:Addr):DF:=λas M q _=>∃ε γ i r,as=[aK C ε γ,.int (i:Nat)]/\γ[i]? =!r/\q (.str (kindOf r)) M
def zJ:Β ["self","place"] ["self","place"] (ν k7):=.of rfl
def xu(F:dh K "kind" "Floor.kind" k7 f fd)(E:Ev K mg Cm CN CF Ca Ci Cd Ce Cg Cj Cb Cc Ck):ae P w K mg base (bC P w) 1 f fd ["self","place"] (cZ K (r_ Cm)):=by
 show F.eK zJ (λds M q x h=>?_) (λaP A outer s H E' hr=>(_,(ι (Δ (Κ (Κ (Al E.fo E.cY (jv 0)) (jv 1)) τ))),λds M q x h=>?_))
 .let(ε,γ,i,r,rfl,_):=h;rfl
 .let(ε,γ,i,r,rfl,hi,h):=h;show(_,_,_,.inl rfl,rfl,?_);walk_at "vc";show Η (xs:=γ.map Τ) rfl (Ε (pP hi)) ?_;let(e,er):=Ji (r:=r);rw[er];show h
def BB(C:Addr):DF:=λas M q _=>∃ε γ i r,as=[aK C ε γ,.int (i:Nat)]/\γ[i]? =!r/\gK r/\q (.loc (-M)) (M++[.lst ((Υ r).map ff)])
def wd:Β ["self","place"] ["self","place"] (ν jE):=.of rfl
def ua(F:dh K "doors" "Floor.doors" jE f fd)(E:Ev K mg Cm CN CF Ca Ci Cd Ce Cg Cj Cb Cc Ck)(aa:hI P w K mg base 1 Cm "kind" ["self","place"] (r_ Cm) bb bc):ae P w K mg base (bC P w) 2 f fd ["self","place"] (cZ K (BB Cm)):=by
 show F.eK wd (λds M q x h=>?_) (λaP A outer s H E' hr=>(_,(ζ (aC (cG hr (iQ aa hr ο (jv 0) (Ο (jv 1) η)) fm) (ι (Δ (lU η))) Ρ)
   (ι (Δ (CS E.jU (θ (Κ (Κ (Al E.fo E.cY (jv 0)) (jv 1)) τ) η aW))))),λds M q x h=>?_))
 .let(ε,γ,i,r,rfl,_):=h;rfl
 .let(ε,γ,i,r,rfl,hi,ro,h):=h;show((_,_,.inl rfl,rfl),ε,γ,i,r,rfl,hi,?_);cases r with
  | fin p=>show(λ_=>(@_,h),nofun)
  | Λ k ds=>
   show(λz=>aaO (aaP z) ro.1,λ_=>?_);show(_,_,_,.inl rfl,rfl,?_);walk_at "vc";show Η (xs:=γ.map Τ) rfl (Ε (pP hi)) ?_;show h
def VG(C:Addr):DF:=λas M q _=>∃ε γ i r,as=[aK C ε γ,.int (i:Nat)]/\γ[i]? =!r/\gK r/\q (Vm r) M
def Bl:Β ["self","place"] ["self","place"] (ν oC):=.of rfl
def An(F:dh K "pay" "Floor.pay" oC f fd)(E:Ev K mg Cm CN CF Ca Ci Cd Ce Cg Cj Cb Cc Ck)(aa:hI P w K mg base 1 Cm "kind" ["self","place"] (r_ Cm) bb bc):ae P w K mg base (bC P w) 2 f fd ["self","place"] (cZ K (VG Cm)):=by
 show F.eK Bl (λds M q x h=>?_) (λaP A outer s H E' hr=>(_,(ζ (aC (cG hr (iQ aa hr ο (jv 0) (Ο (jv 1) η)) fm) (ι (Δ (Κ (Κ (Al E.fo E.cY (jv 0)) (jv 1)) τ))) Ρ)
   (ι (Δ A7))),λds M q x h=>?_))
 .let(ε,γ,i,r,rfl,_):=h;rfl
 .let(ε,γ,i,r,rfl,hi,ro,h):=h;show((_,_,.inl rfl,rfl),ε,γ,i,r,rfl,hi,?_);cases r with
  | fin p=>
   show(λ_=>?_,nofun);show(_,_,_,.inl rfl,rfl,?_);walk_at "vc";show Η (xs:=γ.map Τ) rfl (Ε (pP hi)) ?_;show h
  | Λ k ds=>show(λz=>aaO (aaP z) ro.1,λ_=>h)
def jx{α:Type}(f:α->Dt):∀(xs ys:List α),(∀x∈xs,x∈ys)->Paired (λx a=>x=f a/\a∈ys) (xs.map f) xs
 | [],_,_=>.nil
 | x::xs,ys,h=>.cons (rfl,h x aal) (jx f xs ys λy hy=>h y (aai _ hy))
def cN{q:DQ}(u:Dt.bM (-M) ds)(h:q (.lst ds) M):t_ M q (.loc (-M)) (M++[.lst ds]):=lO (.Ib (aam _) (by rw[Nat.sub_self];rfl) (jd.old u)) h
def Mq{q:DQ}(u:Dt.bM (-M) ds)(h:q (.lst ds) M):Dq [.lst ds] M (t_ M q):=by change t_ M q (.loc (-M)) (M++[.lst ds]);show cN u h
def Vd{d:eL}{q:DQ}(h:q (aE d.2.1) M):fe (ff d) (.int 1) M q:=Η (xs:=.int d.1::aE d.2.1::d.2.2.map aE) rfl (Ε (j:=1) rfl) h
def OM{d:eL}{q:DQ}(h:q (.int d.1) M):fe (ff d) (.int 0) M q:=Η (xs:=.int d.1::aE d.2.1::d.2.2.map aE) rfl bI h
def OZ{k:Str}{e:Dt}{q:DQ}(h:q e M):fe (.tup [.str k,e]) (.int 1) M q:=Η (xs:=[.str k,e]) rfl (Ε (j:=1) rfl) h
def dz{g:Dt->En->(En->Prop)->Prop}{tb:DS}{Dn:gf}(J:List Dt->En->Ms->Prop)
  (step:∀x xs ρ M,J (x::xs) ρ M->(∀ρ M,J xs ρ M->vE g tb Dn xs ρ M)->g x ρ λρ'=>tb {Dn with nx:=vE g tb Dn xs,ct:=vE g tb Dn xs,bk:=Dn.nx} ρ' M)
  (fin:∀ρ M,J [] ρ M->Dn.nx ρ M):∀(xs:List Dt) (ρ:En) (M:Ms),J xs ρ M->vE g tb Dn xs ρ M
 | [],ρ,M,h=>fin _ _ h
 | x::xs,ρ,M,h=>step x xs ρ M h λρ' M' h'=>dz J step fin xs ρ' M' h'
def cW{x:Dt}(h:x::xs=dj lo n):∃m,n=m+1/\x= .int lo/\xs=dj (lo+1) m:=by
 cases n with
 | zero=>show nomatch h
 | succ m=>
  unfold dj at h;rw[ab8,aa8,aaT]at h;cases h;show(m,rfl,by simp,?_);unfold dj;apply abB;intro k _;change Dt.int (lo+((k+1:Nat):Int))=Dt.int (lo+1+(k:Int))
  congr 1
  omega
def rz{x:Dt}(h:x∈dj lo n):∃k:Nat,k < n/\x= .int (lo+k):=by unfold dj at h;let(k,hk,rfl):=aaH.mp h;show(k,abg.mp hk,rfl)
def gm:-(dj lo n)=n:=by unfold dj;simp
def fc{n:Nat}:∀(xs:List Int),Dt.bM n (xs.map Dt.int)
 | []=>trivial
 | _::xs=>(trivial,fc xs)
def HW{m:Int}:∀{l:List Int},(∀w∈l,w<=m)->l.sum<=-l * m
 | [],_=>by simp
 | a::l,h=>by let i:=HW (l:=l) λw hw=>h w (aai _ hw);have:=h a aal;rw[List.sum_cons,aaz,ab4,Int.add_mul];omega
def pY(aG:Int)(r:Rw):Prop:=gK r/\fS r aG=true
def Mw{k:Str}{ds:List eL}(hk:Ι k=true)(hz:1<=-ds)(Y0:-ds<=6)(hd:∀d∈ds,aI d.1 d.2.1 aG=true)(hs:∀d∈ds,d.2.2=[]/\0 < d.2.1.2):pY aG (.Λ k ds):=by
 let fd:av ds aG=true:=by unfold av;rw[aax hz,aax Y0,abO.mpr hd];rfl
 let ne:k≠"end"/\k≠"chance":=by show(λz=>?_,λz=>?_) <;> (subst z;show aaO hk @_)
 show((ne.1,(),λz=>aaO z ne.2,λd h=>(by rw[(hs d h).1];show aca _,(hs d h).2)),?_);change(if Ι k then _ else _)=true;rw[aaG hk];show fd
def FC{ds:List eL}(hz:1<=-ds)(Y0:-ds<=6)(hd:∀d∈ds,aI d.1 d.2.1 aG=true)(h1:∀d∈ds,d.2.2=[χ d])(hc:Ω (ds.map χ)=true)(ho:QT (ds.map χ))(hp:∀d∈ds,0 < d.2.1.2):pY aG (.Λ "chance" ds):=by
 let fd:av ds aG=true:=by unfold av;rw[aax hz,aax Y0,abO.mpr hd];rfl
 show((@_,(),λ_=>(h1,ho),λd h=>(by rw[h1 d h];show aam _,hp d h)),?_);let e:fS (.Λ "chance" ds) aG=(av ds aG&&Ω (ds.map χ)):=by dsimp only[fS];rw[aaE @_,aaG rfl]
 rw[e,fd,hc];rfl
def Nl{p:Fr}(h0:0<=t)(h1:t < aG)(hp:bG p=true):aI t p aG=true:=by unfold aI;rw[aax h0,aax h1,hp];rfl
def fH{xs:List Int}(h:j < -xs):kU (xs.map Dt.int) (j:Int)=!(.int xs[j]):=Ε (by rw[aan,aaa h];rfl)
def D8:∀{l:List Int},(∀w∈l,0 < w)->l≠[]->0 < l.sum
 | [],_,z=>aaO rfl z
 | [a],h,_=>by have:=h a List.mem_cons_self;simpa using this
 | a::b::l,h,_=>by let i:=D8 (l:=b::l) (λw hw=>h w (List.mem_cons_of_mem _ hw)) (by simp);have:=h a aal;rw[List.sum_cons];omega
def Sz(k:Nat)(p:Fr):Prop:=p.1.natAbs < 2 ^ k/\0 < p.2/\p.2.natAbs < 2 ^ k
def kR(p q:Fr):Fr:=ak (p.1 * q.2+q.1 * p.2) (p.2 * q.2)
def bw(p q:Fr):Fr:=ak (p.1 * q.1) (p.2 * q.2)
def vY{k k':Nat}{p:Fr}(h:Sz k p)(hk:k<=k'):Sz k' p:=
 (aay h.1 (ach @_ hk),h.2.1,aay h.2.2 (ach @_ hk))
def bW{a b k l:Nat}(h:a < 2 ^ k)(h':b < 2 ^ l):a * b < 2 ^ (k+l):=by rw[Nat.pow_add];show Nat.mul_lt_mul'' h h'
def FD{p q:Fr}{k l:Nat}(hp:Sz k p)(hq:Sz l q):(p.1 * q.2+q.1 * p.2).natAbs < 2 ^ (k+l+1)/\(p.2 * q.2).natAbs < 2 ^ (k+l+1)/\0 < p.2 * q.2:=by
 let a:=bW hp.1 hq.2.2;let b:=bW hq.1 hp.2.2;let c:=bW hp.2.2 hq.2.2;rw[Nat.add_comm l k]at b;let e:(2:Nat) ^ (k+l+1)=2 ^ (k+l)+2 ^ (k+l):=by rw[Nat.pow_succ];omega
 let hn:=Int.natAbs_add_le (p.1 * q.2) (q.1 * p.2);rw[abo,abo]at hn;show(by rw[e];omega,?_,aa6 hp.2.1 hq.2.1);rw[abo,e];omega
def Bg{p q:Fr}{k l:Nat}(hp:Sz k p)(hq:Sz l q):(p.1 * q.1).natAbs < 2 ^ (k+l)/\(p.2 * q.2).natAbs < 2 ^ (k+l)/\0 < p.2 * q.2:=by let a:=bW hp.1 hq.1;let c:=bW hp.2.2 hq.2.2;show(by rw[abo];show a,by rw[abo];show c,aa6 hp.2.1 hq.2.1)
def iS{p:Fr}{k:Nat}(h:Sz k p)(hk:k<=8000):hG p.1:=bg h.1 hk
def et{p:Fr}{k:Nat}(h:Sz k p)(hk:k<=8000):hG p.2:=bg h.2.2 hk
def HX{p:Fr}(h:aU p=true):Sz 11 p:=by unfold aU at h;rw[aaA,aaA,aaW,aaW,aaW]at h;let(h1,h2,h3):=h;show((),(),())
def Oe:DF:=λas M q _=>∃p r k l,as=[aE p,aE r]/\Sz k p/\Sz l r/\k+l+1<=8000/\q (aE (kR p r)) M
def Pc:Β ["one","other"] ["one","other"] (ν Lb):=.of rfl
def NC(F:dh K "plus" "plus" Lb f fd)(E:Ev K mg Cm CN CF Ca Ci Cd Ce Cg Cj Cb Cc Ck)(aY:ax P w K mg base 2 "fraction" ["top","bottom"] sH e6 eT):ae P w K mg base (bC P w) 3 f fd ["one","other"] (cZ K Oe):=by
 show F.eK Pc (λds M q x h=>?_) (λaP A outer s H E' hr=>(_,(ι (Δ (ah aY hr ο (θ (bU (aM (Κ (jv 0) τ) (Κ (jv 1) τ)) (aM (Κ (jv 1) τ) (Κ (jv 0) τ))) (θ (aM (Κ (jv 0) τ) (Κ (jv 1) τ)) η bt) bt)))),λds M q x h=>?_))
 .let(p,r,k,l,rfl,_):=h;rfl
 .let(p,r,k,l,rfl,hp,mr,hk,h):=h;let(a,b,c):=FD hp mr;show((iS hp (),et mr ()),(iS mr (),et hp ()),(et hp (),et mr ()),bg b hk,λz=>aaO z (),λ_=>h)
def BQ:DF:=λas M q _=>∃p r k l,as=[aE p,aE r]/\Sz k p/\Sz l r/\k+l+1<=8000/\q (aE (bw p r)) M
def Mn:Β ["one","other"] ["one","other"] (ν BS):=.of rfl
def J9(F:dh K "times" "times" BS f fd)(E:Ev K mg Cm CN CF Ca Ci Cd Ce Cg Cj Cb Cc Ck)(aY:ax P w K mg base 2 "fraction" ["top","bottom"] sH e6 eT):ae P w K mg base (bC P w) 3 f fd ["one","other"] (cZ K BQ):=by
 show F.eK Mn (λds M q x h=>?_) (λaP A outer s H E' hr=>(_,(ι (Δ (ah aY hr ο (θ (aM (Κ (jv 0) τ) (Κ (jv 1) τ)) (θ (aM (Κ (jv 0) τ) (Κ (jv 1) τ)) η bt) bt)))),λds M q x h=>?_))
 .let(p,r,k,l,rfl,_):=h;rfl
 .let(p,r,k,l,rfl,hp,mr,hk,h):=h;let(a,b,c):=Bg hp mr;show((iS hp (),iS mr ()),(et hp (),et mr ()),bg b (),λz=>aaO z (),λ_=>h)
def hX(p q:Fr):Fr:=ak (p.1 * q.2 - q.1 * p.2) (p.2 * q.2)
def BY{p q:Fr}{k l:Nat}(hp:Sz k p)(hq:Sz l q):(p.1 * q.2 - q.1 * p.2).natAbs < 2 ^ (k+l+1)/\(p.2 * q.2).natAbs < 2 ^ (k+l+1)/\0 < p.2 * q.2:=by
 let a:=bW hp.1 hq.2.2;let b:=bW hq.1 hp.2.2;let c:=bW hp.2.2 hq.2.2;rw[Nat.add_comm l k]at b;let e:(2:Nat) ^ (k+l+1)=2 ^ (k+l)+2 ^ (k+l):=by rw[Nat.pow_succ];omega
 let hn:(p.1 * q.2 - q.1 * p.2).natAbs<=(p.1 * q.2).natAbs+(q.1 * p.2).natAbs:=()
 rw[abo,abo]at hn;show(by rw[e];omega,?_,aa6 hp.2.1 hq.2.1);rw[abo,e];omega
def Ia:DF:=λas M q _=>∃p r k l,as=[aE p,aE r]/\Sz k p/\Sz l r/\k+l+1<=8000/\q (aE (hX p r)) M
def MU:Β ["one","other"] ["one","other"] (ν Bf):=.of rfl
def Lj(F:dh K "minus" "minus" Bf f fd)(E:Ev K mg Cm CN CF Ca Ci Cd Ce Cg Cj Cb Cc Ck)(aY:ax P w K mg base 2 "fraction" ["top","bottom"] sH e6 eT):ae P w K mg base (bC P w) 3 f fd ["one","other"] (cZ K Ia):=by
 show F.eK MU (λds M q x h=>?_) (λaP A outer s H E' hr=>(_,(ι (Δ (ah aY hr ο (θ (u7 (aM (Κ (jv 0) τ) (Κ (jv 1) τ)) (aM (Κ (jv 1) τ) (Κ (jv 0) τ))) (θ (aM (Κ (jv 0) τ) (Κ (jv 1) τ)) η bt) bt)))),λds M q x h=>?_))
 .let(p,r,k,l,rfl,_):=h;rfl
 .let(p,r,k,l,rfl,hp,mr,hk,h):=h;let(a,b,c):=BY hp mr;show((iS hp (),et mr ()),(iS mr (),et hp ()),(et hp (),et mr ()),bg b hk,λz=>aaO z (),λ_=>h)
def me(B:Int)(c:Fr):Int:=c.1 * (B / c.2)
structure HN(cs:List Fr):Prop where
 pos:∀c∈cs,0 < me (bA cs) c
 sum:(cs.map (me (bA cs))).sum=bA cs
 b0:0 < bA cs
 b1:bA cs<=1000000
 ne:cs≠[]
 Lr:QT cs
def Us{cs:List Fr}(h:Ω cs=true)(o:QT cs)(n:cs≠[]):HN cs:=by
 unfold Ω at h;rw[aaA,aaA,aaW,aaW,Bool.not_eq_true']at h;let(h1,h2,h3):=h;let B0:0 < bA cs:=fg cs 1 @_ λc hc=>(o.2 c hc).1;let(_,_,hB):=iu cs 1 0 @_ (acH _) λc hc=>((o.2 c hc).1,acH _);show(λc hc=>?_,h2,B0,h3,n,o);let c1:0 < c.1:=by have:=List.any_eq_false.mp h1 c hc;simpa using this
 show aa6 c1 (Int.ediv_pos_of_pos_of_dvd B0 (aas (o.2 c hc).1) (hB c hc))
def val(p:Fr):Rat:=(p.1:Rat) / (p.2:Rat)
structure Red(p:Fr):Prop where
 pos:0 < p.2
 low:Int.gcd p.1 p.2=1
def dH(h:b≠0):(b:Rat)≠0:=λz=>h (Rat.intCast_eq_zero_iff.mp z)
def N0{c d:Int}(h:a * b=c * d):(a:Rat) * b=c * d:=by rw[<-abu,<-abu,h]
def eJ(h:b≠0):Red (ak t b):=(cL h,yk h)
def mP(h:b≠0):val (ak t b)=(t:Rat) / (b:Rat):=by
 let hq:=cL (t:=t) h;let hx:=N0 (b7 (t:=t) h);let h1:=dH h;let h2:=dH (show(ak t b).2≠0 by omega);unfold val;generalize ((ak t b).1:Rat)=x at *
 generalize ((ak t b).2:Rat)=y at *
 generalize (t:Rat)=t' at *
 generalize (b:Rat)=b' at *
 grind
def E7{p q:Fr}(hp:0 < p.2)(hq:0 < q.2):val (bw p q)=val p * val q:=by
 unfold bw;rw[mP (ab0 (aa6 hp hq))];let h1:=dH (show p.2≠0 by omega);let h2:=dH (show q.2≠0 by omega);rw[abu,abu];unfold val;generalize (p.1:Rat)=a at *
 generalize (p.2:Rat)=b at *
 generalize (q.1:Rat)=c at *
 generalize (q.2:Rat)=d at *
 grind
def gM(p:Fr)(E:Int):Prop:=∃N,p.1 * E=N * p.2
def n6{N:Int}(h:b≠0)(e:t * E=N * b):gM (ak t b) E:=by
 let hx:=b7 (t:=t) h;generalize hf:ak t b=f at *
 let(x,y):=f;show(N,?_);change x * E=N * y;let hx:t * y=b * x:=hx;have:b * (x * E)=b * (N * y):=by grind
 show aaZ h this
def Aj{p:Fr}(k:Int)(h:gM p E):gM p (E * k):=by let(N,e):=h;show(N * k,by grind)
def Hb(p:Fr):gM p p.2:=(p.1,rfl)
def E9{p q:Fr}(hp:0 < p.2)(hq:0 < q.2)(h:gM p E)(h':gM q E):gM (kR p q) E:=by let(N,e):=h;let(N',e'):=h';unfold kR;show n6 (N:=N+N') (Int.ne_of_gt (Int.mul_pos hp hq)) (by grind)
def sC{p q:Fr}{F:Int}(hp:0 < p.2)(hq:0 < q.2)(h:gM p E)(h':gM q F):gM (bw p q) (E * F):=by let(N,e):=h;let(N',e'):=h';unfold bw;show n6 (N:=N * N') (Int.ne_of_gt (Int.mul_pos hp hq)) (by grind)
def wg{p:Fr}(hp:Red p)(h:gM p E):p.2∣E:=by
 let(N,e):=h;let d:p.2∣p.1 * E:=(N,by rw[e,abc]);let d2:p.2.natAbs∣p.1.natAbs * E.natAbs:=by rw[<-abo];show Int.natAbs_dvd_natAbs.mpr d
 let co:Nat.Coprime p.2.natAbs p.1.natAbs:=by have:=hp.low;unfold Int.gcd at this;rw[Nat.coprime_comm];show this
 show Int.natAbs_dvd_natAbs.mp (co.dvd_of_dvd_mul_left d2)
def eP(p:Fr)(C:Int):Prop:=p.1<=p.2 * C/\ - (p.2 * C)<=p.1
def mF(h:0 < b)(h1:t<=b * C)(h2: - (b * C)<=t):eP (ak t b) C:=by
 let hx:=b7 (t:=t) (show b≠0 by omega);let hq:=cL (t:=t) (show b≠0 by omega);generalize hf:ak t b=f at *
 let(x,y):=f;let hx:t * y=b * x:=hx;let hq:0 < y:=hq;constructor
 .change x<=y * C;have:=aaQ h1 (aas hq);rw[hx]at this;let e:b * C * y=b * (y * C):=by grind
  rw[e]at this;show acj this h
 .change - (y * C)<=x;have:=aaQ h2 (aas hq);rw[hx]at this;let e: - (b * C) * y=b * (- (y * C)):=by grind
  rw[e]at this;show acj this h
def bO{c:Int}(h:a<=b)(hc:0<=c):a * c<=b * c:=aaQ h hc
def KU{p q:Fr}{D:Int}(hp:0 < p.2)(hq:0 < q.2)(h:eP p C)(h':eP q D):eP (kR p q) (C+D):=by
 unfold kR;let a:=bO h.1 (aas hq);let b:=bO h'.1 (aas hp);let c:=bO h.2 (aas hq);let d:=bO h'.2 (aas hp);show mF (aa6 hp hq) ?_ ?_
 .let e:p.2 * q.2 * (C+D)=p.2 * C * q.2+q.2 * D * p.2:=by grind
  omega
 .let e: - (p.2 * q.2 * (C+D))= - (p.2 * C) * q.2+ - (q.2 * D) * p.2:=by grind
  omega
def gy(c:Fr):Prop:=0<=c.1/\c.1<=c.2
def He{c p:Fr}(hc:0 < c.2)(hp:0 < p.2)(u:gy c)(h:eP p C)(hC:0<=C):eP (bw c p) C:=by
 unfold bw;let pc:0<=p.2 * C:=abn (aas hp) hC;let a:=bO h.1 u.1;let b:=bO u.2 pc;let c':=bO h.2 u.1;show mF (aa6 hc hp) ?_ ?_
 .let e:c.2 * p.2 * C=c.2 * (p.2 * C):=by grind
  let e1:c.1 * p.1=p.1 * c.1:=abc ..;let e2:p.2 * C * c.1=c.1 * (p.2 * C):=abc ..;omega
 .let e: - (c.2 * p.2 * C)= - (c.2 * (p.2 * C)):=by grind
  let e1:c.1 * p.1=p.1 * c.1:=abc ..;let e2: - (p.2 * C) * c.1= - (c.1 * (p.2 * C)):=by grind
  omega
def CK{c s:Fr}(hc:0 < c.2)(hs:0 < s.2)(u:gy c)(v:gy s):gy (bw c s):=by
 unfold bw;let hx:=b7 (t:=c.1 * s.1) (ab0 (aa6 hc hs));let hq:=cL (t:=c.1 * s.1) (ab0 (aa6 hc hs));let t0:0<=c.1 * s.1:=abn u.1 v.1
 let t1:c.1 * s.1<=c.2 * s.2:=abG (bO u.2 v.1) (by
  have:=bO v.2 (aas hc)
  rw[abc c.2 s.1,abc c.2 s.2];show this)
 let bp:=aa6 hc hs;generalize c.1 * s.1=t at *
 generalize c.2 * s.2=b at *
 generalize hf:ak t b=f at *
 let(x,y):=f;let hx:t * y=b * x:=hx;let hq:0 < y:=hq;constructor
 .change 0<=x;rcases ace x 0 with z| z
  .have:=ab2 bp z;have:=abn t0 (aas hq);omega
  .show z
 .change x<=y;have:=bO t1 (aas hq);rw[hx]at this;show acj this bp
def Oj{p:Fr}{k m:Nat}(r:Red p)(h:gM p E)(e0:0 < E)(e1:E < 2 ^ k)(a:eP p C)(c0:0<=C)(c1:C < 2 ^ m):Sz (k+m) p:=by
 let d:=acf e0 (wg r h);let rp:=r.pos;let b1:p.2.natAbs < 2 ^ k:=by
  have:(p.2.natAbs:Int) < ((2 ^ k:Nat):Int):=by rw[abF (aas rp)];show aaY d (by exact_mod_cast e1)
  show acF.mp this
 let b2:C.natAbs < 2 ^ m:=by
  have:(C.natAbs:Int) < ((2 ^ m:Nat):Int):=by
   rw[abF c0]
   exact_mod_cast c1
  show acF.mp this
 let b3:=bW b1 b2;show(?_,rp,aay b1 (ach @_ (abV _ _)));show abf ?_ b3;rw[<-abo];let q0:0<=p.2 * C:=abn (aas rp) c0;have:=a.1;have:=a.2;omega
def Tz{cs:List Fr}(h:j < -cs):kU (cs.map aE) (j:Int)=!(aE cs[j]):=Ε (by rw[aan,aaa h];rfl)
def VY{ds:List eL}(h:j < -ds):kU (ds.map ff) (j:Int)=!(ff ds[j]):=Ε (by rw[aan,aaa h];rfl)
structure MS(ε:Fr)(γ:List Rw):Prop where
 sh:aU ε=true
 len:-γ<=12
 row:∀r∈γ,gK r/\fS r (-γ)=true
structure UQ(γ:List Rw)(k:Str)(ds:List eL):Prop where
 ro:gK (.Λ k ds)
 l1:1<=-ds
 l6:-ds<=6
 kd:Ι k=true\/(Ι k=false/\k="chance"/\HN (ds.map χ))
 to:∀d∈ds,0<=d.1/\d.1 < -γ
 py:∀d∈ds,bG d.2.1=true/\0 < d.2.1.2
def mw{ε:Fr}{γ:List Rw}{k:Str}{ds:List eL}(f:MS ε γ)(h:Rw.Λ k ds∈γ):UQ γ k ds:=by
 let(ro,h2):=f.row _ h;let h2:(if Ι k then av ds (-γ) else if k="chance" then av ds (-γ)&&Ω (ds.map χ) else false)=true:=h2;let key:av ds (-γ)=true/\(Ι k=true\/(Ι k=false/\k="chance"/\Ω (ds.map χ)=true)):=by
  by_cases hk:Ι k=true
  .rw[aaG hk]at h2;show(h2,.inl hk)
  .rw[aaE hk]at h2;by_cases hc:k="chance"
   .rw[if_pos hc,Bool.and_eq_true]at h2;show(h2.1,.inr (by simpa using hk,hc,h2.2))
   .rw[aaE hc]at h2;cases h2
 let(fd,hk):=key;unfold av at fd;rw[aaA,aaA,aaW,aaW]at fd;let((d1,d6),fa):=fd;let each:∀d∈ds,0<=d.1/\d.1 < -γ/\bG d.2.1=true:=λd hd=>by let h3:=abO.mp fa d hd;unfold aI at h3;rw[aaA,aaA,aaW,aaW]at h3;show(h3.1,h3.2.1,h3.2.2)
 show(ro,d1,d6,?_,λd hd=>((each d hd).1,(each d hd).2.1),λd hd=>((each d hd).2.2,(ro.2.2.2 d hd).2));rcases hk with hk| ⟨hk,hc,hf⟩
 .show .inl hk
 .show .inr (hk,hc,Us hf (ro.2.2.1 hc).2 λz=>?_);have:=aba List.length z;rw[aae]at this;have:-ds=0:=this;omega
def Mm{α:Type}(xs:List α)(a:α)(f:α->Dt):(dj 0 (-xs)).map (λx=>match x with| .int j=>f (xs.getD j.toNat a)| _=>.aV)=xs.map f:=by
 unfold dj;rw[aaT];apply abH
 .simp
 .intro i h1 h2;simp only[List.getElem_map,List.getElem_range,Function.comp];rw[show(0+(i:Int)).toNat=i by omega];let hi:i < -xs:=by simpa using h2
  rw[aac,aaa hi];rfl
abbrev d0:eL:=(0, (0, 1),[])
def lq(ps:List (Fr×Fr)):Fr:=ps.foldl (λw p=>kR w (bw p.1 p.2)) (0, 1)
structure Nb(E C:Int)(p:Fr):Prop where
 pos:0 < p.2
 he:gM p E
 ab:eP p C
 sz:Sz 2600 p
structure Bd(E C:Int):Prop where
 e0:0 < E
 e1:E < 2 ^ 2200
 c0:0<=C
 c1:C < 2 ^ 400
def J'{p:Fr}(r:Red p)(h:gM p E)(a:eP p C)(b:Bd E C):Nb E C p:=(r.pos,h,a,Oj (k:=2200) (m:=400) r h b.e0 b.e1 a b.c0 b.c1)
def LS{D:Int}{p q:Fr}(h:Nb E C p)(h':Nb E D q)(b:Bd E (C+D)):Nb E (C+D) (kR p q):=J' (eJ (ab0 (aa6 h.pos h'.pos))) (E9 h.pos h'.pos h.he h'.he) (KU h.pos h'.pos h.ab h'.ab) b
def zP{F:Int}{c p:Fr}(c0:0 < c.2)(hc:gM c F)(u:gy c)(h:Nb E C p)(b:Bd (F * E) C):Nb (F * E) C (bw c p):=J' (eJ (ab0 (aa6 c0 h.pos))) (sC c0 h.pos hc h.he) (He c0 h.pos u h.ab b.c0) b
def PN{p:Fr}{D:Int}(h0:0 < p.2)(h:eP p C)(hd:C<=D):eP p D:=by have:=aaD hd (aas h0);let(a,b):=h;show((),())
def VU:Nb E 0 (0, 1):=(@_,(0,by simp),(@_,@_),vY (k:=1) (@_,@_,@_) @_)
def IH{p:Fr}(h:aU p=true):0 < p.2/\p.2<=1000/\gy p:=by unfold aU at h;rw[aaA,aaA,aaW,aaW,aaW]at h;let(h1,h2,h3):=h;show((),h3,h1,())
def xn{p:Nat}(h:p < n):Ik n (p:Int)=!p:=by unfold Ik;rw[aaG (),aaG (),acz]
def H_(h:FZ M d=!xs):mY M d=!xs:=by cases d <;> first| show h| cases h
def aL{o:MO}:(M++[o])[-M]? =!o:=by simp
def wb{k:Nat}(h:M[k]? =!(MO.lst xs)):FZ M (.loc k)=!xs:=by change(match M[k]? with| some (MO.lst xs)=>!xs| _=>none)=!xs;rw[h]
def b9{a c:MO}:(M++[a]).set (-M) c=M++[c]:=by simp[List.set_append]
def RC{E:Ms}{o:MO}:(M++o::E)[-M]? =!o:=by simp
def NO{E:Ms}{o c:MO}:(M++o::E).set (-M) c=M++c::E:=by simp[List.set_append]
abbrev bV(l:List Int):Dt:=.lst (l.map Dt.int)
abbrev jo(ls:List (List Int)):Dt:=.lst (ls.map bV)
def D1{ls:List (List Int)}(h:j < -ls):kU (ls.map bV) (j:Int)=!(bV ls[j]):=Ε (by rw[aan,aaa h];rfl)
def iX{n:Nat}:∀(ls:List (List Int)),Dt.bM n (ls.map bV)
 | []=>trivial
 | l::ls=>(fc l,iX ls)
abbrev cE:=Bz.cE
def yr(h:i < n):((List.replicate (n:Int).toNat [Dt.int 0]).flatten).set i (Dt.int 1)=(cE n i).map Dt.int:=by
 let e:(List.replicate (n:Int).toNat [Dt.int 0]).flatten=List.replicate n (Dt.int 0):=by
  rw[show((n:Int)).toNat=n by omega];clear h
  induction n with
  | zero=>rfl
  | succ n ih=>rw[abt,abI,ih];rfl
 rw[e];unfold cE Bz.cE;apply abH
 .simp
 .intro j h1 h2;rw[List.getElem_set];simp only[List.getElem_replicate,List.getElem_map,List.getElem_range,Bz.ind];split <;> rfl
def OX:DF:=λas M q _=>∃γ:List (List Int),as=[jo γ]/\-γ<=12/\(∀r∈γ,-r<=13)/\∀E,q (.loc (-M)) (M++MO.lst (((List.range (-γ)).map λi=>γ.getD i []++cE (-γ) i).map bV)::E)
def dw:Β ["rows","told","number","row","weights"] ["rows"] (ν i6):=.of rfl
def sG(F:dh K "with_weights" "with_weights" i6 f fd)(E:Ev K mg Cm CN CF Ca Ci Cd Ce Cg Cj Cb Cc Ck):ae P w K mg base (bC P w) 1 f fd ["rows"] (cZ K OX):=by
 show F.eK dw (λds M q x h=>?_) (λaP A outer s H E' hr=>(_,(ζ (Α 1 dw.nd (lU η))
   (ζ (eE (Dg E.fv (Ο (jv 0) η)) (k_ rfl (bH (ag (i:=2) dw.nd rfl (Or.inl rfl)) (bH (ag (i:=3) dw.nd rfl (Or.inl rfl)) i8))) oj (ζ (Α 4 dw.nd (AH (dI 3 (d:=.lst [.int 0]) (by rfl)) (cv E.bN (Ο (jv 0) η))))
   (ζ (ng (jv 4) (jv 2) τ)
   (ι (e_ (gI (jv 1) (θ (k4 (jv 3) (jv 4)) η bt)))))))
   (ι (Δ (jv 1))))),λds M q x h=>?_))
 .let(γ,rfl,_):=h;rfl
 .let(γ,rfl,r12,r13,h):=h;show(@_,?_);show(jo γ,γ.map bV,λ_=>True,rfl,rfl,?_);show cf (λxs ρ M'=>∃(k:Nat) (rest:List (List Int)) (E:Ms) (o1 o2 o3:Option Dt),xs=jB k (rest.map bV)/\γ.drop k=rest/\k<=-γ/\M'=M++MO.lst (((List.range k).map λi=>γ.getD i []++cE (-γ) i).map bV)::E/\ρ=[!(jo γ),!(.loc (-M)),o1,o2,o3]) (λxs ρ M' hj=>trivial) (λx xs ρ M' hj fD=>?_) (λρ M' hj=>?_) _ _ _ (0,γ,[],none,none,none,rfl,rfl,aca _,rfl,rfl)
  .let(k,rest,E,o1,o2,o3,ex,hd,hk,rfl,rfl):=hj;cases rest with
   | nil=>cases ex
   | cons r rest=>
    cases ex;let sU:k < -γ:=by
     rcases Nat.lt_or_ge k (-γ) with z| z
     .show z
     .rw[List.drop_of_length_le z]at hd;cases hd
    let rk:γ[k]=r:=by have:=abA sU;rw[hd]at this;show(List.cons.inj this).1.symm
    let rg:γ.getD k []=r:=by rw[aac,aaa sU,rk];rfl
    let adg:=r13 r (by rw[<-rk];show aaU sU);let GA:γ.drop (k+1)=rest:=by have:=abA sU;rw[hd]at this;show(List.cons.inj this).2.symm
    dsimp only[g2];walk_at "vc";show(ao (d:=jo γ) (xs:=γ.map bV) rfl ?_:fN [jo γ] _ _);rw[aae];show([.int 0],-γ,rfl,rfl,(),(),?_,?_)
    .change 1 * ((-γ:Int)).toNat<=sizeLine;show aaJ (show _<=12 by omega) @_
    generalize hM2:M++MO.lst (((List.range k).map λi=>γ.getD i []++cE (-γ) i).map bV)::E=M2;show(-M2,k,_,k,rfl,rfl,aL,?_,?_)
    .have:-((List.replicate (-γ:Int).toNat [Dt.int 0]).flatten)=-γ:=by have:=aba List.length (yr sU);rw[aa7,aae]at this;rw[this];unfold cE Bz.cE;simp
     rw[this];show xn sU
    rw[b9,yr sU];subst hM2;let eM:(M++MO.lst (((List.range k).map λi=>γ.getD i []++cE (-γ) i).map bV)::E)++[MO.lst ((cE (-γ) k).map Dt.int)]=M++MO.lst (((List.range k).map λi=>γ.getD i []++cE (-γ) i).map bV)::(E++[MO.lst ((cE (-γ) k).map Dt.int)]):=by simp
    let at3:((M++MO.lst (((List.range k).map λi=>γ.getD i []++cE (-γ) i).map bV)::E)++[MO.lst ((cE (-γ) k).map Dt.int)])[-M]? =!(.lst (((List.range k).map λi=>γ.getD i []++cE (-γ) i).map bV)):=by rw[eM];show RC
    show((-M,_,rfl,at3),r.map Dt.int,(cE (-γ) k).map Dt.int,rfl,wb aL,?_,-M,_,_,rfl,rfl,at3,?_,?_)
    .rw[aae,aae];unfold cE Bz.cE;rw[aae,abe];show aaJ (show _<=30 by omega) @_
    .rw[aae,aae,abe];show abf (show k<=12 by omega) @_
    rw[eM,NO];show fD _ _ (k+1,rest,E++[MO.lst ((cE (-γ) k).map Dt.int)],_,_,_,rfl,GA,sU,?_,rfl);rw[List.range_succ,abb,abb];simp only[List.map_cons,List.map_nil];rw[rg,<-abb]
  .let(k,rest,E,o1,o2,o3,ex,hd,hk,rfl,rfl):=hj;cases rest with
   | cons r rest=>cases ex
   | nil=>
    have:k=-γ:=by have:=aba List.length hd;rw[abM]at this;simp at this;omega
    subst this;show h E
def Vj:DF:=λas M q _=>∃(ls:List (List Int)) (f c:Nat),as=[jo ls,.int (f:Int),.int (c:Int)]/\f<=-ls/\-ls<=12/\(∀l∈ls,c < -l)/\
 ((∀(k:Nat),f<=k->k < -ls->(ls.getD k []).getD c 0=0)->q .aV M)/\
 (∀(k:Nat),f<=k->k < -ls->(ls.getD k []).getD c 0≠0->q (.int (k:Int)) M)
def jV:Β ["lines","first","column","number"] ["lines","first","column"] (ν ie):=.of rfl
def pE(F:dh K "number_of_head" "number_of_head" ie f fd)(E:Ev K mg Cm CN CF Ca Ci Cd Ce Cg Cj Cb Cc Ck):ae P w K mg base (bC P w) 1 f fd ["lines","first","column"] (cZ K Vj):=by
 show F.eK jV (λds M q x h=>?_) (λaP A outer s H E' hr=>(_,(ζ (iM (FO E.bY (Ο (jv 1) (θ (cv E.bN (Ο (jv 0) η)) η br))) (ag (i:=3) jV.nd rfl (Or.inl rfl)) aJ (ι (aC (rC hr (Κ (Κ (jv 0) (jv 3)) (jv 2)) τ) (ι (Δ (jv 3))) Ρ)))
   (ι (Δ A7))),λds M q x h=>?_))
 .let(ls,f,c,rfl,_):=h;rfl
 .let(ls,f,c,rfl,hf,mq,hc,h1,h2):=h;walk_at "vc";dsimp only[Kx];walk_at "vc";show(ao (d:=jo ls) (xs:=ls.map bV) rfl ?_:fN [jo ls] _ _);rw[aae];show(((),(),(),()),?_);show dz (λzs ρ M'=>M'=M/\∃(n k:Nat) (o:Option Dt),zs=dj k n/\f<=k/\k+n=-ls/\(∀j,f<=j->j < k->(ls.getD j []).getD c 0=0)/\ρ=[!(jo ls),!(.int (f:Int)),!(.int (c:Int)),o]) (λx zs ρ M' hj fD=>?_) (λρ M' hj=>?_) _ _ _ (rfl,-ls - f,f,none,?_,aam _,(),λj a b=>aaO a (),rfl)
  .let(rfl,n,k,o,ex,hk,hn,hz,rfl):=hj;let(m,rfl,rfl,rfl):=cW ex;let kl:k < -ls:=()
   let hl:=hc _ (aaU kl);let e1:(ls.getD k []).getD c 0=(ls[k])[c]:=by rw[aac,aac,aaa kl];change((ls[k])[c]?).getD 0=_;rw[aaa hl];rfl
   walk_at "vc";show(Η (d:=jo ls) rfl (D1 kl) ?_:fe (jo ls) (.int (k:Int)) _ _);show(Η (d:=bV ls[k]) rfl (fH hl) ?_:fe (bV ls[k]) (.int (c:Int)) _ _);show(λz=>?_,λz=>?_)
   .let z:(! decide ((ls[k])[c]=0))=true:=z;show h2 k hk kl ?_;rw[e1];intro y;rw[aax y]at z;show nomatch z
   .let z:(! decide ((ls[k])[c]=0))=false:=z;let z0:(ls[k])[c]=0:=by
     rcases Decidable.em ((ls[k])[c]=0) with y| y
     .show y
     .rw[aaB y]at z;show nomatch z
    show fD _ _ (rfl,m,k+1,_,by simp,(),(),λj a b=>?_,rfl);by_cases e:j=k
    .rw[e,e1];show z0
    .show hz j a ()
  .let(rfl,n,k,o,ex,hk,hn,hz,rfl):=hj;let O9:n=0:=by have:=aba List.length ex;unfold dj at this;simpa using this.symm
   show h1 λj a b=>hz j a ()
  .rw[show((-ls:Int) - (f:Int)).toNat=-ls - f by omega]
abbrev jJ:=Bz.jJ
def Il:DF:=λas M q _=>∃(ls:List (List Int)) (f k:Nat),as=[jo ls,.int (f:Int),.int (k:Int)]/\f<=k/\k < -ls/\-ls<=12/\q (jo (jJ ls f k)) M
def vT:Β ["lines","first","number"] ["lines","first","number"] (ν jA):=.of rfl
def tU(F:dh K "moved_ahead" "moved_ahead" jA f fd)(E:Ev K mg Cm CN CF Ca Ci Cd Ce Cg Cj Cb Cc Ck):ae P w K mg base (bC P w) 1 f fd ["lines","first","number"] (cZ K Il):=by
 show F.eK vT (λds M q x h=>?_) (λaP A outer s H E' hr=>(_,(ι (Δ (k4 (k4 (k4 (cC (wK (jv 0) (jv 1))) (jg (θ (Κ (jv 0) (jv 2)) η aW))) (cC (uL (jv 0) (jv 1) (jv 2)))) (cC (nO (jv 0) (bU (jv 2) τ)))))),λds M q x h=>?_))
 .let(ls,f,k,rfl,_):=h;rfl
 .let(ls,f,k,rfl,hf,hk,mq,h):=h;let gk:ls.getD k []=ls[k]:=by rw[aac,aaa hk];rfl
  let sz:∀{n:Nat},n<=40->n<=sizeLine:=λh=>aaJ h @_;show(ls.map bV,f,rfl,rfl,?_);rw[<-acx];show cN (iX _) ?_;walk_at "vc";show(Η (d:=jo ls) rfl (D1 hk) ?_:fe (jo ls) (.int (k:Int)) _ _);show(sz (by change 1<=40;decide),(ls.take f).map bV,[bV ls[k]],rfl,rfl,sz (by simp;omega),?_);show(f,rfl,ls.map bV,k,rfl,rfl,?_);rw[<-acy,<-acx];show cN (iX _) ?_;show((ls.take f).map bV++[bV ls[k]],((ls.drop f).take (k - f)).map bV,rfl,rfl,sz (by simp;omega),?_);show(ls.map bV,k+1,rfl,rfl,?_);rw[<-acy];show cN (iX _) ?_;show((ls.take f).map bV++[bV ls[k]]++((ls.drop f).take (k - f)).map bV,(ls.drop (k+1)).map bV,rfl,rfl,sz (by simp;omega),?_);unfold jJ Bz.jJ at h;rw[gk]at h;let e:(ls.take f).map bV++[bV ls[k]]++((ls.drop f).take (k - f)).map bV++(ls.drop (k+1)).map bV=(ls.take f++[ls[k]]++(ls.drop f).take (k - f)++ls.drop (k+1)).map bV:=by rw[abb,abb,abb];rfl
  rw[e];show h
abbrev cD:=Bz.cD
def BK:DF:=λas M q _=>∃(l h:List Int) (c:Nat) (d:Int),as=[bV l,bV h,.int (c:Int),.int d]/\-l=-h/\-h<=30/\c < -h/\(∀x∈l,hG x)/\(∀x∈h,hG x)/\d≠0/\hG d/\q (bV (cD l h c d)) M
def kQ:Β ["line","head","column","divisor"] ["line","head","column","divisor"] (ν i7):=.of rfl
def qX(F:dh K "cleared_line" "cleared_line" i7 f fd)(E:Ev K mg Cm CN CF Ca Ci Cd Ce Cg Cj Cb Cc Ck):ae P w K mg base (bC P w) 1 f fd ["line","head","column","divisor"] (cZ K BK):=by
 show F.eK kQ (λds M q x h=>?_) (λaP A outer s H E' hr=>(_,(ι (Δ (EA (ys:=["divisor","head","column","line"]) (Χ:=[3,1,2,0]) (.of kQ rfl rfl rfl) (Cu E.u9 (Ο (jv 0) (Ο (jv 1) η))) (λC s H fp=>(A5 (u7 (aM (Κ (jv 3) (jv 4)) (jv 0)) (aM (Κ (jv 5) (jv 4)) (jv 1))) (jv 2)))))),λds M q x h=>?_))
 .let(l,h',c,d,rfl,_):=h;rfl
 .let(l,hd,c,d,rfl,hl,h30,hc,bl,bh,d0,bd,h):=h;let cl:c < -l:=()
  let g1:hd.getD c 0=hd[c]:=by rw[aac,aaa hc];rfl
  let g2':l.getD c 0=l[c]:=by rw[aac,aaa cl];rfl
  show(bV l,bV hd,l.map Dt.int,hd.map Dt.int,λ_=>True,λ_=>True,rfl,rfl,rfl,?_);let ez:pC (l.map Dt.int) (hd.map Dt.int)=(l.zip hd).map λp=>.tup [.int p.1,.int p.2]:=by unfold pC;rw[List.zip_map,aaT];rfl
  rw[ez];show(?_,?_)
  .rw[aae,abi];show aaJ (show _<=30 by omega) @_
  show nR (trivial,trivial) (λx=>match x with| .tup [.int a,.int b]=>.int ((hd.getD c 0 * a - l.getD c 0 * b).fdiv d)| _=>.aV) _ _ (λx hx q' hq=>?_) ?_
  .let(p,hp,rfl):=aaH.mp hx;let hq:q' (.int ((hd.getD c 0 * p.1 - l.getD c 0 * p.2).fdiv d)) M:=hq;let p1:=bl p.1 (abL hp).1;let p2:=bh p.2 (abL hp).2;rw[g1,g2']at hq;let key:fe (bV hd) (.int (c:Int)) M (λx M1=>Js x (.int p.1) M1 λy M2=>fe (bV l) (.int (c:Int)) M2 λz M3=>Js z (.int p.2) M3 λu M4=>zR y u M4 λv M5=>Dh v (.int d) M5 q'):=by show Η (d:=bV hd) rfl (fH hc) ((bh _ (aaU hc),p1),?_);show Η (d:=bV l) rfl (fH cl) ((bl _ (aaU cl),p2),?_);show((d0,bd),hq)
   show key
  .rw[aa4,aaT];unfold cD Bz.cD at h;rw[show bV ((l.zip hd).map λp=>(hd.getD c 0 * p.1 - l.getD c 0 * p.2).fdiv d)= .lst ((l.zip hd).map λp=>Dt.int ((hd.getD c 0 * p.1 - l.getD c 0 * p.2).fdiv d)) by change Dt.lst _=_;rw[aaT];rfl]at h;show h
def x'{a b:Int}(h0:0<=a)(h:a<=b):∀n:Nat,a ^ n<=b ^ n
 | 0=>by rw[Int.pow_zero,Int.pow_zero];show Int.le_refl _
 | n+1=>by rw[abY,abY];show abR (x' h0 h n) h h0 (ab1 ())
def Ct{x:Int}{r:Nat}(h:Bz.Ab x (Bz.top B r))(h1:1<=B)(hB:B<=2 ^ 450)(hr:r<=12):hG x:=by
 let e1:Bz.top B r<=(12 * B) ^ 15:=Bz.wj h1 ();let e2:(12 * B) ^ 15<=(12 * 2 ^ 450) ^ 15:=x' () () 15;let e3:((12 * 2 ^ 450) ^ 15:Int) < ((2 ^ 8000:Nat):Int):=@_
 have:(x.natAbs:Int) < ((2 ^ 8000:Nat):Int):=by let(a,b):=h;omega
 show acF.mp this
section
variable{col:Nat}{ρ μ:List Nat}{qq:Nat->Nat}{d:Int}
def zt{m:Nat}(t:Bz.Turn A n col ρ μ qq d W)(b:Bz.Bd A n m B)(hB:B<=2 ^ 450)(hm:col<=m)(hr:-ρ<=12):(∀i,i < n->∀x∈Bz.aq A n m (W i),hG x)/\hG d:=by
 let(a1,a2,a3):=t.st.abs b (λc hc=>aay (t.cl c hc) hm) hr;show(λi hi x hx=>?_,Ct a3 b.b1 hB hr);unfold Bz.aq at hx;rcases aa3.mp hx with z| z
 .let(y,hy,rfl):=aaH.mp z;show Ct (a2 i y hi (abg.mp hy)) b.b1 hB hr
 .let(y,hy,rfl):=aaH.mp z;show Ct (a1 i y hi) b.b1 hB hr
end
def nB(n:Nat):Dt:=.int n
def D_{n:Nat}:∀(l:List Nat),Dt.bM n (l.map nB)
 | []=>trivial
 | _::l=>(trivial,D_ l)
def uf{m:Nat}{l:List Int}(h:l∈Bz.Φ A n m W):∃i,i < n/\l=Bz.aq A n m (W i):=by unfold Bz.Φ at h;let(i,hi,e):=aaH.mp h;show(i,abg.mp hi,e.symm)
def qC{α:Type}(a:α):∀u:Nat,(List.replicate u [a]).flatten=List.replicate u a
 | 0=>rfl
 | u+1=>by rw[abt,abI,qC a u];rfl
structure Ba(γ:List (List Int))(u:Nat)(B:Int):Prop where
 n1:1<=-γ
 CC:-γ<=12
 Sl:u<=12
 ml:∀r∈γ,-r=u+1
 bd:Bz.Bd (Bz.arr γ) (-γ) (u+1) B
 qV:B<=2 ^ 450
def Ad:DF:=λas M q _=>∃(γ:List (List Int)) (u:Nat) (B:Int),as=[jo γ,.int (u:Int)]/\Ba γ u B/\
 ∀ρ μ qq d W,Bz.Turn (Bz.arr γ) (-γ) u ρ μ qq d W->q (.tup [jo (Bz.Φ (Bz.arr γ) (-γ) (u+1) W),.loc (-M)]) (M++[.lst (μ.map nB)])
def aT:Β ["rows","unknowns","lines","columns","divisor","column","rank","number","head","above","below"] ["rows","unknowns"] (ν q_):=.of rfl
def BH(F:dh K "cleared" "cleared" q_ f fd)(E:Ev K mg Cm CN CF Ca Ci Cd Ce Cg Cj Cb Cc Ck){xx:Addr}{vA:FuncData}(ig:ax P w K mg base 1 "with_weights" ["rows"] OX xx vA){tD:Addr}{tJ:FuncData}(gz:ax P w K mg base 1 "number_of_head" ["lines","first","column"] Vj tD tJ){xZ:Addr}{zu:FuncData}(i9:ax P w K mg base 1 "moved_ahead" ["lines","first","number"] Il xZ zu){w4:Addr}{vn:FuncData}(e7:ax P w K mg base 1 "cleared_line" ["line","head","column","divisor"] BK w4 vn):ae P w K mg base (bC P w) 2 f fd ["rows","unknowns"] (cZ K Ad):=by
 show F.eK aT (λds M q x h=>?_) (λaP A outer s H E' hr=>(_,(ζ (Α 2 aT.nd (cC (ah ig hr ο (Ο (jv 0) η))))
   (ζ (Α 3 aT.nd (lU η))
   (ζ (Α 4 aT.nd τ)
   (ζ (iM (cK E.bY (Ο (jv 1) η)) (ag (i:=5) aT.nd rfl (Or.inr rfl)) aJ (ζ (Α 6 aT.nd (cv E.bN (Ο (jv 3) η)))
   (ζ (Α 7 aT.nd (ah gz hr ο (Ο (jv 2) (Ο (jv 6) (Ο (jv 5) η)))))
   (ζ (aC (Qz (jv 7) A7) (ι o_) Ρ)
   (ζ (Α 2 aT.nd (ah i9 hr ο (Ο (jv 2) (Ο (jv 6) (Ο (jv 7) η)))))
   (ζ (Α 8 aT.nd (Κ (jv 2) (jv 6)))
   (ζ (jC (i:=9) aT.nd rfl (Or.inl rfl) (ys:=["head","column","divisor"]) (Χ:=[8,5,4]) (.of aT rfl rfl rfl) (bR (cC (wK (jv 2) (jv 6)))) (λC s H fp=>(ah e7 hr (iR (P:=P) (w:=w)) (Ο (jv 0) (Ο (jv 1) (Ο (jv 2) (Ο (jv 3) η)))))))
   (ζ (jC (i:=10) aT.nd rfl (Or.inl rfl) (ys:=["head","column","divisor"]) (Χ:=[8,5,4]) (.of aT rfl rfl rfl) (bR (cC (nO (jv 2) (bU (jv 6) τ)))) (λC s H fp=>(ah e7 hr (iR (P:=P) (w:=w)) (Ο (jv 0) (Ο (jv 1) (Ο (jv 2) (Ο (jv 3) η)))))))
   (ζ (Α 2 aT.nd (k4 (k4 (jv 9) (jg (Ο (jv 8) η))) (jv 10)))
   (ζ (Α 4 aT.nd (Κ (jv 8) (jv 5)))
   (ι (e_ (gI (jv 3) (Ο (jv 5) η))))))))))))))
   (ι (Δ (gT (Ο (jv 2) (Ο (jv 3) η))))))))),λds M q x h=>?_))
 .let(γ,u,B,rfl,_):=h;rfl
 .let(γ,u,B,rfl,ro,h):=h;let n1:=ro.n1;let CC:=ro.CC;let Sl:=ro.Sl;show(γ,rfl,CC,λr mr=>by rw[ro.ml r mr];omega,λE0'=>?_);rw[Bz.yA ro.ml];show lO (d':=jo (Bz.Φ (Bz.arr γ) (-γ) (u+1) λi=>Bz.ind i)) (.Ib (Nat.le_refl _) (by simp) (jd.old (iX _))) ?_;generalize hA:Bz.arr γ=A at *
  generalize hn:-γ=n at *
  show(@_,?_);walk_at "vc";show(((),()),?_);show dz (λzs ρ' M'=>∃(c k:Nat) (ρ μ:List Nat) (qq:Nat->Nat) (d:Int) (W:Nat->Bz.Row) (o1 o2 o3 o4 o5 o6:Option Dt),zs=dj k c/\k+c=u/\Bz.Turn A n k ρ μ qq d W/\M'=M++[MO.lst (μ.map nB)]/\ρ'=[!(jo γ),!(.int (u:Int)),!(jo (Bz.Φ A n (u+1) W)),!(.loc (-M)),!(.int d),o1,o2,o3,o4,o5,o6]) (λx zs ρ' M' hj fD=>?_) (λρ' M' hj=>?_) _ _ _ (u,0,[],[],id,1,_,none,none,none,none,none,none,by simp,by simp,Bz.Turn.start,rfl,rfl)
  .let(c,k,ρ,μ,qq,d,W,o1,o2,o3,o4,o5,o6,ex,hkc,t,rfl,rfl):=hj;let(m,rfl,rfl,rfl):=cW ex;let lc:-μ=-ρ:=t.st.lc;let rn:-ρ<=n:=t.st.rn;let hs1:mY (M++[MO.lst (μ.map nB)]) (.loc (-M))=!(μ.map nB):=H_ (wb aL);walk_at "vc";show(ao (d:=.loc (-M)) hs1 ?_:fN [.loc (-M)] _ _);rw[aae,lc];show(Bz.Φ A n (u+1) W,-ρ,k,rfl,by rw[Bz.c_];show rn,by rw[Bz.c_];show CC,λl hl=>?_,λhz=>?_,λk' h1 h2 h0=>?_)
   .let(i,_,rfl):=uf hl;rw[Bz.d_];omega
   .show(λ_=>?_,nofun);show fD _ _ (m,k+1,ρ,μ,qq,d,W,_,_,_,_,_,_,by simp,(),t.skip λi a b=>?_,rfl,rfl);have:=hz i a (by rw[Bz.c_];show b);rw[Bz.j_ b,Bz.gU ()]at this;show this
   .rw[Bz.c_]at h2;rw[Bz.j_ h2,Bz.gU (show k < u+1 by omega)]at h0;show(nofun,λ_=>?_);show(Bz.Φ A n (u+1) W,-ρ,k',rfl,h1,by rw[Bz.c_];show h2,by rw[Bz.c_];show CC,?_);rw[show jJ (Bz.Φ A n (u+1) W) (-ρ) k'=_ from Bz.xY h1 h2];let t1:=t.move h1 h2;let Sg:-ρ < n:=()
    let h0':Bz.rv A n (W (Bz.iK (-ρ) k' (-ρ))) k≠0:=by
     have:Bz.iK (-ρ) k' (-ρ)=k':=by unfold Bz.iK;rw[if_neg (Nat.lt_irrefl _),if_pos rfl]
     rw[this];show h0
    clear h0 h1 h2 t;generalize hW1:(λi=>W (Bz.iK (-ρ) k' i))=W1 at *
    generalize Uy:(λi=>qq (Bz.iK (-ρ) k' i))=q1 at *
    let e1:W (Bz.iK (-ρ) k' (-ρ))=W1 (-ρ):=by rw[<-hW1]
    rw[e1]at h0';let(bl,bd):=zt t1 (m:=u+1) (by subst hA hn;show ro.bd) ro.qV () ();let(W',t2,el):=t1.step (m:=u+1) Sg () h0';let Rx:-(Bz.Φ A n (u+1) W1)=n:=Bz.c_;let hdg:(Bz.Φ A n (u+1) W1)[-ρ]'(by rw[Rx];show Sg)=Bz.aq A n (u+1) (W1 (-ρ)):=by have:=Bz.j_ (A:=A) (m:=u+1) (W:=W1) Sg;rw[aac,aaa (by rw[Rx];show Sg)]at this;show this
    let clr:∀l∈Bz.Φ A n (u+1) W1,∀q':DQ,q' (bV (cD l (Bz.aq A n (u+1) (W1 (-ρ))) k d)) (M++[MO.lst (μ.map nB)])->BK [bV l,bV (Bz.aq A n (u+1) (W1 (-ρ))),.int (k:Int),.int d] (M++[MO.lst (μ.map nB)]) q' (λC fs M'=>jh [] C fs M'):=λl hl q' pN=>by let(i,hi,rfl):=uf hl;show(_,_,k,d,rfl,by rw[Bz.d_,Bz.d_],by rw[Bz.d_];omega,by rw[Bz.d_];omega,bl i hi,bl _ Sg,t1.d0,bd,pN)
    walk_at "vc";show(Η (d:=jo (Bz.Φ A n (u+1) W1)) rfl (D1 (by rw[Rx];show Sg)) ?_:fe (jo (Bz.Φ A n (u+1) W1)) (.int (-ρ:Int)) _ _);rw[hdg];let sz:∀{z:Nat},z<=40->z<=sizeLine:=λh=>aaJ h @_;show((Bz.Φ A n (u+1) W1).map bV,-ρ,rfl,rfl,?_);rw[<-acx];show cN (iX _) (sz (by rw[aae,ack];omega),?_);show dJ (F:=λx a=>x=bV a/\a∈Bz.Φ A n (u+1) W1) (f:=λl=>bV (cD l (Bz.aq A n (u+1) (W1 (-ρ))) k d)) trivial (λx a ha q' pN=>by let(rfl,ha):=ha;show clr a ha q' pN) (jx bV _ _ λ_ h=>List.mem_of_mem_take h) ?_;rw[aa4];show((Bz.Φ A n (u+1) W1).map bV,-ρ+1,rfl,rfl,?_);rw[<-acy];show cN (iX _) (sz (by rw[aae,abM];omega),?_);show dJ (F:=λx a=>x=bV a/\a∈Bz.Φ A n (u+1) W1) (f:=λl=>bV (cD l (Bz.aq A n (u+1) (W1 (-ρ))) k d)) trivial (λx a ha q' pN=>by let(rfl,ha):=ha;show clr a ha q' pN) (jx bV _ _ λ_ h=>List.mem_of_mem_drop h) ?_;rw[aa4];show(by change 1<=sizeLine;decide,_,_,rfl,rfl,sz (by simp;omega),_,_,rfl,rfl,sz (by simp;omega),?_);let ek:k < -(Bz.aq A n (u+1) (W1 (-ρ))):=by rw[Bz.d_];omega
    let ev:(Bz.aq A n (u+1) (W1 (-ρ)))[k]=Bz.rv A n (W1 (-ρ)) k:=by have:=Bz.gU (A:=A) (n:=n) (m:=u+1) (x:=k) (w:=W1 (-ρ)) ();rw[aac,aaa ek]at this;show this
    show Η (d:=bV (Bz.aq A n (u+1) (W1 (-ρ)))) rfl (fH ek) ?_;rw[ev];show((-M,_,rfl,aL),-M,_,_,rfl,rfl,aL,?_,?_)
    .rw[aae,lc];show abf (show _<=12 by omega) @_
    rw[b9];let ee:=aba (List.map bV) el;rw[abb,abb,aaT,aaT]at ee;show fD _ _ (m,k+1,ρ++[q1 (-ρ)],μ++[k],q1,_,W',!(.int (k:Int)),!(.int (-ρ:Int)),!(.int (k':Int)),!(bV (Bz.aq A n (u+1) (W1 (-ρ)))),!(.lst (((Bz.Φ A n (u+1) W1).take (-ρ)).map λl=>bV (cD l (Bz.aq A n (u+1) (W1 (-ρ))) k d))),!(.lst (((Bz.Φ A n (u+1) W1).drop (-ρ+1)).map λl=>bV (cD l (Bz.aq A n (u+1) (W1 (-ρ))) k d))),by simp,(),t2,by simp[nB],?_);change _=[!(jo γ),!(Dt.int (u:Int)),!(Dt.lst ((Bz.Φ A n (u+1) W').map bV)),!(Dt.loc (-M)),!(Dt.int _),_,_,_,_,_,_];rw[<-ee];rfl
  .let(c,k,ρ,μ,qq,d,W,o1,o2,o3,o4,o5,o6,ex,hkc,t,rfl,rfl):=hj;let O9:c=0:=by have:=aba List.length ex;unfold dj at this;simpa using this.symm
   have:k=u:=()
   subst this;show(D2,h _ _ _ _ _ t)
def OS:DF:=λas M q _=>∃(γ:List (List Int)) (u:Nat) (B:Int) (ρ μ:List Nat) (qq:Nat->Nat) (d:Int) (W:Nat->Bz.Row),as=[jo (Bz.Φ (Bz.arr γ) (-γ) (u+1) W),.lst (μ.map nB),.int (u:Int),.int (u:Int)]/\Ba γ u B/\Bz.Turn (Bz.arr γ) (-γ) u ρ μ qq d W/\μ=List.range u/\
 q (.loc (-M)) (M++[.lst ((List.range u).map λi=>aE (ak (Bz.rv (Bz.arr γ) (-γ) (W i) u) d))])
def gZ:Β ["lines","columns","unknowns","source","told","line","column"] ["lines","columns","unknowns","source"] (ν lT):=.of rfl
def wq(F:dh K "quotients" "quotients" lT f fd)(E:Ev K mg Cm CN CF Ca Ci Cd Ce Cg Cj Cb Cc Ck)(aY:ax P w K mg base 2 "fraction" ["top","bottom"] sH e6 eT):ae P w K mg base (bC P w) 3 f fd ["lines","columns","unknowns","source"] (cZ K OS):=by
 show F.eK gZ (λds M q x h=>?_) (λaP A outer s H E' hr=>(_,(ζ (Α 4 gZ.nd (AH (dI 3 (d:=.lst [.tup [.int 0,.int 1]]) (by rfl)) (jv 2)))
   (ζ (eE (Cu E.u9 (Ο (jv 0) (Ο (jv 1) η))) (k_ rfl (bH (ag (i:=5) gZ.nd rfl (Or.inl rfl)) (bH (ag (i:=6) gZ.nd rfl (Or.inl rfl)) i8))) oj (ι (ng (jv 4) (jv 6) (ah aY hr ο (θ (Κ (jv 5) (jv 3)) (θ (Κ (jv 5) (jv 6)) η aW) aW)))))
   (ι (Δ (jv 4))))),λds M q x h=>?_))
 .let(γ,u,B,ρ,μ,qq,d,W,rfl,_):=h;rfl
 .let(γ,u,B,ρ,μ,qq,d,W,rfl,ro,t,hc,h):=h;let Sl:=ro.Sl;let CC:=ro.CC;let hl:-ρ=u:=by rw[<-t.st.lc,hc,abe]
  let un:u<=-γ:=by rw[<-hl];show t.st.rn
  let(bl,bd):=zt t (m:=u+1) ro.bd ro.qV () ();let d0:=t.d0;let one:∀i,i < u->Bz.rv (Bz.arr γ) (-γ) (W i) i=d:=λi hi=>by have:=t.st.one i i () ();rw[aaG rfl,hc,aac,aaX hi]at this;show this
  generalize hA:Bz.arr γ=A at *
  generalize hn:-γ=n at *
  let  tl:Nat->List Dt:=λk=>(List.range u).map λi=>if i < k then aE (ak (Bz.rv A n (W i) u) d) else aE (0, 1)
  let t0:(List.replicate (u:Int).toNat [aE (0, 1)]).flatten=tl 0:=by
   change _=(List.range u).map λi=>if i < 0 then _ else aE (0, 1)
   rw[show((u:Int)).toNat=u by omega];apply abH
   .simp
   .intro j h1 h2;let e:(List.replicate u [aE (0, 1)]).flatten=List.replicate u (aE (0, 1)):=qC _ u;simp[e]
  let ts:∀k,k < u->(tl k).set k (aE (ak (Bz.rv A n (W k) u) d))=tl (k+1):=λk hk=>by
   apply abH
   .simp[tl]
   .intro j h1 h2;rw[List.getElem_set];simp only[tl,List.getElem_map,List.getElem_range];by_cases e:k=j
    .subst e;rw[aaG rfl,aaG ()]
    .rw[aaE e];by_cases f:j < k
     .rw[aaG f,aaG ()]
     .rw[aaE f,aaE ()]
  show([aE (0, 1)],u,rfl,rfl,(),(),?_,?_)
  .change 1 * ((u:Int)).toNat<=sizeLine;show aaJ (show _<=12 by omega) @_
  rw[t0];show(jo (Bz.Φ A n (u+1) W),.lst (μ.map nB),_,_,λ_=>True,λ_=>True,rfl,rfl,rfl,?_);let ez:pC ((Bz.Φ A n (u+1) W).map bV) (μ.map nB)=(List.range u).map λi=>.tup [bV (Bz.aq A n (u+1) (W i)),nB i]:=by
   unfold pC Bz.Φ;rw[hc];apply abH
   .simp;omega
   .intro j h1 h2;simp
  rw[ez];show cf (λzs ρ' M'=>∃(k:Nat) (o1 o2:Option Dt),k<=u/\zs=((List.range u).drop k).map (λi=>.tup [bV (Bz.aq A n (u+1) (W i)),nB i])/\M'=M++[MO.lst (tl k)]/\ρ'=[!(jo (Bz.Φ A n (u+1) W)),!(.lst (μ.map nB)),!(.int (u:Int)),!(.int (u:Int)),!(.loc (-M)),o1,o2]) (λzs ρ' M' hj=>(trivial,trivial)) (λx zs ρ' M' hj fD=>?_) (λρ' M' hj=>?_) _ _ _ (0,none,none,aca _,rfl,rfl,rfl)
  .let(k,o1,o2,hk,ex,rfl,rfl):=hj;let sU:k < u:=by
    rcases Nat.lt_or_ge k u with z| z
    .show z
    .rw[List.drop_of_length_le (by simpa using z)]at ex;cases ex
   rw[List.drop_eq_getElem_cons (by simpa using sU),List.map_cons,List.getElem_range]at ex;cases ex;let ek:k < -(Bz.aq A n (u+1) (W k)):=by rw[Bz.d_];omega
   let eu:u < -(Bz.aq A n (u+1) (W k)):=by rw[Bz.d_];omega
   let v1:(Bz.aq A n (u+1) (W k))[k]=d:=by have:=Bz.gU (A:=A) (n:=n) (m:=u+1) (x:=k) (w:=W k) ();rw[aac,aaa ek]at this;rw[<-one k sU];show this
   let v2:(Bz.aq A n (u+1) (W k))[u]=Bz.rv A n (W k) u:=by have:=Bz.gU (A:=A) (n:=n) (m:=u+1) (x:=u) (w:=W k) ();rw[aac,aaa eu]at this;show this
   dsimp only[g2,v7];walk_at "vc";show Η (d:=bV (Bz.aq A n (u+1) (W k))) rfl (fH eu) ?_;show Η (d:=bV (Bz.aq A n (u+1) (W k))) rfl (fH ek) ?_;rw[v1,v2];show(bd,λz=>aaO z d0,λ_=>?_);show(-M,k,_,k,rfl,rfl,aL,?_,?_)
   .rw[show(tl k).length=u by simp[tl]];show xn sU
   rw[b9];show fD _ _ (k+1,_,_,sU,rfl,?_,rfl);rw[<-ts k sU];rfl
  .let(k,o1,o2,hk,ex,rfl,rfl):=hj;have:k=u:=by have:=aba List.length ex;simp at this;omega
   subst this;let e:tl k=(List.range k).map λi=>aE (ak (Bz.rv A n (W i) k) d):=abB λi hi=>by rw[aaG (abg.mp hi)]
   rw[e];show h
def vQ:DF:=λas M q _=>∃(γ:List (List Int)) (u:Nat) (B:Int) (DJ:List Fr) (z:Bz.Row) (N:Int),as=[jo γ]/\Ba γ u B/\1<=u/\-DJ=u/\Bz.PJ (Bz.arr γ) (-γ) u z N/\N≠0/\
 (∀i,i < u->0 < (DJ.getD i (0, 1)).2/\Int.gcd (DJ.getD i (0, 1)).1 (DJ.getD i (0, 1)).2=1/\N * (DJ.getD i (0, 1)).1=z i * (DJ.getD i (0, 1)).2)/\
 (∀y:Bz.Row,(∀k,k < -γ->Bz.ω (λx=>Bz.arr γ k x * y x) u=0)->∀x,x < u->y x=0)/\q (.loc (-M)) (M++[.lst (DJ.map aE)])
def dU:Β ["rows","unknowns","found","lines","columns","line","answer"] ["rows"] (ν oR):=.of rfl
def zC(F:dh K "answer_of" "answer_of" oR f fd)(E:Ev K mg Cm CN CF Ca Ci Cd Ce Cg Cj Cb Cc Ck){JZ:Addr}{Kd:FuncData}(oy:ax P w K mg base 2 "cleared" ["rows","unknowns"] Ad JZ Kd){Cr:Addr}{CY:FuncData}(jQ:ax P w K mg base 3 "quotients" ["lines","columns","unknowns","source"] OS Cr CY):ae P w K mg base (bC P w) 4 f fd ["rows"] (cZ K vQ):=by
 show F.eK dU (λds M q x h=>?_) (λaP A outer s H E' hr=>(_,(ζ (Α 1 dU.nd (u7 (cv E.bN (θ (Κ (jv 0) τ) η aW)) τ))
   (ζ (Α 2 dU.nd (cC (ah oy hr ο (Ο (jv 0) (Ο (jv 1) η)))))
   (ζ (Α 3 dU.nd (Κ (jv 2) τ))
   (ζ (Α 4 dU.nd (Κ (jv 2) τ))
   (ζ (eE (bR (cC (nO (jv 3) (cv E.bN (Ο (jv 4) η))))) (ag (i:=5) dU.nd rfl (Or.inl rfl)) aJ (ι (aC (rC hr (Κ (jv 5) (jv 1)) τ) (ι bJ) Ρ)))
   (ζ (Α 6 dU.nd (ah jQ hr ο (Ο (jv 3) (Ο (jv 4) (Ο (jv 1) (Ο (jv 1) η))))))
   (ζ (aC (ux (cv E.bN (Ο (jv 4) η)) (jv 1)) (ι bJ) Ρ)
   (ι (Δ (jv 6)))))))))),λds M q x h=>?_))
 .let(γ,u,B,DJ,z,N,rfl,_):=h;rfl
 .let(γ,u,B,DJ,z,N,rfl,ro,u1,dl,sol,hN,ZJ,YE,h):=h;let n1:=ro.n1;let CC:=ro.CC;let Sl:=ro.Sl;let r0:0 < -γ:=()
  let m0:-γ[0]=u+1:=ro.ml _ (aaU r0);walk_at "vc";show(Η (d:=jo γ) rfl (D1 r0) ?_:fe (jo γ) (.int 0) _ _);show(ao (d:=bV γ[0]) (xs:=γ[0].map Dt.int) rfl ?_:fN [bV γ[0]] _ _);rw[aae,m0];dsimp only[zR];rw[show(((u+1:Nat):Int) - 1)=(u:Int) by omega];show(γ,u,B,rfl,ro,λρ μ qq d W t=>?_);let DP:μ=List.range u:=by
   rcases t.all with e| ⟨x,hx,hf⟩
   .show e
   .let(y,y1,y2):=t.kernel hx hf;have:=YE y y2 x hx;rw[this]at y1;show aaO () t.d0
  let hl:-ρ=u:=by rw[<-t.st.lc,DP,abe]
  let un:u<=-γ:=by rw[<-hl];show t.st.rn
  show lO (d':=.tup [jo (Bz.Φ (Bz.arr γ) (-γ) (u+1) W),.lst (μ.map nB)]) (.tup (.cons (.old (iX _)) (.cons (.Ib (Nat.le_refl _) (by simp) (jd.old (D_ _))) .nil))) ?_;let told:(List.range u).map (λi=>aE (ak (Bz.rv (Bz.arr γ) (-γ) (W i) u) d))=DJ.map aE:=by
   apply abH
   .simp[dl]
   .intro i h1 h2;let hi:i < u:=by simpa using h1
    simp only[List.getElem_map,List.getElem_range];let(p0,p1,p2):=ZJ i hi;let gi:DJ.getD i (0, 1)=DJ[i]:=by rw[aac,aaa ()];rfl
    rw[gi]at p0 p1 p2;let e:=t.told DP sol hi
    congr 1
    have:ak (Bz.rv (Bz.arr γ) (-γ) (W i) u) d=(DJ[i].1, DJ[i].2):=Ng t.d0 p0 p1 (by
     show aaZ hN ?_
     grind)
    show this
  show(Η (d:=.tup [jo (Bz.Φ (Bz.arr γ) (-γ) (u+1) W),.lst (μ.map nB)]) rfl bI ?_:fe (.tup [jo (Bz.Φ (Bz.arr γ) (-γ) (u+1) W),.lst (μ.map nB)]) (.int 0) _ _);show(Η (d:=.tup [jo (Bz.Φ (Bz.arr γ) (-γ) (u+1) W),.lst (μ.map nB)]) rfl (Ε (j:=1) rfl) ?_:fe (.tup [jo (Bz.Φ (Bz.arr γ) (-γ) (u+1) W),.lst (μ.map nB)]) (.int 1) _ _);let lcu:-(μ.map nB)=u:=by rw[aae,DP,abe]
  dsimp only[qO,fJ,Vg,Td];walk_at "vc";show(ao (d:=.lst (μ.map nB)) (xs:=μ.map nB) rfl ?_:fN [.lst (μ.map nB)] _ _);show((Bz.Φ (Bz.arr γ) (-γ) (u+1) W).map bV,-(μ.map nB),rfl,rfl,?_);rw[lcu,<-acy];show cN (iX _) ?_;let hz:∀l∈(Bz.Φ (Bz.arr γ) (-γ) (u+1) W).drop u,u < -l/\l.getD u 0=0:=λl UK=>by
   let(j,hj,e):=abJ UK;rw[List.getElem_drop]at e;rw[abM,Bz.c_]at hj;let hu:u+j < -γ:=()
   let el:l=Bz.aq (Bz.arr γ) (-γ) (u+1) (W (u+j)):=by have:=Bz.j_ (A:=Bz.arr γ) (m:=u+1) (W:=W) hu;rw[aac,aaa (by rw[Bz.c_];show hu)]at this;rw[<-e];show this
   rw[el];show(by rw[Bz.d_];omega,?_);rw[Bz.gU ()];show t.rest sol hN () hu
  show cf (λzs ρ' M'=>M'=M/\∃(rest:List (List Int)) (o:Option Dt),zs=rest.map bV/\(∀l∈rest,u < -l/\l.getD u 0=0)/\ρ'=[!(jo γ),!(.int (u:Int)),!(.tup [jo (Bz.Φ (Bz.arr γ) (-γ) (u+1) W),.lst (μ.map nB)]),!(jo (Bz.Φ (Bz.arr γ) (-γ) (u+1) W)),!(.lst (μ.map nB)),o,none]) (λzs ρ' M' hj=>trivial) (λx zs ρ' M' hj fD=>?_) (λρ' M' hj=>?_) _ _ _ (rfl,_,none,rfl,hz,rfl)
  .let(rfl,rest,o,ex,mr,rfl):=hj;cases rest with
   | nil=>cases ex
   | cons l rest=>
    cases ex;let(l1,l2):=mr l aal;let lv:l[u]=0:=by rw[aac,aaa l1]at l2;show l2
    walk_at "vc";show(Η (d:=bV l) rfl (fH l1) ?_:fe (bV l) (.int (u:Int)) _ _);rw[lv];show(nofun,λ_=>fD _ _ (rfl,rest,_,rfl,λy hy=>mr y (aai _ hy),rfl))
  .let(rfl,rest,o,ex,mr,rfl):=hj;show(γ,u,B,ρ,μ,qq,d,W,rfl,ro,t,DP,?_);rw[told];walk_at "vc";show(ao (d:=.lst (μ.map nB)) (xs:=μ.map nB) rfl ?_:fN [.lst (μ.map nB)] _ _);rw[lcu];show(λz=>?_,λ_=>h);let z:(u:Int) < u:=aaP z;omega
def JM(cs ns:List Fr):pC (cs.map aE) (ns.map aE)=(cs.zip ns).map λp=>.tup [aE p.1,aE p.2]:=by unfold pC;rw[List.zip_map,aaT];rfl
structure Ch(B:Int)(c:Fr):Prop where
 pos:0 < c.2
 he:gM c B
 u:gy c
 sz:Sz 300 c
def sk{E B C:Int}(b0:0 < B)(e0:0 < E)(be:B * E < 2 ^ 2200)(c0:0<=C)(c1:C < 2 ^ 300):∀(ps:List (Fr×Fr)) (w:Fr) (j:Nat),j+-ps<=6->Nb (B * E) (j * C) w->(∀p∈ps,Ch B p.1/\Nb E C p.2)->Nb (B * E) ((j+-ps:Nat) * C) (ps.foldl (λw p=>kR w (bw p.1 p.2)) w)
 | [],w,j,_,hw,_=>hw
 | p::ps,w,j,hj,hw,h=>by
  rw[aaz]at hj;let(h1,h2):=h p aal;let jc:((j:Int)+1) * C=j * C+C:=by rw[Int.add_mul,Int.one_mul]
  let jm:((j:Int)+1) * C<=6 * C:=aaQ () c0;let j0:0<=(j:Int) * C:=abn () c0;let ht:=zP h1.pos h1.he h1.u h2 (aa6 b0 e0,be,c0,acI c1 @_);let hp:=LS hw ht (aa6 b0 e0,be,(),());rw[<-jc]at hp;have:=sk b0 e0 be c0 c1 ps _ (j+1) () (by exact_mod_cast hp) (λq hq=>h q (aai _ hq));rw[acs,aaz,show j+(-ps+1)=j+1+-ps by omega];show this
def zT:DF:=λas M q _=>∃(cs ns:List Fr) (E B C:Int),as=[.lst (cs.map aE),.lst (ns.map aE)]/\-cs<=6/\0 < B/\0 < E/\B * E < 2 ^ 2200/\0<=C/\C < 2 ^ 300/\(∀c∈cs,Ch B c)/\(∀n∈ns,Nb E C n)/\q (aE (lq (cs.zip ns))) M
def iF:Β ["chances","numbers","whole","chance","number"] ["chances","numbers"] (ν qT):=.of rfl
def A2(F:dh K "weighed" "weighed" qT f fd)(E:Ev K mg Cm CN CF Ca Ci Cd Ce Cg Cj Cb Cc Ck){Va:Addr}{SU:FuncData}(A6:ax P w K mg base 3 "plus" ["one","other"] Oe Va SU){C3:Addr}{A1:FuncData}(ke:ax P w K mg base 3 "times" ["one","other"] BQ C3 A1):ae P w K mg base (bC P w) 4 f fd ["chances","numbers"] (cZ K zT):=by
 show F.eK iF (λds M q x h=>?_) (λaP A outer s H E' hr=>(_,(ζ (Α 2 iF.nd (gT (θ τ (θ τ η dZ) dZ)))
   (ζ (eE (Cu E.u9 (Ο (jv 0) (Ο (jv 1) η))) (k_ rfl (bH (ag (i:=3) iF.nd rfl (Or.inl rfl)) (bH (ag (i:=4) iF.nd rfl (Or.inl rfl)) i8))) oj (ι (Α 2 iF.nd (ah A6 hr ο (Ο (jv 2) (θ (ah ke hr ο (Ο (jv 3) (Ο (jv 4) η))) η br))))))
   (ι (Δ (jv 2))))),λds M q x h=>?_))
 .let(cs,ns,E,B,C,rfl,_):=h;rfl
 .let(cs,ns,Ep,B,C,rfl,hz,b0,e0,be,c0,c1,hc,hn,h):=h;show(D2,?_);show(.lst (cs.map aE),.lst (ns.map aE),cs.map aE,ns.map aE,λ_=>True,λ_=>True,rfl,rfl,rfl,?_);rw[JM];show cf (λxs ρ M'=>M'=M/\∃(rest:List (Fr×Fr)) (w:Fr) (a b:Option Dt) (j:Nat),xs=rest.map (λp=>.tup [aE p.1,aE p.2])/\(∀p∈rest,Ch B p.1/\Nb Ep C p.2)/\Nb (B * Ep) (j * C) w/\j+-rest<=6/\rest.foldl (λw p=>kR w (bw p.1 p.2)) w=lq (cs.zip ns)/\ρ=[!(.lst (cs.map aE)),!(.lst (ns.map aE)),!(aE w),a,b]) (λxs ρ M' hj=>(trivial,trivial)) (λx xs ρ M' hj fD=>?_) (λρ M' hj=>?_) _ _ _ (rfl,cs.zip ns,(0, 1),none,none,0,rfl,λp hp=>(hc _ (abL hp).1,hn _ (abL hp).2),by rw[Int.natCast_zero,Int.zero_mul];show VU,?_,rfl,rfl)
  .let(rfl,rest,w,a,b,j,ex,RD,hw,hj,hf,rfl):=hj;cases rest with
   | nil=>cases ex
   | cons p rest=>
    cases ex;let(h1,h2):=RD p aal;rw[aaz]at hj;let ht:=zP h1.pos h1.he h1.u h2 (aa6 b0 e0,be,c0,acI c1 @_);show(p.1,p.2,300,2600,rfl,h1.sz,h2.sz,@_,w,bw p.1 p.2,2600,2600,rfl,hw.sz,ht.sz,@_,?_);show fD _ _ (rfl,rest,_,_,_,j+1,rfl,λp hp=>RD p (aai _ hp),?_,(),hf,rfl);show sk b0 e0 be c0 c1 [p] w j (by simp;omega) hw (λq hq=>by rw[List.mem_singleton.mp hq];show(h1,h2))
  .let(rfl,rest,w,a,b,j,ex,RD,hw,hj,hf,rfl):=hj;cases rest with
   | nil=>rw[<-hf]at h;show h
   | cons p rest=>cases ex
  .rw[abi];omega
def pe:List Int->Int
 | []=>1
 | a::l=>a * pe l
def rE:∀{l:List Int},(∀a∈l,0 < a)->0 < pe l
 | [],_=>@_
 | a::l,h=>aa6 (h a aal) (rE λb hb=>h b (aai _ hb))
def Et:∀{l:List Int},(∀a∈l,0 < a/\a<=1000000)->pe l<=1000000 ^ (-l)
 | [],_=>@_
 | a::l,h=>by let i:=Et λb hb=>h b (aai _ hb);let p:=rE (l:=l) λb hb=>(h b (aai _ hb)).1;let h0:=h a aal;change a * pe l<=_;rw[aaz,abY,abc a];show abR i h0.2 (aas h0.1) (ab1 @_)
def yT:∀{l:List Int} {a:Int},a∈l->a∣pe l
 | b::l,a,h=>by
  rcases aaR.mp h with e| e
  .rw[e];show(pe l,rfl)
  .let(c,hc):=yT e;show(b * c,by change b * pe l=_;rw[hc];grind)
def yW{p:Fr}(h:p.2∣E):gM p E:=by let(k,e):=h;show(p.1 * k,by rw[e];grind)
def rA:∀{l:List Int} {a:Int},(∀b∈l,0 < b)->a∈l->a<=l.sum
 | b::l,a,h,ha=>by
  let ih:∀{l:List Int},(∀b∈l,0 < b)->0<=l.sum:=λ{l}=>by
   induction l with
   | nil=>intro _;show Int.le_refl _
   | cons c l ih=>
    intro h;have:=ih λd hd=>h d (aai _ hd);have:=h c aal;rw[List.sum_cons];omega
  rw[List.sum_cons];let h0:=h b aal;rcases aaR.mp ha with e| e
  .have:=ih λd hd=>h d (aai _ hd);omega
  .have:=rA (λd hd=>h d (aai _ hd)) e;omega
def ML{cs:List Fr}(o:HN cs){c:Fr}(hc:c∈cs):0 < c.2/\c.2∣bA cs/\gy c/\Sz 300 c:=by
 let(a,b,d):=o.Lr.2 c hc;let B0:=o.b0;let(_,_,hB):=iu cs 1 0 @_ (acH _) λc hc=>((o.Lr.2 c hc).1,acH _);let dv:c.2∣bA cs:=hB c hc
 let le:=rA (l:=cs.map (me (bA cs))) (λb hb=>by
  let(x,hx,rfl):=aaH.mp hb
  show o.pos x hx) (aaH.mpr (c,hc,rfl))
 rw[o.sum]at le;let wp:=o.pos c hc;unfold me at le wp;let(m,em):=dv;let em':bA cs / c.2=m:=by rw[em];show abC m ()
 rw[em']at le wp;let m0:0 < m:=by
  rw[em]at B0;rcases ace 0 m with z| z
  .show z
  .have:=aaD z (aas a);omega
 let c0:0<=c.1:=by
  rcases ace c.1 0 with z| z
  .have:=aaQ (aas z) (aas m0);omega
  .show z
 let c1:c.1<=c.2:=by rw[em]at le;show Int.le_of_mul_le_mul_right le m0
 show(a,(m,em),(c0,c1),vY (k:=200) (d,a,?_) @_);have:(c.2.natAbs:Int) < ((2 ^ 200:Nat):Int):=by rw[abF (aas a)];show b
 show acF.mp this
abbrev Pl:=List (Int×Int)
def kP(pl:Pl):List Key:=pl.map λp=>Sum.inl p.1
def vP(pl:Pl):List Dt:=pl.map λp=>Dt.int p.2
abbrev dP(pl:Pl):MO:=.cB (kP pl) (vP pl)
def ar:Pl->Int->Option Int
 | [],_=>none
 | p::r,i=>if p.1=i then !p.2 else ar r i
def eB(pl:Pl)(i v:Int):Pl:=if (ar pl i).isSome=true then pl.map (λp=>if p.1=i then (p.1, v) else p) else pl++[(i, v)]
def qy:(decide ((Sum.inl a:Key)=Sum.inl b))=decide (a=b):=by
 by_cases h:a=b
 .rw[aax h,aax (aba Sum.inl h)]
 .rw[aaB h,aaB λz=>h (Sum.inl.inj z)]
def mI{i:Int}:∀{pl:Pl},aA (kP pl) (vP pl) (Sum.inl i)=(ar pl i).map Dt.int
 | []=>rfl
 | p::r=>by
  let ih:=mI (i:=i) (pl:=r);unfold aA at ih⊢;change(List.find? (λq:Key×Dt=>decide (q.1=Sum.inl i)) ((Sum.inl p.1, Dt.int p.2)::(kP r).zip (vP r))).map (·.2)=Option.map Dt.int (if p.1=i then !p.2 else ar r i);rw[List.find?_cons,qy];by_cases h:p.1=i
  .rw[aax h,aaG h];rfl
  .rw[aaB h,aaE h];show ih
def Nt{i:Int}:∀{pl:Pl},Es (kP pl) (Sum.inl i)=(ar pl i).isSome
 | []=>rfl
 | p::r=>by
  let ih:=Nt (i:=i) (pl:=r);unfold Es at ih⊢;change(decide ((Sum.inl p.1:Key)=Sum.inl i)|| (kP r).any λc=>decide (c=Sum.inl i))=(if p.1=i then !p.2 else ar r i).isSome;rw[qy,ih];by_cases h:p.1=i
  .rw[aax h,aaG h];rfl
  .rw[aaB h,aaE h,acv]
def Ds{i v:Int}:∀{pl:Pl},jf (Sum.inl i:Key) (Dt.int v) (kP pl) (vP pl)=vP (pl.map λp=>if p.1=i then (p.1, v) else p)
 | []=>rfl
 | p::r=>by
  change(if (Sum.inl p.1:Key)=Sum.inl i then Dt.int v else Dt.int p.2)::jf (Sum.inl i:Key) (Dt.int v) (kP r) (vP r)=Dt.int (if p.1=i then (p.1, v) else p).2::vP (r.map λp=>if p.1=i then (p.1, v) else p);rw[Ds];by_cases h:p.1=i
  .rw[aaG h,aaG (aba Sum.inl h)]
  .rw[aaE h,aaE λz=>h (Sum.inl.inj z)]
def Ax{i v:Int}:∀{pl:Pl},kP (pl.map λp=>if p.1=i then (p.1, v) else p)=kP pl
 | []=>rfl
 | p::r=>by change(Sum.inl (if p.1=i then (p.1, v) else p).1:Key)::kP (r.map λp=>if p.1=i then (p.1, v) else p)=Sum.inl p.1::kP r;rw[Ax];split <;> rfl
def oY{pl:Pl}{i:Int}:jI (kP pl) (Sum.inl i)=kP (eB pl i v):=by
 unfold jI eB;rw[Nt];split
 .show Ax.symm
 .unfold kP;rw[List.map_append];rfl
def pq{pl:Pl}{i:Int}:g7 (kP pl) (Sum.inl i) (vP pl) (Dt.int v)=vP (eB pl i v):=by
 unfold g7 eB;rw[Nt];split
 .show Ds
 .unfold vP;rw[List.map_append];rfl
def p_{i v j:Int}:∀{pl:Pl},ar (pl.map λp=>if p.1=i then (p.1, v) else p) j=if j=i then (ar pl j).map λ_=>v else ar pl j
 | []=>by split <;> rfl
 | p::r=>by
  let ih:=p_ (i:=i) (v:=v) (j:=j) (pl:=r);rw[aa8];unfold ar;by_cases h:p.1=i
  .rw[aaG h];by_cases hj:p.1=j
   .rw[aaG hj,aaG hj,aaG ()];rfl
   .rw[aaE hj,aaE hj];show ih
  .rw[aaE h];by_cases hj:p.1=j
   .rw[aaG hj,aaG hj,aaE ()]
   .rw[aaE hj,aaE hj];show ih
def ES{i j v:Int}:∀{pl:Pl},ar (pl++[(i, v)]) j=if (ar pl j).isSome=true then ar pl j else if i=j then !v else none
 | []=>rfl
 | p::r=>by
  let ih:=ES (i:=i) (j:=j) (v:=v) (pl:=r);rw[List.cons_append];unfold ar;by_cases hj:p.1=j
  .rw[aaG hj,aaG hj];rfl
  .rw[aaE hj,aaE hj];show ih
def ni{pl:Pl}{i j:Int}:ar (eB pl i v) j=if j=i then !v else ar pl j:=by
 unfold eB;split
 .rename_i h;rw[p_];split
  .rename_i e;subst e;let(x,hx):=ab3.mp h;rw[hx];rfl
  .rfl
 .rename_i h;rw[ES];by_cases e:j=i
  .subst e;rw[aaE h,aaG rfl,aaG rfl]
  .rw[aaE e];cases hj:ar pl j with
   | none=>rw[if_neg (by simp),if_neg ()]
   | some x=>rfl
def AB(pl:Pl):Prop:=(pl.map (·.1)).Nodup
def wF{i v:Int}:∀{pl:Pl},AB pl->(i, v)∈pl->ar pl i=!v
 | [],_,h=>by cases h
 | p::r,nd,h=>by
  unfold AB at nd;rw[aa8,abq]at nd;unfold ar;rcases aaR.mp h with e| e
  .rw[aaG (by rw[<-e])];rw[<-e]
  .have:p.1≠i:=λz=>nd.1 (by rw[z];show aaH.mpr (_,e,rfl));rw[aaE this];show wF nd.2 e
def Lm{i:Int}{pl:Pl}(h:ar pl i=none):i∉pl.map (·.1):=λz=>by
 let(p,hp,e):=aaH.mp z;have:∀{pl:Pl},p∈pl->ar pl i≠none:=λ{pl}=>by
  induction pl with
  | nil=>intro h;cases h
  | cons q r ih=>
   intro h;unfold ar;rcases aaR.mp h with e'| e'
   .rw[if_pos (by rw[<-e'];show e)];simp
   .split
    .simp
    .show ih e'
 show this hp h
def Qe{pl:Pl}{i:Int}(h:AB pl):AB (eB pl i v):=by
 unfold AB eB;split
 .let e:(pl.map λp=>if p.1=i then (p.1, v) else p).map (·.1)=pl.map (·.1):=by rw[aaT];show abB λp _=>?_;change(if p.1=i then (p.1, v) else p).1=p.1;split <;> rfl
  rw[e];show h
 .rename_i hn;let hn:ar pl i=none:=by
   cases hg:ar pl i with
   | none=>rfl
   | some x=>rw[hg]at hn;show aaO rfl hn
  rw[abb];show List.nodup_append.mpr (h,by simp,λa ha b hb z=>?_);have:b=i:=by simpa using hb
  show Lm hn (by rw[<-this,<-z];show ha)
def Ay(p1 p2:Pl):Bool:=decide (-p1=-p2)&&(List.range (-p1)).all λj=>decide (ar p2 (p1.getD j (0, 0)).1=!(p1.getD j (0, 0)).2)
def OQ{pl:Pl}{k:Key}(h:(kP pl)[j]? =!k):j < -pl/\k=Sum.inl (pl.getD j (0, 0)).1:=by unfold kP at h;rw[aan]at h;let(p,hp,e):=aby.mp h;show((aaj.mp hp).1,?_);rw[aac,hp];show e.symm
def TU{pl:Pl}(h:(vP pl)[j]? =!d):d= .int (pl.getD j (0, 0)).2:=by unfold vP at h;rw[aan]at h;let(p,hp,e):=aby.mp h;rw[aac,hp];show e.symm
def Mz(a b:Int):sT (V.int a) (V.int b)=decide (a=b):=by
 unfold sT;by_cases h:a=b
 .subst h;simp
 .simp[h]
def Oh{k1 k2:Nat}{p1 p2:Pl}(h1:M[k1]? =!(dP p1))(h2:M[k2]? =!(dP p2)):EI M (n+1) (.loc k1) (.loc k2) (Ay p1 p2):=by
 let l1:-(kP p1)=-p1:=by unfold kP;simp
 let l2:-(kP p2)=-p2:=by unfold kP;simp
 by_cases hl:-p1=-p2
 .have:=EI.cB (M:=M) (n:=n) (f:=λj=>decide (ar p2 (p1.getD j (0, 0)).1=!(p1.getD j (0, 0)).2)) h1 h2 (by rw[l1,l2];show hl) (λj k hk hn=>by
   let(hj,e):=OQ hk;subst e;rw[mI]at hn;let hn:ar p2 (p1.getD j (0, 0)).1=none:=by
    cases hg:ar p2 (p1.getD j (0, 0)).1 with
    | none=>rfl
    | some x=>rw[hg]at hn;cases hn
   rw[hn];rfl) (λj k d d' hk hd hg=>by
   let(hj,e):=OQ hk;let ed:=TU hd;subst e ed;rw[mI]at hg;let(x,hx,ex):=aby.mp hg;subst ex;have:decide (ar p2 (p1.getD j (0, 0)).1=!(p1.getD j (0, 0)).2)=sT (V.int (p1.getD j (0, 0)).2) (V.int x):=by
    rw[hx,Mz];by_cases e:(p1.getD j (0, 0)).2=x
    .rw[decide_eq_true e,e];simp
    .rw[aaB e,aaB λz=>e (aav z).symm]
   change EI M n _ _ (decide (ar p2 (p1.getD j (0, 0)).1=!(p1.getD j (0, 0)).2));rw[this]
   show EI.flat rfl rfl)
  rw[l1]at this;unfold Ay;rw[aax hl,Bool.true_and];show this
 .let e:Ay p1 p2=false:=by unfold Ay;rw[decide_eq_false hl];rfl
  rw[e];show EI.len h1 h2 (by rw[l1,l2];show hl)
def GB{pl:Pl}(h:j < -pl):pl.getD j (0, 0)∈pl:=by rw[aac,aaa h];show aaU _
def y_{pl:Pl}(nd:AB pl):Ay pl pl=true:=by unfold Ay;rw[aax rfl,Bool.true_and,abO];intro j hj;show aax (wF nd (GB (abg.mp hj)))
structure Gw(M:Ms)(k:Nat)(p1 p2:Pl):Prop where
 ex:∃k1 k2,M[k]? =!(.cB [Sum.inr "one",Sum.inr "other"] [.loc k1,.loc k2])/\M[k1]? =!(dP p1)/\M[k2]? =!(dP p2)
def ay{E:Ms}{k:Nat}{m:MO}(h:M[k]? =!m):(M++E)[k]? =!m:=by rw[aaF (aaj.mp h).1];show h
def Gw.app{E:Ms}{k:Nat}{p1 p2:Pl}(h:Gw M k p1 p2):Gw (M++E) k p1 p2:=by let(k1,k2,a,b,c):=h;show(k1,k2,ay a,ay b,ay c)
def MM{k k':Nat}{p1 p2 r1 r2:Pl}(h:Gw M k p1 p2)(h':Gw M k' r1 r2):EI M 2 (.loc k) (.loc k') (Ay p1 r1&&Ay p2 r2):=by
 let(k1,k2,a,b,c):=h;let(j1,j2,a',b',c'):=h'
 have:=EI.cB (M:=M) (n:=1) (f:=λj=>if j=0 then Ay p1 r1 else Ay p2 r2) a a' rfl (λj k hk hn=>by
  match j, hk with
  | 0,hk=>
   cases hk;have:aA [Sum.inr "one",Sum.inr "other"] [Dt.loc j1,Dt.loc j2] (Sum.inr "one")=!(.loc j1):=rfl;rw[this]at hn;cases hn
  | 1,hk=>
   cases hk;have:aA [Sum.inr "one",Sum.inr "other"] [Dt.loc j1,Dt.loc j2] (Sum.inr "other")=!(.loc j2):=rfl
   rw[this]at hn;cases hn) (λj k d d' hk hd hg=>by
  match j, hk,hd with
  | 0,hk,hd=>
   cases hk;cases hd;have:d'= .loc j1:=by have:aA [Sum.inr "one",Sum.inr "other"] [Dt.loc j1,Dt.loc j2] (Sum.inr "one")=!(.loc j1):=rfl;rw[this]at hg;show(aav hg).symm
   subst this;show Oh b b'
  | 1,hk,hd=>
   cases hk;cases hd;have:d'= .loc j2:=by have:aA [Sum.inr "one",Sum.inr "other"] [Dt.loc j1,Dt.loc j2] (Sum.inr "other")=!(.loc j2):=rfl;rw[this]at hg;show(aav hg).symm
   subst this
   show Oh c c')
 let e:((List.range (-([Sum.inr "one",Sum.inr "other"]:List Key))).all λj=>if j=0 then Ay p1 r1 else Ay p2 r2)=(Ay p1 r1&&Ay p2 r2):=by change((List.range 2).all λj=>if j=0 then Ay p1 r1 else Ay p2 r2)=_;simp[List.range_succ]
 rw[e]at this;show this
def eA(pl:Pl)(i:Nat)(n:Nat):Bool:=match ar pl i with
 | some v=>decide (0<=v)&&decide (v < n)
 | none=>false
def aB(p1 p2:Pl)(k:Str):Option Pl:=if k="one" then !p1 else if k="other" then !p2 else none
def gX(pf:Str->Option Pl)(i:Nat)(r:Rw):Bool:=match pf (kindOf r) with
 | some pl=>eA pl i (-(Υ r))
 | none=>true
def bx(γ:List Rw)(pf:Str->Option Pl)(i:Nat):Bool:=match γ[i]? with
 | some r=>gX pf i r
 | none=>true
def gh(γ:List Rw)(pf:Str->Option Pl):Nat->Pl
 | 0=>[]
 | n+1=>match (γ[n]?).bind λr=>pf (kindOf r) with
  | some pl=>eB (gh γ pf n) n ((ar pl n).getD 0)
  | none=>gh γ pf n
def Dr(γ:List Rw)(pf:Str->Option Pl):∀n,-(gh γ pf n)<=n
 | 0=>aam _
 | n+1=>by
  let ih:=Dr γ pf n;unfold gh;split
  .unfold eB;split
   .rw[aae];omega
   .rw[aaC];show Nat.succ_le_succ ih
  .omega
def v_(γ:List Rw)(pf:Str->Option Pl):∀(n i:Nat),ar (gh γ pf n) i=if i < n then ((γ[i]?).bind λr=>pf (kindOf r)).map λpl=>(ar pl i).getD 0 else none
 | 0,i=>by rw[aaE (abD _)];rfl
 | n+1,i=>by
  let ih:=v_ γ pf n i;let step:ar (gh γ pf (n+1)) i=if i=n then (match (γ[n]?).bind λr=>pf (kindOf r) with| some pl=>!((ar pl n).getD 0)| none=>ar (gh γ pf n) i) else ar (gh γ pf n) i:=by
   rw[gh];cases hb:(γ[n]?).bind λr=>pf (kindOf r) with
   | none=>dsimp only;split <;> rfl
   | some pl=>
    dsimp only;rw[ni];by_cases e:i=n
    .rw[aaG e,aaG ()]
    .rw[aaE e,aaE ()]
  rw[step,ih];by_cases e:i=n
  .subst e;rw[aaG rfl,aaE (abv _),aaG (abU _)];cases(γ[i]?).bind λr=>pf (kindOf r) with
   | none=>rfl
   | some pl=>rfl
  .rw[aaE e];by_cases h:i < n
   .rw[aaG h,aaG ()]
   .rw[aaE h,aaE ()]
def LL(k:Str):Es [Sum.inr "one",Sum.inr "other"] (Sum.inr k)=Ι k:=by
 let e:∀z:Str,decide ((Sum.inr z:Key)=Sum.inr k)=(k==z):=λz=>by
  by_cases h:z=k
  .rw[decide_eq_true (congrArg Sum.inr h),h];simp
  .rw[decide_eq_false λy=>h (Sum.inr.inj y)];simp;exactλy=>h y.symm
 change(decide ((Sum.inr (Str.ofString "one"):Key)=Sum.inr k)|| (decide ((Sum.inr (Str.ofString "other"):Key)=Sum.inr k)|| false))=Ι k;rw[e,e,Bool.or_false];rfl
def ot{p1 p2:Pl}{k:Str}(h:Ι k=false):aB p1 p2 k=none:=by unfold Ι at h;rw[Bool.or_eq_false_iff,beq_eq_false_iff_ne,beq_eq_false_iff_ne]at h;unfold aB;rw[aaE h.1,aaE h.2]
def xy{k:Nat}{p1 p2:Pl}(h:Gw M k p1 p2){z:Str}(hz:Ι z=true):∃ks ds k' pl,M[k]? =!(.cB ks ds)/\aA ks ds (Sum.inr z)=!(.loc k')/\aB p1 p2 z=!pl/\M[k']? =!(dP pl):=by
 let(k1,k2,a,b,c):=h;unfold Ι at hz;rw[acb,abh,abh]at hz;rcases hz with rfl| rfl
 .show(_,_,k1,p1,a,rfl,rfl,b)
 .show(_,_,k2,p2,a,rfl,rfl,c)
def Ry(M:Ms)(k:Nat)(pf:Str->Option Pl):Prop:=∃ks ds,M[k]? =!(.cB ks ds)/\∀z:Str,Es ks (Sum.inr z)=(pf z).isSome/\∀pl,pf z=!pl->∃k',aA ks ds (Sum.inr z)=!(.loc k')/\M[k']? =!(dP pl)
def Ry.app{E:Ms}{k:Nat}{pf:Str->Option Pl}(h:Ry M k pf):Ry (M++E) k pf:=by let(ks,ds,a,b):=h;show(ks,ds,ay a,λz=>((b z).1,λpl e=>?_));let(k',c,d):=(b z).2 pl e;show(k',c,ay d)
def Gw.pls{k:Nat}{p1 p2:Pl}(h:Gw M k p1 p2):Ry M k (aB p1 p2):=by
 let(k1,k2,a,b,c):=id h;show(_,_,a,λz=>(?_,λpl e=>?_))
 .rw[LL];cases hz:Ι z with
  | false=>rw[ot hz];rfl
  | true=>
   let(_,_,_,_,_,_,g3,_):=xy h hz;rw[g3];rfl
 .cases hz:Ι z with
  | false=>rw[ot hz]at e;cases e
  | true=>
   let(ks,ds,k',xV,g1,g2,g3,g4):=xy h hz;rw[a]at g1;cases g1;rw[g3]at e;cases e;show(k',g2,g4)
def TNp:Sa:=λds M q=>∃i:Int,ds=[.int i]/\0<=i/\i<=100/\q [("place", .int i)] M
def xh:Β ["self","place"] ["self","place"] (ν jT):=.of rfl
def tq(F:dh K "__init__" "NoPlan.__init__" jT f fd)(E:Ev K mg Cm CN CF Ca Ci Cd Ce Cg Cj Cb Cc Ck)(cI:fR K Ci VB "ValueError.__new__" f):ae P w K mg base (bC P w) 1 f fd ["self","place"] (XM K Ci TNp):=by
 show F.okI xh (λds M q h=>?_) (λaP A outer s H E' hr=>(_,(M7 (Ny PySem.F.excBase_ValueError cI E.qI E.l' (QK (.cons fm (.cons (Ti (jv 1)) .nil)))) (Rz (Q1 cI E.jG (jv 1)))),λds M q h=>?_))
 .let(i,rfl,_):=h;rfl
 .let(i,rfl,i0,i1,h):=h;obtain⟨j,rfl⟩:∃j:Nat,i=(j:Int):=(i.toNat,());let hj:j < 101:=()
  let l1:∀j:Nat,j < 101->-(Str.empty++Str.ofString "the plan has no door at place "++Str.ofString (toString (j:Int)))<=sizeLine:=by decide+kernel
  let l3:∀j:Nat,j < 101->(j:Int).natAbs.log2 < 1920:=by decide+kernel
  show(by decide+kernel,l3 j hj,l1 j hj,@_,@_,h)
def TZ(A:Addr):DF:=λas M q _=>∃ε γ i r k pl,as=[aK A ε γ,.loc k,.int (i:Nat)]/\M[k]? =!(dP pl)/\γ[i]? =!r/\gK r/\q (.bl (eA pl i (-(Υ r)))) M
def GY:Β ["floor","plan","place"] ["floor","plan","place"] (ν sj):=.of rfl
def AN(F:dh K "has_door" "has_door" sj f fd)(E:Ev K mg Cm CN CF Ca Ci Cd Ce Cg Cj Cb Cc Ck){jy:Addr}{j9:FuncData}(cQ:hI P w K mg base 2 Cm "doors" ["self","place"] (BB Cm) jy j9):ae P w K mg base (bC P w) 3 f fd ["floor","plan","place"] (cZ K (TZ Cm)):=by
 show F.eK GY (λds M q x h=>?_) (λaP A outer s H E' hr=>(_,(ι (Δ (gJ (TF hr (jv 2) (jv 1)) (gJ (ze τ (bL hr (jv 1) (jv 2))) (mf (RF (bL hr (jv 1) (jv 2)) (cv E.bN (θ (cC (iQ cQ hr ο (jv 0) (Ο (jv 2) η))) η br)))))))),λds M q x h=>?_))
 .let(ε,γ,i,r,k,pl,rfl,_):=h;rfl
 .let(ε,γ,i,r,k,pl,rfl,hk,hi,ro,h):=h;unfold eA at h;let gi:(Sum.inl (i:Int):Key)=Sum.inl ((i:Nat):Int):=rfl;show(k,_,_,Sum.inl (i:Int),rfl,hk,rfl,?_);rw[Nt];cases hg:ar pl i with
  | none=>
   rw[hg]at h;show(nofun,λ_=>h)
  | some v=>
   rw[hg]at h;let h:q (.bl (decide (0<=v)&&decide (v < (-(Υ r):Int)))) M:=h;let dg:aA (kP pl) (vP pl) (Sum.inl (i:Int))=!(.int v):=by rw[mI,hg];rfl
   show(λ_=>?_,nofun);show(k,_,_,Sum.inl (i:Int),_,rfl,hk,rfl,dg,?_);show(λz=>?_,λz=>?_)
   .let z:0<=v:=aaP z;rw[aax z,Bool.true_and]at h;show(k,_,_,Sum.inl (i:Int),_,rfl,hk,rfl,dg,?_);show((_,_,.inl rfl,rfl),ε,γ,i,r,rfl,hi,ro,cN (iW _) ?_);walk_at "vc";show(ao (d:=.lst ((Υ r).map ff)) (xs:=(Υ r).map ff) rfl ?_:fN [.lst ((Υ r).map ff)] _ _);rw[aae];show h
   .let z:¬0<=v:=abp z;rw[aaB z,Bool.false_and]at h;let key:decide (0<=v)=false:=aaB z;show h
def mK(A CP:Addr):DF:=λas M q x=>∃ε γ k pf,as=[aK A ε γ,.loc k]/\Ry M k pf/\MS ε γ/\
 ((∀i,i < -γ->bx γ pf i=true)->q (.loc (-M)) (M++[dP (gh γ pf (-γ))]))/\
 ∀j,j < -γ->bx γ pf j=false->(∀i,i < j->bx γ pf i=true)->∀E,x CP [("place", .int (j:Int))] (M++E)
def kz:Β ["floor","plans","doors","place","hand"] ["floor","plans"] (ν rK):=.of rfl
def AQ(F:dh K "doors_of" "doors_of" rK f fd)(E:Ev K mg Cm CN CF Ca Ci Cd Ce Cg Cj Cb Cc Ck)(aO:hI P w K mg base 1 Cm "size" ["self"] (yK Cm) dM dX)(aa:hI P w K mg base 1 Cm "kind" ["self","place"] (r_ Cm) bb bc){Iv:Addr}{HM:FuncData}(nY:ax P w K mg base 3 "has_door" ["floor","plan","place"] (TZ Cm) Iv HM){Ag:Addr}{yV:FuncData}(i5:Xe P w K mg base 1 "NoPlan" Ci VB "ValueError.__new__" ["self","place"] TNp Ag yV):ae P w K mg base (bC P w) 4 f fd ["floor","plans"] (cZ K (mK Cm Ci)):=by
 show F.eK kz (λds M q x h=>?_) (λaP A outer s H E' hr=>(_,(ζ (Α 2 kz.nd qF)
   (ζ (iM (cK E.bY (θ (kh aO hr ο (jv 0)) η br)) (ag (i:=3) kz.nd rfl (Or.inl rfl)) aJ (ζ (Α 4 kz.nd (iQ aa hr ο (jv 0) (Ο (jv 3) η)))
   (ζ (aC (uu hr (jv 4) (jv 1)) (ι o_) Ρ)
   (ζ (aC (h7 (aS (ah nY hr ο (Ο (jv 0) (θ (bL hr (jv 1) (jv 4)) (Ο (jv 3) η) aW))))) (ι (FQ i5 hr Mv PySem.F.excBase_ValueError (Ο (jv 3) η))) Ρ)
   (ι (fV hr (jv 2) (jv 3) (bL hr (bL hr (jv 1) (jv 4)) (jv 3))))))))
   (ι (Δ (jv 2))))),λds M q x h=>?_))
 .let(ε,γ,k,pf,rfl,_):=h;rfl
 .let(ε,γ,k,pf,rfl,tw,pl,hg,hb):=h;let mq:=pl.len;let km:k≠-M:=λe=>by let(ks,ds,a,_):=tw;rw[e,abX (aam _)]at a;cases a
  walk_at "vc";show((_,_,.inl rfl,rfl),ε,γ,rfl,?_);show((),?_);rw[show((-γ:Int)).toNat=-γ by omega];show dz (λzs ρ' M'=>∃(i m:Nat) (o3 o4:Option Dt),zs=dj (i:Int) m/\i+m=-γ/\(∀j,j < i->bx γ pf j=true)/\M'=M++[dP (gh γ pf i)]/\ρ'=[!(aK Cm ε γ),!(.loc k),!(.loc (-M)),o3,o4]) (λx zs ρ' M' hj fD=>?_) (λρ' M' hj=>?_) _ _ _ (0,-γ,none,none,rfl,(),λj hj=>aaO hj (abD _),rfl,rfl)
  .let(i,m,o3,o4,ex,im,gd,rfl,rfl):=hj;let(m',rfl,rfl,rfl):=cW ex;let il:i < -γ:=()
   let hi:γ[i]? =!γ[i]:=aaa il;generalize hr0:γ[i]=r at *
   let rm:r∈γ:=aaI hi;let ro:=(pl.row r rm).1;let ga:bx γ pf i=gX pf i r:=by unfold bx;rw[hi]
   let ac:∀xV,pf (kindOf r)=!xV->gh γ pf (i+1)=eB (gh γ pf i) i ((ar xV i).getD 0):=λxV e=>by rw[gh,hi];change(match pf (kindOf r) with| some pl=>_| none=>_)=_;rw[e]
   let an:pf (kindOf r)=none->gh γ pf (i+1)=gh γ pf i:=λe=>by rw[gh,hi];change(match pf (kindOf r) with| some pl=>_| none=>_)=_;rw[e]
   let(ks,ds,ca,cb):=(tw.app:Ry (M++[dP (gh γ pf i)]) k pf);show((_,_,.inl rfl,rfl),ε,γ,i,r,rfl,hi,?_);show(k,_,_,Sum.inr (kindOf r),rfl,ca,rfl,?_);rw[(cb (kindOf r)).1];cases hh:pf (kindOf r) with
   | none=>
    show(λ_=>?_,nofun);let e:=hh;show fD _ _ (i+1,m',_,_,by rw[ab4];rfl,(),λj hj=>?_,by rw[an e],rfl);by_cases ej:j=i
    .rw[ej,ga];unfold gX;rw[e]
    .show gd j ()
   | some xV=>
    show(nofun,λ_=>?_);let(k',g2,g4):=(cb (kindOf r)).2 xV hh;let g1:=ca;let g3:=hh;show(k,ks,ds,Sum.inr (kindOf r),_,rfl,g1,rfl,g2,?_);let gr:gX pf i r=eA xV i (-(Υ r)):=by unfold gX;rw[g3]
    show(ε,γ,i,r,k',xV,rfl,g4,hi,ro,λz=>?_,λz=>?_)
    .let z:eA xV i (-(Υ r))=false:=by simpa using z
     dsimp only[ET];walk_at "vc";show(@_,i,rfl,(),(),nofun,hb i il (by rw[ga,gr];show z) gd _)
    .let z:eA xV i (-(Υ r))=true:=by simpa using z
     obtain⟨v,hv⟩:∃v,ar xV i=!v:=by
      unfold eA at z;cases hv:ar xV i with
      | none=>rw[hv]at z;cases z
      | some v=>show(v,rfl)
     let dg:aA (kP xV) (vP xV) (Sum.inl (i:Int))=!(.int v):=by rw[mI,hv];rfl
     dsimp only[lB,Ef];walk_at "vc";show(k,ks,ds,Sum.inr (kindOf r),_,rfl,g1,rfl,g2,?_);show(k',_,_,Sum.inl (i:Int),_,rfl,g4,rfl,dg,?_);show(-M,_,_,Sum.inl (i:Int),rfl,aL,rfl,?_,?_)
     .unfold kP;rw[List.length_map];have:=Dr γ pf i;omega
     rw[oY (v:=v),pq,b9];let e:=ac xV g3;rw[hv]at e;let e:gh γ pf (i+1)=eB (gh γ pf i) i v:=e;show fD _ _ (i+1,m',_,_,by rw[ab4];rfl,(),λj hj=>?_,by rw[e],rfl);by_cases ej:j=i
     .rw[ej,ga,gr];show z
     .show gd j ()
  .let(i,m,o3,o4,ex,im,gd,rfl,rfl):=hj;let m0:m=0:=by have:=aba List.length ex;rw[gm]at this;show this.symm
   have:i=-γ:=()
   subst this;show hg gd
structure CJ(γ:List Rw)(Θ:Pl):Prop where
 hand:∀(i:Nat) (r:Rw),γ[i]? =!r->Ι (kindOf r)=true->∃j:Nat,ar Θ i=!(j:Int)/\j < -(Υ r)
 zd:∀(i:Nat) (r:Rw),γ[i]? =!r->Ι (kindOf r)=false->ar Θ i=none
def Tq{γ:List Rw}{p1 p2:Pl}(h:∀i,i < -γ->bx γ (aB p1 p2) i=true):CJ γ (gh γ (aB p1 p2) (-γ)):=by
 show(λi r hi hk=>?_,λi r hi hk=>?_)
 .let il:=(aaj.mp hi).1;let g:=h i il;unfold bx at g;rw[hi]at g;let g:gX (aB p1 p2) i r=true:=g;obtain⟨pl,e⟩:∃pl,aB p1 p2 (kindOf r)=!pl:=by
   unfold Ι at hk;rw[acb,abh,abh]at hk;rcases hk with e| e <;> rw[e]
   .show(p1,rfl)
   .show(p2,rfl)
  unfold gX at g;rw[e]at g;let g:eA pl i (-(Υ r))=true:=g;unfold eA at g;cases hv:ar pl i with
  | none=>rw[hv]at g;cases g
  | some v=>
   rw[hv]at g;let g:(decide (0<=v)&&decide (v < (-(Υ r):Int)))=true:=g;rw[aaA,aaW,aaW]at g;show(v.toNat,?_,());rw[v_,aaG il,hi];change Option.map (λpl=>(ar pl i).getD 0) (aB p1 p2 (kindOf r))=_;rw[e];change (!((ar pl i).getD 0))=_;rw[hv,Int.toNat_of_nonneg g.1];rfl
 .let il:=(aaj.mp hi).1;rw[v_,aaG il,hi];change Option.map (λpl=>(ar pl i).getD 0) (aB p1 p2 (kindOf r))=_;rw[ot hk];rfl
def bo(Θ:Pl)(i:Nat)(r:Rw):List eL:=match ar Θ i with
 | some j=>let  d:=(Υ r).getD j.toNat d0;[(d.1, d.2.1,d.2.2++[(1, 1)])]
 | none=>Υ r
def Oa(A:Addr):DF:=λas M q _=>∃ε γ i r k Θ,as=[aK A ε γ,.int (i:Nat),.loc k]/\M[k]? =!(dP Θ)/\γ[i]? =!r/\gK r/\CJ γ Θ/\q (.lst ((bo Θ i r).map ff)) M
def se:Β ["floor","place","doors","ways"] ["floor","place","doors"] (ν n_):=.of rfl
def yb(F:dh K "ways_from" "ways_from" n_ f fd)(E:Ev K mg Cm CN CF Ca Ci Cd Ce Cg Cj Cb Cc Ck){jy:Addr}{j9:FuncData}(cQ:hI P w K mg base 2 Cm "doors" ["self","place"] (BB Cm) jy j9)(aa:hI P w K mg base 1 Cm "kind" ["self","place"] (r_ Cm) bb bc):ae P w K mg base (bC P w) 3 f fd ["floor","place","doors"] (cZ K (Oa Cm)):=by
 show F.eK se (λds M q x h=>?_) (λaP A outer s H E' hr=>(_,(ζ (Α 3 se.nd (cC (iQ cQ hr ο (jv 0) (Ο (jv 1) η))))
   (ζ (aC (Kh (iQ aa hr ο (jv 0) (Ο (jv 1) η)) (Oi E.AU)) (ι (Δ (jg (θ (bU (Κ (jv 3) (bL hr (jv 2) (jv 1))) (dI 3 (d:=.tup [.tup [.int 1,.int 1]]) (by rfl))) η bt)))) Ρ)
   (ι (Δ (jv 3))))),λds M q x h=>?_))
 .let(ε,γ,i,r,k,Θ,rfl,_):=h;rfl
 .let(ε,γ,i,r,k,Θ,rfl,hk,hi,ro,dk,h):=h;show((_,_,.inl rfl,rfl),ε,γ,i,r,rfl,hi,ro,cN (iW _) ?_);show((_,_,.inl rfl,rfl),ε,γ,i,r,rfl,hi,?_);show(_,_,_,rfl,rfl,rfl,?_);rw[zE];cases hh:Ι (kindOf r) with
  | true=>
   show(λ_=>?_,nofun);let(j,hj,jl):=dk.hand i r hi hh;let dg:aA (kP Θ) (vP Θ) (Sum.inl (i:Int))=!(.int (j:Int)):=by rw[mI,hj];rfl
   let e:bo Θ i r=[(((Υ r).getD j d0).1, ((Υ r).getD j d0).2.1,((Υ r).getD j d0).2.2++[(1, 1)])]:=by unfold bo;rw[hj];rfl
   rw[e]at h;let gd:(Υ r).getD j d0=(Υ r)[j]:=by rw[aac,aaa jl];rfl
   let dm:-(Υ r)[j].2.2<=1:=by
    cases r with
    | fin p=>show aaO jl (abD _)
    | Λ k' ds=>show(ro.2.2.2 _ (aaU jl)).1
   rw[gd]at h;obtain⟨d,hd⟩:∃d,d=(Υ r)[j]:=(_,rfl);rw[<-hd]at h dm;walk_at "vc";show(k,_,_,Sum.inl (i:Int),_,rfl,hk,rfl,dg,?_);show(Η (d:=.lst ((Υ r).map ff)) rfl (VY jl) ?_:fe (.lst ((Υ r).map ff)) (.int (j:Int)) _ _);rw[<-hd];let sz:∀{z:Nat},z<=1000->z<=sizeLine:=λh=>aaJ h @_;show((nofun,sz ?_),sz @_,?_)
   .simp;omega
   let e2:ff (d.1, d.2.1,d.2.2++[(1, 1)])= .tup ((.int d.1::aE d.2.1::d.2.2.map aE)++[.tup [.int 1,.int 1]]):=by unfold ff;rw[List.map_append];rfl
   let h:q (.lst [ff (d.1, d.2.1,d.2.2++[(1, 1)])]) M:=h;rw[e2]at h;show h
  | false=>
   show(nofun,λ_=>?_);let e:bo Θ i r=Υ r:=by unfold bo;rw[dk.zd i r hi hh]
   rw[e]at h;show h
def ix(f:Nat->Rat):Nat->Rat
 | 0=>0
 | n+1=>ix f n+f n
def cP(f:eL->Rat):List eL->Rat
 | []=>0
 | d::ds=>f d+cP f ds
def dN{f g:Nat->Rat}:∀{n:Nat},(∀i,i < n->f i=g i)->ix f n=ix g n
 | 0,_=>rfl
 | n+1,h=>by change ix f n+f n=ix g n+g n;rw[dN λi hi=>h i (Nat.lt_succ_of_lt hi),h n (abU _)]
def qM(a b:Rat)(f g:Nat->Rat):∀n,ix (λi=>a * f i - b * g i) n=a * ix f n - b * ix g n
 | 0=>by change(0:Rat)=a * 0 - b * 0;grind
 | n+1=>by change ix (λi=>a * f i - b * g i) n+(a * f n - b * g n)=a * (ix f n+f n) - b * (ix g n+g n);rw[qM a b f g n];grind
def Am{t:Nat}(y:Nat->Rat):∀{n:Nat},n<=t->ix (λx=>(if x=t then 1 else 0) * y x) n=0
 | 0,_=>rfl
 | n+1,h=>by change ix (λx=>(if x=t then 1 else 0) * y x) n+(if n=t then 1 else 0) * y n=0;rw[Am y (),if_neg ()];grind
def rL{t:Nat}(y:Nat->Rat):∀{n:Nat},t < n->ix (λx=>(if x=t then 1 else 0) * y x) n=y t
 | 0,h=>aaO h (abD _)
 | n+1,h=>by
  change ix (λx=>(if x=t then 1 else 0) * y x) n+(if n=t then 1 else 0) * y n=y t;by_cases e:n=t
  .subst e;rw[Am y (Nat.le_refl _),if_pos rfl];grind
  .rw[rL y (),if_neg e];grind
def oh(f:Nat->Int):∀n,((Bz.ω f n:Int):Rat)=ix (λi=>(f i:Rat)) n
 | 0=>rfl
 | n+1=>by change((Bz.ω f n+f n:Int):Rat)=ix (λi=>(f i:Rat)) n+f n;rw[Rat.intCast_add,oh f n]
def ab(q:Rat):Rat:=if q < 0 then - q else q
def x6{x m:Rat}:ab x<=m↔ - m<=x/\x<=m:=by unfold ab;split <;> grind
def Te(x:Rat):0<=ab x:=by unfold ab;split <;> grind
def HB(x:Nat->Rat):∀n,∃i,i < n+1/\∀j,j < n+1->ab (x j)<=ab (x i)
 | 0=>(0,(),λj hj=>by rw[show j=0 by omega];grind)
 | n+1=>by
  let(i,hi,h):=HB x n;by_cases c:ab (x i)<=ab (x (n+1))
  .show(n+1,(),λj hj=>?_);by_cases e:j=n+1
   .subst e;grind
   .have:=h j ();grind
  .show(i,(),λj hj=>?_);by_cases e:j=n+1
   .subst e;grind
   .show h j ()
def RZ{x:Nat->Rat}{s c:Rat}(s1:s < 1)(h:∀i,i < n->∀m,(∀j,j < n->ab (x j)<=m)->ab (x i)<=c+s * m):∀i,i < n->ab (x i) * (1 - s)<=c:=λi hi=>by obtain⟨k,rfl⟩:∃k,n=k+1:=(n - 1,());let(t,ht,ht2):=HB x k;let h1:=h t ht _ ht2;let h2:=ht2 i hi;have:=Rat.mul_le_mul_of_nonneg_right h2 (show 0<=1 - s by grind);grind
def qk{f g:eL->Rat}:∀{ds:List eL},(∀d∈ds,f d=g d)->cP f ds=cP g ds
 | [],_=>rfl
 | d::ds,h=>by change f d+cP f ds=g d+cP g ds;rw[h d aal,qk λx hx=>h x (aai _ hx)]
abbrev cV(d:eL):Rat:=val (χ d)
structure Jp(n:Nat)(Ψ:List eL):Prop where
 to:∀d∈Ψ,0<=d.1/\d.1 < n
 c0:∀d∈Ψ,0<=cV d
 one:cP cV Ψ<=1
def Ei{n:Nat}{y:Nat->Rat}{m:Rat}(hm:∀j,j < n->ab (y j)<=m):∀{Ψ:List eL},(∀d∈Ψ,0<=d.1/\d.1 < n)->(∀d∈Ψ,0<=cV d)->ab (cP (λd=>cV d * y d.1.toNat) Ψ)<=cP cV Ψ * m
 | [],_,_=>by change ab 0<=0 * m;unfold ab;rw[if_neg (by grind)];grind
 | d::Ψ,h1,h2=>by let i:=Ei hm (λx hx=>h1 x (aai _ hx)) (λx hx=>h2 x (aai _ hx));let(a,b):=h1 d aal;let c:=h2 d aal;let y1:=x6.mp (hm d.1.toNat ());change ab (cV d * y d.1.toNat+cP (λd=>cV d * y d.1.toNat) Ψ)<=(cV d+cP cV Ψ) * m;let e1:=abP y1.1 c;let e2:=abP y1.2 c;let i:=x6.mp i;show x6.mpr (?_,?_) <;> grind
def Nq{Ψ:List eL}(w:Jp n Ψ)(n0:0 < n){y:Nat->Rat}{m:Rat}(hm:∀j,j < n->ab (y j)<=m):ab (cP (λd=>cV d * y d.1.toNat) Ψ)<=m:=by
 have:=Ei hm w.to w.c0;let m0:0<=m:=by have:=hm 0 n0;have:=Te (y 0);grind
 have:=Rat.mul_le_mul_of_nonneg_right w.one m0;grind
def J3{c:Fr}(h:0 < c.2)(hd:c.2∣B):((me B c:Int):Rat)=val c * B:=by
 let(k,rfl):=hd;unfold me val;rw[abC _ (),abu,abu];have:=dH (show c.2≠0 by omega);generalize (c.1:Rat)=a at *
 generalize (c.2:Rat)=b at *
 generalize (k:Rat)=e at *
 grind
def HE{B:Int}:∀{ds:List eL},(∀d∈ds,0 < (χ d).2/\(χ d).2∣B)->((((ds.map χ).map (me B)).sum:Int):Rat)=cP cV ds * B
 | [],_=>by change((0:Int):Rat)=0 * B;grind
 | d::ds,h=>by let i:=HE (ds:=ds) λx hx=>h x (aai _ hx);let(a,b):=h d aal;change(((me B (χ d)+((ds.map χ).map (me B)).sum:Int)):Rat)=(cV d+cP cV ds) * B;rw[Rat.intCast_add,i,J3 a b];grind
def qB{c:Fr}(h:0 < c.2)(h0:0<=c.1):0<=val c:=by
 let e:val c * (c.2:Rat)=c.1:=by
  have:=dH (show c.2≠0 by omega);unfold val;generalize (c.1:Rat)=x at *
  generalize (c.2:Rat)=y at *
  grind
 let p:(0:Rat) < (c.2:Rat):=Rat.intCast_lt_intCast.mpr h;let q:(0:Rat)<=(c.1:Rat):=Rat.intCast_le_intCast.mpr h0;by_cases z:0<=val c
 .show z
 .have:=Rat.mul_pos (show 0 < - val c by grind) p;grind
def MZ{ds:List eL}(o:HN (ds.map χ)):cP cV ds=1/\∀d∈ds,0<=cV d:=by
 let(_,_,hB):=iu (ds.map χ) 1 0 @_ (acH _) λc hc=>((o.Lr.2 c hc).1,acH _);let hm:∀d∈ds,χ d∈ds.map χ:=λd hd=>aaH.mpr (d,hd,rfl);let e:=HE (B:=bA (ds.map χ)) (ds:=ds) λd hd=>((o.Lr.2 _ (hm d hd)).1,hB _ (hm d hd));rw[o.sum]at e;let b0:=dH (show bA (ds.map χ)≠0 by have:=o.b0;omega);show(?_,λd hd=>?_)
 .generalize ((bA (ds.map χ):Int):Rat)=b at *
  grind
 .show qB (o.Lr.2 _ (hm d hd)).1 ?_;let p:=o.pos _ (hm d hd);unfold me at p;let q0:0<=bA (ds.map χ) / (χ d).2:=Int.ediv_nonneg (aas o.b0) (aas (o.Lr.2 _ (hm d hd)).1);rcases ace (χ d).1 0 with z| z
  .have:=Int.mul_nonpos_of_nonpos_of_nonneg (aas z) q0;omega
  .show z
def Gi{p q:Fr}(hp:0 < p.2)(hq:0 < q.2):val (hX p q)=val p - val q:=by
 unfold hX;rw[mP (ab0 (aa6 hp hq))];let h1:=dH (show p.2≠0 by omega);let h2:=dH (show q.2≠0 by omega);rw[Rat.intCast_sub,abu,abu,abu];unfold val;generalize (p.1:Rat)=a at *
 generalize (p.2:Rat)=b at *
 generalize (q.1:Rat)=c at *
 generalize (q.2:Rat)=d at *
 grind
def BC{p q:Fr}(hp:0 < p.2)(hq:0 < q.2)(h:gM p E)(h':gM q E):gM (hX p q) E:=by let(N,e):=h;let(N',e'):=h';unfold hX;show n6 (N:=N - N') (Int.ne_of_gt (Int.mul_pos hp hq)) (by grind)
def Fl{p q:Fr}{D:Int}(hp:0 < p.2)(hq:0 < q.2)(h:eP p C)(h':eP q D):eP (hX p q) (C+D):=by
 unfold hX;let a:=bO h.1 (aas hq);let b:=bO h'.1 (aas hp);let c:=bO h.2 (aas hq);let d:=bO h'.2 (aas hp);show mF (aa6 hp hq) ?_ ?_
 .let e:p.2 * q.2 * (C+D)=p.2 * C * q.2+q.2 * D * p.2:=by grind
  let e2: - (q.2 * D) * p.2= - (q.2 * D * p.2):=by grind
  omega
 .let e: - (p.2 * q.2 * (C+D))= - (p.2 * C) * q.2+ - (q.2 * D * p.2):=by grind
  omega
structure Nr(E C:Int)(p:Fr):Prop where
 red:Red p
 he:gM p E
 ab:eP p C
structure lH(n:Nat)(E C:Int)(v:Nat->Rat)(ns:List Fr):Prop where
 len:-ns=n
 nr:∀x,x < n->Nr E C (ns.getD x (0, 1))
 val:∀x,x < n->val (ns.getD x (0, 1))=v x
def rY(ε:Fr)(ns:List Fr)(d:eL):List Fr:=ns.set d.1.toNat (hX (ns.getD d.1.toNat (0, 1)) (bw ε (χ d)))
def gw(ε:Fr)(n i:Nat)(Ψ:List eL):List Fr:=Ψ.foldl (rY ε) ((List.replicate n ((0, 1):Fr)).set i (1, 1))
def ZV(c:0<=C):Nr E C (0, 1):=((@_,@_),(0,by simp),(by change(0:Int)<=1 * C;omega,by change - (1 * C)<=(0:Int);omega))
def YU:Nr E 1 (1, 1):=((@_,@_),(E,by simp),(@_,@_))
def x3{ns:List Fr}{t x:Nat}{a:Fr}(h:t < -ns):(ns.set t a).getD x (0, 1)=if x=t then a else ns.getD x (0, 1):=by
 rw[aac,List.getElem?_set];by_cases e:x=t
 .subst e;rw[aaG rfl,aaG h,aaG rfl];rfl
 .rw[aaE (Ne.symm e),aaE e,<-aac]
def Ig(hi:i < n):lH n E 1 (λx=>if x=i then 1 else 0) ((List.replicate n ((0, 1):Fr)).set i (1, 1)):=by
 let g:∀x,((List.replicate n ((0, 1):Fr)).set i (1, 1)).getD x (0, 1)=if x=i then (1, 1) else (0, 1):=λx=>by
  rw[x3 (by simpa using hi)]
  congr 1
  rw[aac,ab5];split <;> rfl
 show(by simp,λx _=>?_,λx _=>?_)
 .rw[g];split
  .show YU
  .show ZV @_
 .rw[g];change Pg.val (if x=i then (1, 1) else (0, 1))=if x=i then 1 else 0
  unfold Pg.val;split
  .change((1:Int):Rat) / ((1:Int):Rat)=1;grind
  .change((0:Int):Rat) / ((1:Int):Rat)=0;grind
structure Sj(ε:Fr)(E:Int)(d:eL):Prop where
 s0:0 < ε.2
 su:gy ε
 c0:0 < (χ d).2
 cu:gy (χ d)
 he:gM (bw ε (χ d)) E
def Sj.nr{ε:Fr}{d:eL}(h:Sj ε E d):Nr E 1 (bw ε (χ d)):=by let p:=aa6 h.s0 h.c0;let u:=CK h.s0 h.c0 h.su h.cu;let r:Red (bw ε (χ d)):=eJ (ab0 p);let rp:=r.pos;let(u1,u2):=u;show(r,h.he,((),()))
def yw{ε:Fr}{v:Nat->Rat}{ns:List Fr}{d:eL}(h:lH n E C v ns)(c:0<=C)(hd:0<=d.1/\d.1 < n)(sc:Sj ε E d):lH n E (C+1) (λx=>v x - Pg.val ε * ((if d.1.toNat=x then 1 else 0) * cV d)) (rY ε ns d):=by
 let ht:d.1.toNat < -ns:=by rw[h.len];omega
 let k:=sc.nr;let g:=λx=>x3 (x:=x) (a:=hX (ns.getD d.1.toNat (0, 1)) (bw ε (χ d))) ht;show(by unfold rY;rw[List.length_set];show h.len,λx hx=>?_,λx hx=>?_)
 .unfold rY;rw[g];let a:=h.nr x hx;split
  .rename_i e;rw[<-e];let p:=aa6 a.red.pos k.red.pos;show(eJ (ab0 p),BC a.red.pos k.red.pos a.he k.he,Fl a.red.pos k.red.pos a.ab k.ab)
  .have:=aaD (show C<=C+1 by omega) (aas a.red.pos);show(a.red,a.he,(abG a.ab.1 this,by have:=a.ab.2;omega))
 .unfold rY;rw[g];let a:=h.nr x hx;let b:=h.val x hx;split
  .rename_i e;rw[<-e,Gi a.red.pos k.red.pos,b,E7 sc.s0 sc.c0,if_pos rfl];grind
  .rename_i e;rw[b,if_neg (Ne.symm e)];grind
def vc{n:Nat}{ε:Fr}{E:Int}:∀{Ψ:List eL} {ns:List Fr} {v:Nat->Rat} {C:Int},(∀d∈Ψ,(0<=d.1/\d.1 < n)/\Sj ε E d)->0<=C->lH n E C v ns->lH n E (C+-Ψ) (λx=>v x - Pg.val ε * cP (λd=>(if d.1.toNat=x then 1 else 0) * cV d) Ψ) (Ψ.foldl (rY ε) ns)
 | [],ns,v,C,_,_,h=>by
  show(h.len,λx hx=>?_,λx hx=>?_)
  .rw[List.length_nil,Int.natCast_zero,Int.add_zero];show h.nr x hx
  .change _=v x - Pg.val ε * 0;rw[show v x - Pg.val ε * 0=v x by grind];show h.val x hx
 | d::Ψ,ns,v,C,hw,c,h=>by let(h1,h2):=hw d aal;let i:=vc (Ψ:=Ψ) (λx hx=>hw x (aai _ hx)) () (yw h c h1 h2);rw[acs,aaz,show C+((-Ψ+1:Nat):Int)=C+1+-Ψ by omega];show(i.len,i.nr,λx hx=>?_);rw[i.val x hx];change v x - Pg.val ε * ((if d.1.toNat=x then 1 else 0) * cV d) - Pg.val ε * cP (λd=>(if d.1.toNat=x then 1 else 0) * cV d) Ψ=v x - Pg.val ε * ((if d.1.toNat=x then 1 else 0) * cV d+cP (λd=>(if d.1.toNat=x then 1 else 0) * cV d) Ψ);grind
def vW(s:Rat)(i:Nat)(Ψ:List eL)(x:Nat):Rat:=(if x=i then 1 else 0) - s * cP (λd=>(if d.1.toNat=x then 1 else 0) * cV d) Ψ
def MK{ε:Fr}{Ψ:List eL}(hi:i < n)(hw:∀d∈Ψ,(0<=d.1/\d.1 < n)/\Sj ε E d):lH n E (1+-Ψ) (vW (Pg.val ε) i Ψ) (gw ε n i Ψ):=vc hw @_ (Ig hi)
def Jc{n i:Nat}{s:Rat}(hi:i < n)(y:Nat->Rat):∀{Ψ:List eL},(∀d∈Ψ,0<=d.1/\d.1 < n)->ix (λx=>vW s i Ψ x * y x) n=y i - s * cP (λd=>cV d * y d.1.toNat) Ψ
 | [],_=>by rw[dN (g:=λx=>(if x=i then 1 else 0) * y x) λx _=>by change((if x=i then 1 else 0) - s * 0) * y x=_;grind];rw[rL y hi];change y i=y i - s * 0;grind
 | d::Ψ,h=>by
  let(a,b):=h d aal;let ih:=Jc (s:=s) hi y (Ψ:=Ψ) λx hx=>h x (aai _ hx)
  rw[dN (g:=λx=>1 * (vW s i Ψ x * y x) - (s * cV d) * ((if x=d.1.toNat then 1 else 0) * y x)) λx _=>by
   change((if x=i then 1 else 0) - s * ((if d.1.toNat=x then 1 else 0) * cV d+cP (λd=>(if d.1.toNat=x then 1 else 0) * cV d) Ψ)) * y x=1 * (((if x=i then 1 else 0) - s * cP (λd=>(if d.1.toNat=x then 1 else 0) * cV d) Ψ) * y x) - (s * cV d) * ((if x=d.1.toNat then 1 else 0) * y x);by_cases e:x=d.1.toNat
   .rw[if_pos e,if_pos e.symm];grind
   .rw[if_neg e,if_neg (Ne.symm e)];grind]
  rw[qM,ih,rL y (show d.1.toNat < n by omega)];change _=y i - s * (cV d * y d.1.toNat+cP (λd=>cV d * y d.1.toNat) Ψ);grind
def lj(ns:List Fr):List Int:=ns.map λc=>c.1 * (bA ns / c.2)
def zw{ns:List Fr}(h:∀c∈ns,Nr E C c)(e0:0 < E)(c0:0<=C):0 < bA ns/\bA ns<=E/\∀c∈ns,((me (bA ns) c:Int):Rat)=val c * (bA ns:Int)/\ - (C * E)<=me (bA ns) c/\me (bA ns) c<=C * E:=by
 let b0:0 < bA ns:=fg ns 1 @_ λc hc=>(h c hc).red.pos;let(d1,_,d3):=iu ns 1 E @_ (Int.one_dvd _) λc hc=>((h c hc).red.pos,wg (h c hc).red (h c hc).he);let le:=acf e0 d1;show(b0,le,λc hc=>(J3 (h c hc).red.pos (d3 c hc),?_));let hd:=d3 c hc;let cp:=(h c hc).red.pos;let(a1,a2):=(h c hc).ab;let le:bA ns<=E:=le;let b0:0 < bA ns:=b0;generalize hL:bA ns=L at *
 let hd:c.2∣L:=by rw[<-hL];show hd
 let(k,rfl):=hd;unfold me;rw[abC _ ()];let k0:0<=k:=by
  rcases ace k 0 with z| z
  .have:=ab2 cp z;omega
  .show z
 let m1:=bO a1 k0;let m2:=bO a2 k0;let m3:=aaD le c0;let e1:c.2 * C * k=C * (c.2 * k):=by grind
 let e2: - (c.2 * C) * k= - (C * (c.2 * k)):=by grind
 show((),())
def lN(ε:Fr)(n i:Nat)(Ψ:List eL)(given:Fr):List Int:=lj (gw ε n i Ψ++[given])
structure uA(ε:Fr)(n:Nat)(E C:Int)(Ψ:List eL)(given:Fr):Prop where
 wo:Jp n Ψ
 sc:∀d∈Ψ,Sj ε E d
 gn:Nr E C given
 e0:0 < E
 cl:1+(-Ψ:Int)<=C
def xW{D:Int}{p:Fr}(h:Nr E C p)(l:C<=D):Nr E D p:=by have:=aaD l (aas h.red.pos);let(a,b):=h.ab;show(h.red,h.he,((),()))
def N1{ns:List Fr}{x:Nat}(h:x < -ns):ns.getD x (0, 1)∈ns:=by rw[aac,aaa h];show aaU h
def AX{ε:Fr}{Ψ:List eL}{given:Fr}(hi:i < n)(p:uA ε n E C Ψ given):-(lN ε n i Ψ given)=n+1/\(∀x∈lN ε n i Ψ given,- (C * E)<=x/\x<=C * E)/\∃L:Rat,0 < L/\(∀y:Nat->Rat,ix (λx=>((lN ε n i Ψ given).getD x 0:Rat) * y x) n=L * (y i - Pg.val ε * cP (λd=>cV d * y d.1.toNat) Ψ))/\((lN ε n i Ψ given).getD n 0:Rat)=L * Pg.val given:=by
 let no:=MK hi λd hd=>(p.wo.to d hd,p.sc d hd);let c0:0<=C:=by have:=p.cl;omega
 let all:∀c∈gw ε n i Ψ++[given],Nr E C c:=λc hc=>by
  rcases aa3.mp hc with z| z
  .let(x,hx,e):=abJ z;let V7:x < n:=by rw[<-no.len];show hx
   have:=no.nr x V7;rw[aac,aaa hx]at this;rw[<-e];show xW this p.cl
  .rw[abj.mp z];show p.gn
 let(b0,bE,hb):=zw all p.e0 c0;let ln:-(gw ε n i Ψ)=n:=no.len;let at_:∀x,x < n+1->(lN ε n i Ψ given).getD x 0=me (bA (gw ε n i Ψ++[given])) ((gw ε n i Ψ++[given]).getD x (0, 1)):=λx hx=>by
  unfold lN lj;let hx:x < -(gw ε n i Ψ++[given]):=by simp[ln];show hx
  rw[aac,aan,aac,aaa hx];rfl
 let in_:∀x,x < n+1->(gw ε n i Ψ++[given]).getD x (0, 1)∈gw ε n i Ψ++[given]:=λx hx=>N1 (by simp[ln];show hx);show(by unfold lN lj;simp[ln],λx hx=>?_,((bA (gw ε n i Ψ++[given]):Int):Rat),?_,λy=>?_,?_)
 .unfold lN lj at hx;let(c,hc,rfl):=aaH.mp hx;show(hb c hc).2
 .show Rat.intCast_lt_intCast.mpr b0
 .rw[dN (g:=λx=>((bA (gw ε n i Ψ++[given]):Int):Rat) * (vW (Pg.val ε) i Ψ x * y x) - 0 * 0) λx hx=>by
   rw[at_ x (),(hb _ (in_ x ())).1];have:(gw ε n i Ψ++[given]).getD x (0, 1)=(gw ε n i Ψ).getD x (0, 1):=by rw[aac,aaF (by rw[ln];show hx),<-aac]
   rw[this,no.val x hx];grind]
  rw[qM _ 0 (λx=>vW (Pg.val ε) i Ψ x * y x) (λ_=>0),Jc hi y p.wo.to];grind
 .rw[at_ n (),(hb _ (in_ n ())).1];have:(gw ε n i Ψ++[given]).getD n (0, 1)=given:=by rw[aac,aat (by rw[ln];show aam _),ln,Nat.sub_self];rfl
  rw[this];grind
structure Sys(ε:Fr)(n:Nat)(B:Int)(ws:Nat->List eL)(gv:Nat->Fr):Prop where
 n1:1<=n
 s0:0<=Pg.val ε
 s1:Pg.val ε < 1
 b1:1<=B
 Mc:∀i,i < n->∃E C,uA ε n E C (ws i) (gv i)/\C * E<=B
def gO(ε:Fr)(n:Nat)(ws:Nat->List eL)(gv:Nat->Fr):List (List Int):=(List.range n).map λi=>lN ε n i (ws i) (gv i)
section
variable{ε:Fr}{ws:Nat->List eL}{gv:Nat->Fr}
def B7{k x:Nat}(h:k < n):Bz.arr (gO ε n ws gv) k x=(lN ε n k (ws k) (gv k)).getD x 0:=by
 unfold Bz.arr gO
 congr 1
 rw[aac,aan,aaX h];rfl
def ko:-(gO ε n ws gv)=n:=by unfold gO;simp
def Sys.eq(S:Sys ε n B ws gv){k:Nat}(hk:k < n):∃L:Rat,0 < L/\(∀y:Nat->Rat,ix (λx=>(Bz.arr (gO ε n ws gv) k x:Rat) * y x) n=L * (y k - Pg.val ε * cP (λd=>cV d * y d.1.toNat) (ws k)))/\(Bz.arr (gO ε n ws gv) k n:Rat)=L * Pg.val (gv k):=by
 let(E,C,p,_):=S.Mc k hk;let(_,_,L,l0,l1,l2):=AX hk p;show(L,l0,λy=>?_,?_)
 .rw[<-l1 y];show dN λx _=>by rw[B7 hk]
 .rw[B7 hk];show l2
def Sys.zero(S:Sys ε n B ws gv){y:Nat->Rat}(h:∀k,k < n->y k=Pg.val ε * cP (λd=>cV d * y d.1.toNat) (ws k)):∀k,k < n->y k=0:=λk hk=>by
 have:=RZ (n:=n) (x:=y) (c:=0) S.s1 (λi hi m hm=>by
  let(E,C,p,_):=S.Mc i hi;let w:=x6.mp (Nq p.wo () hm);let a:=abP w.1 S.s0;let b:=abP w.2 S.s0;rw[h i hi]
  show x6.mpr (?_,?_) <;> grind) k hk
 let a0:=Te (y k);let s1:=S.s1;have:ab (y k)=0:=by
  by_cases e:ab (y k)=0
  .show e
  .let p:=Rat.mul_pos (show 0 < ab (y k) by grind) (show 0 < 1 - Pg.val ε by grind);grind
 unfold ab at this;split at this <;> grind
def Sys.ker(S:Sys ε n B ws gv)(y:Bz.Row)(h:∀k,k < n->Bz.ω (λx=>Bz.arr (gO ε n ws gv) k x * y x) n=0):∀x,x < n->y x=0:=λx hx=>by
 have:=S.zero (y:=λx=>(y x:Rat)) (λk hk=>by
  let(L,l0,l1,_):=S.eq hk;let e:=aba (λz:Int=>(z:Rat)) (h k hk);rw[oh,dN (g:=λx=>(Bz.arr (gO ε n ws gv) k x:Rat) * (y x:Rat)) λx _=>abu _ _,l1 λx=>(y x:Rat)]at e;let e:L * ((y k:Rat) - Pg.val ε * cP (λd=>cV d * (y d.1.toNat:Rat)) (ws k))=0:=e;rcases Rat.mul_eq_zero.mp e with z| z
  .grind
  .grind) x hx
 show Rat.intCast_eq_zero_iff.mp this
def Sys.bd(S:Sys ε n B ws gv):Bz.Bd (Bz.arr (gO ε n ws gv)) n (n+1) B:=(S.b1,λk c hk hc=>by
 let(E,C,p,hB):=S.Mc k hk;let(ln,hb,_):=AX hk p;rw[B7 hk];have:=hb ((lN ε n k (ws k) (gv k)).getD c 0) (by rw[aac,aaa ()];show aaU _)
 show((),()))
structure Tab(ε:Fr)(n:Nat)(ws:Nat->List eL)(gv:Nat->Fr)(tb:List Fr):Prop where
 len:-tb=n
 red:∀i,i < n->Red (tb.getD i (0, 1))
 eq:∀i,i < n->Pg.val (tb.getD i (0, 1))=Pg.val (gv i)+Pg.val ε * cP (λd=>cV d * Pg.val (tb.getD d.1.toNat (0, 1))) (ws i)
def Sys.ex(S:Sys ε n B ws gv)(CC:n<=12):∃(tb:List Fr) (z:Bz.Row) (N:Int),Bz.PJ (Bz.arr (gO ε n ws gv)) n n z N/\N≠0/\(∀i,i < n->N * (tb.getD i (0, 1)).1=z i * (tb.getD i (0, 1)).2)/\Tab ε n ws gv tb/\∀i,i < n->(tb.getD i (0, 1)).2<=(12 * B) ^ n:=by
 let(ρ,μ,q,d,W,t):=Bz.Turn.exists (A:=Bz.arr (gO ε n ws gv)) (n:=n) n;let hc:μ=List.range n:=by
  rcases t.all with e| ⟨x,h1,h2⟩
  .show e
  .let(z,z1,z2):=t.kernel h1 h2;have:=S.ker z z2 x h1;rw[z1]at this;show aaO () t.d0
 let lr:-ρ=n:=by rw[<-t.st.lc,hc,abe]
 let sol:=t.U9 λi h1 h2=>aaO h1 ();let d0:=t.d0;generalize hz:Bz.Lv (Bz.arr (gO ε n ws gv)) n W μ n (-μ)=z at *
 let g:∀i,i < n->((List.range n).map λi=>ak (z i) d).getD i (0, 1)=ak (z i) d:=λi hi=>by rw[aac,aan,aaX hi];rfl
 show((List.range n).map λi=>ak (z i) d,z,d,sol,d0,λi hi=>?_,(by simp,λi hi=>?_,λi hi=>?_),λi hi=>?_)
 .rw[g i hi,<-b7 d0]
 .rw[g i hi];show eJ d0
 .let(L,l0,l1,l2):=S.eq hi;let(E,C,p,_):=S.Mc i hi;let e:=aba (λz:Int=>(z:Rat)) (sol i hi);rw[oh,dN (g:=λx=>(Bz.arr (gO ε n ws gv) i x:Rat) * (z x:Rat)) λx _=>abu _ _,l1 λx=>(z x:Rat),abu,l2]at e;rw[g i hi,mP d0]
  rw[qk (g:=λdd=>(1 / (d:Rat)) * (cV dd * (z dd.1.toNat:Rat)) - 0) λdd Xp=>by
   let(a,b):=p.wo.to dd Xp;rw[g _ (),mP d0];have:=dH d0
   grind]
  let sc:∀(k:Rat) (ds:List eL),cP (λdd=>k * (cV dd * (z dd.1.toNat:Rat)) - 0) ds=k * cP (λdd=>cV dd * (z dd.1.toNat:Rat)) ds:=λk ds=>by
   induction ds with
   | nil=>change(0:Rat)=k * 0;grind
   | cons a ds ih=>
    change k * (cV a * (z a.1.toNat:Rat)) - 0+cP (λdd=>k * (cV dd * (z dd.1.toNat:Rat)) - 0) ds=k * (cV a * (z a.1.toNat:Rat)+cP (λdd=>cV dd * (z dd.1.toNat:Rat)) ds);rw[ih];grind
  rw[sc];have:=dH d0;let e:L * ((z i:Rat) - Pg.val ε * cP (λdd=>cV dd * (z dd.1.toNat:Rat)) (ws i))=(d:Rat) * (L * Pg.val (gv i)):=e;let e2:(z i:Rat) - Pg.val ε * cP (λdd=>cV dd * (z dd.1.toNat:Rat)) (ws i)=(d:Rat) * Pg.val (gv i):=by
   have:L * ((z i:Rat) - Pg.val ε * cP (λdd=>cV dd * (z dd.1.toNat:Rat)) (ws i) - (d:Rat) * Pg.val (gv i))=0:=by grind
   rcases Rat.mul_eq_zero.mp this with y| y
   .grind
   .grind
  grind
 .rw[g i hi];let ad:=t.st.Z1 S.bd (λc BV=>aay (t.cl c BV) (Nat.le_succ _)) ();rw[lr]at ad;let l:=mE (t:=z i) d0;let q0:=cL (t:=z i) d0;let(a1,a2):=ad;omega
end
def Ow{d:eL}{c:Fr}{q:DQ}(e:d.2.2=[c])(h:q (aE c) M):fe (ff d) (.int 2) M q:=by unfold ff;rw[e];show Η (xs:=[.int d.1,aE d.2.1,aE c]) rfl (Ε (j:=2) rfl) h
def Ro{k:Nat}(h:M[k]? =!(MO.lst xs)):mY M (.loc k)=!xs:=by change(match M[k]? with| some (MO.lst xs)=>!xs| _=>none)=!xs;rw[h]
def J4{p:Fr}(h:Nr E C p)(e0:0 < E)(e1:E < 2 ^ 190)(c0:0<=C)(c1:C < 2 ^ 110):Sz 300 p:=Oj (k:=190) (m:=110) h.red h.he e0 e1 h.ab c0 c1
def JC:DF:=λas M q _=>∃(ns:List Fr) (E C:Int),as=[.lst (ns.map aE)]/\-ns<=13/\(∀c∈ns,Nr E C c)/\0 < E/\E < 2 ^ 190/\0<=C/\C < 2 ^ 110/\q (bV (lj ns)) M
def l9:Β ["numbers","bottom"] ["numbers"] (ν nL):=.of rfl
def yC(F:dh K "whole_row" "whole_row" nL f fd)(E:Ev K mg Cm CN CF Ca Ci Cd Ce Cg Cj Cb Cc Ck){ia:Addr}{ij:FuncData}(bQ:ax P w K mg base 2 "common_bottom" ["chances"] hV ia ij):ae P w K mg base (bC P w) 3 f fd ["numbers"] (cZ K JC):=by
 show F.eK l9 (λds M q x h=>?_) (λaP A outer s H E' hr=>(_,(ζ (Α 1 l9.nd (ah bQ hr ο (Ο (jv 0) η)))
   (ι (Δ (g9 (ys:=["bottom"]) (Χ:=[1]) (.of l9 rfl rfl rfl) (bR (jv 0)) (λC s H fp=>(aM (Κ (jv 0) τ) (jk (jv 1) (Κ (jv 0) τ)))))))),λds M q x h=>?_))
 .let(ns,E,C,rfl,_):=h;rfl
 .let(ns,Ep,C,rfl,hz,hn,e0,e1,c0,c1,h):=h;let(b0,bE,_):=zw hn e0 c0;let Y9:∀c∈ns,Sz 300 c:=λc hc=>J4 (hn c hc) e0 e1 c0 c1;let b2:∀c∈ns,c.2 < 2 ^ 200:=λc hc=>by have:=acf e0 (wg (hn c hc).red (hn c hc).he);show aaY this (acI e1 @_)
  show(ns,rfl,(hz,λc hc=>((hn c hc).red.pos,b2 c hc)),?_);walk_at "vc";show eY (i:=0) rfl rfl (by rw[aae];show aaJ hz @_,?_);show fY (f:=λd=>.int (match d with| .tup [.int a,.int b]=>a * (bA ns / b)| _=>0)) trivial (λx hx q hq=>?_) ?_
  .let(y,hy,rfl):=aaH.mp hx;let s:=Y9 y hy;let y0:=(hn y hy).red.pos;show((y0,et s @_),(iS s @_,?_),hq);show qH (k:=190) (Int.ediv_nonneg (aas b0) (aas y0)) (aaY (acn _ (aas b0)) (aaY bE e1)) @_
  .rw[aa4,aaT];let e:ns.map ((λd=>Dt.int (match d with| .tup [.int a,.int b]=>a * (bA ns / b)| _=>0)) ∘ aE)=(lj ns).map Dt.int:=by unfold lj;rw[aaT];rfl
   rw[e];show h
structure XB(E C:Int):Prop where
 e1:E < 2 ^ 190
 c1:C < 2 ^ 110
def Ve(A:Addr):DF:=λas M q _=>∃(ε:Fr) (γ:List Rw) (i:Nat) (Ψ:List eL) (given:Fr) (E C:Int),as=[aK A ε γ,.int (i:Nat),.lst (Ψ.map ff),aE ε,aE given]/\i < -γ/\-γ<=12/\aU ε=true/\(∀d∈Ψ,∃c,d.2.2=[c])/\uA ε (-γ) E C Ψ given/\XB E C/\(∀d∈Ψ,Sz 300 (χ d))/\∀E',q (bV (lN ε (-γ) i Ψ given)) (M++E')
def rP:Β ["floor","place","ways","share","given","numbers","way"] ["floor","place","ways","share","given"] (ν xc):=.of rfl
def Gm(F:dh K "led_row" "led_row" xc f fd)(E:Ev K mg Cm CN CF Ca Ci Cd Ce Cg Cj Cb Cc Ck)(aO:hI P w K mg base 1 Cm "size" ["self"] (yK Cm) dM dX){Rp:Addr}{Pn:FuncData}(xt:ax P w K mg base 3 "minus" ["one","other"] Ia Rp Pn){C3:Addr}{A1:FuncData}(ke:ax P w K mg base 3 "times" ["one","other"] BQ C3 A1){Gv:Addr}{Fu:FuncData}(lV:ax P w K mg base 3 "whole_row" ["numbers"] JC Gv Fu):ae P w K mg base (bC P w) 5 f fd ["floor","place","ways","share","given"] (cZ K (Ve Cm)):=by
 show F.eK rP (λds M q x h=>?_) (λaP A outer s H E' hr=>(_,(ζ (Α 5 rP.nd (AH (dI 3 (d:=.lst [.tup [.int 0,.int 1]]) (by rfl)) (kh aO hr ο (jv 0))))
   (ζ (ng (jv 5) (jv 1) (gT (θ τ (θ τ η dZ) dZ)))
   (ζ (eE (bR (jv 2)) (ag (i:=6) rP.nd rfl (Or.inl rfl)) aJ (ι (ng (jv 5) (Κ (jv 6) τ) (ah xt hr ο (θ (Κ (jv 5) (Κ (jv 6) τ)) (θ (ah ke hr ο (Ο (jv 3) (θ (Κ (jv 6) τ) η aW))) η br) aW)))))
   (ι (Δ (ah lV hr ο (θ (k4 (jv 5) (jg (Ο (jv 4) η))) η bt))))))),λds M q x h=>?_))
 .let(ε,γ,i,Ψ,given,E,C,rfl,_):=h;rfl
 .let(ε,γ,i,Ψ,given,Ep,C,rfl,il,mq,hs,Nv,p,sz,hcs,h):=h;let szs:=HX hs;let e0:=p.e0;let c0:0<=C:=by have:=p.cl;omega
  generalize hn:-γ=n at *
  show((_,_,.inl rfl,rfl),ε,γ,rfl,?_);rw[hn];show([aE (0, 1)],n,rfl,rfl,(),(),?_,?_)
  .change 1 * ((n:Int)).toNat<=sizeLine;show aaJ (show _<=12 by omega) @_
  rw[show((n:Int)).toNat=n by omega,qC];dsimp only[v7];walk_at "vc";show(D2,?_);show(-M,(i:Nat),_,i,rfl,rfl,aL,by rw[aa9];show xn il,?_);rw[b9];let e00:(List.replicate n (aE (0, 1))).set i (.tup [.int 1,.int 1])=((List.replicate n ((0, 1):Fr)).set i (1, 1)).map aE:=by rw[List.map_set,List.map_replicate];rfl
  rw[e00];dsimp only[qO,fJ];walk_at "vc";show cf (λzs ρ' M'=>∃(fE rest:List eL) (ns:List Fr) (v:Nat->Rat) (o:Option Dt),Ψ=fE++rest/\zs=rest.map ff/\ns=fE.foldl (rY ε) ((List.replicate n ((0, 1):Fr)).set i (1, 1))/\lH n Ep (1+-fE) v ns/\M'=M++[MO.lst (ns.map aE)]/\ρ'=[!(aK Cm ε γ),!(.int (i:Int)),!(.lst (Ψ.map ff)),!(aE ε),!(aE given),!(.loc (-M)),o]) (λzs ρ' M' hj=>trivial) (λx zs ρ' M' hj fD=>?_) (λρ' M' hj=>?_) _ _ _ ([],Ψ,_,_,none,rfl,rfl,rfl,Ig il,rfl,rfl)
  .let(fE,rest,ns,v,o,ew,ex,en,no,rfl,rfl):=hj;cases rest with
   | nil=>cases ex
   | cons d rest=>
    cases ex;let dm:d∈Ψ:=by rw[ew];show aaL _ aal
    let(t0,t1):=p.wo.to d dm;let(c,hc):=Nv d dm;let ec:χ d=c:=by unfold χ;rw[hc];rfl
    let sc:=p.sc d dm;let R5:=hcs d dm;let dl:1+(-fE:Int)<=C:=by have:=aba List.length ew;rw[aaC,aaz]at this;have:=p.cl;omega
    let tl:d.1.toNat < -ns:=by rw[no.len];omega
    let Y9:=J4 (xW (no.nr d.1.toNat ()) dl) e0 sz.e1 c0 sz.c1;let szt:=J4 (xW sc.nr (show(1:Int)<=C by omega)) e0 sz.e1 c0 sz.c1;let at_:kU (ns.map aE) d.1=!(aE (ns.getD d.1.toNat (0, 1))):=by have:=Tz tl;rw[show((d.1.toNat:Nat):Int)=d.1 by omega]at this;rw[this,aac,aaa tl];rfl
    let nx:∀o,_:=λo=>fD [!(aK Cm ε γ),!(.int (i:Int)),!(.lst (Ψ.map ff)),!(aE ε),!(aE given),!(.loc (-M)),o] (M++[MO.lst ((rY ε ns d).map aE)]) (fE++[d],rest,rY ε ns d,_,o,by rw[ew];simp,rfl,by rw[List.foldl_append,<-en];rfl,by
     have:=yw no () (t0,t1) sc;rw[show 1+(-(fE++[d]):Int)=1+(-fE:Int)+1 by simp;omega]
     show this,rfl,rfl)
    dsimp only[gN,v7];walk_at "vc";show OM ?_;show(Η (d:=.loc (-M)) (Ro aL) at_ ?_:fe (.loc (-M)) (.int d.1) _ _);show Ow hc ?_;rw[<-ec];show(ε,χ d,11,300,rfl,szs,R5,@_,?_);show(_,_,300,300,rfl,Y9,szt,@_,?_);show OM ?_;show(-M,d.1,_,d.1.toNat,rfl,rfl,aL,by rw[aae];have:=xn tl;rwa[show((d.1.toNat:Nat):Int)=d.1 by omega]at this,?_);rw[b9];have:(ns.map aE).set d.1.toNat (aE (hX (ns.getD d.1.toNat (0, 1)) (bw ε (χ d))))=(rY ε ns d).map aE:=by unfold rY;rw[List.map_set]
    rw[this];show nx _
  .let(fE,rest,ns,v,o,ew,ex,en,no,rfl,rfl):=hj;cases rest with
   | cons d rest=>cases ex
   | nil=>
    rw[aa0]at ew;subst ew;let en:ns=gw ε n i Ψ:=en;walk_at "vc";show(by change 1<=sizeLine;decide,ns.map aE,[aE given],wb aL,rfl,?_,?_)
    .rw[aae,no.len];show aaJ (show n+1<=13 by omega) @_
    show(ns++[given],Ep,C,by rw[abb];rfl,by rw[aaC,no.len];change n+1<=13;omega,λc hc=>?_,e0,sz.e1,c0,sz.c1,?_)
    .rcases aa3.mp hc with z| z
     .let(x,hx,e):=abJ z;have:=no.nr x (by rw[<-no.len];show hx);rw[aac,aaa hx]at this;rw[<-e];show xW this p.cl
     .rw[abj.mp z];show p.gn
    rw[en];show h _
def yf:∀(ps:List (Fr×Fr)) (w:Fr),Red w->(∀p∈ps,0 < p.1.2/\0 < p.2.2)->Red (ps.foldl (λw p=>kR w (bw p.1 p.2)) w)
 | [],w,h,_=>h
 | p::ps,w,h,hp=>by let(a,b):=hp p aal;let t:Red (bw p.1 p.2):=eJ (ab0 (aa6 a b));show yf ps _ (eJ (ab0 (aa6 h.pos t.pos))) λx hx=>hp x (aai _ hx)
structure FW(ε:Fr)(γ:List Rw)(X C:Int):Prop where
 pl:MS ε γ
 n1:1<=-γ
 XG:∀k ds,Rw.Λ k ds∈γ->Ι k=true->∀d∈ds,d.2.2=[]
 pay:∀k ds,Rw.Λ k ds∈γ->∃E,0 < E/\E<=X/\∀d∈ds,Nr E C d.2.1
 fin:∀p,Rw.fin p∈γ->∃E,0 < E/\E<=X/\Nr E C p
 x1:X<=10 ^ 36
 c9:9<=C
 c1:C<=10 ^ 30
def BP(X C:Int):Int:=6 * C * (1000000000 * X)
def TY(Θ:Pl)(i:Nat):Rw->List eL
 | .fin _=>[]
 | .Λ k ds=>bo Θ i (.Λ k ds)
def X9(Θ:Pl)(i:Nat):Rw->Fr
 | .fin p=>p
 | .Λ k ds=>lq (((bo Θ i (.Λ k ds)).map χ).zip ((bo Θ i (.Λ k ds)).map (·.2.1)))
def KR(γ:List Rw)(i:Nat):Rw:=γ.getD i (.fin (0, 1))
structure Yz(n:Nat)(B E C:Int)(d:eL):Prop where
 to:0<=d.1/\d.1 < n
 one:d.2.2=[χ d]
 ch:Ch B (χ d)
 py:Nr E C d.2.1
section
variable{ε:Fr}{γ:List Rw}{X:Int}{Θ:Pl}
def FW.Ψ(fw:FW ε γ X C)(dk:CJ γ Θ){k:Str}{ds:List eL}(hi:γ[i]? =!(.Λ k ds)):-(bo Θ i (.Λ k ds))<=6/\cP cV (bo Θ i (.Λ k ds))=1/\(∀d∈bo Θ i (.Λ k ds),0<=cV d)/\∃B E,0 < B/\B<=1000000/\0 < E/\E<=X/\∀d∈bo Θ i (.Λ k ds),Yz (-γ) B E C d:=by
 let rm:Rw.Λ k ds∈γ:=aaI hi;let dr:=mw fw.pl rm;let(E,e0,eX,hp):=fw.pay k ds rm;cases hh:Ι k with
 | true=>
  let(j,hj,jl):=dk.hand i _ hi hh;let jl:j < -ds:=jl;let gd:ds.getD j d0=ds[j]:=by rw[aac,aaa jl];rfl
  let dm:=aaU jl;let e:bo Θ i (.Λ k ds)=[(ds[j].1, ds[j].2.1,[(1, 1)])]:=by unfold bo;rw[hj];change[((ds.getD ((j:Int)).toNat d0).1, (ds.getD ((j:Int)).toNat d0).2.1,(ds.getD ((j:Int)).toNat d0).2.2++[(1, 1)])]=_;rw[acz,gd,fw.XG k ds rm hh _ dm];rfl
  let v1:cV (ds[j].1, ds[j].2.1,[((1, 1):Fr)])=1:=by change((1:Int):Rat) / ((1:Int):Rat)=1;grind
  rw[e];show(by simp,?_,λd hd=>?_,1,E,@_,@_,e0,eX,λd hd=>?_)
  .change cV (ds[j].1, ds[j].2.1,[(1, 1)])+0=1;rw[v1];grind
  .rw[List.mem_singleton.mp hd,v1];grind
  .rw[abj.mp hd];show(dr.to ds[j] dm,rfl,?_,hp ds[j] dm);change Ch 1 ((1, 1):Fr);show(@_,(1,@_),(@_,@_),vY (k:=2) (@_,@_,@_) @_)
 | false=>
  let hc:k="chance"/\HN (ds.map χ):=by
   rcases dr.kd with z| ⟨_,z⟩
   .rw[z]at hh;cases hh
   .show z
  let(rfl,co):=hc;let e:bo Θ i (.Λ "chance" ds)=ds:=by unfold bo;rw[dk.zd i _ hi hh];rfl
  let(s1,s2):=MZ co;rw[e];show(dr.l6,s1,s2,bA (ds.map χ),E,co.b0,co.b1,e0,eX,λd hd=>?_);let(a,b,c,f):=ML co (aaH.mpr (d,hd,rfl));show(dr.to d hd,(dr.ro.2.2.1 rfl).1 d hd,(a,yW b,c,f),hp d hd)
def Og{p:Fr}(h:Nr E C p)(e0:0 < E)(e1:E<=10 ^ 36)(c0:0<=C)(c1:C<=10 ^ 30):Nb E C p:=J' h.red h.he h.ab (e0,aaY e1 @_,c0,aaY c1 @_)
def FW.sh(fw:FW ε γ X C):0 < ε.2/\ε.2<=1000/\gy ε/\0<=val ε/\val ε < 1/\1<=1000 * (1 - val ε):=by
 let h:=fw.pl.sh;let(a,b,c):=IH h;unfold aU at h;rw[aaA,aaA,aaW,aaW,aaW]at h;let(h1,h2,h3):=h;let ev:val ε * (ε.2:Rat)=ε.1:=by
  have:=dH (show ε.2≠0 by omega);unfold val;generalize (ε.1:Rat)=x at *
  generalize (ε.2:Rat)=y at *
  grind
 let p:(0:Rat) < (ε.2:Rat):=Rat.intCast_lt_intCast.mpr a;let q:(ε.2:Rat)<=((1000:Int):Rat):=Rat.intCast_le_intCast.mpr b;let r:(ε.1:Rat)+((1:Int):Rat)<=(ε.2:Rat):=by rw[<-Rat.intCast_add];show Rat.intCast_le_intCast.mpr ()
 let q:(ε.2:Rat)<=1000:=q;let r:(ε.1:Rat)+1<=(ε.2:Rat):=r;let lt:val ε < 1:=by
  by_cases z:val ε < 1
  .show z
  .have:=Rat.mul_le_mul_of_nonneg_right (show 1<=val ε by grind) (Rat.le_of_lt p);grind
 show(a,b,c,qB a h1,lt,?_);have:=Rat.mul_le_mul_of_nonneg_right q (show 0<=1 - val ε by grind);grind
def FW.Mc(fw:FW ε γ X C)(dk:CJ γ Θ){r:Rw}(hi:γ[i]? =!r):∃E,uA ε (-γ) E (6 * C) (TY Θ i r) (X9 Θ i r)/\6 * C * E<=BP X C/\XB E (6 * C)/\(∀d∈TY Θ i r,∃c,d.2.2=[c])/\∀d∈TY Θ i r,Sz 300 (χ d):=by
 let(s0,s1,su,_):=fw.sh;let c9:=fw.c9;let c1:=fw.c1;let x1:=fw.x1;let rm:r∈γ:=aaI hi;let SD:∀E,E<=1000000000 * X->6 * C * E<=BP X C:=λE h=>aaD h ();cases r with
 | fin p=>
  let(E,e0,eX,hp):=fw.fin p rm;show(E,((λ_ z=>(nomatch z),λ_ z=>(nomatch z),by change(0:Rat)<=1;grind),λ_ z=>(nomatch z),xW hp (),e0,by change 1+0<=6 * C;omega),SD E (),(Int.lt_of_le_of_lt eX (),()),λ_ z=>(nomatch z),λ_ z=>(nomatch z))
 | Λ k ds=>
  let(l6,one,pos,B,E,b0,b1,e0,eX,hw):=fw.Ψ dk hi;change∃E,uA ε (-γ) E (6 * C) (bo Θ i (.Λ k ds)) (lq (((bo Θ i (.Λ k ds)).map χ).zip ((bo Θ i (.Λ k ds)).map (·.2.1))))/\6 * C * E<=BP X C/\XB E (6 * C)/\(∀d∈bo Θ i (.Λ k ds),∃c,d.2.2=[c])/\∀d∈bo Θ i (.Λ k ds),Sz 300 (χ d);generalize UJ:bo Θ i (.Λ k ds)=ws at *
  let be0:0 < B * E:=aa6 b0 e0;let be1:B * E<=1000000 * X:=abR b1 eX (aas e0) @_;let se0:0 < ε.2 * (B * E):=aa6 s0 be0;let se1:ε.2 * (B * E)<=1000 * (1000000 * X):=abR s1 be1 (aas be0) @_
  let nb:=sk (E:=E) (B:=B) (C:=C) b0 e0 (aaY be1 ()) () () ((ws.map χ).zip (ws.map (·.2.1))) (0, 1) 0 (by rw[abi,aae,aae];omega) (by rw[Int.natCast_zero,Int.zero_mul];show VU) (λp hp=>by
   let(q1,q2):=abL hp;let(d1,m1,x1):=aaH.mp q1;let(d2,m2,x2):=aaH.mp q2
   show(by rw[<-x1];show(hw d1 m1).ch,by rw[<-x2];show Og (hw d2 m2).py e0 () () c1))
  let red:Red (lq ((ws.map χ).zip (ws.map (·.2.1)))):=yf _ _ (@_,@_) λp hp=>by let(q1,q2):=abL hp;let(d1,m1,x1):=aaH.mp q1;let(d2,m2,x2):=aaH.mp q2;show(by rw[<-x1];show(hw d1 m1).ch.pos,by rw[<-x2];show(hw d2 m2).py.red.pos)
  show(ε.2 * (B * E),((λd hd=>(hw d hd).to,pos,by rw[one];grind),λd hd=>(s0,su,(hw d hd).ch.pos,(hw d hd).ch.u,?_),(red,?_,?_),se0,()),SD _ (),(Int.lt_of_le_of_lt se1 (),()),λd hd=>(_,(hw d hd).one),λd hd=>(hw d hd).ch.sz)
  .have:=Aj E (sC s0 (hw d hd).ch.pos (Hb ε) (hw d hd).ch.he);rwa[acw]at this
  .have:=Aj ε.2 nb.he;rwa[abc]at this
  .show PN red.pos nb.ab ?_;show aaQ ?_ ();rw[abi,aae,aae];omega
def rw_at(h:i < -γ):γ[i]? =!(KR γ i):=by unfold KR;rw[aac,aaa h];rfl
abbrev Lq(γ:List Rw)(Θ:Pl)(i:Nat):List eL:=TY Θ i (KR γ i)
abbrev Lw(γ:List Rw)(Θ:Pl)(i:Nat):Fr:=X9 Θ i (KR γ i)
def FW.sys(fw:FW ε γ X C)(dk:CJ γ Θ)(b1:1<=BP X C):Sys ε (-γ) (BP X C) (Lq γ Θ) (Lw γ Θ):=by let(_,_,_,v0,v1,_):=fw.sh;show(fw.n1,v0,v1,b1,λi hi=>?_);let(E,p,l,_):=fw.Mc dk (rw_at hi);show(E,_,p,l)
structure Wth(ε:Fr)(γ:List Rw)(Θ:Pl)(tb:List Fr):Prop where
 tab:Tab ε (-γ) (Lq γ Θ) (Lw γ Θ) tb
 bot:∀i,i < -γ->(tb.getD i (0, 1)).2 < 2 ^ 1030
end
def KZ(A:Addr):DF:=λas M q _=>∃ε γ i r k Θ X C,as=[aK A ε γ,.int (i:Nat),.loc k]/\M[k]? =!(dP Θ)/\γ[i]? =!r/\CJ γ Θ/\FW ε γ X C/\∀E',q (bV (lN ε (-γ) i (TY Θ i r) (X9 Θ i r))) (M++E')
def nC:Β ["floor","place","doors","ways","paid"] ["floor","place","doors"] (ν BR):=.of rfl
def JY(F:dh K "row_of" "row_of" BR f fd)(E:Ev K mg Cm CN CF Ca Ci Cd Ce Cg Cj Cb Cc Ck)(aa:hI P w K mg base 1 Cm "kind" ["self","place"] (r_ Cm) bb bc){MQ:Addr}{MY:FuncData}(nq:ax P w K mg base 5 "led_row" ["floor","place","ways","share","given"] (Ve Cm) MQ MY){Gz:Addr}{Fb:FuncData}(lG:hI P w K mg base 2 Cm "pay" ["self","place"] (VG Cm) Gz Fb){zQ:Addr}{zG:FuncData}(fP:hI P w K mg base 1 Cm "share" ["self"] (Ke Cm) zQ zG){Gs:Addr}{FP:FuncData}(mh:ax P w K mg base 3 "ways_from" ["floor","place","doors"] (Oa Cm) Gs FP){Jk:Addr}{HV:FuncData}(nP:ax P w K mg base 4 "weighed" ["chances","numbers"] zT Jk HV):ae P w K mg base (bC P w) 6 f fd ["floor","place","doors"] (cZ K (KZ Cm)):=by
 show F.eK nC (λds M q x h=>?_) (λaP A outer s H E' hr=>(_,(ζ (aC (cG hr (iQ aa hr ο (jv 0) (Ο (jv 1) η)) fm) (ι (Δ (ah nq hr ο (Ο (jv 0) (Ο (jv 1) (θ (jg η) (θ (kh fP hr ο (jv 0)) (θ (iQ lG hr ο (jv 0) (Ο (jv 1) η)) η br) br))))))) Ρ)
   (ζ (Α 3 nC.nd (ah mh hr ο (Ο (jv 0) (Ο (jv 1) (Ο (jv 2) η)))))
   (ζ (Α 4 nC.nd (ah nP hr ο (θ (g9 (ys:=[]) (Χ:=[]) (.of nC rfl rfl rfl) (bR (jv 3)) (λC s H fp=>(Κ (jv 0) τ))) (θ (g9 (ys:=[]) (Χ:=[]) (.of nC rfl rfl rfl) (bR (jv 3)) (λC s H fp=>(Κ (jv 0) τ))) η))))
   (ι (Δ (ah nq hr ο (Ο (jv 0) (Ο (jv 1) (Ο (jv 3) (θ (kh fP hr ο (jv 0)) (Ο (jv 4) η) br)))))))))),λds M q x h=>?_))
 .let(ε,γ,i,r,k,Θ,X,C,rfl,_):=h;rfl
 .let(ε,γ,i,r,k,Θ,X,C,rfl,hk,hi,dk,fw,h):=h;let il:=(aaj.mp hi).1;let mq:=fw.pl.len;let rm:r∈γ:=aaI hi;let ro:=(fw.pl.row r rm).1;let(Ep,p,_,sz,one,R5):=fw.Mc dk hi;let sl:∀{z:Nat},z<=1000->z<=sizeLine:=λh=>aaJ h @_;show((_,_,.inl rfl,rfl),ε,γ,i,r,rfl,hi,?_);cases r with
  | fin pp=>
   show(λ_=>?_,nofun);walk_at "vc";show(sl @_,?_);show((_,_,.inl rfl,rfl),ε,γ,rfl,?_);show((_,_,.inl rfl,rfl),ε,γ,i,.fin pp,rfl,hi,ro,?_);show(ε,γ,i,[],pp,Ep,6 * C,rfl,il,mq,fw.pl.sh,one,p,sz,R5,h)
  | Λ kd ds=>
   show(λz=>aaO (aaP z) ro.1,λ_=>?_);let(l6,_,_,B,E,b0,b1,e0,eX,hw):=fw.Ψ dk hi;let c9:=fw.c9;let c1:=fw.c1;let x1:=fw.x1;let h:∀E',q (bV (lN ε (-γ) i (bo Θ i (.Λ kd ds)) (lq (((bo Θ i (.Λ kd ds)).map χ).zip ((bo Θ i (.Λ kd ds)).map (·.2.1)))))) (M++E'):=h;let p:uA ε (-γ) Ep (6 * C) (bo Θ i (.Λ kd ds)) (lq (((bo Θ i (.Λ kd ds)).map χ).zip ((bo Θ i (.Λ kd ds)).map (·.2.1)))):=p;let one:∀d∈bo Θ i (.Λ kd ds),∃c,d.2.2=[c]:=one;let R5:∀d∈bo Θ i (.Λ kd ds),Sz 300 (χ d):=R5;show(ε,γ,i,.Λ kd ds,k,Θ,rfl,hk,hi,ro,dk,?_);generalize bo Θ i (.Λ kd ds)=ws at *
   dsimp only[oO,fJ];walk_at "vc";show(by rw[aae];show sl (),?_);show dJ (F:=λx d=>x=ff d/\d∈ws) (f:=λd=>aE (χ d)) (as:=ws) trivial (λx d hx qq hq=>?_) (jx ff ws ws λx hx=>hx) ?_
   .let(rfl,hd):=hx;walk_at "vc";show Ow (hw d hd).one hq
   rw[aa4];show(by rw[aae];show sl (),?_);show dJ (F:=λx d=>x=ff d/\d∈ws) (f:=λd=>aE d.2.1) (as:=ws) trivial (λx d hx qq hq=>?_) (jx ff ws ws λx hx=>hx) ?_
   .let(rfl,hd):=hx;walk_at "vc";show Vd hq
   rw[aa4];show(ws.map χ,ws.map (·.2.1),E,B,C,by rw[aaT,aaT];rfl,by rw[aae];show l6,b0,e0,?_,(),(),λc hc=>?_,λc hc=>?_,?_)
   .have:B * E<=1000000 * X:=abR b1 eX (aas e0) @_;show aaY this ()
   .let(d,hd,rfl):=aaH.mp hc;show(hw d hd).ch
   .let(d,hd,rfl):=aaH.mp hc;show Og (hw d hd).py e0 () () c1
   show((_,_,.inl rfl,rfl),ε,γ,rfl,?_);show(ε,γ,i,ws,_,Ep,6 * C,rfl,il,mq,fw.pl.sh,one,p,sz,R5,h)
def S9(A:Addr):DF:=λas M q _=>∃ε γ k Θ X C,as=[aK A ε γ,.loc k]/\M[k]? =!(dP Θ)/\CJ γ Θ/\FW ε γ X C/\BP X C<=2 ^ 450/\(12 * BP X C) ^ (-γ) < 2 ^ 1030/\∀tb,Wth ε γ Θ tb->q (.loc (-M)) (M++[.lst (tb.map aE)])
def rO:Β ["floor","doors"] ["floor","doors"] (ν oF):=.of rfl
def Ac(F:dh K "worths_by" "worths_by" oF f fd)(E:Ev K mg Cm CN CF Ca Ci Cd Ce Cg Cj Cb Cc Ck){Fj:Addr}{FE:FuncData}(md:ax P w K mg base 4 "answer_of" ["rows"] vQ Fj FE)(aO:hI P w K mg base 1 Cm "size" ["self"] (yK Cm) dM dX){QN:Addr}{Pw:FuncData}(wQ:ax P w K mg base 6 "row_of" ["floor","place","doors"] (KZ Cm) QN Pw):ae P w K mg base (bC P w) 7 f fd ["floor","doors"] (cZ K (S9 Cm)):=by
 show F.eK rO (λds M q x h=>?_) (λaP A outer s H E' hr=>(_,(ι (Δ (ah md hr ο (θ (Pd (ys:=["floor","doors"]) (Χ:=[0,1]) (.of rO rfl rfl rfl) (cK E.bY (θ (kh aO hr ο (jv 0)) η br)) (λC s H fp=>(cC (ah wQ hr (iR (P:=P) (w:=w)) (Ο (jv 1) (Ο (jv 0) (Ο (jv 2) η))))))) η)))),λds M q x h=>?_))
 .let(ε,γ,k,Θ,X,C,rfl,_):=h;rfl
 .let(ε,γ,k,Θ,X,C,rfl,hk,dk,fw,qV,vk,h):=h;let mq:=fw.pl.len;let n1:=fw.n1;let b1:1<=BP X C:=by let(E,p,l,_):=fw.Mc dk (rw_at (show 0 < -γ by omega));let c9:=fw.c9;have:=aaD (show 1<=E by have:=p.e0;omega) (show 0<=6 * C by omega);omega
  let S:=fw.sys dk b1;let(tb,z,N,sol,n0,SW,tab,bot):=S.ex mq;let sl:∀{z:Nat},z<=1000->z<=sizeLine:=λh=>aaJ h @_;walk_at "vc";dsimp only[KI];walk_at "vc";show((_,_,.inl rfl,rfl),ε,γ,rfl,?_);show(((),()),by rw[gm];show sl (),?_);show uj (f:=λx=>match x with| .int j=>bV ((gO ε (-γ) (Lq γ Θ) (Lw γ Θ)).getD j.toNat [])| _=>.aV) _ _ (λx hxm q' hq=>?_) ?_
  .let(j,hj,rfl):=rz hxm;let hj:j < -γ:=()
   rw[Int.zero_add]at hq⊢;let hq:q' (bV ((gO ε (-γ) (Lq γ Θ) (Lw γ Θ)).getD j [])) M:=hq;let e:(gO ε (-γ) (Lq γ Θ) (Lw γ Θ)).getD j []=lN ε (-γ) j (Lq γ Θ j) (Lw γ Θ j):=by unfold gO;rw[aac,aan,aaX hj];rfl
   rw[e]at hq;show(ε,γ,j,KR γ j,k,Θ,X,C,rfl,hk,rw_at hj,dk,fw,λE'=>lO (.old (fc _)) hq)
  let er:=Mm (gO ε (-γ) (Lq γ Θ) (Lw γ Θ)) [] bV;rw[ko]at er;rw[aa4,show((-γ:Int)).toNat=-γ by omega];show(λ(key:∀l,l=(gO ε (-γ) (Lq γ Θ) (Lw γ Θ)).map bV->vQ [.lst l] M q _)=>key _ er) λl hl=>?_;subst hl;let ln:∀r∈gO ε (-γ) (Lq γ Θ) (Lw γ Θ),-r=-γ+1:=λr mr=>by unfold gO at mr;let(i,hi,rfl):=aaH.mp mr;let(E,p,_):=fw.Mc dk (rw_at (abg.mp hi));show(AX (abg.mp hi) p).1
  let bd:=S.bd;show(gO ε (-γ) (Lq γ Θ) (Lw γ Θ),-γ,BP X C,tb,z,N,rfl,(by rw[ko];show n1,by rw[ko];show mq,mq,ln,by rw[ko];show bd,qV),n1,tab.len,by rw[ko];show sol,n0,λi hi=>((tab.red i hi).pos,(tab.red i hi).low,SW i hi),by rw[ko];show S.ker,?_);show h tb (tab,λi hi=>aaY (bot i hi) vk)
def xf(A CP:Addr):DF:=λas M q x=>∃ε γ k1 k2 p1 p2 X C,as=[aK A ε γ,.loc k1,.loc k2]/\M[k1]? =!(dP p1)/\M[k2]? =!(dP p2)/\FW ε γ X C/\BP X C<=2 ^ 450/\(12 * BP X C) ^ (-γ) < 2 ^ 1030/\((∀i,i < -γ->bx γ (aB p1 p2) i=true)->∀tb,Wth ε γ (gh γ (aB p1 p2) (-γ)) tb->∀m1 m2,q (.loc (-M+2)) (M++[m1,m2,.lst (tb.map aE)]))/\∀j,j < -γ->bx γ (aB p1 p2) j=false->(∀i,i < j->bx γ (aB p1 p2) i=true)->∀E,x CP [("place", .int (j:Int))] (M++E)
def BM:Β ["floor","plan_one","plan_other"] ["floor","plan_one","plan_other"] (ν oS):=.of rfl
def y6(F:dh K "worths_of" "worths_of" oS f fd)(E:Ev K mg Cm CN CF Ca Ci Cd Ce Cg Cj Cb Cc Ck){GO:Addr}{Gb:FuncData}(lR:ax P w K mg base 7 "worths_by" ["floor","doors"] (S9 Cm) GO Gb)(dc:ax P w K mg base 4 "doors_of" ["floor","plans"] (mK Cm Ci) j6 j5):ae P w K mg base (bC P w) 8 f fd ["floor","plan_one","plan_other"] (cZ K (xf Cm Ci)):=by
 show F.eK BM (λds M q x h=>?_) (λaP A outer s H E' hr=>(_,(ι (Δ (ah lR hr ο (Ο (jv 0) (θ (ah dc hr ο (Ο (jv 0) (θ (p9 (jv 1) (jv 2)) η))) η br))))),λds M q x h=>?_))
 .let(ε,γ,k1,k2,p1,p2,X,C,rfl,_):=h;rfl
 .let(ε,γ,k1,k2,p1,p2,X,C,rfl,h1,h2,fw,qV,vk,h,hb):=h;show(ε,γ,-M,aB p1 p2,rfl,Gw.pls (k1,k2,aL,ay h1,ay h2),fw.pl,λgd=>?_,λj jl bj gj E=>?_)
  rotate_left
  .have:=hb j jl bj gj ([.cB [Sum.inr "one",Sum.inr "other"] [.loc k1,.loc k2]]++E);rwa[<-abm]at this
  show(ε,γ,_,_,X,C,rfl,aL,Tq gd,fw,qV,vk,λtb wt=>?_);have:=h gd tb wt (.cB [Sum.inr "one",Sum.inr "other"] [.loc k1,.loc k2]) (dP (gh γ (aB p1 p2) (-γ)));simpa [List.append_assoc] using this
def sS{k:Nat}{m:MO}(h:M[k]? =!m):M.set k m=M:=by
 apply acB;intro i;rw[List.getElem?_set];split
 .rename_i e;subst e;rw[aaG (aaj.mp h).1,h]
 .rfl
def pR{i:Int}:∀{pl:Pl},i∉pl.map (·.1)->ar pl i=none
 | [],_=>rfl
 | p::r,h=>by unfold ar;rw[aaE λz=>h (by rw[<-z];show aal)];show pR λz=>h (aai _ z)
def bu(γ:List Rw)(i:Nat):Str:=match γ[i]? with
 | some r=>kindOf r
 | none=>""
def mV(γ:List Rw)(hand:Str):List Nat:=(List.range (-γ)).filter λi=>decide (bu γ i=hand)
def aN(γ:List Rw)(hand:Str):Pl:=(mV γ hand).map λi:Nat=>((i:Int), 0)
def qv(p:Nat->Bool)(n:Nat):((dj 0 n).filter λx=>match x with| .int j=>p j.toNat| _=>false)=((List.range n).filter p).map λi:Nat=>Dt.int i:=by
 unfold dj;rw[List.filter_map];let e:((λx:Dt=>match x with| .int j=>p j.toNat| _=>false) ∘ λi:Nat=>Dt.int (0+(i:Int)))=p:=funext λi=>by change p (0+(i:Int)).toNat=p i;rw[show(0+(i:Int)).toNat=i by omega]
 rw[e];show abB λi _=>by change Dt.int (0+(i:Int))=Dt.int i;rw[Int.zero_add]
def DU(A:Addr):DF:=λas M q _=>∃(ε:Fr) (γ:List Rw) (hand:Str),as=[aK A ε γ,.str hand]/\-γ<=12/\q (.lst ((mV γ hand).map λi:Nat=>Dt.int i)) M
def rR:Β ["floor","hand"] ["floor","hand"] (ν oQ):=.of rfl
def yj(F:dh K "places_of" "places_of" oQ f fd)(E:Ev K mg Cm CN CF Ca Ci Cd Ce Cg Cj Cb Cc Ck)(aO:hI P w K mg base 1 Cm "size" ["self"] (yK Cm) dM dX)(aa:hI P w K mg base 1 Cm "kind" ["self","place"] (r_ Cm) bb bc):ae P w K mg base (bC P w) 2 f fd ["floor","hand"] (cZ K (DU Cm)):=by
 show F.eK rR (λds M q x h=>?_) (λaP A outer s H E' hr=>(_,(ι (Δ (yn (ys:=["hand","floor"]) (Χ:=[1,0]) (.of rR rfl rfl rfl) (IG (cK E.bY (θ (kh aO hr ο (jv 0)) η br))) (λC s H fp=>(cG hr (iQ aa hr (iR (P:=P) (w:=w)) (jv 2) (Ο (jv 0) η)) (jv 1))) (λC s H fp=>(jv 0))))),λds M q x h=>?_))
 .let(ε,γ,hand,rfl,_):=h;rfl
 .let(ε,γ,hand,rfl,mq,h):=h;let sl:∀{z:Nat},z<=1000->z<=sizeLine:=λh=>aaJ h @_;walk_at "vc";dsimp only[qG,Z0];walk_at "vc";show((_,_,.inl rfl,rfl),ε,γ,rfl,?_);show((),by rw[gm];show sl (),?_);rw[show((-γ:Int)).toNat=-γ by omega];show cT trivial (λx=>match x with| .int j=>decide (bu γ j.toNat=hand)| _=>false) (λx=>x) _ _ (λx hx q' p' h1 h2=>?_) ?_
  .let(j,hj,rfl):=rz hx;rw[Int.zero_add]at h1 h2⊢;let hr:γ[j]? =!γ[j]:=aaa hj;let M9:bu γ j=kindOf γ[j]:=by unfold bu;rw[hr]
   let h1:decide (bu γ j=hand)=true->q' (.int (j:Int)) M:=h1;let h2:decide (bu γ j=hand)=false->p' M:=h2;rw[M9]at h1 h2;show((_,_,.inl rfl,rfl),ε,γ,j,γ[j],rfl,hr,?_);change(match decide (kindOf γ[j]=hand) with| true=>q' (.int (j:Int)) M| false=>p' M);cases hb:decide (kindOf γ[j]=hand) with
   | true=>show h1 hb
   | false=>show h2 hb
  .rw[aa4,acG];show(λ(key:∀l,l=(mV γ hand).map (λi:Nat=>Dt.int i)->q (.lst l) M)=>key _ (qv (λi=>decide (bu γ i=hand)) (-γ))) λl hl=>by rw[hl];show h
def C7(A:Addr):DF:=λas M q _=>∃(ε:Fr) (γ:List Rw) (hand:Str),as=[aK A ε γ,.str hand]/\-γ<=12/\q (.loc (-M)) (M++[dP (aN γ hand)])
def jH:Β ["floor","hand","plan","place"] ["floor","hand"] (ν k8):=.of rfl
def vj(F:dh K "first_plan" "first_plan" k8 f fd)(E:Ev K mg Cm CN CF Ca Ci Cd Ce Cg Cj Cb Cc Ck){Fq:Addr}{F_:FuncData}(kZ:ax P w K mg base 2 "places_of" ["floor","hand"] (DU Cm) Fq F_):ae P w K mg base (bC P w) 3 f fd ["floor","hand"] (cZ K (C7 Cm)):=by
 show F.eK jH (λds M q x h=>?_) (λaP A outer s H E' hr=>(_,(ζ (Α 2 jH.nd qF)
   (ζ (eE (bR (ah kZ hr ο (Ο (jv 0) (Ο (jv 1) η)))) (ag (i:=3) jH.nd rfl (Or.inl rfl)) aJ (ι (fV hr (jv 2) (jv 3) τ)))
   (ι (Δ (jv 2))))),λds M q x h=>?_))
 .let(ε,γ,hand,rfl,_):=h;rfl
 .let(ε,γ,hand,rfl,mq,h):=h;let aho:-(mV γ hand)<=12:=by have:=List.length_filter_le (λi=>decide (bu γ i=hand)) (List.range (-γ));rw[abe]at this;unfold mV;omega
  let pnd:(mV γ hand).Nodup:=List.nodup_range.filter _;walk_at "vc";dsimp only[qO,fJ];walk_at "vc";show(ε,γ,hand,rfl,mq,?_);show cf (λxs ρ' M'=>∃(fE rest:List Nat) (o3:Option Dt),mV γ hand=fE++rest/\xs=rest.map (λi:Nat=>Dt.int i)/\M'=M++[dP (fE.map λi:Nat=>((i:Int), 0))]/\ρ'=[!(aK Cm ε γ),!(.str hand),!(.loc (-M)),o3]) (λxs ρ' M' hj=>trivial) (λx xs ρ' M' hj fD=>?_) (λρ' M' hj=>?_) _ _ _ ([],mV γ hand,none,rfl,rfl,rfl,rfl)
  .let(fE,rest,o3,e,ex,rfl,rfl):=hj;cases rest with
   | nil=>cases ex
   | cons i rest=>
    cases ex;let dl:-fE<=12:=by have:=aba List.length e;rw[aaC]at this;omega
    dsimp only[lB];walk_at "vc";show(-M,_,_,Sum.inl (i:Int),rfl,aL,rfl,by unfold kP;rw[List.length_map,List.length_map];omega,?_);rw[oY (v:=0),pq,b9];let gn:ar (fE.map λi:Nat=>((i:Int), 0)) (i:Int)=none:=pR λy=>by
     rw[aaT]at y;let(j,hj,ej):=aaH.mp y;let ej:(j:Int)=(i:Int):=ej;have:j=i:=()
     subst this;rw[e,acA]at pnd;show pnd.2.2 _ hj _ aal rfl
    show fD _ _ (fE++[i],rest,_,by rw[e,abm];rfl,rfl,?_,rfl);unfold eB;rw[gn,aaE @_,abb];rfl
  .let(fE,rest,o3,e,ex,rfl,rfl):=hj;have:rest=[]:=by cases rest with| nil=>rfl| cons p r=>cases ex
   subst this;rw[aa0]at e;rw[<-e];show h
def Hq(hand:Str)(pl:Pl):Str->Option Pl:=λz=>if z=hand then !pl else none
def Ey{k:Nat}{pl:Pl}(h:M[k]? =!(dP pl)):Ry (M++[.cB [Sum.inr hand] [.loc k]]) (-M) (Hq hand pl):=by
 show(_,_,aL,λz=>(?_,λq e=>?_))
 .unfold Hq;change(decide ((Sum.inr hand:Key)=Sum.inr z)|| false)=_;rw[Bool.or_false];by_cases y:z=hand
  .rw[aaG y,aax (by rw[y])];rfl
  .rw[aaE y,aaB λx=>y (Sum.inr.inj x).symm];rfl
 .unfold Hq at e;split at e
  .rename_i y;cases e;subst y;show(k,?_,ay h);change((List.zip [Sum.inr z] [Dt.loc k]).find? _).map _=_;simp[List.zip]
  .cases e
def R9(γ:List Rw)(pf:Str->Option Pl)(j:Nat):Prop:=j < -γ/\bx γ pf j=false/\∀i,i < j->bx γ pf i=true
def Fd(A CP:Addr):DF:=λas M _ x=>∃ε γ hand k p j,as=[aK A ε γ,.str hand,.loc k]/\M[k]? =!(dP p)/\MS ε γ/\R9 γ (Hq hand p) j/\∀E,x CP [("place", .int (j:Int))] (M++E)
def uH:Β ["floor","hand","plan","held","answer","table","better"] ["floor","hand","plan"] (ν sE):=.of rfl
def B8(F:dh K "against" "against" sE f fd)(E:Ev K mg Cm CN CF Ca Ci Cd Ce Cg Cj Cb Cc Ck)(dc:ax P w K mg base 4 "doors_of" ["floor","plans"] (mK Cm Ci) j6 j5):ae P w K mg base (bC P w) 9 f fd ["floor","hand","plan"] (cZ K (Fd Cm Ci)):=by
 show F.eK uH (λds M q x h=>?_) (λaP A outer s H E' hr=>(_,(ζ (Α 3 uH.nd (ah dc hr ο (Ο (jv 0) (θ (x8 (jv 1) (jv 2)) η))))
   (ζ bJ
   (ζ bJ
   (ζ bJ
   (ζ bJ
   (ι bJ)))))),λds M q x h=>?_))
 .let(ε,γ,hand,k,p,j,rfl,_):=h;rfl
 .let(ε,γ,hand,k,p,j,rfl,hk,pl,(jl,bj,gj),h):=h;walk_at "vc";dsimp only[C1];walk_at "vc";show(Sum.inr hand,rfl,?_);show(ε,γ,-M,Hq hand p,rfl,Ey hk,pl,λgd=>?_,λj' jl' N_ Uv E=>?_)
  .rw[gd j jl]at bj;cases bj
  .have:j'=j:=by
    rcases Nat.lt_trichotomy j' j with z| z| z
    .rw[gj j' z]at N_;cases N_
    .show z
    .rw[Uv j z]at bj;cases bj
   subst this;have:=h ([.cB [Sum.inr hand] [.loc k]]++E);rwa[<-abm]at this
def Fe:Β ["floor","hand","start"] ["floor","hand","start"] (ν rJ):=.of rfl
def Bj(F:dh K "started" "started" rJ f fd)(E:Ev K mg Cm CN CF Ca Ci Cd Ce Cg Cj Cb Cc Ck)(dc:ax P w K mg base 4 "doors_of" ["floor","plans"] (mK Cm Ci) j6 j5):ae P w K mg base (bC P w) 5 f fd ["floor","hand","start"] (cZ K (Fd Cm Ci)):=by
 show F.eK Fe (λds M q x h=>?_) (λaP A outer s H E' hr=>(_,(ζ (aC (Q5 (jv 2) A7) (ι bJ) Ρ)
   (ι (Δ (ah dc hr ο (Ο (jv 0) (θ (x8 (jv 1) (jv 2)) η)))))),λds M q x h=>?_))
 .let(ε,γ,hand,k,p,j,rfl,_):=h;rfl
 .let(ε,γ,hand,k,p,j,rfl,hk,pl,(jl,bj,gj),h):=h;show(rfl,nofun,λ_=>?_);walk_at "vc";dsimp only[C1];walk_at "vc";show(Sum.inr hand,rfl,?_);show(ε,γ,-M,Hq hand p,rfl,Ey hk,pl,λgd=>?_,λj' jl' N_ Uv E=>?_)
  .rw[gd j jl]at bj;cases bj
  .have:j'=j:=by
    rcases Nat.lt_trichotomy j' j with z| z| z
    .rw[gj j' z]at N_;cases N_
    .show z
    .rw[Uv j z]at bj;cases bj
   subst this;have:=h ([.cB [Sum.inr hand] [.loc k]]++E);rwa[<-abm]at this
def z6:Β ["floor","hand","start","plan","rounds","found","better"] ["floor","hand","start"] (ν xD):=.of rfl
def FI{U:Addr}(F:GS K "mended" xD U its f fd)(E:Ev K mg Cm CN CF Ca Ci Cd Ce Cg Cj Cb Cc Ck){JO:Addr}{HK:FuncData}(oo:ax P w K mg base 5 "started" ["floor","hand","start"] (Fd Cm Ci) JO HK):ae P w K mg base (bC P w) 9 f fd ["floor","hand","start"] (cZ K (Fd Cm Ci)):=by
 show F.eK z6 (λds M q x h=>?_) (λaP A outer s H E' hr=>(_,(ζ (Α 3 z6.nd (ah oo hr ο (Ο (jv 0) (Ο (jv 1) (Ο (jv 2) η)))))
   (ζ bJ
   (ι bJ))),λds M q x h=>?_))
 .let(ε,γ,hand,k,p,j,rfl,_):=h;rfl
 .let(ε,γ,hand,k,p,j,rfl,hk,pl,bd,h):=h;show(ε,γ,hand,k,p,j,rfl,hk,pl,bd,h)
def V8(h1: - (10 ^ 30)<=a)(h2:a<=10 ^ 30)(h3:b<=1000000):bG (a, b)=true:=by
 unfold bG;have:(if a < 0 then - a else a)<=10 ^ 30:=by split <;> omega
 change(decide ((if a < 0 then - a else a)<=10 ^ 30)&&decide (b<=1000000))=true;rw[aax this,aax h3];rfl
def DL(h1: - (10 ^ 30)<=t)(h2:t<=10 ^ 30)(h0:0 < b)(h3:b<=1000000):bG (ak t b)=true:=by
 let l1:=zi (t:=t) (show b≠0 by omega);let l2:=mE (t:=t) (show b≠0 by omega);generalize ak t b=f at *
 let(x,y):=f;let l1:x.natAbs<=t.natAbs:=l1;let l2:y.natAbs<=b.natAbs:=l2;show V8 () () ()
def BI(t0:0<=t)(t1:t < b)(hb1:b<=1000):aU (ak t b)=true:=by
 let LH:0 < b:=()
 let l2:=mE (t:=t) (show b≠0 by omega);let q0:=cL (t:=t) (show b≠0 by omega);let hc:=b7 (t:=t) (show b≠0 by omega);generalize ak t b=f at *
 let(x,y):=f;let l2:y.natAbs<=b.natAbs:=l2;let q0:0 < y:=q0;let hc:t * y=b * x:=hc;let x0:0<=x:=by
  rcases ace x 0 with z| z
  .have:=ab2 LH z;have:=abn t0 (aas q0);omega
  .show z
 let x1:x < y:=by
  rcases ace x y with z| z
  .show z
  .let h3:b * y<=b * x:=aaD z (aas LH);let h4:t * y < b * y:=Int.mul_lt_mul_of_pos_right t1 q0;omega
 unfold aU;change(decide (0<=x)&&(decide (x < y)&&decide (y<=1000)))=true;rw[aax x0,aax x1,aax (show y<=1000 by omega)];rfl
def W_(ns:List Int)(k:Int):Int:=ns.getD k.toNat 0
def PY{ns:List Int}{k:Int}(h0:0<=k)(h2:k < -ns):kU (ns.map Dt.int) k=!(.int (W_ ns k)):=by
 let e:(ns.map Dt.int)[k.toNat]? =!(.int (W_ ns k)):=by rw[aan,aaa (show k.toNat < -ns by omega)];unfold W_;rw[aac,aaa (show k.toNat < -ns by omega)];rfl
 have:=Ε e;rwa[show((k.toNat:Nat):Int)=k by omega]at this
def Nm(n:Int):Prop:=0<=n/\n < 10 ^ 300
def Ur:yP 10 60:=(@_,@_,@_)
def Xv:yP 10 30:=(@_,@_,@_)
def p18:yP 10 18:=(@_,@_,@_)
def p12:yP 10 12:=(@_,@_,@_)
def p6:yP 10 6:=(@_,@_,@_)
def oi{n:Int}(h:Nm n):hG n:=qH (k:=1000) h.1 (acI h.2 @_) @_
def Jm(h0:0 < b)(h1:b<=10 ^ 300):Nm (a % b):=(aa5 _ (),Int.lt_of_lt_of_le (aa2 _ h0) h1)
def CH{n:Int}(h:Nm n)(h0:0 < b):Nm (n / b):=(Int.ediv_nonneg h.1 (aas h0),aaY (acn _ h.1) h.2)
def WJ:DF:=λas M q _=>∃(ns:List Int) (k:Int),as=[.fX ns,.int k]/\-ns<=63/\0<=k/\k<=200/\∀n,Nm n->q (.int n) M
def pZ:Β ["_law_script","_law_k","_law_mixed","_law_cell"] ["_law_script","_law_k"] (ν CA):=.of rfl
def JU(F:dh K "_law_at" "_law_at" CA f fd)(E:Ev K mg Cm CN CF Ca Ci Cd Ce Cg Cj Cb Cc Ck):ae P w K mg base (bC P w) 1 f fd ["_law_script","_law_k"] (cZ K WJ):=by
 show F.eK pZ (λds M q x h=>?_) (λaP A outer s H E' hr=>(_,(ζ (aC (ux (jv 1) (cv E.bN (Ο (jv 0) η))) (ι (Δ (aX (Κ (jv 0) (jv 1)) (aM (aM (aM (aM (gY τ τ) (gY τ τ)) (gY τ τ)) (gY τ τ)) (gY τ τ))))) Ρ)
   (ζ (Α 2 pZ.nd (bU τ (aM τ (cv E.bN (Ο (jv 0) η)))))
   (ζ (eE (bR (cC (wK (jv 0) τ))) (ag (i:=3) pZ.nd rfl (Or.inl rfl)) aJ (ι (Α 2 pZ.nd (aX (bU (aM (jv 2) τ) (aX (jv 3) (gY τ τ))) τ))))
   (ι (Δ (aX (aM (bU (jv 2) τ) (bU (aM (jv 1) (jv 1)) τ)) τ)))))),λds M q x h=>?_))
 .let(ns,k,rfl,_):=h;rfl
 .let(ns,k,rfl,nl,hk,k2,h):=h;let bk:hG k:=bg (k:=40) ();let bl:hG (-ns:Int):=bg (k:=40) ();let b6:hG ((10:Int) ^ (60:Int).toNat):=bg (k:=210) @_;walk_at "vc";show(ao (d:=.fX ns) (xs:=ns.map .int) rfl ?_:fN [.fX ns] M _);rw[aae];show(λh1=>?_,λh1=>?_)
  .let X':k < -ns:=aaP h1;show(Η (d:=.fX ns) rfl (PY hk X') ?_:fe (.fX ns) (.int k) M _);show(Ur,Ur,(b6,b6),Ur,(bg (k:=410) @_,b6),Ur,(bg (k:=610) @_,b6),Ur,(bg (k:=810) @_,b6),@_,h _ (Jm @_ @_))
  .show(ao (d:=.fX ns) (xs:=ns.map .int) rfl ?_:fN [.fX ns] M _);rw[aae];show((bg (k:=40) @_,bl),?_);dsimp only[qO,fJ,Vg,Iw];walk_at "vc";show(ns.map .int,6,rfl,rfl,?_);rw[<-acx];show cN (fc _) ?_;show cf (λzs ρ' M'=>M'=M/\∃(rest:List Int) (m:Int) (o:Option Dt),zs=rest.map Dt.int/\0<=m/\m < 2147483647/\ρ'=[!(.fX ns),!(.int k),!(.int m),o]) (λzs ρ' M' hj=>trivial) (λx zs ρ' M' hj fD=>?_) (λρ' M' hj=>?_) _ _ _ (rfl,_,_,none,rfl,(),(),rfl)
   .let(rfl,rest,m,o,ex,m0,m1,rfl):=hj;cases rest with
    | nil=>cases ex
    | cons c rest=>
     cases ex;show((bg (k:=40) (),bg (k:=40) @_),p12,@_,@_,fD _ _ (rfl,rest,_,_,rfl,aa5 _ @_,aa2 _ @_,rfl))
   .let(rfl,rest,m,o,ex,m0,m1,rfl):=hj;let kk:0<=k * k/\k * k<=200 * 200:=(abn hk hk,abR k2 k2 hk @_);show((bk,bk),(bg (k:=40) (),bg (k:=40) ()),@_,h _ (Jm @_ @_))
def Xs(x:Int):Prop:=0<=x/\x < 2 ^ 110
def xP:DF:=λas M q _=>∃(n:Int) (aG:Nat),as=[.int n,.int (aG:Nat)]/\hG n/\aG<=60/\∀xs:List Int,-xs=aG->(∀x∈xs,Xs x)->q (.loc (-M)) (M++[.lst (xs.map Dt.int)])
def fq:Β ["_law_number","_law_many","_law_some","_law_seed","_law_k"] ["_law_number","_law_many"] (ν lz):=.of rfl
def xi(F:dh K "_law_stream" "_law_stream" lz f fd)(E:Ev K mg Cm CN CF Ca Ci Cd Ce Cg Cj Cb Cc Ck):ae P w K mg base (bC P w) 1 f fd ["_law_number","_law_many"] (cZ K xP):=by
 show F.eK fq (λds M q x h=>?_) (λaP A outer s H E' hr=>(_,(ζ (Α 2 fq.nd (lU η))
   (ζ (Α 3 fq.nd (bU (aX (aM (jv 0) τ) τ) τ))
   (ζ (iM (cK E.bY (Ο (jv 1) η)) (ag (i:=4) fq.nd rfl (Or.inl rfl)) aJ (ζ (Α 3 fq.nd (aX (bU (bU (aM (jv 3) τ) (aM (jv 4) (jv 4))) τ) τ))
   (ι (e_ (gI (jv 2) (Ο (jv 3) η))))))
   (ι (Δ (jv 2)))))),λds M q x h=>?_))
 .let(n,aG,rfl,_):=h;rfl
 .let(n,aG,rfl,bn,m60,h):=h;show(@_,(bn,bg (k:=20) @_),@_,?_);let s0:=aa5 (n * 69621) (show(2147483629:Int)≠0 by decide);let s1:=aa2 (n * 69621) (show(0:Int) < 2147483629 by decide);dsimp only[tS];generalize n * 69621 % 2147483629=sd at *
  show(((),()),?_);rw[show((aG:Int)).toNat=aG by omega];show dz (λzs ρ' M'=>∃(i c:Nat) (xs:List Int) (sd:Int) (o:Option Dt),zs=dj (i:Int) c/\i+c=aG/\-xs=i/\(∀x∈xs,Xs x)/\0<=sd/\sd<=2147483647/\M'=M++[.lst (xs.map Dt.int)]/\ρ'=[!(.int n),!(.int (aG:Int)),!(.loc (-M)),!(.int sd),o]) (λx zs ρ' M' hj fD=>?_) (λρ' M' hj=>?_) _ _ _ (0,aG,[],sd+1,none,rfl,(),rfl,λ_ z=>(nomatch z),(),(),rfl,rfl)
  .let(i,c,xs,sd,o,ex,ic,xl,hx,d0,d1,rfl,rfl):=hj;let(c',rfl,rfl,rfl):=cW ex;let i60:(i:Int) < 60:=()
   let ii:0<=(i:Int) * i/\(i:Int) * i<=60 * 60:=(abn () (),abR () () () @_);show((bg (k:=40) (),bg (k:=20) @_),(bg (k:=20) (),bg (k:=20) ()),@_,?_);let t0:=aa5 (sd * 48271+(i:Int) * i+7) (show(2147483647:Int)≠0 by decide);let t1:=aa2 (sd * 48271+(i:Int) * i+7) (show(0:Int) < 2147483647 by decide);show((_,_,rfl,aL),-M,_,_,rfl,rfl,aL,?_,?_)
   .rw[aae,xl];show abf (show i<=60 by omega) @_
   rw[b9];show fD _ _ (i+1,c',xs++[(sd * 48271+(i:Int) * i+7) % 2147483647],_,_,by rw[Int.natCast_add];rfl,(),by simp[xl],λy hy=>?_,t0,Int.le_of_lt t1,by simp,rfl);rcases aa3.mp hy with z| z
   .show hx y z
   .rw[abj.mp z];show(t0,acI t1 @_)
  .let(i,c,xs,sd,o,ex,ic,xl,hx,d0,d1,rfl,rfl):=hj;let c0:c=0:=by have:=aba List.length ex;rw[gm]at this;show this.symm
   show h xs () hx
def MI:DF:=λas M q _=>∃t b:Int,as=[.int t,.int b]/\0 < b/\hG b/\q (aE (ak t b)) M
def j4:Β ["_law_top","_law_bottom","_law_one","_law_two"] ["_law_top","_law_bottom"] (ν mn):=.of rfl
def xM(F:dh K "_law_lowest" "_law_lowest" mn f fd)(E:Ev K mg Cm CN CF Ca Ci Cd Ce Cg Cj Cb Cc Ck):ae P w K mg base (bC P w) 1 f fd ["_law_top","_law_bottom"] (cZ K MI):=by
 show F.eK j4 (λds M q x h=>?_) (λaP A outer s H E' hr=>(_,(ζ (HH (i:=2) (j:=3) j4.nd rfl rfl (θ (DG E.r8 (Ο (jv 0) η)) (Ο (jv 1) η) br))
   (ζ (Ai (rC hr (jv 3) τ) (ι (HH (i:=2) (j:=3) j4.nd rfl rfl (Ο (jv 3) (θ (aX (jv 2) (jv 3)) η bt)))))
   (ι (Δ (gT (θ (jk (jv 0) (jv 2)) (θ (jk (jv 1) (jv 2)) η bt) bt)))))),λds M q x h=>?_))
 .let(t,b,rfl,_):=h;rfl
 .let(t,b,rfl,h0,h1,h):=h;let ga:g (if t < 0 then - t else t) b=g t b:=by have:=Oz t b;rwa[aaE (show¬b < 0 by omega)]at this
  show⟨λm ρ M'=>M'=M/\∃(x y:Int),ρ=[!(.int t),!(.int b),!(.int x),!(.int y)]/\0<=x/\0<=y/\g x y=g t b/\m=y.toNat,(_,rfl,_,_,rfl,by split <;> omega,(),ga,rfl),?_⟩;rintro m ρ M' ⟨rfl,x,y,rfl,hx,hy,e,rfl⟩;show(λhb=>?_,λhb=>?_)
  .let NP:y≠0:=by simpa using hb
   show(_,λρ' M2 h2=>h2,?_);show((),(x % y).toNat,?_,rfl,y,x % y,rfl,hy,aa5 _ NP,?_,rfl)
   .have:=aa2 x (show 0 < y by omega);have:=aa5 x NP;omega
   .rw[<-abT x hy,Ld ()];show e
  .let NP:y=0:=by simpa using hb
   subst NP;rw[J7 hx]at e;subst e;let hg:0 < g t b:=zj ();let hle:g t b<=b:=acf h0 (Int.gcd_dvd_right ..);let hb:hG (g t b):=abf (show(g t b).natAbs<=b.natAbs by omega) h1;let e:ak t b=(t / g t b, b / g t b):=by rw[ME h0,acg _ (aas hg),acg _ (aas hg)]
   rw[e]at h;show((hg,hb),(hg,hb),D2,h)
def IQ:DF:=λas M q _=>∃n:Int,as=[.int n]/\∀b,q (.bl b) M
def sX:Β ["_law_number"] ["_law_number"] (ν iU):=.of rfl
def sf(F:dh K "_law_by_digits" "_law_by_digits" iU f fd)(E:Ev K mg Cm CN CF Ca Ci Cd Ce Cg Cj Cb Cc Ck):ae P w K mg base (bC P w) 1 f fd ["_law_number"] (cZ K IQ):=by
 show F.eK sX (λds M q x h=>?_) (λaP A outer s H E' hr=>(_,(ι (Δ (Ye (jv 0) (gY τ τ)))),λds M q x h=>?_))
 .let(n,rfl,_):=h;rfl
 .let(n,rfl,h):=h;show(p18,h _)
def AA(ss:List Int):Dt:=.lst (ss.map Dt.int)
structure Kr(ss:List Int):Prop where
 len:-ss=5
 pos:∀s∈ss,0 < s/\s<=2 * 10 ^ 30+1
def TC{ss:List Int}(h:Kr ss){j:Int}:∃s,kU (ss.map Dt.int) (j % 5)=!(.int s)/\0 < s/\s<=2 * 10 ^ 30+1:=by
 let j0:=aa5 j (show(5:Int)≠0 by decide);let j1:=aa2 j (show(0:Int) < 5 by decide);let hl:(j % 5).toNat < -ss:=by rw[h.len];omega
 have:=fH hl;rw[show(((j % 5).toNat:Nat):Int)=j % 5 by omega]at this;show(_,this,h.pos _ (aaU hl))
def Ek:DF:=λas M q _=>∃(n k:Int) (aG:Nat) (ss:List Int),as=[.int n,.int k,.int (aG:Nat),AA ss]/\Nm n/\0<=k/\k<=12/\aG<=30/\Kr ss/\∀xs:List Int,-xs=aG->(∀x∈xs,Xs x)->q (.loc (-M)) (M++[.lst (xs.map Dt.int)])
def ft:Β ["_law_number","_law_k","_law_many","_law_sizes","_law_some","_law_rest","_law_j"] ["_law_number","_law_k","_law_many","_law_sizes"] (ν ll):=.of rfl
def vU(F:dh K "_law_things" "_law_things" ll f fd)(E:Ev K mg Cm CN CF Ca Ci Cd Ce Cg Cj Cb Cc Ck)(ai:ax P w K mg base 1 "_law_by_digits" ["_law_number"] IQ b_ cc){kY:Addr}{lP:FuncData}(dY:ax P w K mg base 1 "_law_stream" ["_law_number","_law_many"] xP kY lP):ae P w K mg base (bC P w) 2 f fd ["_law_number","_law_k","_law_many","_law_sizes"] (cZ K Ek):=by
 show F.eK ft (λds M q x h=>?_) (λaP A outer s H E' hr=>(_,(ζ (aC (h7 (aS (ah ai hr ο (Ο (jv 0) η)))) (ι (Δ (ah dY hr ο (θ (bU (aM (jv 0) τ) (jv 1)) (Ο (jv 2) η) bt)))) Ρ)
   (ζ (Α 4 ft.nd (lU η))
   (ζ (Α 5 ft.nd (jk (jv 0) τ))
   (ζ (iM (cK E.bY (Ο (jv 2) η)) (ag (i:=6) ft.nd rfl (Or.inl rfl)) aJ (ζ (e_ (gI (jv 4) (θ (aX (jv 5) (Κ (jv 3) (aX (jv 6) τ))) η bt)))
   (ι (Α 5 ft.nd (jk (jv 5) (Κ (jv 3) (aX (jv 6) τ)))))))
   (ι (Δ (jv 4))))))),λds M q x h=>?_))
 .let(n,k,aG,ss,rfl,_):=h;rfl
 .let(n,k,aG,ss,rfl,hn,k0,k1,Yc,so,h):=h;show(n,rfl,λb=>(λ_=>?_,λ_=>?_))
  .show((oi hn,bg (k:=10) @_),?_);show(n * 12+k,aG,rfl,?_,(),h);let(n0,n1):=hn;show qH (k:=1100) () ?_ @_;show Int.lt_of_lt_of_le (show n * 12+k < 10 ^ 300 * 12+13 by omega) @_
  .show(@_,(@_,bg (k:=10) @_),((),()),?_);rw[show((aG:Int)).toNat=aG by omega];show dz (λzs ρ' M'=>∃(i c:Nat) (xs:List Int) (r:Int) (o:Option Dt),zs=dj (i:Int) c/\i+c=aG/\-xs=i/\(∀x∈xs,Xs x)/\Nm r/\M'=M++[.lst (xs.map Dt.int)]/\ρ'=[!(.int n),!(.int k),!(.int (aG:Int)),!(AA ss),!(.loc (-M)),!(.int r),o]) (λx zs ρ' M' hj fD=>?_) (λρ' M' hj=>?_) _ _ _ (0,aG,[],_,none,rfl,(),rfl,λ_ z=>(nomatch z),CH hn @_,rfl,rfl)
   .let(i,c,xs,r,o,ex,ic,xl,hx,mr,rfl,rfl):=hj;let(c',rfl,rfl,rfl):=cW ex;let(sz,es,s0,s1):=TC so (j:=(i:Int));let rd:∀(M':Ms) (q:DQ),q (.int sz) M'->fe (AA ss) (.int ((i:Int) % 5)) M' q:=λM' q hq=>Η (d:=AA ss) rfl es hq;walk_at "vc";show((_,_,rfl,aL),?_);show(@_,rd _ _ (s0,?_));show(-M,_,_,rfl,rfl,aL,?_,?_)
    .rw[aae,xl];show abf (show i<=60 by omega) @_
    rw[b9];show(@_,rd _ _ ((s0,qH (k:=110) (aas s0) (aaY s1 @_) @_),?_));show fD _ _ (i+1,c',xs++[r % sz],_,_,by rw[Int.natCast_add];rfl,(),by simp[xl],λy hy=>?_,CH mr s0,by simp,rfl);rcases aa3.mp hy with z| z
    .show hx y z
    .rw[abj.mp z];show(aa5 _ (),acI (aa2 _ s0) (aaY s1 @_))
   .let(i,c,xs,r,o,ex,ic,xl,hx,mr,rfl,rfl):=hj;let c0:c=0:=by have:=aba List.length ex;rw[gm]at this;show this.symm
    show h xs () hx
def zL:DF:=λas M q _=>∃n low:Int,as=[.int n,.int low]/\Nm n/\1<=low/\low<=1000/\∀p,aU p=true->q (aE p) M
def i_:Β ["_law_number","_law_low","_law_bottom","_law_top"] ["_law_number","_law_low"] (ν jr):=.of rfl
def tQ(F:dh K "_law_share_of" "_law_share_of" jr f fd)(E:Ev K mg Cm CN CF Ca Ci Cd Ce Cg Cj Cb Cc Ck)(ai:ax P w K mg base 1 "_law_by_digits" ["_law_number"] IQ b_ cc)(aZ:ax P w K mg base 1 "_law_lowest" ["_law_top","_law_bottom"] MI gH gu):ae P w K mg base (bC P w) 2 f fd ["_law_number","_law_low"] (cZ K zL):=by
 show F.eK i_ (λds M q x h=>?_) (λaP A outer s H E' hr=>(_,(ζ (Α 2 i_.nd (bU τ (aX (jv 0) (jv 1))))
   (ζ (jF (Α 3 i_.nd (uO (aS (ah ai hr ο (Ο (jv 0) η))) (jk (jv 0) (jv 1)) (aX (aM (jv 0) τ) τ))))
   (ι (Δ (ah aZ hr ο (θ (aX (jv 3) (jv 2)) (Ο (jv 2) η) bt)))))),λds M q x h=>?_))
 .let(n,low,rfl,_):=h;rfl
 .let(n,low,rfl,hn,l1,l2,h):=h;let b0:=aa5 n (show low≠0 by omega);let b1:=aa2 n (show 0 < low by omega);show((),?_);dsimp only[tS];generalize n % low=r at *
  let fin:∀t:Int,aU (ak (t % (1+r)) (1+r))=true:=λt=>BI (aa5 _ ()) (aa2 _ ()) ();show⟨λρ M'=>M'=M/\∃t:Int,ρ=[!(.int n),!(.int low),!(.int (1+r)),!(.int t)],?_,?_⟩
  .show(n,rfl,λb=>(λ_=>?_,λ_=>?_))
   .show(((),bg (k:=12) ()),rfl,_,rfl)
   .show((oi hn,bg (k:=20) @_),@_,rfl,_,rfl)
  .rintro ρ M' ⟨rfl,t,rfl⟩;show((),_,_,rfl,(),bg (k:=12) (),h _ (fin t))
structure ui(kd:Str)(size:Int)(cs:List Fr)(ds:List eL):Prop where
 fit:∀d∈ds,aI d.1 d.2.1 size=true/\0 < d.2.1.2
 WU:kd="chance"->(∀d∈ds,d.2.2=[χ d])/\ds.map χ=cs.take (-ds)
 X3:kd≠"chance"->∀d∈ds,d.2.2=[]
def ui.more{kd:Str}{size:Int}{cs:List Fr}{ds:List eL}{d:eL}(h:ui kd size cs ds)(h1:aI d.1 d.2.1 size=true)(h2:0 < d.2.1.2)(hl:-ds < -cs)(h3:kd="chance"->d.2.2=[cs[-ds]])(h4:kd≠"chance"->d.2.2=[]):ui kd size cs (ds++[d]):=by
 show(λe he=>?_,λhc=>(λe he=>?_,?_),λhc e he=>?_)
 .rcases aa3.mp he with he| he
  .show h.fit e he
  .have:e=d:=by simpa using he
   subst this;show(h1,h2)
 .rcases aa3.mp he with he| he
  .show(h.WU hc).1 e he
  .have:e=d:=by simpa using he
   subst this;unfold χ;rw[h3 hc];rfl
 .rw[abb,(h.WU hc).2,aaC];change cs.take (-ds)++[χ d]=cs.take (-ds+1);rw[List.take_succ,aaa hl];unfold χ;rw[h3 hc];rfl
 .rcases aa3.mp he with he| he
  .show h.X3 hc e he
  .have:e=d:=by simpa using he
   subst this;show h4 hc
def ui.good{kd:Str}{size:Int}{cs:List Fr}{ds:List eL}(h:ui kd size cs ds)(hk:Ι kd=true\/kd="chance")(h1:1<=-ds)(h6:-ds<=6)(hl:-ds=-cs)(hc:Ω cs=true)(ho:QT cs):pY size (.Λ kd ds):=by
 by_cases AF:kd="chance"
 .subst AF;let e:ds.map χ=cs:=by rw[(h.WU rfl).2,hl,List.take_length]
  show FC h1 h6 (λd hd=>(h.fit d hd).1) (h.WU rfl).1 (by rw[e];show hc) (by rw[e];show ho) λd hd=>(h.fit d hd).2
 .show Mw (hk.resolve_right AF) h1 h6 (λd hd=>(h.fit d hd).1) λd hd=>(h.X3 AF d hd,(h.fit d hd).2)
def RwG(size:Int)(r:Rw):Prop:=pY size r/\∀k ds,r= .Λ k ds->Ι k=true->∀d∈ds,d.2.2=[]
def NQ{k:Str}(h:Ι k=true):k≠"chance":=λz=>by subst z;show aaO h @_
structure wV(ck:Bool)(p:Fr):Prop where
 red:Red p
 fit:bG p=true
 near:ck=false->p.2∣12/\eP p 9
def LI(h1: - (10 ^ 30)<=t)(h2:t<=10 ^ 30)(h0:0 < b)(h3:b<=1000000):wV true (ak t b):=(eJ (),DL h1 h2 h0 h3,nofun)
def JD{x y:Int}:wV false (ak (x % 19 - 9) (1+y % 4)):=by
 let b0:0 < 1+y % 4:=()
 show(eJ (),DL () () b0 (),λ_=>(?_,mF b0 () ()));show Int.dvd_trans (Ao b0) ?_;have:y % 4=0\/y % 4=1\/y % 4=2\/y % 4=3:=()
 rcases this with e| e| e| e <;> rw[e] <;> decide
def Xs.big{x:Int}(h:Xs x):hG x:=qH h.1 h.2 @_
def Hy{k:Nat}(a0:0<=a)(a1:a < 2 ^ j)(b0:0<=b)(b1:b < 2 ^ k):0<=a * b/\a * b < 2 ^ (j+k):=by show(abn a0 b0,?_);rw[Int.pow_add];show aaY (aaQ (aas a1) b0) (Int.mul_lt_mul_of_pos_left b1 (Int.pow_pos @_))
def Jy:DF:=λas M q _=>∃(xs:List Int) (ck:Bool),as=[.lst (xs.map Dt.int),.bl ck]/\3<=-xs/\(∀x∈xs,Xs x)/\∀p,wV ck p->q (aE p) M
def zA:Β ["_law_xs","_law_far","_law_top"] ["_law_xs","_law_far"] (ν wO):=.of rfl
def Gy(F:dh K "_law_pay" "_law_pay" wO f fd)(E:Ev K mg Cm CN CF Ca Ci Cd Ce Cg Cj Cb Cc Ck)(aZ:ax P w K mg base 1 "_law_lowest" ["_law_top","_law_bottom"] MI gH gu):ae P w K mg base (bC P w) 2 f fd ["_law_xs","_law_far"] (cZ K Jy):=by
 show F.eK zA (λds M q x h=>?_) (λaP A outer s H E' hr=>(_,(ζ (aC (aS (jv 1)) (ζ (jF (Α 2 zA.nd (uO (J6 (Κ (jv 0) τ) τ) (aM (aM (aM (Κ (jv 0) τ) (Κ (jv 0) τ)) (Κ (jv 0) τ)) (Κ (jv 0) τ)) (Κ (jv 0) τ))))
   (ι (Δ (ah aZ hr ο (θ (u7 (aX (jv 2) (bU (aM τ (gY τ τ)) τ)) (gY τ τ)) (θ (bU τ (aX (Κ (jv 0) τ) (gY τ τ))) η bt) bt))))) Ρ)
   (ι (Δ (ah aZ hr ο (θ (u7 (aX (Κ (jv 0) τ) τ) τ) (θ (bU τ (aX (Κ (jv 0) τ) τ)) η bt) bt))))),λds M q x h=>?_))
 .let(xs,ck,rfl,_):=h;rfl
 .let(xs,ck,rfl,l3,hx,h):=h;let rd:∀(j:Nat) (hj:j < 3) (M':Ms) (q:DQ),q (.int (xs[j]'())) M'->fe (.lst (xs.map Dt.int)) (.int (j:Int)) M' q:=λj hj M' q hq=>Η (d:=.lst (xs.map Dt.int)) rfl (fH ()) hq;let x0:=hx _ (aaU (show 0 < -xs by omega));let x1:=hx _ (aaU (show 1 < -xs by omega));let x2:=hx _ (aaU (show 2 < -xs by omega));walk_at "vc";show(λz=>?_,λz=>?_)
  .subst z;show⟨λρ M'=>M'=M/\∃t:Int,ρ=[!(.lst (xs.map Dt.int)),!(.bl true),!(.int t)],?_,?_⟩
   .walk_at "vc";show rd 2 @_ _ _ (λ_=>?_,λ_=>?_)
    .let(p0,p1):=Hy x0.1 x0.2 x1.1 x1.2;let(q0,q1):=Hy p0 p1 x2.1 x2.2;show rd 0 @_ _ _ ?_;show rd 1 @_ _ _ ?_;show((x0.big,x1.big),?_);walk_at "vc";show rd 2 @_ _ _ ?_;show((qH p0 p1 @_,x2.big),?_);walk_at "vc";show rd 0 @_ _ _ ?_;show((qH q0 q1 @_,x0.big),rfl,_,rfl)
    .show rd 0 @_ _ _ ?_;show(rfl,_,rfl)
   .rintro ρ M' ⟨rfl,t,rfl⟩;let XC:hG ((10:Int) ^ (30:Int).toNat):=bg (k:=110) @_;let m0:(0:Int) < 2 * 10 ^ (30:Int).toNat+1:=@_
    let hm0:=aa5 t (show(2 * 10 ^ (30:Int).toNat+1:Int)≠0 by decide);let hm1:=aa2 t m0;let VF:0 < 1+xs[1] % 10 ^ (6:Int).toNat/\1+xs[1] % 10 ^ (6:Int).toNat<=1000000:=by change 0 < 1+xs[1] % 1000000/\1+xs[1] % 1000000<=1000000;omega
    let hb7:hG (1+xs[1] % 10 ^ (6:Int).toNat):=qH (k:=20) (aas VF.1) (aaY VF.2 @_) @_;walk_at "vc";show(Xv,(bg (k:=4) @_,XC),m0,Xv,?_);dsimp only[zR];show rd 1 @_ _ _ ?_;show(p6,(by change(0:Int) < 1000000;decide),_,_,rfl,VF.1,hb7,h _ (LI ?_ ?_ VF.1 VF.2))
    .change - (10 ^ 30)<=t % (2 * 10 ^ (30:Int).toNat+1) - 10 ^ 30;omega
    .let e:(10:Int) ^ (30:Int).toNat=10 ^ 30:=rfl;rw[e]at hm1;change t % (2 * 10 ^ 30+1) - 10 ^ 30<=10 ^ 30;omega
  .subst z;show rd 0 @_ _ _ ?_;show(@_,?_);dsimp only[zR];show(rd 1 @_ _ _ ?_:fe (.lst (xs.map Dt.int)) (.int 1) _ _);show(@_,_,_,rfl,(),bg (k:=10) (),h _ JD)
def S3(ck:Bool)(size:Int)(r:Rw):Prop:=RwG size r/\(∀p,r= .fin p->wV ck p)/\∀k ds,r= .Λ k ds->∀d∈ds,wV ck d.2.1
def N6(c:Nat):sliceRange ((4:Nat):Int) ((5 * c:Nat):Int) ((5:Nat):Int)=(List.range c).map λk=>5 * k+4:=by
 unfold sliceRange;let hc:(if ((4:Nat):Int) < ((5 * c:Nat):Int) then (((5 * c:Nat):Int) - ((4:Nat):Int)+((5:Nat):Int) - 1) / ((5:Nat):Int) else 0)=c:=by split <;> omega
 simp only[show((5:Nat):Int) > 0 by decide,if_true,hc,Int.toNat_natCast];apply abB;intro k _;omega
def SH{c:Nat}{xs:List Int}(e:ds=xs.map Dt.int)(h:-xs=5 * c):iy (sliceRange ((4:Nat):Int) (-ds:Int) ((5:Nat):Int)) ds=((List.range c).map λk=>xs.getD (5 * k+4) 0).map Dt.int:=by
 subst e;rw[aae,h,N6];unfold iy;rw[List.filterMap_map,aaT];have:∀l:List Nat,(∀k∈l,k < c)->l.filterMap ((λi=>(xs.map Dt.int)[i]?) ∘ λk=>5 * k+4)=l.map (Dt.int ∘ λk=>xs.getD (5 * k+4) 0):=λl=>by
  induction l with
  | nil=>intro _;rfl
  | cons k l ih=>
   intro hk;let kc:=hk k aal;let e:((λi=>(xs.map Dt.int)[i]?) ∘ λk=>5 * k+4) k=!(Dt.int (xs.getD (5 * k+4) 0)):=by change(xs.map Dt.int)[5 * k+4]? =_;rw[aan,aac,aaa ()];rfl
   rw[aco,e,aa8,<-ih λz hz=>hk z (aai _ hz)];rfl
 show this _ λk hk=>abg.mp hk
def D5:DF:=λas M q _=>∃(kd:Str) (xs:List Int) (aG:Int) (ck:Bool) (c:Nat),as=[.str kd,.lst (xs.map Dt.int),.int aG,.bl ck]/\-xs=5 * c/\1<=c/\c<=6/\(∀x∈xs,Xs x)/\1<=aG/\aG<=12/\(Ι kd=true\/kd="chance")/\∀ds,-ds=c->S3 ck aG (.Λ kd ds)->q (.loc (-M)) (M++[.lst (ds.map ff)])
def dQ:Β ["_law_kind","_law_xs","_law_many","_law_far","_law_doors_here","_law_parts","_law_k","_law_door"] ["_law_kind","_law_xs","_law_many","_law_far"] (ν oM):=.of rfl
def za(F:dh K "_law_doors" "_law_doors" oM f fd)(E:Ev K mg Cm CN CF Ca Ci Cd Ce Cg Cj Cb Cc Ck){xC:Addr}{vC:FuncData}(iB:ax P w K mg base 2 "_law_pay" ["_law_xs","_law_far"] Jy xC vC)(aZ:ax P w K mg base 1 "_law_lowest" ["_law_top","_law_bottom"] MI gH gu):ae P w K mg base (bC P w) 4 f fd ["_law_kind","_law_xs","_law_many","_law_far"] (cZ K D5):=by
 show F.eK dQ (λds M q x h=>?_) (λaP A outer s H E' hr=>(_,(ζ (Α 4 dQ.nd (lU η))
   (ζ (jC (i:=5) dQ.nd rfl (Or.inl rfl) (ys:=["_law_far"]) (Χ:=[3]) (.of dQ rfl rfl rfl) (bR (cC (QE (a:=4) (b:=5) (jv 1) τ τ))) (λC s H fp=>(bU τ (aX (jv 0) (Κ (dI 3 (d:=.lst [.int 4,.int 150000]) (by rfl)) (O5 E.rN (Ο (jv 1) η)))))))
   (ζ (iM (cK E.bY (θ (cv E.bN (Ο (jv 5) η)) η br)) (ag (i:=6) dQ.nd rfl (Or.inl rfl)) aJ (ζ (Α 7 dQ.nd (gT (θ (aX (Κ (jv 1) (bU (aM τ (jv 6)) τ)) (jv 2)) (θ (ah iB hr ο (θ (cC (uL (jv 1) (aM τ (jv 6)) (bU (aM τ (jv 6)) τ))) (Ο (jv 3) η) aW)) η br) bt)))
   (ζ (jF (aC (cG hr (jv 0) fm) (ι (Α 7 dQ.nd (bU (jv 7) (gT (θ (ah aZ hr ο (θ (Κ (jv 5) (jv 6)) (θ (OB E.yS (Ο (jv 5) η)) η br) aW)) η br))))) Ρ))
   (ι (e_ (gI (jv 4) (Ο (jv 7) η)))))))
   (ι (Δ (jv 4)))))),λds M q x h=>?_))
 .let(kd,xs,aG,ck,c,rfl,_):=h;rfl
 .let(kd,xs,aG,ck,c,rfl,xl,c1,c6,hx,s1,s12,M9,h):=h;let sl:∀{z:Nat},z<=1000->z<=sizeLine:=λh=>aaJ h @_;show(@_,?_);generalize hM0:M++[MO.lst []]=M0;dsimp only[oO,fJ,Vg,N7];walk_at "vc";show(rfl,_,rfl,rfl,by rw[aae];omega,?_,?_)
  .rw[aae,xl,N6,aae,abe];omega
  rw[SH rfl xl];show cN (fc _) ?_;obtain⟨most,em,m0,m1⟩:∃most:Int,(∀(M':Ms) (q:DQ),q (.int most) M'->fe (.lst [.int 4,.int 150000]) (.int (if ck=true then 1 else 0)) M' q)/\0 < most/\most<=150000:=by
   cases ck with
   | true=>show(150000,λM' q hq=>Η (d:=.lst [.int 4,.int 150000]) rfl (Ε (j:=1) rfl) hq,@_,@_)
   | false=>show(4,λM' q hq=>Η (d:=.lst [.int 4,.int 150000]) rfl bI hq,@_,@_)
  show(by rw[aae,aae,abe];show sl (),?_);show dJ (F:=λx n=>x=Dt.int n) (f:=λn=>.int (1+n % most)) (as:=(List.range c).map λk=>xs.getD (5 * k+4) 0) trivial (λx n V7 qq hq=>?_) ?_ ?_
  .subst V7;walk_at "vc";change yO [.bl ck] M0 λd2 M2=>fe (.lst [.int 4,.int 150000]) d2 M2 λd2 M2=>LN (.int n) d2 M2 λd2 M2=>tS (.int 1) d2 M2 qq;dsimp only[yO];show em _ _ ?_;show(m0,hq)
  .have:∀l:List Int,Paired (λx n=>x=Dt.int n) (l.map Dt.int) l:=λl=>by
    induction l with
    | nil=>show .nil
    | cons a l ih=>show .cons rfl ih
   show this _
  rw[aa4,aaT];generalize UJ:((List.range c).map λk=>1+xs.getD (5 * k+4) 0 % most)=ws;let ew:(List.range c).map ((λn=>Dt.int (1+n % most)) ∘ λk=>xs.getD (5 * k+4) 0)=ws.map Dt.int:=by rw[<-UJ,aaT];rfl
  rw[ew];let wl:-ws=c:=by rw[<-UJ,aae,abe]
  let w0:∀w∈ws,0 < w/\w<=most:=λw hw=>by rw[<-UJ]at hw;let(y,_,rfl):=aaH.mp hw;let e0:=aa5 (xs.getD (5 * y+4) 0) (show most≠0 by omega);let e1:=aa2 (xs.getD (5 * y+4) 0) m0;omega
  let hS:ws.sum<=1000000:=by have:=HW λw hwm=>(w0 w hwm).2;rw[wl]at this;have:(c:Int) * most<=6 * 150000:=abR () m1 () @_;omega
  let fZ:ws≠[]:=λz=>by rw[z]at wl;simp at wl;omega
  let Zi:=D8 (λw hw=>(w0 w hw).1) fZ;let(cc1,cc2):=Bv (S:=ws.sum) rfl (λw hwm=>(w0 w hwm).1) fZ hS ();let cl:-(ws.map λw=>ak w ws.sum)=c:=by rw[aae,wl]
  let bS:hG ws.sum:=bg (k:=21) ();clear UJ;show(ao (d:=.lst (ws.map .int)) (xs:=ws.map .int) rfl ?_:fN [.lst (ws.map .int)] _ _);rw[aae,wl];show(((),()),?_);rw[show((c:Int)).toNat=c by omega];subst hM0;show dz (λzs ρ M'=>∃(n k:Nat) (ds:List eL) (o1 o2:Option Dt),zs=dj k n/\k+n=c/\-ds=k/\ui kd aG (ws.map λw=>ak w ws.sum) ds/\(∀d∈ds,wV ck d.2.1)/\M'=M++[MO.lst (ds.map ff)]/\ρ=[!(.str kd),!(.lst (xs.map Dt.int)),!(.int aG),!(.bl ck),!(.loc (-M)),!(.lst (ws.map .int)),o1,o2]) (λx zs ρ M' hj fD=>?_) (λρ M' hj=>?_) _ _ _ (c,0,[],none,none,by simp,by simp,rfl,(λ_ z=>(nomatch z),λ_=>(λ_ z=>(nomatch z),rfl),λ_ _ z=>(nomatch z)),λ_ z=>(nomatch z),rfl,rfl)
  .let(n,k,ds,o1,o2,ex,ZC,hl,hd,hp,rfl,rfl):=hj;let(m,rfl,rfl,rfl):=cW ex;let k6:(k:Int) < 6:=()
   let kx:5 * k+3 < -xs:=()
   let kw:k < -ws:=()
   let R6:(M++[MO.lst (ds.map ff)])[-M]? =!(.lst (ds.map ff)):=by simp
   let setM:∀y:eL,(M++[MO.lst (ds.map ff)]).set (-M) (.lst (ds.map ff++[ff y]))=M++[.lst ((ds++[y]).map ff)]:=λy=>by simp
   let lt:-(ds.map ff) < sizeLine:=by rw[aae,hl];show abf (show k<=12 by omega) @_
   let e5:5 * (k:Int)+3=((5 * k+3:Nat):Int):=()
   let e50:5 * (k:Int)=((5 * k:Nat):Int):=()
   let b5:hG (5:Int):=bg (k:=10) @_;let bk:hG (k:Int):=bg (k:=10) ();walk_at "vc";show((b5,bk),?_);dsimp only[tS];rw[e5];show(Η (d:=.lst (xs.map .int)) rfl (fH kx) ?_:fe (.lst (xs.map .int)) (.int ((5 * k+3:Nat):Int)) _ _);show((),(b5,bk),5 * k,by rw[e50],(b5,bk),xs.map Dt.int,5 * k+3,rfl,by rw[<-e5],?_);rw[<-acy,<-acx];show cN (fc _) ?_;show((xs.drop (5 * k)).take (5 * k+3 - 5 * k),ck,rfl,by rw[ack,abM];omega,λy hy=>hx y (List.mem_of_mem_drop (List.mem_of_mem_take hy)),λp pp=>(D2,?_));let hp0:=pp.red.pos;let MC:aI (xs[5 * k+3] % aG) p aG=true:=Nl (aa5 _ ()) (aa2 _ ()) pp.fit;show⟨λρ M2=>M2=M++[MO.lst (ds.map ff)]/\∃d:eL,(aI d.1 d.2.1 aG=true/\0 < d.2.1.2/\(kd="chance"->d.2.2=[ak ws[k] ws.sum])/\(kd≠"chance"->d.2.2=[])/\wV ck d.2.1)/\ρ=[!(.str kd),!(.lst (xs.map Dt.int)),!(.int aG),!(.bl ck),!(.loc (-M)),!(.lst (ws.map .int)),!(.int (k:Int)),!(ff d)],(λhc=>?_,λhc=>?_),?_⟩
   .let hc:kd="chance":=aaP hc;walk_at "vc";show(Η (d:=.lst (ws.map .int)) rfl (fH kw) ?_:fe (.lst (ws.map .int)) (.int (k:Int)) _ _);show(ws,rfl,(_,_,rfl),_,_,rfl,Zi,bS,(by change 1<=sizeLine;decide),(by simp,by change 3<=sizeLine;decide),rfl,(xs[5 * k+3] % aG, p,[ak ws[k] ws.sum]),(MC,hp0,λ_=>rfl,λz=>absurd hc z,pp),rfl)
   .let hc:kd≠"chance":=abp hc;show(rfl,(xs[5 * k+3] % aG, p,[]),(MC,hp0,λz=>aaO z hc,λ_=>rfl,pp),rfl)
   .rintro ρ2 M2 ⟨rfl,d,⟨d1,d2,d3,d4,d5⟩,rfl⟩;show((-M,_,rfl,R6),-M,_,_,rfl,rfl,R6,lt,?_);rw[setM d];show fD _ _ (m,k+1,ds++[d],_,_,by simp,(),by simp[hl],hd.more d1 d2 (by rw[cl];omega) (λz=>?_) d4,λy hy=>?_,rfl,rfl)
    .rw[d3 z];simp[hl]
    .rcases aa3.mp hy with z| z
     .show hp y z
     .rw[abj.mp z];show d5
  .let(n,k,ds,o1,o2,ex,ZC,hl,hd,hp,rfl,rfl):=hj;let hn:n=0:=by have:=aba List.length ex;unfold dj at this;simpa using this.symm
   show h ds () ((hd.good M9 () () (by rw[cl];omega) cc1 cc2,λk' AE e hk d GA=>by cases e;show hd.X3 (NQ hk) d GA),λp e=>(nomatch e),λk' AE e d GA=>by cases e;show hp d GA)
def Rr{n:Int}:∃kd:Str,kU [Dt.str "one",Dt.str "other",Dt.str "chance",Dt.str "end",Dt.str "one",Dt.str "other",Dt.str "chance",Dt.str "chance"] (n % 8)=!(.str kd)/\(Ι kd=true\/kd="chance"\/kd="end"):=by
 have:n % 8=0\/n % 8=1\/n % 8=2\/n % 8=3\/n % 8=4\/n % 8=5\/n % 8=6\/n % 8=7:=()
 rcases this with e| e| e| e| e| e| e| e <;> rw[e]
 .show(_,bI,.inl @_)
 .show(_,Ε (j:=1) rfl,.inl @_)
 .show(_,Ε (j:=2) rfl,.inr (.inl rfl))
 .show(_,Ε (j:=3) rfl,.inr (.inr rfl))
 .show(_,Ε (j:=4) rfl,.inl @_)
 .show(_,Ε (j:=5) rfl,.inl @_)
 .show(_,Ε (j:=6) rfl,.inr (.inl rfl))
 .show(_,Ε (j:=7) rfl,.inr (.inl rfl))
def Up{n:Int}:∃m:Int,kU [Dt.int 4,Dt.int 4,Dt.int 4,Dt.int 4,Dt.int 4,Dt.int 4,Dt.int 6,Dt.int 12] (n % 8)=!(.int m)/\1<=m/\m<=12/\(n % 8=5->m=4):=by
 have:n % 8=0\/n % 8=1\/n % 8=2\/n % 8=3\/n % 8=4\/n % 8=5\/n % 8=6\/n % 8=7:=()
 rcases this with e| e| e| e| e| e| e| e <;> rw[e]
 .show(_,bI,@_,@_,@_)
 .show(_,Ε (j:=1) rfl,@_,@_,@_)
 .show(_,Ε (j:=2) rfl,@_,@_,@_)
 .show(_,Ε (j:=3) rfl,@_,@_,@_)
 .show(_,Ε (j:=4) rfl,@_,@_,@_)
 .show(_,Ε (j:=5) rfl,@_,@_,@_)
 .show(_,Ε (j:=6) rfl,@_,@_,@_)
 .show(_,Ε (j:=7) rfl,@_,@_,@_)
def Xq{n:Int}:∃m:Int,kU [Dt.int 10,Dt.int 10,Dt.int 10,Dt.int 10,Dt.int 1,Dt.int 1000,Dt.int 10,Dt.int 10] (n % 8)=!(.int m)/\1<=m/\m<=1000:=by
 have:n % 8=0\/n % 8=1\/n % 8=2\/n % 8=3\/n % 8=4\/n % 8=5\/n % 8=6\/n % 8=7:=()
 rcases this with e| e| e| e| e| e| e| e <;> rw[e]
 .show(_,bI,@_,@_)
 .show(_,Ε (j:=1) rfl,@_,@_)
 .show(_,Ε (j:=2) rfl,@_,@_)
 .show(_,Ε (j:=3) rfl,@_,@_)
 .show(_,Ε (j:=4) rfl,@_,@_)
 .show(_,Ε (j:=5) rfl,@_,@_)
 .show(_,Ε (j:=6) rfl,@_,@_)
 .show(_,Ε (j:=7) rfl,@_,@_)
def cH(k:Str)(n:Nat):Nat:=if Ι k=true then n else 1
def jz:List Rw->Nat
 | []=>1
 | r::rs=>cH (kindOf r) (-(Υ r)) * jz rs
def nM:∀(rs:List Rw) (r:Rw),jz (rs++[r])=jz rs * cH (kindOf r) (-(Υ r))
 | [],r=>by change cH _ _ * 1=1 * _;omega
 | a::rs,r=>by change cH _ _ * jz (rs++[r])=cH _ _ * jz rs * _;rw[nM rs r,Nat.mul_assoc]
def Mu{c r rm:Int}(ha:0<=a)(h:c * r<=rm)(l:a * rm<=30):a * c * r<=30:=by rw[acw];show abG (aaD h ha) l
structure LF(ε:Fr)(γ:List Rw)(ck:Bool):Prop where
 sh:aU ε=true
 n1:1<=-γ
 CC:-γ<=12
 n4:ck=true->-γ<=4
 row:∀r∈γ,S3 ck (-γ) r
 pr:jz γ<=30
def BU(ck:Bool)(aG:Int):List Int:=if ck=true then [2 * 10 ^ (30:Int).toNat+1,10 ^ (6:Int).toNat,1,aG,150000] else [19,4,1,aG,4]
def SQ(h1:1<=aG)(h2:aG<=12):Kr (BU ck aG):=by
 let Yc:aG<=2 * 10 ^ 30+1:=abG h2 @_;cases ck with
 | true=>
  show(rfl,λs hs=>?_);let hs:s∈[2 * 10 ^ (30:Int).toNat+1,10 ^ (6:Int).toNat,1,aG,150000]:=hs;simp only[List.mem_cons,List.not_mem_nil,or_false]at hs;rcases hs with e| e| e| e| e
  .rw[e];decide
  .rw[e];decide
  .rw[e];decide
  .rw[e];show((),Yc)
  .rw[e];decide
 | false=>
  show(rfl,λs hs=>?_);let hs:s∈[19,4,1,aG,4]:=hs;simp only[List.mem_cons,List.not_mem_nil,or_false]at hs;rcases hs with e| e| e| e| e
  .rw[e];decide
  .rw[e];decide
  .rw[e];decide
  .rw[e];show((),Yc)
  .rw[e];decide
def Su{n:Int}:∃r:Int,kU [Dt.int 30,Dt.int 30,Dt.int 30,Dt.int 30,Dt.int 30,Dt.int 12,Dt.int 24,Dt.int 12] (n % 8)=!(.int r)/\1<=r/\r<=30:=by
 have:n % 8=0\/n % 8=1\/n % 8=2\/n % 8=3\/n % 8=4\/n % 8=5\/n % 8=6\/n % 8=7:=()
 rcases this with e| e| e| e| e| e| e| e <;> rw[e]
 .show(_,bI,@_,@_)
 .show(_,Ε (j:=1) rfl,@_,@_)
 .show(_,Ε (j:=2) rfl,@_,@_)
 .show(_,Ε (j:=3) rfl,@_,@_)
 .show(_,Ε (j:=4) rfl,@_,@_)
 .show(_,Ε (j:=5) rfl,@_,@_)
 .show(_,Ε (j:=6) rfl,@_,@_)
 .show(_,Ε (j:=7) rfl,@_,@_)
def ER:DF:=λas M q _=>∃ns:List Int,as=[.fX ns]/\-ns<=63/\∀ε γ ck,LF ε γ ck->q (.tup [aE ε,.loc (-M)]) (M++[.lst (γ.map Τ)])
def az:Β ["_law_script","_law_begun","_law_how","_law_places","_law_many","_law_share","_law_sizes","_law_rows","_law_room","_law_k","_law_number","_law_kind","_law_count","_law_xs"] ["_law_script"] (ν nV):=.of rfl
def yZ(F:dh K "_law_floor" "_law_floor" nV f fd)(E:Ev K mg Cm CN CF Ca Ci Cd Ce Cg Cj Cb Cc Ck)(eC:ax P w K mg base 1 "_law_at" ["_law_script","_law_k"] WJ rS qp)(ai:ax P w K mg base 1 "_law_by_digits" ["_law_number"] IQ b_ cc){ya:Addr}{zK:FuncData}(iO:ax P w K mg base 2 "_law_share_of" ["_law_number","_law_low"] zL ya zK){xC:Addr}{vC:FuncData}(iB:ax P w K mg base 2 "_law_pay" ["_law_xs","_law_far"] Jy xC vC){Cv:Addr}{BG:FuncData}(g6:ax P w K mg base 2 "_law_things" ["_law_number","_law_k","_law_many","_law_sizes"] Ek Cv BG){Gf:Addr}{Gj:FuncData}(lZ:ax P w K mg base 4 "_law_doors" ["_law_kind","_law_xs","_law_many","_law_far"] D5 Gf Gj):ae P w K mg base (bC P w) 5 f fd ["_law_script"] (cZ K ER):=by
 show F.eK az (λds M q x h=>?_) (λaP A outer s H E' hr=>(_,(ζ (Α 1 az.nd (ah eC hr ο (Ο (jv 0) (θ τ η dZ))))
   (ζ (Α 2 az.nd (aX (jv 1) τ))
   (ζ (jF (Α 3 az.nd (uO (aS (ah ai hr ο (Ο (jv 1) η))) (jk (jv 1) τ) (aX (aM (jv 1) τ) τ))))
   (ζ (Α 4 az.nd (bU τ (aX (jv 3) (Κ (dI 3 (d:=.lst [.int 4,.int 4,.int 4,.int 4,.int 4,.int 4,.int 6,.int 12]) (by rfl)) (jv 2)))))
   (ζ (Α 5 az.nd (ah iO hr ο (θ (ah eC hr ο (Ο (jv 0) (θ τ η dZ))) (θ (Κ (dI 3 (d:=.lst [.int 10,.int 10,.int 10,.int 10,.int 1,.int 1000,.int 10,.int 10]) (by rfl)) (jv 2)) η aW) br)))
   (ζ (Α 6 az.nd (Κ (jg (θ (jg (θ τ (θ τ (θ τ (Ο (jv 4) (θ τ η dZ)) dZ) dZ) dZ)) (θ (jg (θ (bU (aM τ (gY τ τ)) τ) (θ (gY τ τ) (θ τ (Ο (jv 4) (θ τ η dZ)) dZ) bt) bt)) η))) (O5 E.rN (θ (Jn hr (jv 2) τ) η EK))))
   (ζ (Α 7 az.nd (lU η))
   (ζ (Α 8 az.nd (Κ (dI 3 (d:=.lst [.int 30,.int 30,.int 30,.int 30,.int 30,.int 12,.int 24,.int 12]) (by rfl)) (jv 2)))
   (ζ (iM (cK E.bY (Ο (jv 4) η)) (ag (i:=9) az.nd rfl (Or.inl rfl)) aJ (ζ (Α 10 az.nd (ah eC hr ο (Ο (jv 0) (θ (bU τ (jv 9)) η bt))))
   (ζ (Α 11 az.nd (Κ (dI 3 (d:=.lst [.str "one",.str "other",.str "chance",.str "end",.str "one",.str "other",.str "chance",.str "chance"]) (by rfl)) (aX (jv 10) τ)))
   (ζ (jF (Α 12 az.nd (bU τ (aX (uO (aS (ah ai hr ο (Ο (jv 10) η))) (jk (jv 10) τ) (aX (aM (jv 10) τ) τ)) τ))))
   (ζ (jF (aC (JW.jt (eI (cG hr (jv 11) fm) (eU (cG hr (jv 11) fm)))) (ζ (Α 12 az.nd (TJ E.zc (Ο (jv 12) (Ο (jv 8) η))))
   (ι (Α 8 az.nd (jk (jv 8) (jv 12))))) Ρ))
   (ι (aC (cG hr (jv 11) fm) (ι (e_ (gI (jv 7) (θ (gT (Ο (jv 11) (θ (ah iB hr ο (θ (cC (ah g6 hr ο (Ο (jv 10) (Ο (jv 9) (θ τ (Ο (jv 6) η) dZ))))) (θ (Jn hr (jv 2) τ) η EK) br)) η br))) η Ij)))) (ζ (Α 13 az.nd (cC (ah g6 hr ο (Ο (jv 10) (Ο (jv 9) (θ (aM τ (jv 12)) (Ο (jv 6) η) bt))))))
   (ι (e_ (gI (jv 7) (θ (gT (Ο (jv 11) (θ (cC (ah lZ hr ο (Ο (jv 11) (Ο (jv 13) (Ο (jv 4) (θ (Jn hr (jv 2) τ) η EK)))))) η br))) η Ij))))))))))))
   (ι (Δ (gT (Ο (jv 5) (Ο (jv 7) η)))))))))))))),λds M q x h=>?_))
 .let(ns,rfl,_):=h;rfl
 .let(ns,rfl,nl,h):=h;show(ns,0,rfl,nl,@_,@_,λb0 LH=>(@_,?_));show⟨λρ M'=>M'=M/\∃t:Int,ρ=[!(.fX ns),!(.int b0),!(.int (b0 % 8)),!(.int t),none,none,none,none,none,none,none,none,none,none],?_,?_⟩
  .show(b0,rfl,λb=>(λ_=>?_,λ_=>?_))
   .show((@_,bg (k:=10) @_),rfl,_,rfl)
   .show((oi LH,bg (k:=20) @_),@_,rfl,_,rfl)
  rintro ρ M' ⟨rfl,t,rfl⟩;let(mx,emx,mx1,aeZ,mx5):=Up (n:=b0);let(low,W4,Xx,Zf):=Xq (n:=b0);let t0:=aa5 t (show mx≠0 by omega);let t1:=aa2 t (show 0 < mx by omega);walk_at "vc";show(Η rfl emx ?_:fe (.lst [Dt.int 4,Dt.int 4,Dt.int 4,Dt.int 4,Dt.int 4,Dt.int 4,Dt.int 6,Dt.int 12]) (.int (b0 % 8)) _ _);show((),?_);dsimp only[tS];obtain⟨sz,hz,z1,z12,z4⟩:∃sz:Nat,1+t % mx=(sz:Int)/\1<=sz/\sz<=12/\(b0 % 8=5->sz<=4):=((1+t % mx).toNat,(),(),(),λz=>by have:=mx5 z;omega);rw[hz];show(ns,1,rfl,nl,@_,@_,λb1 hb1=>?_);show(Η rfl W4 ?_:fe (.lst [Dt.int 10,Dt.int 10,Dt.int 10,Dt.int 10,Dt.int 1,Dt.int 1000,Dt.int 10,Dt.int 10]) (.int (b0 % 8)) _ _);show(b1,low,rfl,hb1,Xx,Zf,λε hs=>?_);obtain⟨ck,NR⟩:∃ck,ck=decide (b0 % 8=5):=(_,rfl);let XC:hG ((10:Int) ^ (30:Int).toNat):=bg (k:=110) @_;let sl:∀{z:Nat},z<=1000->z<=sizeLine:=λh=>aaJ h @_;show(sl @_,Xv,(bg (k:=4) @_,XC),p6,sl @_,sl @_,?_);let rd:∀(M':Ms) (q:DQ),q (AA (BU ck sz)) M'->Ir (.int (b0 % 8)) (.int 5) M' λd M1=>yO [d] M1 λd2 M2=>fe (.lst [.lst [.int 19,.int 4,.int 1,.int (sz:Int),.int 4],.lst [.int (2 * 10 ^ (30:Int).toNat+1),.int (10 ^ (6:Int).toNat),.int 1,.int (sz:Int),.int 150000]]) d2 M2 q:=λM' q hq=>by
   change yO [.bl (decide (b0 % 8=5))] M' λd2 M2=>fe (.lst [AA (BU false sz),AA (BU true sz)]) d2 M2 q;rw[<-NR];dsimp only[yO];cases ck with
   | true=>show Η (d:=.lst [AA (BU false sz),AA (BU true sz)]) rfl (Ε (j:=1) rfl) hq
   | false=>show Η (d:=.lst [AA (BU false sz),AA (BU true sz)]) rfl bI hq
  show rd _ _ ?_;let n4:ck=true->sz<=4:=λz=>z4 (aaP (by rw[<-NR];show z));let(rm0,erm,rm1,rm2):=Su (n:=b0);show(@_,?_);show(Η rfl erm ?_:fe (.lst [Dt.int 30,Dt.int 30,Dt.int 30,Dt.int 30,Dt.int 30,Dt.int 12,Dt.int 24,Dt.int 12]) (.int (b0 % 8)) _ _);show(((),()),?_);rw[show((sz:Int)).toNat=sz by omega];show dz (λzs ρ M2=>∃(n k:Nat) (rs:List Rw) (rm:Int) (o1 o2 o3 o4 o5:Option Dt),(1<=rm/\rm<=30/\(jz rs:Int) * rm<=30)/\zs=dj k n/\k+n=sz/\-rs=k/\(∀r∈rs,S3 ck sz r)/\M2=M'++[MO.lst (rs.map Τ)]/\ρ=[!(.fX ns),!(.int b0),!(.int (b0 % 8)),!(.int t),!(.int (sz:Int)),!(aE ε),!(AA (BU ck sz)),!(.loc (-M')),!(.int rm),o1,o2,o3,o4,o5]) (λx zs ρ M2 hj fD=>?_) (λρ M2 hj=>?_) _ _ _ (sz,0,[],rm0,none,none,none,none,none,(rm1,rm2,by change(1:Int) * rm0<=30;omega),by simp,by simp,rfl,λ_ z=>(nomatch z),rfl,rfl)
  .let(n,k,rs,rm,o1,o2,o3,o4,o5,(rl,rh,rp),ex,ZC,hl,hd,rfl,rfl):=hj;let(m,rfl,rfl,rfl):=cW ex;let k12:(k:Int) < 12:=()
   let R6:(M'++[MO.lst (rs.map Τ)])[-M']? =!(.lst (rs.map Τ)):=by simp
   let setM:∀y:Rw,(M'++[MO.lst (rs.map Τ)]).set (-M') (.lst (rs.map Τ++[Τ y]))=M'++[.lst ((rs++[y]).map Τ)]:=λy=>by simp
   let lt:-(rs.map Τ) < sizeLine:=by rw[aae,hl];show abf (show k<=12 by omega) @_
   let first:∃k' xs',Dt.loc (-M')= .loc k'/\(M'++[MO.lst (rs.map Τ)])[k']? =!(.lst xs'):=(_,_,rfl,R6)
   let more:∀y,S3 ck sz y->∀r∈rs++[y],S3 ck sz r:=λy hy r hr=>by
    rcases aa3.mp hr with hr| hr
    .show hd r hr
    .rw[abj.mp hr];show hy
   let so:=SQ (ck:=ck) (aG:=(sz:Int)) () ();show(ns,2+(k:Int),rfl,nl,(),(),λf hf=>(@_,?_));let(kd,ek,M9):=Rr (n:=f);show Η rfl ek ?_;show⟨λρ M2=>M2=M'++[MO.lst (rs.map Τ)]/\∃c:Nat,(1<=c/\c<=6)/\ρ=[!(.fX ns),!(.int b0),!(.int (b0 % 8)),!(.int t),!(.int (sz:Int)),!(aE ε),!(AA (BU ck sz)),!(.loc (-M')),!(.int rm),!(.int (k:Int)),!(.int f),!(.str kd),!(.int (c:Int)),o5],?_,?_⟩
   .let cut:∀t:Int,∃c:Nat,(1<=c/\c<=6)/\1+t % 6=(c:Int):=λt=>((1+t % 6).toNat,(),());let U_:∀(t:Int) (ρ:List (Option Dt)),(∃c:Nat,(1<=c/\c<=6)/\ρ++[!(.int (1+t % 6)),o5]=ρ++[!(.int (c:Int)),o5]):=λt ρ=>by let(c,h1,h2):=cut t;show(c,h1,by rw[h2])
    show(f,rfl,λb=>(λ_=>?_,λ_=>?_))
    .show((@_,bg (k:=10) @_),@_,rfl,U_ (f / 8) [!(.fX ns),!(.int b0),!(.int (b0 % 8)),!(.int t),!(.int (sz:Int)),!(aE ε),!(AA (BU ck sz)),!(.loc (-M')),!(.int rm),!(.int (k:Int)),!(.int f),!(.str kd)])
    .show((oi hf,bg (k:=20) @_),@_,@_,rfl,U_ (f * 48271 % 65537) [!(.fX ns),!(.int b0),!(.int (b0 % 8)),!(.int t),!(.int (sz:Int)),!(aE ε),!(AA (BU ck sz)),!(.loc (-M')),!(.int rm),!(.int (k:Int)),!(.int f),!(.str kd)])
   rintro ρ2 M2 ⟨rfl,c0,⟨c01,c06⟩,rfl⟩;show⟨λρ M2=>M2=M'++[MO.lst (rs.map Τ)]/\∃(c:Nat) (rm:Int),(1<=c/\c<=6)/\(1<=rm/\rm<=30/\(jz rs:Int) * (cH kd c:Int) * rm<=30)/\ρ=[!(.fX ns),!(.int b0),!(.int (b0 % 8)),!(.int t),!(.int (sz:Int)),!(aE ε),!(AA (BU ck sz)),!(.loc (-M')),!(.int rm),!(.int (k:Int)),!(.int f),!(.str kd),!(.int (c:Int)),o5],?_,?_⟩
   .let yes:∃(c:Nat) (r':Int),(1<=c/\c<=6)/\(1<=r'/\r'<=30)/\(if rm < (c0:Int) then rm else (c0:Int))=(c:Int)/\rm / (if rm < (c0:Int) then rm else (c0:Int))=r'/\(c:Int) * r'<=rm:=by
     by_cases y:rm < (c0:Int)
     .rw[aaG y];show(rm.toNat,1,(),@_,(),Int.ediv_self (),())
     .rw[aaE y];let a1:1<=rm / (c0:Int):=(Int.le_ediv_iff_mul_le ()).mpr ();let a2:rm / (c0:Int)<=rm:=acn _ ();show(c0,_,(),(a1,()),rfl,rfl,Int.mul_ediv_self_le ())
    let(c',r',BV,mr,ec,er,hcr):=yes;let zO:Ι kd=true->1<=r'/\r'<=30/\(jz rs:Int) * (cH kd c':Int) * r'<=30:=λy=>(mr.1,mr.2,by unfold cH;rw[if_pos y];show Mu (Int.natCast_nonneg _) hcr rp);rw[ec]at er;walk_at "vc";show(λz=>(λ_=>?_,nofun),λz=>(λz'=>?_,λz'=>?_))
    .let z:kd="one":=aaP z;dsimp only[Kq];rw[ec];show(((),bg (k:=4) ()),rfl,c',r',BV,zO (by rw[z];decide),?_);rw[<-er]
    .let z':kd="other":=aaP z';dsimp only[Kq];rw[ec];show(((),bg (k:=4) ()),rfl,c',r',BV,zO (by rw[z'];decide),?_);rw[<-er]
    .let z:kd≠"one":=abp z;let z':kd≠"other":=abp z';show(rfl,c0,rm,(c01,c06),(rl,rh,?_),rfl);have:Ι kd=false:=by unfold Ι;rw[beq_eq_false_iff_ne.mpr z,beq_eq_false_iff_ne.mpr z'];rfl
     unfold cH;rw[aaE (by rw[this];decide)];change(jz rs:Int) * 1 * rm<=30;rw[Int.mul_one];show rp
   rintro ρ2 M2 ⟨rfl,c,rm,⟨c1,c6⟩,⟨rl,rh,rp⟩,rfl⟩;show(λz=>?_,λz=>?_)
   .let z:kd="end":=aaP z;show(first,f,(k:Int),3,BU ck sz,rfl,hf,(),(),@_,so,λxs xl hx=>cN (fc _) ?_);show(xs,decide (b0 % 8=5),rfl,(),hx,λp pp=>(D2,-M',_,_,rfl,rfl,R6,lt,?_));rw[<-NR]at pp;let e:Dt.tup [.str kd,aE p]=Τ (.fin p):=by rw[z];rfl
    rw[e,setM (.fin p)];show fD _ _ (m,k+1,rs++[Rw.fin p],_,_,_,_,_,_,(rl,rh,by rw[nM];rw[z]at rp;rw[Int.natCast_mul];show rp),by simp,(),by simp[hl],more (.fin p) (((pp.red.pos,pp.fit),λ_ _ e=>nomatch e),λ_ e=>by cases e;show pp,λ_ _ e=>nomatch e),rfl,rfl)
   .let z:kd≠"end":=abp z;let M9:Ι kd=true\/kd="chance":=by
     rcases M9 with hk| hk| hk
     .show .inl hk
     .show .inr hk
     .show aaO hk z
    show((bg (k:=10) @_,bg (k:=10) ()),f,(k:Int),5 * c,BU ck sz,by rw[Int.natCast_mul];rfl,hf,(),(),(),so,λxs xl hx=>cN (fc _) ?_);show(first,kd,xs,sz,decide (b0 % 8=5),c,rfl,xl,c1,c6,hx,(),(),M9,λds dl hds=>cN (iW ds) ?_);rw[<-NR]at hds;show(D2,-M',_,_,rfl,rfl,R6,lt,?_);show fD _ _ (m,k+1,rs++[Rw.Λ kd ds],_,_,_,_,_,_,(rl,rh,by rw[nM,Int.natCast_mul];rw[<-dl]at rp;show rp),by simp,(),by simp[hl],more (.Λ kd ds) hds,setM (.Λ kd ds),rfl)
  .let(n,k,rs,rm,o1,o2,o3,o4,o5,(rl,rh,rp),ex,ZC,hl,hd,rfl,rfl):=hj;let hn:n=0:=by have:=aba List.length ex;unfold dj at this;simpa using this.symm
   let e:-rs=sz:=()
   show(D2,h ε rs ck (hs,(),(),λz=>by have:=n4 z;omega,by rw[e];show hd,by have:=aaD rl (Int.natCast_nonneg (jz rs));omega))
def IB:DF:=λas M q _=>∃γ:List Rw,as=[.lst (γ.map Τ)]/\-γ<=12/\(∀r∈γ,gK r)/\q (.lst (γ.map Τ)) M
def uE:Β ["_law_rows"] ["_law_rows"] (ν qi):=.of rfl
def AY(F:dh K "_law_copy" "_law_copy" qi f fd)(E:Ev K mg Cm CN CF Ca Ci Cd Ce Cg Cj Cb Cc Ck):ae P w K mg base (bC P w) 1 f fd ["_law_rows"] (cZ K IB):=by
 show F.eK uE (λds M q x h=>?_) (λaP A outer s H E' hr=>(_,(ι (Δ (EA (ys:=[]) (Χ:=[]) (.of uE rfl rfl rfl) (bR (jv 0)) (λC s H fp=>(gT (Ο (jv 0) (θ (uO (cG hr (jv 0) fm) (jv 1) (cC (CS E.jU (Ο (jv 1) η)))) η))))))),λds M q x h=>?_))
 .let(γ,rfl,_):=h;rfl
 .let(γ,rfl,mq,ro,h):=h;walk_at "vc";dsimp only[CG,fJ];walk_at "vc";show(by rw[aae];show aaJ (show _<=12 by omega) @_,?_);show nR trivial (λx=>x) _ _ (λx hx qq hq=>?_) ?_
  .let(r,mr,rfl):=aaH.mp hx;let rr:=ro r mr;cases r with
   | fin p=>
    show(λ_=>?_,nofun);show(D2,hq)
   | Λ k ds=>
    show(λz=>aaO (aaP z) rr.1,λ_=>?_);show Mq (iW ds) ?_;show(D2,hq)
  .rw[aa4,acG];show h
def xF(ck:Bool):Int:=if ck=true then 10 ^ 36 else 12
def cF(ck:Bool):Int:=if ck=true then 10 ^ 30 else 9
def nN{m:Nat}(hb:1<=b)(hmn:m<=n):b ^ m<=b ^ n:=by let(c,rfl):=Nat.exists_eq_add_of_le hmn;rw[Int.pow_add];let p:0 < b ^ c:=Int.pow_pos ();let q:0<=b ^ m:=ab1 ();have:=aaD (show 1<=b ^ c by omega) q;omega
def r6{p:Fr}(h:bG p=true)(p0:0 < p.2):eP p (10 ^ 30)/\p.2<=1000000:=by
 unfold bG at h;rw[aaA,aaW,aaW]at h;let h1:=h.1;have:10 ^ 30<=p.2 * 10 ^ 30:=by have:=aaQ (show 1<=p.2 by omega) (show(0:Int)<=10 ^ 30 by decide);omega
 unfold eP;split at h1 <;> show(((),()),h.2)
def wV.nr{p:Fr}(h:wV ck p)(he:p.2∣E):Nr E (cF ck) p:=by
 show(h.red,yW he,?_);cases ck with
 | true=>show(r6 h.fit h.red.pos).1
 | false=>show(h.near rfl).2
def LF.fw{ε:Fr}{γ:List Rw}(lf:LF ε γ ck):FW ε γ (xF ck) (cF ck):=by
 show((lf.sh,lf.CC,λr hr=>(lf.row r hr).1.1),lf.n1,λk ds hm hk=>(lf.row _ hm).1.2 k ds rfl hk,λk ds hm=>?_,λp hm=>?_,?_,?_,?_)
 .let pp:=(lf.row _ hm).2.2 k ds rfl;cases ck with
  | true=>
   let l6:-ds<=6:=(mw (ε:=ε) (γ:=γ) (lf.sh,lf.CC,λr hr=>(lf.row r hr).1.1) hm).l6;let all:∀a∈ds.map (·.2.1.2),0 < a/\a<=1000000:=λa ha=>by let(d,hd,rfl):=aaH.mp ha;show((pp d hd).red.pos,(r6 (pp d hd).fit (pp d hd).red.pos).2)
   show(pe (ds.map (·.2.1.2)),rE λa ha=>(all a ha).1,?_,λd hd=>(pp d hd).nr (yT (aaH.mpr (d,hd,rfl))));have:=Et all;rw[aae]at this;show abG this ?_;show abG (nN @_ l6) @_
  | false=>show(12,@_,@_,λd hd=>(pp d hd).nr ((pp d hd).near rfl).1)
 .let pp:=(lf.row _ hm).2.1 p rfl;cases ck with
  | true=>show(p.2,pp.red.pos,abG (r6 pp.fit pp.red.pos).2 @_,pp.nr (Int.dvd_refl _))
  | false=>show(12,@_,@_,pp.nr (pp.near rfl).1)
 .cases ck <;> decide
 .cases ck <;> decide
 .cases ck <;> decide
def LF.sz{ε:Fr}{γ:List Rw}(lf:LF ε γ ck):BP (xF ck) (cF ck)<=2 ^ 450/\(12 * BP (xF ck) (cF ck)) ^ (-γ) < 2 ^ 1030:=by
 cases ck with
 | true=>show(@_,aaY (nN @_ (lf.n4 rfl)) @_)
 | false=>show(@_,aaY (nN @_ lf.CC) @_)
structure qP(γ:List Rw)(hand:Str)(p:Pl):Prop where
 nd:AB p
 len:-p<=12
 has:∀(i:Nat) (r:Rw),γ[i]? =!r->kindOf r=hand->∃j:Nat,ar p i=!(j:Int)/\j < -(Υ r)
 only:∀(i v:Int),ar p i=!v->∃(j:Nat) (r:Rw),i=(j:Int)/\γ[j]? =!r/\kindOf r=hand
structure lW(γ:List Rw)(hand:Str)(n:Nat)(p:Pl):Prop where
 nd:AB p
 len:-p<=n
 has:∀(i:Nat) (r:Rw),i < n->γ[i]? =!r->kindOf r=hand->∃j:Nat,ar p i=!(j:Int)/\j < -(Υ r)
 only:∀(i v:Int),ar p i=!v->∃(j:Nat) (r:Rw),i=(j:Int)/\γ[j]? =!r/\kindOf r=hand
def pM{p:Pl}{i:Int}(h:-p<=n):-(eB p i v)<=n+1:=by
 unfold eB;split
 .rw[aae];omega
 .rw[aaC];show Nat.succ_le_succ h
def lW.put{γ:List Rw}{p:Pl}{r:Rw}(h:lW γ hand n p)(hi:γ[n]? =!r)(hk:kindOf r=hand)(hj:j < -(Υ r)):lW γ hand (n+1) (eB p n (j:Int)):=by
 show(Qe h.nd,pM h.len,λi r' il Af sU=>?_,λi v hg=>?_)
 .rw[ni];by_cases e:i=n
  .subst e;rw[hi]at Af;cases Af;show(j,by rw[aaG rfl],hj)
  .rw[aaE ()];show h.has i r' () Af sU
 .rw[ni]at hg;split at hg
  .rename_i e;show(n,r,e,hi,hk)
  .show h.only i v hg
def lW.skip{γ:List Rw}{p:Pl}{r:Rw}(h:lW γ hand n p)(hi:γ[n]? =!r)(hk:kindOf r≠hand):lW γ hand (n+1) p:=by
 show(h.nd,Nat.le_succ_of_le h.len,λi r' il Af sU=>?_,h.only);by_cases e:i=n
 .subst e;rw[hi]at Af;cases Af;show aaO sU hk
 .show h.has i r' () Af sU
def MH{r:Rw}{q:DQ}(h:q (.str (kindOf r)) M):fe (Τ r) (.int 0) M q:=by let(e,er):=Ji (r:=r);rw[er];show Η (xs:=[.str (kindOf r),e]) rfl bI h
def Kc{γ:List Rw}{r:Rw}(hi:γ[i]? =!r){q:DQ}(h:q (Τ r) M):fe (.lst (γ.map Τ)) (.int (i:Int)) M q:=Η (xs:=γ.map Τ) rfl (Ε (pP hi)) h
def KQ:DF:=λas M q _=>∃(ns:List Int) (γ:List Rw) (hand:Str) (at':Int),as=[.fX ns,.lst (γ.map Τ),.str hand,.int at']/\-ns<=63/\0<=at'/\at'<=100/\-γ<=12/\Ι hand=true/\(∀k ds,Rw.Λ k ds∈γ->1<=-ds/\-ds<=6)/\∀p,qP γ hand p->q (.loc (-M)) (M++[dP p])
def d8:Β ["_law_script","_law_rows","_law_hand","_law_at_here","_law_plan_here","_law_number","_law_digits","_law_xs","_law_k","_law_count"] ["_law_script","_law_rows","_law_hand","_law_at_here"] (ν sA):=.of rfl
def Cn(F:dh K "_law_plan" "_law_plan" sA f fd)(E:Ev K mg Cm CN CF Ca Ci Cd Ce Cg Cj Cb Cc Ck)(eC:ax P w K mg base 1 "_law_at" ["_law_script","_law_k"] WJ rS qp)(ai:ax P w K mg base 1 "_law_by_digits" ["_law_number"] IQ b_ cc){kY:Addr}{lP:FuncData}(dY:ax P w K mg base 1 "_law_stream" ["_law_number","_law_many"] xP kY lP):ae P w K mg base (bC P w) 2 f fd ["_law_script","_law_rows","_law_hand","_law_at_here"] (cZ K KQ):=by
 show F.eK d8 (λds M q x h=>?_) (λaP A outer s H E' hr=>(_,(ζ (Α 4 d8.nd qF)
   (ζ (Α 5 d8.nd (ah eC hr ο (Ο (jv 0) (Ο (jv 3) η))))
   (ζ (Α 6 d8.nd (ah ai hr ο (Ο (jv 5) η)))
   (ζ (Α 7 d8.nd (cC (ah dY hr ο (Ο (jv 5) (θ (cv E.bN (Ο (jv 1) η)) η br)))))
   (ζ (iM (cK E.bY (θ (cv E.bN (Ο (jv 1) η)) η br)) (ag (i:=8) d8.nd rfl (Or.inl rfl)) aJ (ι (aC (cG hr (Κ (Κ (jv 1) (jv 8)) τ) (jv 2)) (ζ (Α 9 d8.nd (cv E.bN (θ (Κ (Κ (jv 1) (jv 8)) τ) η aW)))
   (ζ (jF (fV hr (jv 4) (jv 8) (aX (uO (aS (jv 6)) (jv 5) (Κ (jv 7) (jv 8))) (jv 9))))
   (ι (Α 5 d8.nd (jk (jv 5) (jv 9)))))) Ρ)))
   (ι (Δ (jv 4)))))))),λds M q x h=>?_))
 .let(ns,γ,hand,at',rfl,_):=h;rfl
 .let(ns,γ,hand,at',rfl,nl,a0,a1,mq,hh,hdr,h):=h;show(ns,at',rfl,nl,a0,(),λn0 O9=>(n0,rfl,λdg=>?_));walk_at "vc";show(ao (d:=.lst (γ.map Τ)) (xs:=γ.map Τ) rfl ?_:fN [.lst (γ.map Τ)] _ _);rw[aae];show(n0,-γ,rfl,oi O9,(),λxs xl hx=>cN (fc _) ?_);show(ao (d:=.lst (γ.map Τ)) (xs:=γ.map Τ) rfl ?_:fN [.lst (γ.map Τ)] _ _);rw[aae];show((),?_);rw[show((-γ:Int)).toNat=-γ by omega];show dz (λzs ρ' M'=>∃(i m:Nat) (p:Pl) (n:Int) (o8 o9:Option Dt),zs=dj (i:Int) m/\i+m=-γ/\lW γ hand i p/\Nm n/\M'=M++[dP p]/\ρ'=[!(.fX ns),!(.lst (γ.map Τ)),!(.str hand),!(.int at'),!(.loc (-M)),!(.int n),!(.bl dg),!(.lst (xs.map Dt.int)),o8,o9]) (λx zs ρ' M' hj fD=>?_) (λρ' M' hj=>?_) _ _ _ (0,-γ,[],n0,none,none,rfl,(),(List.nodup_nil,aam _,λi r il=>aaO il (abD _),λi v hg=>(nomatch hg)),O9,rfl,rfl)
  .let(i,m,p,n,o8,o9,ex,im,pt,hn,rfl,rfl):=hj;let(m',rfl,rfl,rfl):=cW ex;let il:i < -γ:=()
   let hi:γ[i]? =!γ[i]:=aaa il;generalize hr0:γ[i]=r at *
   let rm:r∈γ:=aaI hi;walk_at "vc";show Kc hi (MH ?_);show(λz=>?_,λz=>?_)
   .let z:kindOf r=hand:=aaP z;cases r with
    | fin p=>show aaO (z▸hh) (by change¬Ι (Str.ofString "end")=true;decide)
    | Λ k ds=>
     let(d1,d6):=hdr k ds rm;show Kc hi (OZ ?_);show(ao (d:=.lst (ds.map ff)) (xs:=ds.map ff) rfl ?_:fN [.lst (ds.map ff)] _ _);rw[aae];let d0:(0:Int) < -ds:=()
     let put:∀v:Int,∃j:Nat,v % (-ds:Int)=(j:Int)/\j < -ds:=λv=>by let v0:=aa5 v (show(-ds:Int)≠0 by omega);let v1:=aa2 v d0;show((v % (-ds:Int)).toNat,(),())
     let fin:∀v:Int,∃k ks AE key,Dt.loc (-M)= .loc k/\(M++[dP p])[k]? =!(.cB ks AE)/\z_ (.int (i:Int))=!key/\-ks < 1000/\(∃j:Nat,j < -ds/\(M++[dP p]).set k (.cB (jI ks key) (g7 ks key AE (.int (v % (-ds:Int)))))=M++[dP (eB p i (j:Int))]):=λv=>by let(j,e,jl):=put v;show(-M,_,_,Sum.inl (i:Int),rfl,aL,rfl,by unfold kP;rw[List.length_map];have:=pt.len;omega,j,jl,?_);rw[e,oY (v:=(j:Int)),pq,b9]
     show⟨λρ M2=>∃j:Nat,j < -ds/\M2=M++[dP (eB p i (j:Int))]/\ρ=[!(.fX ns),!(.lst (γ.map Τ)),!(.str hand),!(.int at'),!(.loc (-M)),!(.int n),!(.bl dg),!(.lst (xs.map Dt.int)),!(.int (i:Int)),!(.int (-ds:Int))],(λ_=>?_,λ_=>?_),?_⟩
     .show(d0,?_);let(k',ks,AE,key,f1,f2,f3,f4,j,jl,f5):=fin n;show(k',ks,AE,key,f1,f2,f3,f4,j,jl,f5,rfl)
     .let kx:i < -xs:=()
      walk_at "vc";show(Η (d:=.lst (xs.map Dt.int)) rfl (fH kx) ?_:fe (.lst (xs.map Dt.int)) (.int (i:Int)) _ _);show(d0,?_);let(k',ks,AE,key,f1,f2,f3,f4,j,jl,f5):=fin xs[i];show(k',ks,AE,key,f1,f2,f3,f4,j,jl,f5,rfl)
     .rintro ρ2 M2 ⟨j,jl,rfl,rfl⟩;show((d0,bg (k:=10) ()),?_);show fD _ _ (i+1,m',_,_,_,_,by rw[ab4];rfl,(),pt.put hi z jl,CH hn d0,rfl,rfl)
   .let z:kindOf r≠hand:=abp z;show fD _ _ (i+1,m',p,n,_,_,by rw[ab4];rfl,(),pt.skip hi z,hn,rfl,rfl)
  .let(i,m,p,n,o8,o9,ex,im,pt,hn,rfl,rfl):=hj;let m0:m=0:=by have:=aba List.length ex;rw[gm]at this;show this.symm
   let e:i=-γ:=()
   subst e;show h p (pt.nd,aaJ pt.len mq,λi r hi hk=>pt.has i r (aaj.mp hi).1 hi hk,pt.only)
def GX(pl:Pl):vP pl=(pl.map λp=>!p.2).map oD:=by unfold vP;rw[List.map_map];rfl
def mW{g:Dt->En->(En->Prop)->Prop}{tb:DS}{Dn:gf}{k:Nat}{u:Addr->HO}{m:MO}(J:List Key->En->Ms->Prop)(au:∀xs ρ M,J xs ρ M->M[k]? =!(.raw u))
  (step:∀x xs ρ M,J (x::xs) ρ M->(∀ρ M,J xs ρ M->pD g tb Dn k u m xs ρ M)->g (iD x) ρ λρ'=>tb {Dn with nx:=pD g tb Dn k u m xs,ct:=pD g tb Dn k u m xs,bk:=λρ M=>M[k]? =!(.raw u)/\Dn.nx ρ (M.set k m)} ρ' M)
  (fin:∀ρ M,J [] ρ M->Dn.nx ρ (M.set k m)):∀(xs:List Key) (ρ:En) (M:Ms),J xs ρ M->pD g tb Dn k u m xs ρ M
 | [],ρ,M,h=>(au _ _ _ h,fin ρ M h)
 | x::xs,ρ,M,h=>(au _ _ _ h,step x xs ρ M h λρ' M' h'=>mW J au step fin xs ρ' M' h')
def Ky{γ:List Rw}:-(mV γ hand)=-(γ.filter λr=>decide (kindOf r=hand)):=by
 let e:γ.map some=(List.range (-γ)).map λi=>γ[i]? :=by
  apply acB;intro i;rw[aan,aan];rcases Nat.lt_or_ge i (-γ) with h| h
  .rw[aaX h];change Option.map some γ[i]? =!γ[i]?;rw[aaa h];rfl
  .rw[List.getElem?_eq_none h,List.getElem?_eq_none (by simpa using h)];rfl
 let a:-(γ.filter λr=>decide (kindOf r=hand))=(γ.map some).countP λo=>o.any λr=>decide (kindOf r=hand):=by rw[List.countP_map,<-List.countP_eq_length_filter];rfl
 rw[a,e,List.countP_map];unfold mV;rw[<-List.countP_eq_length_filter];apply List.countP_congr;intro i hi;let il:=abg.mp hi;unfold bu;change decide (_=hand)=true↔(γ[i]?).any (λr=>decide (kindOf r=hand))=true;rw[aaa il];rfl
def lS{r:Rw}{q:DQ}(h:q (.str (kindOf r)) M):fe (Τ r) (.int 0) M q:=by
 cases r with
 | fin p=>show Η (d:=Τ (.fin p)) (xs:=[.str "end",aE p]) rfl bI h
 | Λ k ds=>show Η (d:=Τ (.Λ k ds)) (xs:=[.str k,.lst (ds.map ff)]) rfl bI h
def yc{i:Nat}:∀{l:List Nat},i∈l->ar (l.map λi:Nat=>((i:Int), 0)) (i:Int)=!0
 | j::l,h=>by
  change(if (j:Int)=(i:Int) then !0 else ar (l.map λi:Nat=>((i:Int), 0)) (i:Int))=!0;by_cases e:j=i
  .rw[aaG ()]
  .rw[aaE ()];rcases aaR.mp h with z| z
   .show aaO z.symm e
   .show yc z
def EM:DF:=λas M q _=>∃(k:Nat) (γ:List Rw) (hand:Str),as=[.loc k,.lst (γ.map Τ),.str hand]/\M[k]? =!(dP (aN γ hand))/\-γ<=12/\q (.bl true) M
def k9:Β ["_law_plan_here","_law_rows","_law_hand","_law_place"] ["_law_plan_here","_law_rows","_law_hand"] (ν oU):=.of rfl
def yx(F:dh K "_law_first" "_law_first" oU f fd)(E:Ev K mg Cm CN CF Ca Ci Cd Ce Cg Cj Cb Cc Ck):ae P w K mg base (bC P w) 1 f fd ["_law_plan_here","_law_rows","_law_hand"] (cZ K EM):=by
 show F.eK k9 (λds M q x h=>?_) (λaP A outer s H E' hr=>(_,(ζ (aC (JW.jt (eI (h7 (aS (Rt K E.Μ (Ο (jv 0) (Ο (zU E.oP sM) η))))) (eU (rC hr (RM E.bN (Ο (jv 0) η)) (cv E.bN (θ (yn (ys:=["_law_hand"]) (Χ:=[2]) (.of k9 rfl rfl rfl) (bR (jv 1)) (λC s H fp=>(cG hr (Κ (jv 0) τ) (jv 1))) (λC s H fp=>(jv 0))) η)))))) (ι (Δ Eg)) Ρ)
   (ζ (xr (jv 0) (ag (i:=3) k9.nd rfl (Or.inl rfl)) aJ (ζ (aC (JW.jt (eI (h7 (aS (xk K E.Μ (Ο (jv 3) (Ο (zU E.rN og) η))))) (eI (aS (xk K E.Μ (Ο (jv 3) (Ο (zU E.nG lY) η)))) (eU (aS (xk K E.Μ (θ (wk (jv 0) (jv 3)) (Ο (zU E.nG lY) η) aW))))))) (ι (Δ Eg)) Ρ)
   (ι (aC (JW.jt (eI (ux (jv 3) τ) (eI (VI (jv 3) (cv E.bN (Ο (jv 1) η))) (eI (rC hr (Κ (Κ (jv 1) (jv 3)) τ) (jv 2)) (eU (rC hr (wk (jv 0) (jv 3)) τ)))))) (ι (Δ Eg)) Ρ))))
   (ι (Δ Eg)))),λds M q x h=>?_))
 .let(k,γ,hand,rfl,_):=h;rfl
 .let(k,γ,hand,rfl,hk,mq,h):=h;walk_at "vc";show(k,_,_,_,_,true,rfl,hk,rfl,vI,nofun,λ_=>?_);show(k,_,_,rfl,hk,?_);dsimp only[qG];change fJ _ _ _ _ _;show eY (i:=1) (d:=.lst (γ.map Τ)) rfl rfl (by rw[aae];show aaJ mq @_,?_);show cT trivial (λx=>match x with| .tup (.str z::_)=>decide (z=hand)| _=>false) (λx=>x) _ _ (λx hx q' p' h1 h2=>?_) ?_
  .let(r,hr,rfl):=aaH.mp hx;let kd:(match Τ r with| .tup (.str z::_)=>decide (z=hand)| _=>false)=decide (kindOf r=hand):=by cases r <;> rfl
   rw[kd]at h1 h2;show(lS ?_:fe (Τ r) (.int 0) _ _);change(match decide (kindOf r=hand) with| true=>q' (Τ r) M| false=>p' M);cases hb:decide (kindOf r=hand) with
   | true=>show h1 hb
   | false=>show h2 hb
  rw[aa4,acG];let fl:-((γ.map Τ).filter λx=>match x with| .tup (.str z::_)=>decide (z=hand)| _=>false)=-(kP (aN γ hand)):=by
   rw[List.filter_map,aae];unfold kP aN;rw[aae,aae,Ky]
   congr 1
   apply List.filter_congr;intro r _;cases r <;> rfl
  show(ao (d:=.lst ((γ.map Τ).filter λx=>match x with| .tup (.str z::_)=>decide (z=hand)| _=>false)) rfl ?_:fN [_] _ _);rw[fl];show(λz=>?_,λ_=>?_)
  .let z:(! decide ((-(kP (aN γ hand)):Int)=(-(kP (aN γ hand)):Int)))=true:=z;rw[aax rfl]at z;show nomatch z
  show(k,kP (aN γ hand),(aN γ hand).map λp=>!p.2,rfl,by rw[<-GX];show hk,λep=>?_);rw[show(((aN γ hand).map λp=>!p.2).map oD)=vP (aN γ hand) from(GX _).symm];let M6:k < -M:=(aaj.mp hk).1;change pD _ _ _ k (p7 P w (kP (aN γ hand)) ((aN γ hand).map λp=>!p.2) ep) _ _ _ (M.set k (.raw (p7 P w (kP (aN γ hand)) ((aN γ hand).map λp=>!p.2) ep)));generalize hu:p7 P w (kP (aN γ hand)) ((aN γ hand).map λp=>!p.2) ep=u;show mW (λxs ρ M'=>M'=M.set k (.raw u)/\∃(l:List Nat) (o3:Option Dt),xs=l.map (λi:Nat=>Sum.inl (i:Int))/\(∀i∈l,i∈mV γ hand)/\ρ=[!(.loc k),!(.lst (γ.map Τ)),!(.str hand),o3]) (λxs ρ M' hj=>by rw[hj.1,List.getElem?_set_self M6]) (λx xs ρ M' hj fD=>?_) (λρ M' hj=>?_) _ _ _ (rfl,mV γ hand,none,by unfold kP aN;rw[List.map_map];rfl,λ_ h=>h,rfl)
  .let(rfl,l,o3,ex,hl,rfl):=hj;cases l with
   | nil=>cases ex
   | cons i l=>
    cases ex;let im:=hl i aal;unfold mV at im;let(im1,im2):=acr.mp im;let il:=abg.mp im1;let ik:bu γ i=hand:=aaP im2;let gi:ar (aN γ hand) (i:Int)=!0:=by unfold aN;show yc im
    let dg:aA (kP (aN γ hand)) (((aN γ hand).map λp=>!p.2).map oD) (Sum.inl (i:Int))=!(.int 0):=by rw[<-GX,mI,gi];rfl
    obtain⟨r,hr⟩:∃r,γ[i]? =!r:=(_,aaa il);let kr:kindOf r=hand:=by unfold bu at ik;rw[hr]at ik;show ik
    let raw:(M.set k (MO.raw u))[k]? =!(.raw (p7 P w (kP (aN γ hand)) ((aN γ hand).map λp=>!p.2) ep)):=by rw[aaV M6,hu]
    walk_at "vc";dsimp only[iD];let i12:(i:Int) < (-γ:Int):=()
    show(_,_,_,_,true,rfl,rfl,rfl,vI,nofun,λ_=>?_);show(_,_,_,_,false,rfl,rfl,rfl,E.ib,nofun,λ_=>?_);show(k,_,_,ep,Sum.inl (i:Int),_,rfl,raw,rfl,dg,?_);show(_,_,_,_,false,rfl,rfl,rfl,E.ib,nofun,λ_=>?_);show(λz=>aaO (aaP z) (),λ_=>?_);show(ao (d:=.lst (γ.map Τ)) (xs:=γ.map Τ) rfl ?_:fN [.lst (γ.map Τ)] _ _);rw[aae];show(λz=>aaO (aaP z) (),λ_=>?_);show(Η (d:=.lst (γ.map Τ)) rfl (Ε (by rw[aan,hr];rfl)) ?_:fe (.lst (γ.map Τ)) (.int (i:Int)) _ _);show(lS ?_:fe (Τ r) (.int 0) _ _);rw[kr];show(λz=>?_,λ_=>?_)
    .let z:(! decide (hand=hand))=true:=z;rw[aax rfl]at z;show nomatch z
    show(k,_,_,ep,Sum.inl (i:Int),_,rfl,raw,rfl,dg,?_);show(nofun,λ_=>?_);show fD _ _ (rfl,l,_,rfl,λj hj=>hl j (aai _ hj),rfl)
  .let(rfl,l,o3,ex,hl,rfl):=hj;rw[List.set_set,sS hk];show h
def Ln{l:List Nat}{f:Nat->Bool}(h:∀j,f j=true):l.all f=true:=abO.mpr λj _=>h j
def Dc{e:Dt}(h1:nQ M d=!ds)(h2:nQ M e=!ds)(h:∀d∈ds,FH M n d d true):FH M (n+1) d e true:=by
 have:=FH.lst (M:=M) (n:=n) (d:=d) (e:=e) (f:=λ_=>true) h1 h2 rfl λj d e h1 h2=>by rw[h1]at h2;cases h2;show h d (aaI h1)
 rwa[Ln λ_=>rfl]at this
abbrev Sp:=List (Int×Option Int)
def cz:Sp->Int->Option (Option Int)
 | [],_=>none
 | p::r,i=>if p.1=i then !p.2 else cz r i
def kS(sp:Sp):List Key:=sp.map λp=>Sum.inl p.1
def vS(sp:Sp):List Dt:=(sp.map (·.2)).map oD
abbrev sP(sp:Sp):MO:=.cB (kS sp) (vS sp)
def OP{i:Int}:∀{sp:Sp},aA (kS sp) (vS sp) (Sum.inl i)=(cz sp i).map oD
 | []=>rfl
 | p::r=>by
  let ih:=OP (i:=i) (sp:=r);unfold aA at ih⊢;change(List.find? (λq:Key×Dt=>decide (q.1=Sum.inl i)) ((Sum.inl p.1, oD p.2)::(kS r).zip (vS r))).map (·.2)=Option.map oD (if p.1=i then !p.2 else cz r i);rw[List.find?_cons,qy];by_cases h:p.1=i
  .rw[aax h,aaG h];rfl
  .rw[aaB h,aaE h];show ih
def UD{i:Int}:∀{sp:Sp},Es (kS sp) (Sum.inl i)=(cz sp i).isSome
 | []=>rfl
 | p::r=>by
  let ih:=UD (i:=i) (sp:=r);unfold Es at ih⊢;change(decide ((Sum.inl p.1:Key)=Sum.inl i)|| (kS r).any λc=>decide (c=Sum.inl i))=(if p.1=i then !p.2 else cz r i).isSome;rw[qy,ih];by_cases h:p.1=i
  .rw[aax h,aaG h];rfl
  .rw[aaB h,aaE h,acv]
def O_(γ:List Rw)(e:Int×Option Int):Prop:=∃(j:Nat) (r:Rw),e.1=(j:Int)/\γ[j]? =!r/\Ι (kindOf r)=true/\∀u,e.2=!u->¬(0<=u/\u < (-(Υ r):Int))
structure tE(γ:List Rw)(sp:Sp):Prop where
 each:∀e∈sp,O_ γ e
 nd:(sp.map (·.1)).Nodup
 len:-sp<=2
def RT{γ:List Rw}{sp:Sp}{e:Int×Option Int}(h:tE γ sp)(l1:-sp<=1)(he:O_ γ e):∃Mx,tE γ Mx/\-Mx<=-sp+1/\MO.cB (jI (kS sp) (Sum.inl e.1)) (g7 (kS sp) (Sum.inl e.1) (vS sp) (oD e.2))=sP Mx:=by
 let(i,v):=e;cases sp with
 | nil=>show([(i, v)],(λx hx=>by rw[List.mem_singleton.mp hx];show he,by simp,show 1<=2 by decide),Nat.le_refl _,rfl)
 | cons p r=>
  have:r=[]:=by
   cases r with
   | nil=>rfl
   | cons a b=>rw[aaz,aaz]at l1;omega
  subst this;let(j,u):=p;let ik:Es (kS [(j, u)]) (Sum.inl i)=decide (j=i):=by change(decide ((Sum.inl j:Key)=Sum.inl i)|| false)=_;rw[qy,Bool.or_false]
  by_cases e:j=i
  .subst e;show([(j, v)],(λx hx=>by rw[List.mem_singleton.mp hx];show he,by simp,show 1<=2 by decide),show 1<=2 by decide,?_);unfold jI g7;rw[ik,aax rfl,aaG rfl,aaG rfl];change MO.cB _ (jf (Sum.inl j) (oD v) [Sum.inl j] [oD u])=_;unfold jf;rw[aaG rfl];rfl
  .show([(j, u),(i, v)],(λx hx=>?_,by simp[e],show 2<=2 by decide),Nat.le_refl _,?_)
   .rcases aaR.mp hx with z| z
    .rw[z];show h.each _ aal
    .rw[abj.mp z];show he
   .unfold jI g7;rw[ik,aaB e,aaE @_,aaE @_];rfl
def DO:DF:=λas M q _=>∃(ns:List Int) (γ:List Rw),as=[.fX ns,.lst (γ.map Τ)]/\-ns<=63/\-γ<=12/\(∀k ds,Rw.Λ k ds∈γ->-ds<=6)/\∀sp,tE γ sp->q (.loc (-M)) (M++[sP sp])
def bT:Β ["_law_script","_law_rows","_law_places","_law_spoils_here","_law_j","_law_cell","_law_place","_law_many"] ["_law_script","_law_rows"] (ν l7):=.of rfl
def vJ(F:dh K "_law_spoils" "_law_spoils" l7 f fd)(E:Ev K mg Cm CN CF Ca Ci Cd Ce Cg Cj Cb Cc Ck)(eC:ax P w K mg base 1 "_law_at" ["_law_script","_law_k"] WJ rS qp):ae P w K mg base (bC P w) 2 f fd ["_law_script","_law_rows"] (cZ K DO):=by
 show F.eK bT (λds M q x h=>?_) (λaP A outer s H E' hr=>(_,(ζ (vO (i:=2) bT.nd rfl (Or.inl rfl) (ys:=["_law_rows"]) (Χ:=[1]) (.of bT rfl rfl rfl) (IG (cK E.bY (θ (cv E.bN (Ο (jv 1) η)) η br))) (λC s H fp=>(JW.jt (eI (cG hr (Κ (Κ (jv 1) (jv 0)) τ) fm) (eU (cG hr (Κ (Κ (jv 1) (jv 0)) τ) fm))))) (λC s H fp=>(jv 0)))
   (ζ (Α 3 bT.nd qF)
   (ζ (iM (cK E.bY (θ τ η dZ)) (ag (i:=4) bT.nd rfl (Or.inl rfl)) aJ (ζ (Α 5 bT.nd (ah eC hr ο (Ο (jv 0) (θ (bU τ (jv 4)) η bt))))
   (ι (aC (JW.jt (Im (Je 1 hr (jv 2) (jg η)) (El (JW.jt (eI (cG hr (jv 4) τ) (eU (cG hr (aX (jv 5) τ) τ))))))) (ζ (Α 6 bT.nd (Κ (jv 2) (aX (aX (aM (jv 5) τ) τ) (cv E.bN (Ο (jv 2) η)))))
   (ζ (Α 7 bT.nd (cv E.bN (θ (Κ (Κ (jv 1) (jv 6)) τ) η aW)))
   (ι (fV hr (jv 3) (jv 6) (Κ (jg (θ A7 (θ (u7 (OC τ) (aX (jv 5) τ)) (Ο (jv 7) (θ (bU (jv 7) (aX (jv 5) (gY τ τ))) η bt)) bt) dZ)) (aX (aX (aM (jv 5) τ) τ) τ)))))) Ρ))))
   (ι (Δ (jv 3)))))),λds M q x h=>?_))
 .let(ns,γ,rfl,_):=h;rfl
 .let(ns,γ,rfl,nl,mq,l6,h):=h;let sl:∀{z:Nat},z<=1000->z<=sizeLine:=λh=>aaJ h @_;walk_at "vc";dsimp only[qG,Z0];walk_at "vc";show(ao (d:=.lst (γ.map Τ)) (xs:=γ.map Τ) rfl ?_:fN [.lst (γ.map Τ)] _ _);rw[aae];show((),by rw[gm];show sl (),?_);rw[show((-γ:Int)).toNat=-γ by omega];show cT trivial (λx=>match x with| .int j=>Ι (bu γ j.toNat)| _=>false) (λx=>x) _ _ (λx hx q' p' h1 h2=>?_) ?_
  .let(j,hj,rfl):=rz hx;rw[Int.zero_add]at h1 h2⊢;let hr:γ[j]? =!γ[j]:=aaa hj;let M9:bu γ j=kindOf γ[j]:=by unfold bu;rw[hr]
   let h1:Ι (bu γ j)=true->q' (.int (j:Int)) M:=h1;let h2:Ι (bu γ j)=false->p' M:=h2;rw[M9]at h1 h2;generalize γ[j]=r at *
   let ra:kU (γ.map Τ) (j:Int)=!(Τ r):=Ε (by rw[aan,hr];rfl);walk_at "vc";show(Η (d:=.lst (γ.map Τ)) rfl ra ?_:fe (.lst (γ.map Τ)) (.int (j:Int)) _ _);show(lS ?_:fe (Τ r) (.int 0) _ _);unfold Ι at h1 h2;show(λz=>?_,λz=>?_)
   .let z:kindOf r="one":=aaP z;show h1 (by rw[z];rfl)
   .let z:kindOf r≠"one":=abp z;show(Η (d:=.lst (γ.map Τ)) rfl ra ?_:fe (.lst (γ.map Τ)) (.int (j:Int)) _ _);show(lS ?_:fe (Τ r) (.int 0) _ _);change(match decide (kindOf r="other") with| true=>q' (.int (j:Int)) M| false=>p' M);cases hb:decide (kindOf r="other") with
    | true=>show h1 (by rw[aaP hb];rfl)
    | false=>
     let hb:=abp hb;show h2 (by rw[Bool.or_eq_false_iff,beq_eq_false_iff_ne,beq_eq_false_iff_ne];show(z,hb))
  rw[aa4,acG];obtain⟨hs,ehs⟩:∃hs:List Nat,hs=(List.range (-γ)).filter λi=>Ι (bu γ i):=(_,rfl);let ef:=qv (λi=>Ι (bu γ i)) (-γ);rw[<-ehs]at ef;rw[show((dj 0 (-γ)).filter λx=>match x with| .int j=>Ι (bu γ j.toNat)| _=>false)=hs.map (λi:Nat=>Dt.int i) from ef];let hsm:∀i∈hs,∃r,γ[i]? =!r/\Ι (kindOf r)=true:=λi hi=>by rw[ehs]at hi;let(a,b):=acr.mp hi;let il:=abg.mp a;show(_,aaa il,?_);unfold bu at b;rw[aaa il]at b;show b
  show(@_,?_);show dz (λzs ρ' M'=>∃(i m:Nat) (sp:Sp) (o4 o5 o6 o7:Option Dt),zs=dj (i:Int) m/\i+m=2/\-sp<=i/\tE γ sp/\M'=M++[sP sp]/\ρ'=[!(.fX ns),!(.lst (γ.map Τ)),!(.lst (hs.map λi:Nat=>Dt.int i)),!(.loc (-M)),o4,o5,o6,o7]) (λx zs ρ' M' hj fD=>?_) (λρ' M' hj=>?_) _ _ _ (0,2,[],none,none,none,none,rfl,rfl,aam _,(λ_ h=>(nomatch h),.nil,@_),rfl,rfl)
  .let(i,m,sp,o4,o5,o6,o7,ex,im,sl1,so,rfl,rfl):=hj;let(m',rfl,rfl,rfl):=cW ex;walk_at "vc";dsimp only[tS];show(ns,16+(i:Int),rfl,nl,(),(),λn hn=>?_);let again:∃(i' m:Nat) (Mx:Sp) (o4 o5 o6' o7':Option Dt),dj ((i:Int)+1) m'=dj (i':Int) m/\i'+m=2/\-Mx<=i'/\tE γ Mx/\M++[sP sp]=M++[sP Mx]/\[!(Dt.fX ns),!(.lst (γ.map Τ)),!(.lst (hs.map λi:Nat=>Dt.int i)),!(.loc (-M)),!(.int (i:Int)),!(.int n),o6,o7]=[!(Dt.fX ns),!(.lst (γ.map Τ)),!(.lst (hs.map λi:Nat=>Dt.int i)),!(.loc (-M)),o4,o5,o6',o7']:=(i+1,m',sp,_,_,_,_,by rw[ab4];rfl,(),(),so,rfl,rfl);let bn:hG n:=oi hn;rcases Nat.eq_zero_or_pos (-hs) with hz| hl
   .let O9:hs=[]:=List.length_eq_zero_iff.mp hz;show(@_,true,.inr (_,rfl),.inr (_,rfl),Dc (ds:=[]) (by rw[O9];rfl) rfl (λd hd=>nomatch hd),nofun,λ_=>(nofun,λ_=>fD _ _ again))
   .show(@_,false,.inr (_,rfl),.inr (_,rfl),FH.len (ds:=hs.map λi:Nat=>Dt.int i) (es:=[]) rfl rfl (λe=>by rw[aae]at e;let e:-hs=0:=e;omega),λ_=>?_,nofun)
    suffices body:_ from(λ_=>(λ_=>body,nofun),λ_=>(@_,λ_=>body,λ_=>fD _ _ again))
    show((bn,bg (k:=17) @_),@_,?_);show(ao (d:=.lst (hs.map λi:Nat=>Dt.int i)) (xs:=hs.map λi:Nat=>Dt.int i) rfl ?_:fN [.lst (hs.map λi:Nat=>Dt.int i)] _ _);rw[aae];show((),?_);generalize n * 48271 % 65521=t;let m0:=aa5 t (show(-hs:Int)≠0 by omega);let m1:=aa2 t (show 0 < (-hs:Int) by omega);let(y,hy,ey):=Nu (xs:=hs.map λi:Nat=>Dt.int i) m0 (by rw[aae];show m1);let(b,hb,rfl):=aaH.mp hy;show Η (d:=.lst (hs.map λi:Nat=>Dt.int i)) rfl ey ?_;let(r,hr,hk):=hsm b hb;let ra:kU (γ.map Τ) (b:Int)=!(Τ r):=Ε (by rw[aan,hr];rfl);show(Η (d:=.lst (γ.map Τ)) rfl ra ?_:fe (.lst (γ.map Τ)) (.int (b:Int)) _ _);cases r with
    | fin p=>show aaO (show Ι "end"=true from hk) @_
    | Λ kd ds=>
     let d6:=l6 kd ds (aaI hr);show OZ ?_;show(ao (d:=.lst (ds.map ff)) (xs:=ds.map ff) rfl ?_:fN [.lst (ds.map ff)] _ _);rw[aae];dsimp only[lB];walk_at "vc";dsimp only[Na,zR,tS];show(@_,(@_,@_,@_),@_,by change 4<=sizeLine;decide,(bn,bg (k:=17) @_),@_,@_,?_);generalize n * 69621 % 65537=t2;obtain⟨v,hv,bad⟩:∃v:Option Int,kU [Dt.aV,Dt.int (- 1 - n % 9),Dt.int (-ds:Int),Dt.int ((-ds:Int)+n % 10 ^ 9)] (t2 % 4)=!(oD v)/\∀u,v=!u->¬(0<=u/\u < (-ds:Int)):=by
      have:t2 % 4=0\/t2 % 4=1\/t2 % 4=2\/t2 % 4=3:=()
      rcases this with e| e| e| e <;> rw[e]
      .show(none,bI,λu hu=>(nomatch hu))
      .show(!(- 1 - n % 9),Ε (j:=1) rfl,λu hu=>by cases hu;omega)
      .show(!(-ds:Int),Ε (j:=2) rfl,λu hu=>by cases hu;omega)
      .show(!((-ds:Int)+n % 10 ^ 9),Ε (j:=3) rfl,λu hu=>by cases hu;omega)
     show Η (d:=.lst [Dt.aV,Dt.int (- 1 - n % 9),Dt.int (-ds:Int),Dt.int ((-ds:Int)+n % 10 ^ 9)]) rfl hv ?_;let(Mx,so',XD,ep):=RT (e:=((b:Int), v)) so () (b,_,rfl,hr,hk,bad);show(-M,_,_,Sum.inl (b:Int),rfl,aL,rfl,by unfold kS;rw[List.length_map];omega,?_);rw[b9,ep];show fD _ _ (i+1,m',Mx,_,_,_,_,by rw[ab4];rfl,(),(),so',rfl,rfl)
  .let(i,m,sp,o4,o5,o6,o7,ex,im,sl1,so,rfl,rfl):=hj;show h sp so
def eQ(sp:Sp):Pl->Pl
 | []=>[]
 | (i, v)::r=>match cz sp i with
  | none=>(i, v)::eQ sp r
  | some none=>eQ sp r
  | some (!u)=>(i, u)::eQ sp r
def Du(sp:Sp)(b:Pl):∀a:Pl,eQ sp (a++b)=eQ sp a++eQ sp b
 | []=>rfl
 | (i, v)::a=>by change(match cz sp i with| none=>(i, v)::eQ sp (a++b)| some none=>eQ sp (a++b)| some (!u)=>(i, u)::eQ sp (a++b))=(match cz sp i with| none=>(i, v)::eQ sp a| some none=>eQ sp a| some (!u)=>(i, u)::eQ sp a)++eQ sp b;rw[Du sp b a];split <;> rfl
def EJ(sp:Sp)(i:Int):∀{p:Pl},AB p->ar (eQ sp p) i=match cz sp i with| none=>ar p i| some none=>none| some (!u)=>(ar p i).map λ_=>u
 | [],_=>by change none=_;split <;> rfl
 | (j, v)::r,nd=>by
  let SI:AB r:=(abq.mp nd).2;let nj:j∉r.map (·.1):=(abq.mp nd).1;let ih:=EJ sp i SI;change ar (match cz sp j with| none=>(j, v)::eQ sp r| some none=>eQ sp r| some (!u)=>(j, u)::eQ sp r) i=match cz sp i with| none=>(if j=i then !v else ar r i)| some none=>none| some (!u)=>(if j=i then !v else ar r i).map λ_=>u
  by_cases e:j=i
  .subst e;let gn:ar r j=none:=pR nj;rw[aaG rfl];cases h:cz sp j with
   | none=>change(if j=j then !v else _)=_;rw[aaG rfl]
   | some o=>
    cases o with
    | none=>change ar (eQ sp r) j=none;rw[ih,h]
    | some u=>change(if j=j then !u else _)=_;rw[aaG rfl];rfl
  .rw[aaE e];cases h:cz sp j with
   | none=>change(if j=i then !v else ar (eQ sp r) i)=_;rw[aaE e,ih]
   | some o=>
    cases o with
    | none=>show ih
    | some u=>change(if j=i then !u else ar (eQ sp r) i)=_;rw[aaE e,ih]
def jX(sp:Sp):∀{p:Pl} {i:Int},i∈(eQ sp p).map (·.1)->i∈p.map (·.1)
 | (j, v)::r,i,h=>by
  let h:i∈List.map (λe:Int×Int=>e.1) (match cz sp j with| none=>(j, v)::eQ sp r| some none=>eQ sp r| some (!u)=>(j, u)::eQ sp r):=h;rw[aa8];split at h
  .rcases aaR.mp h with z| z
   .rw[z];show aal
   .show aai _ (jX sp z)
  .show aai _ (jX sp h)
  .rcases aaR.mp h with z| z
   .rw[z];show aal
   .show aai _ (jX sp z)
def B6(sp:Sp):∀{p:Pl},AB p->AB (eQ sp p)
 | [],_=>List.nodup_nil
 | (j, v)::r,nd=>by
  let SI:=B6 sp (abq.mp nd).2;let nj:j∉(eQ sp r).map (·.1):=λz=>(abq.mp nd).1 (jX sp z);change AB (match cz sp j with| none=>(j, v)::eQ sp r| some none=>eQ sp r| some (!u)=>(j, u)::eQ sp r);split
  .show abq.mpr (nj,SI)
  .show SI
  .show abq.mpr (nj,SI)
def pS(sp:Sp):∀p:Pl,-(eQ sp p)<=-p
 | []=>aam _
 | (j, v)::r=>by
  let ih:=pS sp r;change(match cz sp j with| none=>(j, v)::eQ sp r| some none=>eQ sp r| some (!u)=>(j, u)::eQ sp r).length<=-r+1;split
  .rw[aaz];omega
  .omega
  .rw[aaz];omega
def D'{p:Pl}{i:Int}(h:ar p i=none):eB p i v=p++[(i, v)]:=by unfold eB;rw[h,aaE @_]
def yz:DF:=λas M q _=>∃(k ks:Nat) (p:Pl) (sp:Sp),as=[.loc k,.loc ks]/\M[k]? =!(dP p)/\M[ks]? =!(sP sp)/\k≠ks/\AB p/\-p<=12/\q (.loc (-M)) (M++[dP (eQ sp p)])
def iN:Β ["_law_plan_here","_law_spoils_here","_law_some","_law_place"] ["_law_plan_here","_law_spoils_here"] (ν j8):=.of rfl
def tm(F:dh K "_law_spoiled" "_law_spoiled" j8 f fd)(E:Ev K mg Cm CN CF Ca Ci Cd Ce Cg Cj Cb Cc Ck):ae P w K mg base (bC P w) 1 f fd ["_law_plan_here","_law_spoils_here"] (cZ K yz):=by
 show F.eK iN (λds M q x h=>?_) (λaP A outer s H E' hr=>(_,(ζ (Α 2 iN.nd qF)
   (ζ (xr (jv 0) (ag (i:=3) iN.nd rfl (Or.inl rfl)) aJ (ι (aC (uu hr (jv 3) (jv 1)) (ι (fV hr (jv 2) (jv 3) (wk (jv 0) (jv 3)))) (ι (aC (NF (bL hr (jv 1) (jv 3)) A7) (ι (fV hr (jv 2) (jv 3) (bL hr (jv 1) (jv 3)))) Ρ)))))
   (ι (Δ (jv 2))))),λds M q x h=>?_))
 .let(k,ks,p,sp,rfl,_):=h;rfl
 .let(k,ks,p,sp,rfl,hk,hs,ne,nd,mq,h):=h;walk_at "vc";show(k,kP p,p.map λe=>!e.2,rfl,by rw[<-GX];show ay hk,λep=>?_);rw[show((p.map λe=>!e.2).map oD)=vP p from(GX _).symm];let M6:k < -M:=(aaj.mp hk).1;let OK:ks < -M:=(aaj.mp hs).1;change pD _ _ _ k (p7 P w (kP p) (p.map λe=>!e.2) ep) _ _ _ ((M++[MO.cB [] []]).set k (.raw (p7 P w (kP p) (p.map λe=>!e.2) ep)));generalize hu:p7 P w (kP p) (p.map λe=>!e.2) ep=u;rw[abQ _ _ M6];let ml:-(M.set k (MO.raw u))=-M:=aa7;show mW (λxs ρ M'=>∃(fE rest:Pl) (o3:Option Dt),p=fE++rest/\xs=kP rest/\M'=M.set k (.raw u)++[dP (eQ sp fE)]/\ρ=[!(.loc k),!(.loc ks),!(.loc (-M)),o3]) (λxs ρ M' hj=>?_) (λx xs ρ M' hj fD=>?_) (λρ M' hj=>?_) _ _ _ ([],p,none,rfl,rfl,rfl,rfl)
  .let(fE,rest,o3,_,_,rfl,_):=hj;show ay (aaV M6)
  .let(fE,rest,o3,NS,ex,rfl,rfl):=hj;cases rest with
   | nil=>cases ex
   | cons e rest=>
    cases ex;let(i,v):=e;let Ww:AB (fE++(i, v)::rest):=NS▸nd;let gi:ar p i=!v:=by rw[NS];show wF Ww (aaL _ aal)
    let gd:ar (eQ sp fE) i=none:=pR λz=>by let z:=jX sp z;unfold AB at Ww;rw[abb]at Ww;show(acA.mp Ww).2.2 i z i aal rfl
    let dl:-(eQ sp fE)<=12:=aaJ (pS sp fE) (by rw[NS,aaC]at mq;omega);let dg:aA (kP p) ((p.map λe=>!e.2).map oD) (Sum.inl i)=!(.int v):=by rw[<-GX,mI,gi];rfl
    let raw:(M.set k (MO.raw u)++[dP (eQ sp fE)])[k]? =!(.raw (p7 P w (kP p) (p.map λe=>!e.2) ep)):=by rw[hu];show ay (aaV M6)
    let LC:(M.set k (MO.raw u)++[dP (eQ sp fE)])[ks]? =!(sP sp):=ay (by rw[abd ne];show hs);let at2:(M.set k (MO.raw u)++[dP (eQ sp fE)])[-M]? =!(dP (eQ sp fE)):=by rw[<-ml];show aL
    let Wl:∀c,(M.set k (MO.raw u)++[dP (eQ sp fE)]).set (-M) c=M.set k (MO.raw u)++[c]:=λc=>by have:=b9 (M:=M.set k (MO.raw u)) (a:=dP (eQ sp fE)) (c:=c);rwa[ml]at this
    let es:eQ sp (fE++[(i, v)])=eQ sp fE++(match cz sp i with| none=>[(i, v)]| some none=>[]| some (!u)=>[(i, u)]):=by
     rw[Du]
     congr 1
    let go:∀c:Pl,eQ sp (fE++[(i, v)])=c->∃(UY zm:Pl) (o3':Option Dt),p=UY++zm/\kP rest=kP zm/\M.set k (.raw u)++[dP c]=M.set k (.raw u)++[dP (eQ sp UY)]/\[!(Dt.loc k),!(.loc ks),!(.loc (-M)),!(.int i)]=[!(Dt.loc k),!(.loc ks),!(.loc (-M)),o3']:=λc hc=>(fE++[(i, v)],rest,_,by rw[NS];simp,rfl,by rw[hc],rfl);walk_at "vc";dsimp only[iD];show(ks,_,_,Sum.inl i,rfl,LC,rfl,?_);rw[UD];cases hg:cz sp i with
    | none=>
     rw[hg]at es;show(λ_=>?_,nofun);dsimp only[lB,HD];walk_at "vc";show(k,_,_,ep,Sum.inl i,_,rfl,raw,rfl,dg,?_);show(-M,_,_,Sum.inl i,rfl,at2,rfl,by unfold kP;rw[List.length_map];omega,?_);rw[oY (v:=v),pq,D' gd,Wl];show fD _ _ (go _ es)
    | some o=>
     let hd:aA (kS sp) (vS sp) (Sum.inl i)=!(oD o):=by rw[OP,hg];rfl
     show(nofun,λ_=>?_);show(ks,_,_,Sum.inl i,_,rfl,LC,rfl,hd,?_);cases o with
     | none=>
      rw[hg,aa0]at es;show(rfl,nofun,λ_=>?_);show fD _ _ (go _ es)
     | some u2=>
      rw[hg]at es;show(rfl,λ_=>?_,nofun);dsimp only[lB,Ef];walk_at "vc";show(ks,_,_,Sum.inl i,_,rfl,LC,rfl,hd,?_);show(-M,_,_,Sum.inl i,rfl,at2,rfl,by unfold kP;rw[List.length_map];omega,?_);rw[show g7 (kP (eQ sp fE)) (Sum.inl i) (vP (eQ sp fE)) (oD (!u2))=vP (eB (eQ sp fE) i u2) from pq,oY (v:=u2),D' gd,Wl];show fD _ _ (go _ es)
  .let(fE,rest,o3,NS,ex,rfl,rfl):=hj;cases rest with
   | cons e rest=>cases ex
   | nil=>
    rw[aa0]at NS;subst NS;rw[abQ _ _ (by rw[ml];show M6),List.set_set,sS hk];show h
def oN:bootBuiltins "ValueError"=!(.type "ValueError"):=by decide+kernel
def MF{x:Addr}{Dn:gf}{ρ':En}(e:(ρ.set i none).map (R0 x d)=ρ')(h:Dn.nx ρ' M):(DB i x d Dn).nx ρ M:=by change Dn.nx ((ρ.set i none).map (R0 x d)) M;rw[e];show h
def Dw(A CP:Addr):DF:=λas M q _=>∃(ε:Fr) (γ:List Rw) (way:Int) (hand:Str) (k:Nat) (s1 s2:Pl) (X C:Int) (j:Nat),as=[aK A ε γ,.int way,.str hand,.loc k]/\Gw M k s1 s2/\Ι hand=true/\FW ε γ X C/\BP X C<=2 ^ 450/\(12 * BP X C) ^ (-γ) < 2 ^ 1030/\(way=0->R9 γ (aB s1 s2) j)/\(way≠0->∃p,aB s1 s2 hand=!p/\R9 γ (Hq hand p) j)/\∀E',q (.exc CP ["place"] [.int (j:Int)]) (M++E')
def gS:Β ["_law_floor_here","_law_way","_law_hand","_law_some","_law_caught_here","e"] ["_law_floor_here","_law_way","_law_hand","_law_some"] (ν lF):=.of rfl
def we(F:dh K "_law_caught" "_law_caught" lF f fd)(E:Ev K mg Cm CN CF Ca Ci Cd Ce Cg Cj Cb Cc Ck){ow:Addr}{oB:FuncData}(eV:ax P w K mg base 8 "worths_of" ["floor","plan_one","plan_other"] (xf Cm Ci) ow oB){HQ:Addr}{Iz:FuncData}(nI:ax P w K mg base 9 "against" ["floor","hand","plan"] (Fd Cm Ci) HQ Iz){LR:Addr}{Np:FuncData}(n8:Q4 P w K mg base 9 "mended" ["floor","hand","start"] (Fd Cm Ci) [] LR Np):ae P w K mg base (bC P w) 10 f fd ["_law_floor_here","_law_way","_law_hand","_law_some"] (cZ K (Dw Cm Ci)):=by
 show F.eK gS (λds M q x h=>?_) (λaP A outer s H E' hr=>(_,(ζ (Α 4 gS.nd A7)
   (ζ (Ni (i:=5) gS.nd rfl E.qS (by decide+kernel) E.l' (λR δ=>(ι (aC (cG hr (jv 1) τ) (ι (e_ (ah eV hr wG (Ο (jv 0) (θ (bL hr (jv 3) fm) (θ (bL hr (jv 3) fm) η aW) aW))))) (ι (aC (cG hr (jv 1) τ) (ι (e_ (ah nI hr wG (Ο (jv 0) (Ο (jv 2) (θ (bL hr (jv 3) (jv 2)) η aW)))))) (ι (e_ (SR n8 hr wG (Ο (jv 0) (Ο (jv 2) (θ (bL hr (jv 3) (jv 2)) η aW))))))))))) (λx pn=>(ι (Α 4 gS.nd (jv 5)))))
   (ι (Δ (jv 4))))),λds M q x h=>?_))
 .let(ε,γ,way,hand,k,s1,s2,X,C,j,rfl,_):=h;rfl
 .let(ε,γ,way,hand,k,s1,s2,X,C,j,rfl,tw,hh,fw,qV,vk,w0,w1,h):=h;let(k1,k2,a,b,c):=id tw;let fin:∀E':Ms,PySem.W.subIn K (.ref Ci) (.ref Ca)=!true/\∀x:Addr,(DB 5 x (.exc Ci ["place"] [.int (j:Int)]) {nx:=λρ M'=>yG 4 ρ M' q jh,rt:=q}).nx [!(aK Cm ε γ),!(.int way),!(.str hand),!(.loc k),!(.ref x),!(.ref x)] (M++E'):=λE'=>by show(E.pX,λx=>?_);show MF (ρ':=[!(aK Cm ε γ),!(.int way),!(.str hand),!(.loc k),!(.exc Ci ["place"] [.int (j:Int)]),none]) ?_ (h E');change[!(aK Cm ε γ),!(.int way),!(.str hand),!(.loc k),(if x=x then !(.exc Ci ["place"] [.int (j:Int)]) else !(.ref x)),none]=_;rw[aaG rfl]
  walk_at "vc";dsimp only[OI];walk_at "vc";show(λz=>?_,λz=>?_)
  .let z:way=0:=aaP z;let(jl,bj,gj):=w0 z;show(k,_,_,Sum.inr "one",_,rfl,a,rfl,rfl,?_);show(k,_,_,Sum.inr "other",_,rfl,a,rfl,rfl,?_);show(ε,γ,k1,k2,s1,s2,X,C,rfl,b,c,fw,qV,vk,λgd=>?_,λj' jl' N_ Uv E'=>?_)
   .rw[gd j jl]at bj;cases bj
   .have:j'=j:=by
     rcases Nat.lt_trichotomy j' j with z| z| z
     .rw[gj j' z]at N_;cases N_
     .show z
     .rw[Uv j z]at bj;cases bj
    subst this;show fin E'
  .let z:way≠0:=abp z;let(p,hp,bd):=w1 z;let(ks,ds,k',p',g1,g2,g3,g4):=xy tw hh;have:p'=p:=by rw[g3]at hp;cases hp;rfl
   subst this;show(λy=>?_,λy=>?_)
   .show(k,ks,ds,Sum.inr hand,_,rfl,g1,rfl,g2,?_);show(ε,γ,hand,k',p',j,rfl,g4,fw.pl,bd,λE'=>fin E')
   .show(k,ks,ds,Sum.inr hand,_,rfl,g1,rfl,g2,?_);show(ε,γ,hand,k',p',j,rfl,g4,fw.pl,bd,λE'=>fin E')
def y9(CP:Addr):DF:=λas M q _=>∃j:Int,as=[.exc CP ["place"] [.int j],.int j]/\q (.bl true) M
def wx:Β ["_law_caught_here","_law_place"] ["_law_caught_here","_law_place"] (ν ju):=.of rfl
def sW(F:dh K "_law_refused" "_law_refused" ju f fd)(E:Ev K mg Cm CN CF Ca Ci Cd Ce Cg Cj Cb Cc Ck):ae P w K mg base (bC P w) 1 f fd ["_law_caught_here","_law_place"] (cZ K (y9 Ci)):=by
 show F.eK wx (λds M q x h=>?_) (λaP A outer s H E' hr=>(_,(ζ (aC (JW.jt (eI (h7 (aS (iH K E.Μ (Ο (jv 0) (Ο (hJ E.Eo) η))))) (eU (h7 (aS (iH K E.Μ (Ο (jv 0) (Ο (zU E.fT oN) η)))))))) (ι (Δ Eg)) Ρ)
   (ζ (aC (JW.jt (eI (aS (iH K E.Μ (Ο (jv 0) (Ο (hJ E.u3) η)))) (eI (aS (iH K E.Μ (Ο (jv 0) (Ο (hJ E.DR) η)))) (eU (aS (iH K E.Μ (Ο (jv 0) (Ο (hJ E.D6) η)))))))) (ι (Δ Eg)) Ρ)
   (ζ (aC (JW.jt (eI (aS (iH K E.Μ (Ο (jv 0) (Ο (hJ E.yD) η)))) (eI (aS (iH K E.Μ (Ο (jv 0) (Ο (hJ E.zz) η)))) (eU (aS (iH K E.Μ (Ο (jv 0) (Ο (hJ E.uR) η)))))))) (ι (Δ Eg)) Ρ)
   (ζ (aC (JW.jt (eI (aS (iH K E.Μ (Ο (jv 0) (Ο (hJ E.nh) η)))) (eI (aS (iH K E.Μ (Ο (jv 0) (Ο (hJ E.DC) η)))) (eU (aS (iH K E.Μ (Ο (jv 0) (Ο (hJ E.KL) η)))))))) (ι (Δ Eg)) Ρ)
   (ι (Δ (gJ (iH K E.Μ (θ (Bk K (jv 0)) (Ο (zU E.rN og) η))) (gJ (Pk (iH K E.Μ (θ (Bk K (jv 0)) (Ο (zU E.nG lY) η)))) (mf (Jn hr (Bk K (jv 0)) (jv 1))))))))))),λds M q x h=>?_))
 .let(j,rfl,_):=h;rfl
 .let(j,rfl,h):=h;show Or.inl (Ci,_,_,_,_,true,rfl,E.bZ,rfl,NI,nofun,λ_=>?_);show Or.inl (Ci,_,_,_,_,true,rfl,E.bZ,rfl,E.kC,nofun,λ_=>?_);show Or.inl (Ci,_,_,_,_,false,rfl,E.bZ,rfl,E.bX,nofun,λ_=>?_);show Or.inl (Ci,_,_,_,_,false,rfl,E.bZ,rfl,E.df,nofun,λ_=>?_);show Or.inl (Ci,_,_,_,_,false,rfl,E.bZ,rfl,E.cX,nofun,λ_=>?_);show Or.inl (Ci,_,_,_,_,false,rfl,E.bZ,rfl,E.cq,nofun,λ_=>?_);show Or.inl (Ci,_,_,_,_,false,rfl,E.bZ,rfl,E.cw,nofun,λ_=>?_);show Or.inl (Ci,_,_,_,_,false,rfl,E.bZ,rfl,E.b8,nofun,λ_=>?_);show Or.inl (Ci,_,_,_,_,false,rfl,E.bZ,rfl,E.bq,nofun,λ_=>?_);show Or.inl (Ci,_,_,_,_,false,rfl,E.bZ,rfl,E.cU,nofun,λ_=>?_);show Or.inl (Ci,_,_,_,_,false,rfl,E.bZ,rfl,E.dG,nofun,λ_=>?_);show(Ci,_,_,_,rfl,E.bZ,E.eh,rfl,?_);show Or.inr (_,_,_,_,true,rfl,rfl,rfl,vI,λ_=>?_,nofun);show(Ci,_,_,_,rfl,E.bZ,E.eh,rfl,?_);show Or.inr (_,_,_,_,false,rfl,rfl,rfl,E.ib,λ_=>?_,nofun);show(Ci,_,_,_,rfl,E.bZ,E.eh,rfl,?_);change q (.bl (decide (j=j))) M;rw[aax rfl];show h
def zI{M:Ms}:∀rs:List Rw,Paired (jS M) (rs.map Τ) rs
 | []=>.nil
 | r::rs=>.cons (LK _ r) (zI rs)
def IU{q:DQ}{A:Addr}{ε:Fr}{γ:List Rw}(h:q (aK A ε γ) M):t_ M q (.loc (-M)) ((M++[MO.ins A [] []]).set (-M) (.ins A ["kept_share","kept_rows"] [aE ε,.lst (γ.map Τ)])):=by rw[b9];show lO (d':=aK A ε γ) (.XS (Nat.le_refl _) (by simp) (.cons (.old (oG ε)) (.cons (.old (rG γ)) .nil))) h
def fA(M:Ms)(p1 p2:Pl):Ms:=M++[dP p1,dP p2,.cB [Sum.inr "one",Sum.inr "other"] [.loc (-M),.loc (-M+1)]]
def wU(M:Ms)(p1 p2:Pl):Gw (fA M p1 p2) (-M+2) p1 p2:=by
 show(-M,-M+1,?_,?_,?_) <;> unfold fA
 .rw[aat (),show -M+2 - -M=2 by omega];rfl
 .rw[aat (),Nat.sub_self];rfl
 .rw[aat (),show -M+1 - -M=1 by omega];rfl
def O8(M:Ms)(p1 p2:Pl)(E:Ms):(fA M p1 p2++E)[-M+2]? =!(.cB [Sum.inr "one",Sum.inr "other"] [.loc (-M),.loc (-M+1)]):=by rw[List.getElem?_append_left (by unfold fA;simp)];unfold fA;rw[aat (),show -M+2 - -M=2 by omega];rfl
def OF(M:Ms)(p1 p2:Pl)(E:Ms):(fA M p1 p2++E)[-M]? =!(dP p1):=by rw[List.getElem?_append_left (by unfold fA;simp)];unfold fA;rw[aat (),Nat.sub_self];rfl
def Oc(M:Ms)(p1 p2:Pl)(E:Ms):(fA M p1 p2++E)[-M+1]? =!(dP p2):=by rw[List.getElem?_append_left (by unfold fA;simp)];unfold fA;rw[aat (),show -M+1 - -M=1 by omega];rfl
def Ie(M:Ms)(p1 p2 p:Pl)(E:Ms):(fA M p1 p2++E).set (-M) (dP p)=fA M p p2++E:=by unfold fA;rw[List.append_assoc,List.append_assoc,List.set_append_right (h:=Nat.le_refl _),Nat.sub_self];rfl
def KD(M:Ms)(p1 p2 p:Pl)(E:Ms):(fA M p1 p2++E).set (-M+1) (dP p)=fA M p1 p++E:=by unfold fA;rw[List.append_assoc,List.append_assoc,List.set_append_right (h:=by omega),show -M+1 - -M=1 by omega];rfl
def WQ(k:Str)(f:Pl->Pl)(p:Pl):Pl:=if k="one" then f p else p
def Wq(k:Str)(f:Pl->Pl)(p:Pl):Pl:=if k="one" then p else f p
def Qr(M:Ms)(p1 p2:Pl)(E:Ms){k:Str}(h:Ι k=true):∃(k':Nat) (p:Pl),aA [Sum.inr "one",Sum.inr "other"] [Dt.loc (-M),Dt.loc (-M+1)] (Sum.inr k)=!(.loc k')/\(fA M p1 p2++E)[k']? =!(dP p)/\aB p1 p2 k=!p/\∀f:Pl->Pl,(fA M p1 p2++E).set k' (dP (f p))=fA M (WQ k f p1) (Wq k f p2)++E:=by
 unfold Ι at h;rw[acb,abh,abh]at h;rcases h with rfl| rfl
 .show(-M,p1,rfl,OF M p1 p2 E,rfl,λf=>Ie M p1 p2 (f p1) E)
 .show(-M+1,p2,rfl,Oc M p1 p2 E,rfl,λf=>KD M p1 p2 (f p2) E)
def Nj{p1 p2:Pl}{k k':Str}{f:Pl->Pl}(h:Ι k=true):aB (WQ k f p1) (Wq k f p2) k'=if k'=k then (aB p1 p2 k').map f else aB p1 p2 k':=by
 unfold Ι at h;rw[acb,abh,abh]at h;unfold aB WQ Wq;rcases h with rfl| rfl
 .rw[aaG rfl,aaG rfl];by_cases e:k'="one"
  .subst e;rfl
  .rw[aaE e,aaE e,aaE e]
 .let fZ:¬(Str.ofString "other"=Str.ofString "one"):=@_
  let W5:¬(Str.ofString "one"=Str.ofString "other"):=@_
  rw[aaE fZ,aaE fZ];by_cases e:k'="one"
  .subst e;rw[aaG rfl,aaE W5,aaG rfl]
  .rw[aaE e,aaE e];by_cases e':k'="other"
   .subst e';rw[aaG rfl,aaG rfl,aaG rfl];rfl
   .rw[aaE e',aaE e',aaE e']
def MW{ti:DK}{g:Dt->En->(En->Prop)->Prop}{tb u:DS}{Dn:gf}(h:ti ρ M (λxs ok M1=>qu g tb {Dn with nx:=u Dn} ok xs ρ M1) Dn.x):P4 (qO ti g tb) u Dn ρ M:=h
def yQ:∀(l:List Int),0 < -l->∃m∈l,∀a∈l,m<=a
 | [a],_=>(a,aal,λb hb=>by rw[abj.mp hb];show Int.le_refl _)
 | a::b::l,_=>by
  let(m,hm,hl):=yQ (b::l) (Nat.succ_pos _);rcases ace a m with h| h
  .show(a,aal,λc hc=>(aaR.mp hc).elim (λe=>()) λhc=>by have:=hl c hc;omega)
  .show(m,aai _ hm,λc hc=>(aaR.mp hc).elim (λe=>()) (hl c))
def XJ(γ:List Rw)(rest:Sp)(t1 t2:Pl):Prop:=∀(i:Nat) (r:Rw) (p:Pl),γ[i]? =!r->aB t1 t2 (kindOf r)=!p->cz rest i=none->eA p i (-(Υ r))=true
def FX{g:Dt->En->(En->Prop)->Prop}{tb:DS}{Dn:gf}(h:qu g tb Dn (λ_=>True) ds ρ M):qO (fJ (dC (.lst ds))) g tb Dn ρ M:=h
section
variable{γ:List Rw}{sp:Sp}{g g1 g2:Pl}
def mQ{i:Int}{o:Option Int}:∀{sp:Sp},cz sp i=!o->(i, o)∈sp
 | p::r,h=>by
  let h:(if p.1=i then !p.2 else cz r i)=!o:=h;by_cases e:p.1=i
  .rw[aaG e]at h;cases h;rw[<-e];show aal
  .rw[aaE e]at h;show aai _ (mQ h)
def uq{i:Int}:∀{sp:Sp},i∈sp.map (·.1)->∃o,cz sp i=!o
 | p::r,h=>by
  change∃o,(if p.1=i then !p.2 else cz r i)=!o;by_cases e:p.1=i
  .rw[aaG e];show(_,rfl)
  .rw[aaE e];rcases aaR.mp h with z| z
   .show aaO z.symm e
   .show uq z
def Bi(so:tE γ sp)(po:qP γ hand g){r:Rw}(hi:γ[i]? =!r)(hk:kindOf r=hand):eA (eQ sp g) i (-(Υ r))=(cz sp i).isNone:=by
 let(j,gj,jl):=po.has i r hi hk;unfold eA;rw[EJ sp i po.nd];cases h:cz sp i with
 | none=>
  dsimp only;rw[gj];change(decide (0<=(j:Int))&&decide ((j:Int) < (-(Υ r):Int)))=true;rw[aax (show 0<=(j:Int) by omega),aax (show(j:Int) < (-(Υ r):Int) by omega)];rfl
 | some o=>
  cases o with
  | none=>rfl
  | some u=>
   dsimp only;rw[gj];let(j',r',e1,e2,_,e4):=so.each _ (mQ h);let e1:(i:Int)=(j':Int):=e1;have:j'=i:=()
   subst this;rw[hi]at e2;cases e2;let b:=e4 u rfl;change(decide (0<=u)&&decide (u < (-(Υ r):Int)))=false;by_cases c:0<=u
   .rw[aax c,aaB (λz=>b (c,z))];rfl
   .rw[aaB c];rfl
def Jw(so:tE γ sp){r:Rw}(hi:γ[i]? =!r)(hk:Ι (kindOf r)=false):cz sp i=none:=by
 cases h:cz sp i with
 | none=>rfl
 | some o=>
  let(j',r',e1,e2,e3,_):=so.each _ (mQ h);let e1:(i:Int)=(j':Int):=e1;have:j'=i:=()
  subst this;rw[hi]at e2;cases e2;rw[hk]at e3;cases e3
def Io(so:tE γ sp)(o1:qP γ "one" g1)(o2:qP γ "other" g2)(il:i < -γ):bx γ (aB (eQ sp g1) (eQ sp g2)) i=(cz sp i).isNone:=by
 let hi:=aaa il;generalize γ[i]=r at hi;unfold bx;rw[hi];change gX _ i r=_;unfold gX aB;by_cases a:kindOf r="one"
 .rw[aaG a];show Bi so o1 hi a
 .rw[aaE a];by_cases b:kindOf r="other"
  .rw[aaG b];show Bi so o2 hi b
  .rw[if_neg b,Jw so hi (by unfold Ι;rw[Bool.or_eq_false_iff,beq_eq_false_iff_ne,beq_eq_false_iff_ne];show(a,b))];rfl
def zk(so:tE γ sp)(o:qP γ hand g){r:Rw}(hi:γ[i]? =!r):bx γ (Hq hand (eQ sp g)) i=if kindOf r=hand then (cz sp i).isNone else true:=by
 unfold bx;rw[hi];change gX _ i r=_;unfold gX Hq;by_cases a:kindOf r=hand
 .rw[aaG a,aaG a];show Bi so o hi a
 .rw[aaE a,aaE a]
def uC(so:tE γ sp){pf:Str->Option Pl}{f:Int->Bool}(hg:∀i,i < -γ->bx γ pf i= ! ((cz sp i).isSome&&f i)){m:Int}(hm:m∈(sp.map (·.1)).filter f)(hl:∀a∈(sp.map (·.1)).filter f,m<=a):∃j:Nat,m=(j:Int)/\R9 γ pf j:=by
 let(m1,m2):=acr.mp hm;let(e,he,rfl):=aaH.mp m1;let(j,r,e1,e2,_,_):=so.each e he;let jl:=(aaj.mp e2).1;show(j,e1,jl,?_,λi hi=>?_)
 .let(o,ho):=uq (sp:=sp) (i:=(j:Int)) (by rw[<-e1];show m1);rw[hg j jl,ho,<-e1,m2];rfl
 .rw[hg i ()];cases h:cz sp i with
  | none=>rfl
  | some o=>
   cases hf:f i with
   | false=>rfl
   | true=>
    have:=hl i (acr.mpr (aaH.mpr (_,mQ h,rfl),hf));omega
end
def gC:Β ["_law_script","_law_share","_law_rows","_law_floor_here","_law_good","_law_spoils_here","_law_some","_law_kept","_law_way","_law_hand","_law_first_here","_law_place","_law_bad"] ["_law_script"] (ν Rk):=.of rfl
def Qa   (F:dh K "law" "law" Rk f fd) (E:Ev K mg Cm CN CF Ca Ci Cd Ce Cg Cj Cb Cc Ck) {GH:Addr} {GF:FuncData} (mj:ax P w K mg base 5 "_law_floor" ["_law_script"] ER GH GF) {CT:Addr} {Cq:FuncData} (jK:Qn P w K mg base 5 "Floor" Cm ["self","share","rows"] (OV Cm) CT Cq) {Li:Addr} {IZ:FuncData} (oJ:ax P w K mg base 1 "_law_copy" ["_law_rows"] IB Li IZ) {JJ:Addr} {Kv:FuncData} (kn:ax P w K mg base 2 "_law_plan" ["_law_script","_law_rows","_law_hand","_law_at_here"] KQ JJ Kv) {AI:Addr} {CQ:FuncData} (jR:ax P w K mg base 2 "_law_spoils" ["_law_script","_law_rows"] DO AI CQ) {yI:Addr} {ye:FuncData} (fM:ax P w K mg base 1 "_law_spoiled" ["_law_plan_here","_law_spoils_here"] yz yI ye) {AJ:Addr} {Bq:FuncData} (jL:ax P w K mg base 3 "first_plan" ["floor","hand"] (C7 Cm) AJ Bq) {Gq:Addr} {E8:FuncData} (mm:ax P w K mg base 1 "_law_first" ["_law_plan_here","_law_rows","_law_hand"] EM Gq E8) {zZ:Addr} {zo:FuncData} (i4:ax P w K mg base 1 "_law_refused" ["_law_caught_here","_law_place"] (y9 Ci) zZ zo) {Bp:Addr} {AW:FuncData} (j3:ax P w K mg base 10 "_law_caught" ["_law_floor_here","_law_way","_law_hand","_law_some"] (Dw Cm Ci) Bp AW) {ow:Addr} {oB:FuncData} (eV:ax P w K mg base 8 "worths_of" ["floor","plan_one","plan_other"] (xf Cm Ci) ow oB):ae P w K mg base (bC P w) 12 f fd ["_law_script"] (cZ K QO):=by
 show F.eK gC (λds M q x h=>?_) (λaP A outer s H E' hr=>(_,(ζ (L7 (cC (ah mj hr ο (Ο (jv 0) η))) (k_ rfl (bH (ag (i:=1) gC.nd rfl (Or.inl rfl)) (bH (ag (i:=2) gC.nd rfl (Or.inr rfl)) i8))))
   (ζ (Α 3 gC.nd (cC (QV jK hr ο (Ο (jv 1) (θ (ah oJ hr ο (Ο (jv 2) η)) η br)))))
   (ζ (Α 4 gC.nd (p9 (ah kn hr ο (Ο (jv 0) (Ο (jv 2) (θ fm (θ τ η dZ) dZ)))) (ah kn hr ο (Ο (jv 0) (Ο (jv 2) (θ fm (θ τ η dZ) dZ))))))
   (ζ (Α 5 gC.nd (ah jR hr ο (Ο (jv 0) (Ο (jv 2) η))))
   (ζ (Α 6 gC.nd (p9 (ah fM hr ο (θ (bL hr (jv 4) fm) (Ο (jv 5) η) aW)) (ah fM hr ο (θ (bL hr (jv 4) fm) (Ο (jv 5) η) aW))))
   (ζ (Α 7 gC.nd (p9 (Jq E.oP (θ (bL hr (jv 6) fm) η aW)) (Jq E.oP (θ (bL hr (jv 6) fm) η aW))))
   (ζ (eE (bR (dI 3 (d:=.lst [.tup [.int 0,.str "one"],.tup [.int 1,.str "one"],.tup [.int 2,.str "one"],.tup [.int 1,.str "other"],.tup [.int 2,.str "other"]]) (by rfl))) (k_ rfl (bH (ag (i:=8) gC.nd rfl (Or.inr rfl)) (bH (ag (i:=9) gC.nd rfl (Or.inr rfl)) i8))) oj (ζ (Α 10 gC.nd (ah jL hr ο (Ο (jv 3) (Ο (jv 9) η))))
   (ζ (aC (h7 (aS (ah mm hr ο (Ο (jv 10) (Ο (jv 2) (Ο (jv 9) η)))))) (ι (Δ Eg)) Ρ)
   (ζ (eE (bR (cC (LQ E.jU (Ο (jv 10) η)))) (ag (i:=11) gC.nd rfl (Or.inl rfl)) aJ (ι (fV hr (jv 10) (jv 11) τ)))
   (ζ (fV hr (jv 10) τ τ)
   (ζ (yy (i:=12) gC.nd rfl (Or.inl rfl) (ys:=["_law_way","_law_hand","_law_rows"]) (Χ:=[8,9,2]) (.of gC rfl rfl rfl) (jv 5) (λC s H fp=>(JW.jt (eI (cG hr (jv 1) τ) (eU (cG hr (Κ (Κ (jv 3) (jv 0)) τ) (jv 2)))))) (λC s H fp=>(jv 0)))
   (ι (aC (JW.jt (Im (Je 1 hr (jv 12) (jg η)) (El (h7 (aS (ah i4 hr ο (θ (ah j3 hr ο (Ο (jv 3) (Ο (jv 8) (Ο (jv 9) (Ο (jv 6) η))))) (θ (RV E.zc (Ο (jv 12) η)) η br) br))))))) (ι (Δ Eg)) Ρ))))))))
   (ζ (aC (RH 2 hr (jv 6) (jv 7)) (ι (Δ Eg)) Ρ)
   (ζ (xr (jv 5) (ag (i:=11) gC.nd rfl (Or.inl rfl)) aJ (ι (fV hr (bL hr (jv 6) (Κ (Κ (jv 2) (jv 11)) τ)) (jv 11) (bL hr (bL hr (jv 4) (Κ (Κ (jv 2) (jv 11)) τ)) (jv 11)))))
   (ι (Δ (xk K E.Μ (θ (ah eV hr ο (Ο (jv 3) (θ (bL hr (jv 6) fm) (θ (bL hr (jv 6) fm) η aW) aW))) (Ο (zU E.jU lu) η) br))))))))))))),λds M q x h=>?_))
 .let(ns,rfl,_):=h;rfl
 .let(ns,rfl,nl,hq):=h;show(ns,rfl,nl,λε γ ck lf=>lO (d':=.tup [aE ε,.lst (γ.map Τ)]) (.tup (.cons (.old (oG ε)) (.cons (.Ib (Nat.le_refl _) (by simp) (jd.old (rG γ))) .nil))) ?_);let fw:=lf.fw;let(qV,vk):=lf.sz;let mq:=lf.CC;let n1:=lf.n1;let ro:∀r∈γ,gK r/\fS r (-γ)=true:=λr hr=>(lf.row r hr).1.1;let dr:∀k ds,Rw.Λ k ds∈γ->1<=-ds/\-ds<=6:=λk ds hm=>((mw fw.pl hm).l1,(mw fw.pl hm).l6);show(γ,rfl,mq,λr hr=>(ro r hr).1,?_);show(-M,.lst (γ.map Τ),ε,γ.map Τ,γ,λ_=>True,rfl,aL,rfl,zI γ,lf.sh,n1,mq,ro,rfl,IU ?_);show(ns,γ,"one",14,rfl,nl,@_,@_,mq,@_,dr,λg1 o1=>?_);show(ns,γ,"other",15,rfl,nl,@_,@_,mq,@_,dr,λg2 o2=>?_);let e3:∀(M:Ms) (p1 p2:Pl),M++[dP p1]++[dP p2]++[MO.cB [Sum.inr "one",Sum.inr "other"] [.loc (-M),.loc (-(M++[dP p1]))]]=fA M p1 p2:=λM p1 p2=>by unfold fA;simp
  let e4:∀(M:Ms) (p1 p2:Pl),-(M++[dP p1]++[dP p2])=-M+2:=λM p1 p2=>by simp
  dsimp only;rw[e4,e3];let tw0:=wU M g1 g2;obtain⟨kg,hkg⟩:∃kg,kg=-M+2:=(_,rfl);rw[<-hkg]at tw0⊢;generalize fA M g1 g2=A0 at *
  show(ns,γ,rfl,nl,mq,λk ds hm=>(dr k ds hm).2,λsp so=>?_);let(k1,k2,ka,kb,kc):=id tw0;let k1l:k1≠-A0:=λe=>by rw[e,abX (aam _)]at kb;cases kb
  let k2l:k2≠-A0:=λe=>by rw[e,abX (aam _)]at kc;cases kc
  walk_at "vc";show(kg,_,_,Sum.inr "one",_,rfl,ay ka,rfl,rfl,k1,-A0,g1,sp,rfl,ay kb,aL,k1l,o1.nd,o1.len,?_);show(kg,_,_,Sum.inr "other",_,rfl,ay (ay ka),rfl,rfl,k2,-A0,g2,sp,rfl,ay (ay kc),ay aL,k2l,o2.nd,o2.len,?_);dsimp only;rw[e4,e3];let kgl:kg≠-A0:=λe=>by rw[e,abX (aam _)]at ka;cases ka
  let kaB:=ay (E:=[sP sp]) ka;let kbB:=ay (E:=[sP sp]) kb;let kcB:=ay (E:=[sP sp]) kc;let XN:(A0++[sP sp])[-A0]? =!(sP sp):=aL;generalize A0++[sP sp]=B0 at *
  generalize -A0=ks at *
  let np1:=B6 sp o1.nd;let np2:=B6 sp o2.nd;let lp1:=aaJ (pS sp g1) o1.len;let lp2:=aaJ (pS sp g2) o2.len;let gt:=λi (il:i < -γ)=>Io so o1 o2 il;let go1:=λi r (hi:γ[i]? =!r)=>zk so o1 hi;let go2:=λi r (hi:γ[i]? =!r)=>zk so o2 hi;generalize eQ sp g1=s1 at *
  generalize eQ sp g2=s2 at *
  let Za:=wU B0 s1 s2;let(q1,q2,qa,qb,qc):=id Za;show(-B0+2,_,_,Sum.inr "one",_,rfl,qa,rfl,rfl,q1,_,_,rfl,qb,-B0+2,_,_,Sum.inr "other",_,rfl,ay qa,rfl,rfl,q2,_,_,rfl,ay qc,?_);dsimp only;rw[show∀X:Ms,X++[MO.cB (kP s1) (vP s1)]=X++[dP s1] fromλ_=>rfl,show∀X:Ms,X++[MO.cB (kP s2) (vP s2)]=X++[dP s2] fromλ_=>rfl,e4,e3];let twK:=wU (fA B0 s1 s2) s1 s2;obtain⟨kM,SK⟩:∃kM,kM=-B0+2:=(_,rfl);obtain⟨kK,hkK⟩:∃kK,kK=-(fA B0 s1 s2)+2:=(_,rfl);obtain⟨E1,hE1⟩:∃E1:Ms,fA (fA B0 s1 s2) s1 s2=fA B0 s1 s2++E1:=(_,rfl);rw[<-SK,<-hkK,hE1];rw[<-hkK,hE1]at twK;show FX ?_;show cf (λxs ρ M'=>∃(rest:List (Int×Str)) (E0:Ms) (o8 o9 R4 xR Pf:Option Dt),xs=rest.map (λz=>.tup [.int z.1,.str z.2])/\(∀z∈rest,z.2="one"\/z.2="other")/\M'=fA B0 s1 s2++E1++E0/\ρ=[!(.fX ns),!(aE ε),!(.lst (γ.map Τ)),!(aK Cm ε γ),!(.loc kg),!(.loc ks),!(.loc kM),!(.loc kK),o8,o9,R4,xR,Pf]) (λ_ _ _ _=>trivial) (λx xs ρ M' hj fD=>?_) (λρ M' hj=>?_) _ _ _ ([(0, "one"),(1, "one"),(2, "one"),(1, "other"),(2, "other")],[],none,none,none,none,none,rfl,@_,by rw[aa0],rfl)
  .let(rest,E0,o8,o9,R4,xR,Pf,ex,hz,rfl,rfl):=hj;cases rest with
   | nil=>cases ex
   | cons z rest=>
    cases ex;let(way,hand):=z;let zh:hand="one"\/hand="other":=hz (way, hand) aal;let hh:Ι hand=true:=by rcases zh with rfl| rfl <;> decide
    let Yk:(fA B0 s1 s2++E1++E0)[ks]? =!(sP sp):=ay (ay (by unfold fA;show ay XN));let twN:Gw (fA B0 s1 s2++E1++E0) kM s1 s2:=by rw[SK];show Za.app.app
    let more:∀(E2:Ms) (a b c:Option Dt),∃(zm:List (Int×Str)) (E0':Ms) (o8 o9 R4 xR Pf:Option Dt),rest.map (λz=>Dt.tup [.int z.1,.str z.2])=zm.map (λz=>.tup [.int z.1,.str z.2])/\(∀z∈zm,z.2="one"\/z.2="other")/\fA B0 s1 s2++E1++E0++E2=fA B0 s1 s2++E1++E0'/\[!(Dt.fX ns),!(aE ε),!(.lst (γ.map Τ)),!(aK Cm ε γ),!(.loc kg),!(.loc ks),!(.loc kM),!(.loc kK),!(.int way),!(.str hand),a,b,c]=[!(Dt.fX ns),!(aE ε),!(.lst (γ.map Τ)),!(aK Cm ε γ),!(.loc kg),!(.loc ks),!(.loc kM),!(.loc kK),o8,o9,R4,xR,Pf]:=λE2 a b c=>(rest,E0++E2,_,_,_,_,_,rfl,λy hy=>hz y (aai _ hy),by rw[abm _ E0],rfl);generalize fA B0 s1 s2++E1++E0=N at *
    dsimp only[L2.g2];show(ε,γ,hand,rfl,mq,?_);show(-N,γ,hand,rfl,aL,mq,nofun,λ_=>?_);dsimp only[II];show MW ?_;show(-N,_,_,rfl,aL,cN (by rw[show(kP (aN γ hand)).map iD=((aN γ hand).map (·.1)).map Dt.int by unfold kP;rw[List.map_map,List.map_map];rfl];show fc _) ?_);let agd:-(aN γ hand)<=12:=by unfold aN mV;rw[aae];show aaJ (List.length_filter_le _ _) (by rw[abe];show mq)
    show cf (λxs ρ M'=>∃(rs:Pl) (f:Pl) (xR:Option Dt),xs=(kP rs).map iD/\-f+-rs<=24/\M'=N++[dP f]/\ρ=[!(.fX ns),!(aE ε),!(.lst (γ.map Τ)),!(aK Cm ε γ),!(.loc kg),!(.loc ks),!(.loc kM),!(.loc kK),!(.int way),!(.str hand),!(.loc (-N)),xR,Pf]) (λ_ _ _ _=>trivial) (λx xs ρ M' hj ZX=>?_) (λρ M' hj=>?_) _ _ _ (aN γ hand,aN γ hand,xR,rfl,(),rfl,rfl)
    .let(rs,f,xR,ex,fl,rfl,rfl):=hj;cases rs with
     | nil=>cases ex
     | cons e rs=>
      cases ex;rw[aaz]at fl;show(-N,_,_,Sum.inl e.1,rfl,aL,rfl,by unfold kP;rw[List.length_map];omega,?_);rw[oY (v:=5),pq,b9];show ZX _ _ (rs,eB f e.1 5,_,rfl,by have:=pM (p:=f) (i:=e.1) (v:=5) (aam _);omega,rfl,rfl)
    .let(rs,f,xR,ex,fl,rfl,rfl):=hj;show(-N,_,_,Sum.inl 99,rfl,aL,rfl,by unfold kP;rw[List.length_map];omega,?_);rw[oY (v:=1),pq,b9];generalize eB f 99 1=f2;let YT:(N++[dP f2])[ks]? =!(sP sp):=ay Yk;let twF:Gw (N++[dP f2]) kM s1 s2:=twN.app;let IA:=λ(E2:Ms) (b c:Option Dt)=>more ([dP f2]++E2) (!(.loc (-N))) b c;let adL:-(N++[dP f2])=-N+1:=by simp
     let asF:∀E2:Ms,N++([dP f2]++E2)=N++[dP f2]++E2:=λE2=>(abm _ _ _).symm;simp only[asF]at IA;generalize N++[dP f2]=N2 at *
     let Sr:ks < -N2:=(aaj.mp YT).1;show(ks,kS sp,(sp.map λe:Int×Option Int=>e.2),rfl,YT,by unfold kS;rw[List.length_map];show Nat.le_trans so.len @_,λep=>?_);change gE _ _ _ _ (λM'=>M'[ks]? =!(.raw (p7 P w (kS sp) (sp.map λe:Int×Option Int=>e.2) ep))) _ _ (N2.set ks (.raw (p7 P w (kS sp) (sp.map λe:Int×Option Int=>e.2) ep))) (λys M2=>M2[ks]? =!(.raw (p7 P w (kS sp) (sp.map λe:Int×Option Int=>e.2) ep))/\_);generalize p7 P w (kS sp) (sp.map λe:Int×Option Int=>e.2) ep=u;show cT (aaV Sr) (λx=>match x with| .int i=>decide (way=0)|| decide (bu γ i.toNat=hand)| _=>false) (λx=>x) _ _ (λx hx q' p' h1 h2=>?_) ?_
     .unfold kS at hx;rw[aaT]at hx;let(e,he,rfl):=aaH.mp hx;let(j,r,e1,e2,_,_):=so.each e he;let h1:(decide (way=0)|| decide (bu γ e.1.toNat=hand))=true->q' (.int e.1) _:=h1;let h2:(decide (way=0)|| decide (bu γ e.1.toNat=hand))=false->p' _:=h2;let ki:bu γ e.1.toNat=kindOf r:=by rw[e1,Int.toNat_natCast];unfold bu;rw[e2]
      rw[ki]at h1 h2;let ra:kU (γ.map Τ) e.1=!(Τ r):=by rw[e1];show Ε (by rw[aan,e2];rfl)
      change gN 0 (.int e.1) _ _;walk_at "vc";show(λz=>?_,λz=>?_)
      .rw[show decide (way=0)=true from z]at h1;show h1 rfl
      .rw[show decide (way=0)=false from z,acv]at h1 h2;show(Η (d:=.lst (γ.map Τ)) rfl ra ?_:fe (.lst (γ.map Τ)) (.int e.1) _ _);show(lS ?_:fe (Τ r) (.int 0) _ _);change(match decide (kindOf r=hand) with| true=>q' (.int e.1) _| false=>p' _);cases hb:decide (kindOf r=hand) with
       | true=>show h1 hb
       | false=>show h2 hb
     .show(aaV Sr,?_);rw[aa4,acG,List.set_set,show N2.set ks (MO.cB (kS sp) ((sp.map λe:Int×Option Int=>e.2).map oD))=N2 from sS YT];obtain⟨fb,YH⟩:∃fb:Int->Bool,fb=λi=>decide (way=0)|| decide (bu γ i.toNat=hand):=(_,rfl)
      let ebs:((kS sp).map iD).filter (λx=>match x with| .int i=>decide (way=0)|| decide (bu γ i.toNat=hand)| _=>false)=((sp.map (·.1)).filter fb).map Dt.int:=by unfold kS;rw[aaT,List.filter_map,List.filter_map,aaT,YH];rfl
      rw[ebs];obtain⟨bs,hbs⟩:∃bs,bs=(sp.map (·.1)).filter fb:=(_,rfl);rw[<-hbs];rcases Nat.eq_zero_or_pos (-bs) with hz0| R1
      .let O9:bs=[]:=List.length_eq_zero_iff.mp hz0;have:=fD _ _ (IA [] xR (!(.lst (bs.map Dt.int))));rw[aa0]at this;show(@_,true,.inr (_,rfl),.inr (_,rfl),Dc (ds:=[]) (by rw[O9];rfl) rfl (λd hd=>nomatch hd),nofun,λ_=>(nofun,λ_=>this))
      .show(@_,false,.inr (_,rfl),.inr (_,rfl),FH.len (ds:=bs.map Dt.int) (es:=[]) rfl rfl (λe=>by rw[aae]at e;let e:-bs=0:=e;omega),λ_=>?_,nofun);let(m,hm,hl):=yQ bs R1;obtain⟨j,ej,w0,w1⟩:∃j:Nat,m=(j:Int)/\(way=0->R9 γ (aB s1 s2) j)/\(way≠0->∃p,aB s1 s2 hand=!p/\R9 γ (Hq hand p) j):=by
        rw[hbs]at hm hl;by_cases hw:way=0
        .let(j,ej,bd):=uC so (pf:=aB s1 s2) (f:=fb) (λi il=>by
          rw[gt i il,YH];change _= ! ((cz sp i).isSome&&(decide (way=0)|| _))
          rw[aax hw,Bool.true_or,Bool.and_true];cases cz sp i <;> rfl) hm hl
         show(j,ej,λ_=>bd,λz=>aaO hw z)
        .obtain⟨p,hp,gp⟩:∃p,aB s1 s2 hand=!p/\∀i r,γ[i]? =!r->bx γ (Hq hand p) i=if kindOf r=hand then (cz sp i).isNone else true:=by
          rcases zh with rfl| rfl
          .show(s1,rfl,go1)
          .show(s2,rfl,go2)
         let(j,ej,bd):=uC so (pf:=Hq hand p) (f:=fb) (λi il=>by
          let hi:=aaa il;let ki:bu γ i=kindOf γ[i]:=by unfold bu;rw[hi]
          rw[gp i _ hi,YH];change _= ! ((cz sp i).isSome&&(decide (way=0)|| decide (bu γ (i:Int).toNat=hand)));rw[acz,ki,aaB hw,acv];by_cases hk:kindOf γ[i]=hand
          .rw[aaG hk,aax hk,Bool.and_true];cases cz sp i <;> rfl
          .rw[aaE hk,aaB hk,acC];rfl) hm hl
         show(j,ej,λz=>aaO z hw,λ_=>(p,hp,bd))
       show(ε,γ,way,hand,kM,s1,s2,_,_,j,rfl,twF,hh,fw,qV,vk,w0,w1,λE2=>?_);show(bs,rfl,λz=>by rw[z]at R1;show aaO R1 @_,λm' hm' UK=>?_);let em:m'=(j:Int):=by let a:=hl m' hm';let b:=UK m hm;omega
       rw[em];show((j:Int),rfl,nofun,λ_=>?_);show fD _ _ (IA E2 xR (!(.lst (bs.map Dt.int))))
  .let(rest,E0,o8,o9,R4,xR,Pf,ex,hz,rfl,rfl):=hj;let qe:EI (fA B0 s1 s2++E1++E0) 2 (.loc kM) (.loc kK) true:=by have:=MM (M:=fA B0 s1 s2++E1++E0) (k:=kM) (k':=kK) (p1:=s1) (p2:=s2) (r1:=s1) (r2:=s2) (by rw[SK];show Za.app.app) twK.app;rwa[y_ np1,y_ np2]at this
   show(kM,kK,true,rfl,rfl,qe,nofun,λ_=>?_);clear qe;let Sr:ks < -B0:=(aaj.mp XN).1;let asE:fA B0 s1 s2++E1++E0=fA B0 s1 s2++(E1++E0):=abm _ _ _;rw[asE];generalize E1++E0=EE at *
   let Yk:(fA B0 s1 s2++EE)[ks]? =!(sP sp):=ay (by unfold fA;show ay XN);show(ks,kS sp,(sp.map λe:Int×Option Int=>e.2),rfl,Yk,λep=>?_);change pD _ _ _ ks (p7 P w (kS sp) (sp.map λe:Int×Option Int=>e.2) ep) _ _ _ ((fA B0 s1 s2++EE).set ks (.raw (p7 P w (kS sp) (sp.map λe:Int×Option Int=>e.2) ep)));generalize p7 P w (kS sp) (sp.map λe:Int×Option Int=>e.2) ep=u;let NH:∀(B:Ms) (t1 t2:Pl) (c:MO),ks < -B->(fA B t1 t2++EE).set ks c=fA (B.set ks c) t1 t2++EE:=λB t1 t2 c hl=>by unfold fA;rw[abm,abm,abQ _ _ hl,aa7]
   rw[NH B0 s1 s2 _ Sr];obtain⟨B1,WA⟩:∃B1,B1=B0.set ks (MO.raw u):=(_,rfl);let bl:-B1=-B0:=by rw[WA,aa7]
   let J_:∀(k:Nat) (o:MO) (t1 t2:Pl),k≠ks->B0[k]? =!o->(fA B1 t1 t2++EE)[k]? =!o:=λk o t1 t2 ne h=>ay (by unfold fA;show ay (by rw[WA,List.getElem?_set_ne (Ne.symm ne)];show h));rw[<-WA];let kr:∀t1 t2:Pl,(fA B1 t1 t2++EE)[ks]? =!(.raw u):=λt1 t2=>ay (by unfold fA;show ay (by rw[WA,List.getElem?_set_self Sr]));show mW (λxs ρ M'=>∃(rest:Sp) (t1 t2:Pl) (xR:Option Dt),xs=kS rest/\(∀e∈rest,O_ γ e)/\-t1+-t2+-rest<=30/\XJ γ rest t1 t2/\M'=fA B1 t1 t2++EE/\ρ=[!(.fX ns),!(aE ε),!(.lst (γ.map Τ)),!(aK Cm ε γ),!(.loc kg),!(.loc ks),!(.loc kM),!(.loc kK),o8,o9,R4,xR,Pf]) (λxs ρ M' hj=>?_) (λx xs ρ M' hj fD=>?_) (λρ M' hj=>?_) _ _ _ (sp,s1,s2,xR,rfl,so.each,by have:=so.len;omega,λi r p hi hp hs=>?_,rfl,rfl)
   .let(rest,t1,t2,xR,_,_,_,_,rfl,_):=hj;show kr t1 t2
   .let(rest,t1,t2,xR,ex,hr,tl,fx,rfl,rfl):=hj;cases rest with
    | nil=>cases ex
    | cons e rest=>
     cases ex;let(j,r,e1,e2,e3,_):=hr e aal;rw[aaz]at tl;let ra:kU (γ.map Τ) e.1=!(Τ r):=by rw[e1];show Ε (by rw[aan,e2];rfl)
     obtain⟨gk,gp,v,dg1,dg2,gv,okv⟩:∃(gk:Nat) (gp:Pl) (v:Int),aA [Sum.inr "one",Sum.inr "other"] [Dt.loc k1,Dt.loc k2] (Sum.inr (kindOf r))=!(.loc gk)/\(fA B1 t1 t2++EE)[gk]? =!(dP gp)/\ar gp j=!v/\(0<=v/\v < (-(Υ r):Int)):=by
      unfold Ι at e3;rw[acb,abh,abh]at e3;rcases e3 with z| z
      .let(v,hv,vl):=o1.has j r e2 z;show(k1,g1,v,by rw[z];rfl,J_ _ _ t1 t2 k1l kbB,hv,())
      .let(v,hv,vl):=o2.has j r e2 z;show(k2,g2,v,by rw[z];rfl,J_ _ _ t1 t2 k2l kcB,hv,())
     let(k',p,h1,h2,h3,h4):=Qr B1 t1 t2 EE e3;let hd:=O8 B1 t1 t2 EE;rw[bl]at hd h1;rw[<-SK]at hd;change gN 11 (.int e.1) _ _;dsimp only[lB,Ef];walk_at "vc";show(Η (d:=.lst (γ.map Τ)) rfl ra ?_:fe (.lst (γ.map Τ)) (.int e.1) _ _);show(lS ?_:fe (Τ r) (.int 0) _ _);show(kg,_,_,Sum.inr (kindOf r),_,rfl,J_ _ _ t1 t2 kgl kaB,rfl,dg1,?_);show(gk,_,_,Sum.inl e.1,_,rfl,dg2,rfl,by rw[mI,e1,gv];rfl,?_);show(Η (d:=.lst (γ.map Τ)) rfl ra ?_:fe (.lst (γ.map Τ)) (.int e.1) _ _);show(lS ?_:fe (Τ r) (.int 0) _ _);show(kM,_,_,Sum.inr (kindOf r),_,rfl,hd,rfl,h1,?_);let pl9:-p<=-t1+-t2:=by
      unfold aB at h3;by_cases a:kindOf r="one"
      .rw[aaG a]at h3;cases h3;omega
      .rw[aaE a]at h3;by_cases b:kindOf r="other"
       .rw[aaG b]at h3;cases h3;omega
       .rw[aaE b]at h3;cases h3
     show(k',_,_,Sum.inl e.1,rfl,h2,rfl,by unfold kP;rw[List.length_map];omega,?_);rw[oY (v:=v),pq];have:=h4 λp=>eB p e.1 v;rw[show(fA B1 t1 t2++EE).set k' (MO.cB (kP (eB p e.1 v)) (vP (eB p e.1 v)))=_ from this];show fD _ _ (rest,_,_,_,rfl,λy hy=>hr y (aai _ hy),?_,λi r' p' hi hp hs=>?_,rfl,rfl)
     .unfold WQ Wq;by_cases a:kindOf r="one"
      .rw[aaG a,aaG a];change(eB t1 e.1 v).length+-t2+-rest<=30;have:=pM (p:=t1) (i:=e.1) (v:=v) (aam _);omega
      .rw[aaE a,aaE a];change -t1+-(eB t2 e.1 v)+-rest<=30;have:=pM (p:=t2) (i:=e.1) (v:=v) (aam _);omega
     .rw[Nj e3]at hp;by_cases ek:kindOf r'=kindOf r
      .rw[aaG ek,ek,h3]at hp;let hp:(!(eB p e.1 v))=!p':=hp;cases hp;by_cases ei:i=j
       .subst ei;rw[e2]at hi;cases hi;unfold eA;rw[e1,ni,aaG rfl];change(decide (0<=v)&&decide (v < (-(Υ r):Int)))=true;rw[aax okv.1,aax okv.2];rfl
       .have:=fx i r' p hi (by rw[ek];show h3) (by change(if e.1=(i:Int) then _ else _)=_;rw[aaE ()];show hs);unfold eA at this⊢;rw[ni,aaE ()];show this
      .rw[aaE ek]at hp
       show fx i r' p' hi hp (by
        change(if e.1=(i:Int) then _ else _)=_
        rw[aaE λz=>ek (by
         have:i=j:=()
         subst this
         rw[e2]at hi;cases hi;rfl)]
        show hs)
   .let(rest,t1,t2,xR,ex,hr,tl,fx,rfl,rfl):=hj;let rn:rest=[]:=by
     cases rest with
     | nil=>rfl
     | cons e rest=>cases ex
    subst rn;let gd:∀i,i < -γ->bx γ (aB t1 t2) i=true:=λi il=>by
     let hi:=aaa il;generalize γ[i]=r at hi;unfold bx;rw[hi];change gX _ i r=true;unfold gX;cases hp:aB t1 t2 (kindOf r) with
     | none=>rfl
     | some p=>show fx i r p hi hp rfl
    rw[NH B1 t1 t2 _ (by rw[bl];show Sr)];let bl2:-(B1.set ks (MO.cB (kS sp) ((sp.map λe:Int×Option Int=>e.2).map oD)))=-B0:=by rw[aa7,bl]
    generalize B1.set ks (MO.cB (kS sp) ((sp.map λe:Int×Option Int=>e.2).map oD))=B2 at *
    let hd:=O8 B2 t1 t2 EE;let h1:=OF B2 t1 t2 EE;let h2:=Oc B2 t1 t2 EE;rw[bl2]at hd h1 h2;rw[<-SK]at hd;show(kM,_,_,Sum.inr "one",_,rfl,hd,rfl,rfl,kM,_,_,Sum.inr "other",_,rfl,hd,rfl,rfl,?_);show(ε,γ,-B0,-B0+1,t1,t2,_,_,rfl,h1,h2,fw,qV,vk,λ_ tb _ m1 m2=>?_,λj jl bj _ E=>?_)
    .generalize fA B2 t1 t2++EE=N;let ha:(N++[m1,m2,MO.lst (tb.map aE)])[-N+2]? =!(.lst (tb.map aE)):=by rw[aat (),show -N+2 - -N=2 by omega];rfl
     show(_,_,_,_,true,rfl,?_,rfl,vI,hq _);change(match (N++[m1,m2,MO.lst (tb.map aE)])[-N+2]? with| some (MO.lst _)=>!(Value.type "list")| _=>none)=_;rw[ha]
    .rw[gd j jl]at bj;cases bj
   .let il:=(aaj.mp hi).1;have:=gt i il;rw[hs]at this;unfold bx gX at this;rw[hi]at this;dsimp only at this;rw[hp]at this;show this
structure FT(K:gV)(f:Addr)(x:Str)(st:Stmt):Prop where
 a:PySem.W.nsIn K mainGlobals x=!(!(.ref f))
 e:∃fd,dh K x x st f fd
structure FM(K:gV)(C f:Addr)(m x:Str)(st:Stmt):Prop where
 a:PySem.W.findIn K (.ref C) m=!(!(.ref f))
 i:PySem.W.isFn K (.ref f)=true
 e:∃fd,dh K m x st f fd
structure FV(K:gV)(f:Addr)(x:Str)(st:Stmt)(U:Addr)(its:Array Value):Prop where
 a:PySem.W.nsIn K mainGlobals x=!(!(.ref f))
 e:∃fd,GS K x st U its f fd
section
variable{K:gV}{C:Addr}{m x:Str}{st:Stmt}{oc:Value}{od an:Option Addr}{uy:Array (Option Value)}{kV doc pm aP ct:Value}
def FT.of(a:PySem.W.nsIn K mainGlobals x=!(!(.ref f)))(l:K.lookup f=!(oc,od,.func (PySem.W.fnOf x x (fL st) (de st) (ν st) .none kV doc pm an aP ct),uy))(c:PySem.W.codeIn K aP x=true)(k:PySem.W.keepIn K (.ref f)=true):FT K f x st:=(a,_,Kn l c k)
def FM.of(a:PySem.W.findIn K (.ref C) m=!(!(.ref f)))(i:PySem.W.isFn K (.ref f)=true)(l:K.lookup f=!(oc,od,.func (PySem.W.fnOf m x (fL st) (de st) (ν st) .none kV doc pm an aP ct),uy))(c:PySem.W.codeIn K aP x=true)(k:PySem.W.keepIn K (.ref f)=true):FM K C f m x st:=(a,i,_,Kn l c k)
def FV.of{U:Addr}{tc:Value}{td:Option Addr}{tn:Nat}{ts:Array (Option Value)}(a:PySem.W.nsIn K mainGlobals x=!(!(.ref f)))(l:K.lookup f=!(oc,od,.func (PySem.W.fnOf x x (fL st) (de st) (ν st) (.ref U) kV doc pm an aP ct),uy))(c:PySem.W.codeIn K aP x=true)(k:PySem.W.keepIn K (.ref f)=true)(t:K.lookup U=!(tc,td,.seq its tn,ts)):FV K f x st U its:=(a,_,(_,_,_,_,_,_,_,_,_,rfl,l,c),(_,_,t,rfl),k)
end
section
variable{P:List Value->Prop}
def VH(h:P []):∀us:List Value,-us=0->P us
 | [],_=>h
 | _::_,e=>nomatch e
def gR(h:∀a0:Value,P [a0]):∀us:List Value,-us=1->P us
 | [],e=>nomatch e
 | a::us,e=>VH (P:=λus=>P (a::us)) (h a) us (Nat.succ.inj e)
def bP(h:∀a0 a1:Value,P [a0,a1]):∀us:List Value,-us=2->P us
 | [],e=>nomatch e
 | a::us,e=>gR (P:=λus=>P (a::us)) (h a) us (Nat.succ.inj e)
def jj(h:∀a0 a1 a2:Value,P [a0,a1,a2]):∀us:List Value,-us=3->P us
 | [],e=>nomatch e
 | a::us,e=>bP (P:=λus=>P (a::us)) (h a) us (Nat.succ.inj e)
def rT(h:∀a0 a1 a2 a3:Value,P [a0,a1,a2,a3]):∀us:List Value,-us=4->P us
 | [],e=>nomatch e
 | a::us,e=>jj (P:=λus=>P (a::us)) (h a) us (Nat.succ.inj e)
def S5(h:∀a0 a1 a2 a3 a4:Value,P [a0,a1,a2,a3,a4]):∀us:List Value,-us=5->P us
 | [],e=>nomatch e
 | a::us,e=>rT (P:=λus=>P (a::us)) (h a) us (Nat.succ.inj e)
end
def vx{K:gV}(h:PySem.W.subIn K (.type "int") (.type "bool")=!false):PySem.W.kitOne K (.type "int") (.type "bool")=!false:=by unfold PySem.W.kitOne PySem.W.kitCls;rw[aaE (by decide+kernel)];change(if PySem.W.kitMeta "bool"=true then _ else _)=_;rw[aaG (by decide+kernel)];show h
def x5{K:gV}(h:PySem.W.subIn K (.type "int") (.type "str")=!false):PySem.W.kitOne K (.type "int") (.type "str")=!false:=by unfold PySem.W.kitOne PySem.W.kitCls;rw[aaE (by decide+kernel)];change(if PySem.W.kitMeta "str"=true then _ else _)=_;rw[aaG (by decide+kernel)];show h
def tH{K:gV}(h:PySem.W.subIn K (.type "tuple") (.type "str")=!false):PySem.W.kitOne K (.type "tuple") (.type "str")=!false:=by unfold PySem.W.kitOne PySem.W.kitCls;rw[aaE (by decide+kernel)];change(if PySem.W.kitMeta "str"=true then _ else _)=_;rw[aaG (by decide+kernel)];show h
def sZ{K:gV}(h:PySem.W.subIn K (.type "tuple") (.type "int")=!false):PySem.W.kitOne K (.type "tuple") (.type "int")=!false:=by unfold PySem.W.kitOne PySem.W.kitCls;rw[aaE (by decide+kernel)];change(if PySem.W.kitMeta "int"=true then _ else _)=_;rw[aaG (by decide+kernel)];show h
def w6{K:gV}(h:PySem.W.subIn K (.type "list") (.type "str")=!false):PySem.W.kitOne K (.type "list") (.type "str")=!false:=by unfold PySem.W.kitOne PySem.W.kitCls;rw[aaE (by decide+kernel)];change(if PySem.W.kitMeta "str"=true then _ else _)=_;rw[aaG (by decide+kernel)];show h
def wu{K:gV}(h:PySem.W.subIn K (.type "list") (.type "int")=!false):PySem.W.kitOne K (.type "list") (.type "int")=!false:=by unfold PySem.W.kitOne PySem.W.kitCls;rw[aaE (by decide+kernel)];change(if PySem.W.kitMeta "int"=true then _ else _)=_;rw[aaG (by decide+kernel)];show h
def sL{K:gV}(h:PySem.W.subIn K (.type "tuple") (.type "list")=!false):PySem.W.kitOne K (.type "tuple") (.type "list")=!false:=by unfold PySem.W.kitOne PySem.W.kitCls;rw[aaE (by decide+kernel)];change(if PySem.W.kitMeta "list"=true then _ else _)=_;rw[aaG (by decide+kernel)];show h
def qN{K:gV}(h:PySem.W.subIn K (.type "list") (.type "tuple")=!false):PySem.W.kitOne K (.type "list") (.type "tuple")=!false:=by unfold PySem.W.kitOne PySem.W.kitCls;rw[aaE (by decide+kernel)];change(if PySem.W.kitMeta "tuple"=true then _ else _)=_;rw[aaG (by decide+kernel)];show h
open PySem.W in
def all_mk{l:OpenLaw}{w:World}{K:Frag}{h:Heap}{fa Cl Cf Ca Cm Eb Ci Cd Ce Cg Cj Cb Cc Ck f1 f2 f3 f4 f5 f6 f7 f8 f9 f10 f11 f12 f13 f14 f15 f16 f17 f18 f19 f20 f21 f22 f23 f24 f25 f26 f27 f28 f29 f30 f31 f32 f33 f34 f35 f36 f37 f38 f39 f40 f41 f42 f43 f44 f45 f46 f47 f48 f49 f50 f51 f52 f53 f54 f55 f56 f57 f58:Addr}(X:K.In h)(G:h.Ns mainGlobals mg)(hfa:mg "law"=!(.ref fa))
  {xA tW ub kH:Tok}
  (BZ:nsIn K mainGlobals "NoNumber"=!(!(.ref Cl))) (Bw:excIn K Cl [.type "ValueError",.type "Exception",.type "BaseException",.type "object"] "ValueError.__new__"=true)
  (Fy:nsIn K mainGlobals "NoFloor"=!(!(.ref Cf))) (FA:excIn K Cf [.type "ValueError",.type "Exception",.type "BaseException",.type "object"] "ValueError.__new__"=true)
  (yq:nsIn K mainGlobals "DuelError"=!(!(.ref Ca))) (Av:excIn K Ca [.type "ValueError",.type "Exception",.type "BaseException",.type "object"] "ValueError.__new__"=true)
  (yh:nsIn K mainGlobals "NoPlan"=!(!(.ref Ci)))
  (Hw:nsIn K mainGlobals "NoText"=!(!(.ref Cd)))
  (JH:nsIn K mainGlobals "NoName"=!(!(.ref Ce)))
  (Hf:nsIn K mainGlobals "NoPlace"=!(!(.ref Cg)))
  (K2:nsIn K mainGlobals "NoGoal"=!(!(.ref Cj)))
  (BN:nsIn K mainGlobals "NoAnswer"=!(!(.ref Cb)))
  (tG:nsIn K mainGlobals "ManyAnswers"=!(!(.ref Cc)))
  (LJ:nsIn K mainGlobals "NoRow"=!(!(.ref Ck)))
  (w_:nsIn K mainGlobals "MOST_DOORS"=!(!(.int (6) xA)))
  (tK:nsIn K mainGlobals "MOST_BOTTOM"=!(!(.int (1000000) tW)))
  (sY:nsIn K mainGlobals "MOST_PLACES"=!(!(.int (12) ub)))
  (kL:nsIn K mainGlobals "MOST_SHARE_BOTTOM"=!(!(.int (1000) kH)))
  (MX:nsIn K mainGlobals "Floor"=!(!(.ref Cm))) (kq:plainGet K Cm Str.empty=true) (ky:hasDictIn K Cm=true) (ku:plainOver K Cm=true) (kE:findIn K (.ref Cm) "__setattr__"=!(!(.builtin "object.__setattr__"))) (Md:makesIn K Cm=true) (M8:keepIn K (.ref Cm)=true)
  (v9:findIn K (.ref Cm) "kept_rows"=!none)
  (tI:findIn K (.ref Cm) "kept_share"=!none)
  {K6 HI:Tok} {JX:Option Addr} {HA:Array (Option Value)} {K4:Nat} (ID:nsIn K mainGlobals "HANDS"=!(!(.ref Eb))) (K9:K.lookup Eb=!(.type "tuple",JX,.seq #[(.str "one" K6),(.str "other" HI)] K4,HA))
  (zS:subIn K (.type "int") (.type "bool")=!false)
  (B9:subIn K (.type "int") (.type "str")=!false)
  (wW:subIn K (.type "tuple") (.type "str")=!false)
  (xg:subIn K (.type "tuple") (.type "int")=!false)
  (zb:subIn K (.type "list") (.type "str")=!false)
  (yu:subIn K (.type "list") (.type "int")=!false)
  (tZ:subIn K (.type "tuple") (.type "list")=!false)
  (s_:subIn K (.type "list") (.type "tuple")=!false)
  (t1:FT K f1 "_law_at" CA)
  (t2:FT K f2 "_law_by_digits" iU)
  (t3:FT K f3 "_law_lowest" mn)
  (t4:FT K f4 "_law_share_of" jr)
  (t5:FT K f5 "_law_pay" wO)
  (t6:FT K f6 "_law_stream" lz)
  (t7:FT K f7 "_law_things" ll)
  (t8:FT K f8 "_law_doors" oM)
  (t9:FT K f9 "_law_floor" nV)
  (t10:FT K f10 "fits_share" ly)
  (t11:FT K f11 "fits_pay" rH)
  (t12:FT K f12 "fits_door" n9)
  (t13:FT K f13 "fits_doors" l_)
  (t14:FT K f14 "common_divisor" gB)
  (t15:FT K f15 "common_bottom" hW)
  (t16:FT K f16 "fits_chances" iP)
  (t17:FT K f17 "fits_row" rW)
  (t18:FT K f18 "copied_row" lD)
  (t19:FM K Cm f19 "__init__" "Floor.__init__" lX)
  (t20:FT K f20 "_law_copy" qi)
  (t21:FT K f21 "_law_plan" sA)
  (t22:FT K f22 "_law_spoils" l7)
  (t23:FT K f23 "_law_spoiled" j8)
  (t24:FM K Cm f24 "size" "Floor.size" lh)
  (t25:FM K Cm f25 "kind" "Floor.kind" k7)
  (t26:FT K f26 "places_of" oQ)
  (t27:FT K f27 "first_plan" k8)
  (t28:FT K f28 "_law_first" oU)
  (t29:FT K f29 "_law_refused" ju)
  (t30:FT K f30 "with_weights" i6)
  (t31:FT K f31 "number_of_head" ie)
  (t32:FT K f32 "moved_ahead" jA)
  (t33:FT K f33 "cleared_line" i7)
  (t34:FT K f34 "cleared" q_)
  (t35:FT K f35 "fraction" nZ)
  (t36:FT K f36 "quotients" lT)
  (t37:FT K f37 "answer_of" oR)
  (t38:FT K f38 "minus" Bf)
  (t39:FT K f39 "times" BS)
  (t40:FT K f40 "whole_row" nL)
  (t41:FT K f41 "led_row" xc)
  (t42:FM K Cm f42 "pay" "Floor.pay" oC)
  (t43:FM K Cm f43 "share" "Floor.share" js)
  (t44:FM K Cm f44 "doors" "Floor.doors" jE)
  (t45:FT K f45 "ways_from" n_)
  (t46:FT K f46 "plus" Lb)
  (t47:FT K f47 "weighed" qT)
  (t48:FT K f48 "row_of" BR)
  (t49:FT K f49 "worths_by" oF)
  (t50:FT K f50 "has_door" sj)
  (t51:FM K Ci f51 "__init__" "NoPlan.__init__" jT)
  (t52:FT K f52 "doors_of" rK)
  (t53:FT K f53 "worths_of" oS)
  (t54:FT K f54 "against" sE)
  (t55:FT K f55 "started" rJ)
  {U56:Addr} {Qu:Tok} (t56:FV K f56 "mended" xD U56 #[.str "one" Qu,.none])
  (t57:FT K f57 "_law_caught" lF)
  (t58:FT K f58 "law" Rk)
  (Tf:nsIn K mainGlobals "len"=!none)
  (Tt:nsIn K mainGlobals "abs"=!none)
  (vH:nsIn K mainGlobals "isinstance"=!none)
  (TN:nsIn K mainGlobals "int"=!none)
  (Pj:nsIn K mainGlobals "bool"=!none)
  (TH:nsIn K mainGlobals "str"=!none)
  (Mo:nsIn K mainGlobals "tuple"=!none)
  (Rm:nsIn K mainGlobals "list"=!none)
  (Mh:nsIn K mainGlobals "range"=!none)
  (z7:nsIn K mainGlobals "enumerate"=!none)
  (S8:nsIn K mainGlobals "any"=!none)
  (VQ:nsIn K mainGlobals "all"=!none)
  (SY:nsIn K mainGlobals "sum"=!none)
  (UC:nsIn K mainGlobals "zip"=!none)
  (VS:nsIn K mainGlobals "max"=!none)
  (T5:nsIn K mainGlobals "min"=!none)
  (wm:nsIn K mainGlobals "ValueError"=!none)
  (Pu:nsIn K mainGlobals "dict"=!none)
  (Vo:specialIn K (.ref Ca) "__getattribute__"=!(!(.builtin "type.__getattribute__")))
  (Vs:readsIn K Ca (.type "type")=true)
  (UN:findCls K (.ref Ca) (.type "type") "__init__"=!(.val (.builtin "ValueError.__init__")))
  (yg:isClsIn K Ci=true)
  (B3:findIn K (.ref Ci) "__getattribute__"=!(!(.builtin "BaseException.__getattribute__")))
  (CD:findIn K (.ref Ci) "__getattr__"=!none)
  (A9:findIn K (.ref Ci) "__class__"=!(!(.builtin "object.__class__")))
  (B4:mroIn K Ci (.type "object")=!true)
  (BE:subIn K (.ref Ci) (.type "BaseException")=!true)
  (pX:subIn K (.ref Ci) (.ref Ca)=!true)
  (kC:kitOne K (.ref Ci) (.type "ValueError")=!true)
  (Kb:hasDictIn K Ci=true)
  (pH:takerIn K Ci "place"=!none)
  (pI:findIn K (.ref Ci) "place"=!none)
  (bX:kitOne K (.ref Ci) (.ref Cl)=!false)
  (cq:kitOne K (.ref Ci) (.ref Cf)=!false)
  (df:kitOne K (.ref Ci) (.ref Cd)=!false)
  (cX:kitOne K (.ref Ci) (.ref Ce)=!false)
  (cw:kitOne K (.ref Ci) (.ref Cg)=!false)
  (cU:kitOne K (.ref Ci) (.ref Cj)=!false)
  (b8:kitOne K (.ref Ci) (.ref Cb)=!false)
  (bq:kitOne K (.ref Ci) (.ref Cc)=!false)
  (dG:kitOne K (.ref Ci) (.ref Ck)=!false)
  (yp:L2.Cz K Ci [.type "ValueError",.type "Exception",.type "BaseException",.type "object"] "ValueError.__new__" f51=true)
  (zf:findIn K (.ref Ci) "__setattr__"=!(!(.builtin "object.__setattr__")))
  (y3:mM K Ci=true)
  :∃fd:FuncData,(∀(s:Shared) (v:Value),BindsTo s fd ([v],[]) [("_law_script", v)])/\∀base:Heap,K.In base->base.Ns mainGlobals mg->ae l.prog w K mg base We 12 fa fd ["_law_script"] (yi K):=by
 let(a1,_,F1):=t1;let(a2,_,F2):=t2;let(a3,_,F3):=t3;let(a4,_,F4):=t4;let(a5,_,F5):=t5;let(a6,_,F6):=t6;let(a7,_,F7):=t7;let(a8,_,F8):=t8;let(a9,_,F9):=t9;let(Yy,_,Zz):=t10;let(a11,_,Y6):=t11;let(a12,_,YD):=t12;let(a13,_,Xm):=t13;let(a14,_,Zn):=t14;let(a15,_,XW):=t15;let(a16,_,YW):=t16;let(a17,_,YN):=t17;let(a18,_,W0):=t18;let(a19,i19,_,F19):=t19;let(a20,_,Xl):=t20;let(a21,_,Z2):=t21;let(a22,_,Yv):=t22;let(a23,_,X2):=t23;let(a24,i24,_,W2):=t24;let(a25,i25,_,Xo):=t25;let(a26,_,Yt):=t26;let(a27,_,Zd):=t27;let(a28,_,ZW):=t28;let(a29,_,Xh):=t29;let(a30,_,YK):=t30;let(a31,_,YB):=t31;let(a32,_,Xr):=t32;let(a33,_,Zv):=t33;let(a34,_,Yj):=t34;let(a35,_,F35):=t35;let(a36,_,ZL):=t36;let(a37,_,Yo):=t37;let(a38,_,YL):=t38;let(a39,_,YX):=t39;let(a40,_,ZD):=t40;let(a41,_,ZM):=t41;let(a42,i42,_,Yg):=t42;let(a43,i43,_,X1):=t43;let(a44,i44,_,Y3):=t44;let(a45,_,Y7):=t45;let(a46,_,ZR):=t46;let(a47,_,ZU):=t47;let(a48,_,Z8):=t48;let(a49,_,Y8):=t49;let(a50,_,Y5):=t50;let(a51,i51,_,F51):=t51;let(a52,_,F52):=t52;let(a53,_,WZ):=t53;let(a54,_,ZN):=t54;let(a55,_,F55):=t55;let(a56,_,Zl):=t56;let(a57,_,F57):=t57;let(a58,dL,F58):=t58;let e:=hfa.symm.trans (mg_of X G a58);cases e;let CI:=mg_of X G BZ;let EX:gL K Cl _ _:=⟨Bw⟩;let G6:=mg_of X G Fy;let Iy:gL K Cf _ _:=⟨FA⟩;let Aa:=mg_of X G yq;let AO:gL K Ca _ _:=⟨Av⟩;let vZ:=mg_of X G w_;let tF:=mg_of X G tK;let tN:=mg_of X G sY;let kN:=mg_of X G kL;let bN:=mg_none_of X G Tf;let r8:=mg_none_of X G Tt;let Μ:=mg_none_of X G vH;let rN:=mg_none_of X G TN;let nG:=mg_none_of X G Pj;let Lh:=mg_none_of X G TH;let vD:=mg_none_of X G Mo;let jU:=mg_none_of X G Rm;let bY:=mg_none_of X G Mh;let fv:=mg_none_of X G z7;let C9:=mg_none_of X G S8;let D7:=mg_none_of X G VQ;let yS:=mg_none_of X G SY;let u9:=mg_none_of X G UC;let JR:=mg_none_of X G VS;let zc:=mg_none_of X G T5;let fT:=mg_none_of X G wm;let oP:=mg_none_of X G Pu;let E:Ev K mg Cm Cl Cf Ca Ci Cd Ce Cg Cj Cb Cc Ck:={bN:=bN,r8:=r8,Μ:=Μ,rN:=rN,nG:=nG,Lh:=Lh,vD:=vD,jU:=jU,bY:=bY,fv:=fv,C9:=C9,D7:=D7,yS:=yS,u9:=u9,JR:=JR,zc:=zc,fT:=fT,ib:=vx zS,kis:=x5 B9,kts:=tH wW,kti:=sZ xg,kls:=w6 zb,kli:=wu yu,ktl:=sL tZ,klt:=qN s_,u3:=CI,yD:=G6,l':=Aa,Eo:=mg_of X G yh,DR:=mg_of X G Hw,D6:=mg_of X G JH,zz:=mg_of X G Hf,DC:=mg_of X G K2,uR:=mg_of X G BN,nh:=mg_of X G tG,KL:=mg_of X G LJ,Hc:=EX,Jd:=Iy,qS:=AO,qI:=(Vo,Vs,UN,@_),bZ:=(yg,B3,CD,A9,B4,BE),pX:=pX,kC:=kC,jG:=⟨pH⟩,eh:=(pI,Kb),bX:=bX,cq:=cq,df:=df,cX:=cX,cw:=cw,cU:=cU,b8:=b8,bq:=bq,dG:=dG,fo:=(kq,ky,ku,kE),cY:=v9,h8:=tI,oP:=oP,AU:=(_,_,_,_,mg_of X G ID,K9,rfl,rfl,D2,.cons (_,rfl) (.cons (_,rfl) .nil)),pv:=(_,vZ),iY:=(_,tF),nD:=(_,tN),gq:=(_,kN)};show(dL,λs v=>by let(_,_,_,_,_,_,_,_,_,rfl,_):=F58.ex;show .of_eq rfl,λbase _ _=>?_);let mc:=@ax.mk l.prog w K mg base;let eC:=(JU F1 E)&&&(F1, a1,bP λ_ _=>rfl);let ai:=(sf F2 E)&&&(F2, a2,gR λ_=>rfl);let aZ:=(xM F3 E)&&&(F3, a3,bP λ_ _=>rfl);let iO:=(tQ F4 E ai aZ)&&&(F4, a4,bP λ_ _=>rfl);let iB:=(Gy F5 E aZ)&&&(F5, a5,bP λ_ _=>rfl);let dY:=(xi F6 E)&&&(F6, a6,bP λ_ _=>rfl);let g6:=(vU F7 E ai dY)&&&(F7, a7,rT λ_ _ _ _=>rfl);let lZ:=(za F8 E iB aZ)&&&(F8, a8,rT λ_ _ _ _=>rfl);let mj:=(yZ F9 E eC ai iO iB g6 lZ)&&&(F9, a9,gR λ_=>rfl);let jM:=(xp Zz E)&&&(Zz, Yy,gR λ_=>rfl);let f_:=(CZ Y6 E)&&&(Y6, a11,gR λ_=>rfl);let lK:=(yH YD E f_)&&&(YD, a12,bP λ_ _=>rfl);let g_:=(vh Xm E lK)&&&(Xm, a13,bP λ_ _=>rfl);let bB:=(om Zn E)&&&(Zn, a14,bP λ_ _=>rfl);let bQ:=(pG XW E bB)&&&(XW, a15,gR λ_=>rfl);let h_:=(si YW E bQ)&&&(YW, a16,gR λ_=>rfl);let oq:=(B_ YN E f_ g_ h_)&&&(YN, a17,bP λ_ _=>rfl);let jD:=(wz W0 E)&&&(W0, a18,gR λ_=>rfl);let jK:Qn l.prog w K mg base _ "Floor" Cm _ _ _ _:=(vq F19 E jM oq jD,(F19.binds λ_ _ _ _ _ _=>jj λ_ _ _=>rfl),(Md,a19,i19,M8),mg_of X G MX);let oJ:=(AY Xl E)&&&(Xl, a20,gR λ_=>rfl);let kn:=(Cn Z2 E eC ai dY)&&&(Z2, a21,rT λ_ _ _ _=>rfl);let jR:=(vJ Yv E eC)&&&(Yv, a22,bP λ_ _=>rfl);let fM:=(tm X2 E)&&&(X2, a23,bP λ_ _=>rfl);let aO:hI l.prog w K mg base _ Cm "size" _ _ _ _:=(vV W2 E)|||(W2, a24,i24,gR λ_=>rfl);let aa:hI l.prog w K mg base _ Cm "kind" _ _ _ _:=(xu Xo E)|||(Xo, a25,i25,bP λ_ _=>rfl);let kZ:=(yj Yt E aO aa)&&&(Yt, a26,bP λ_ _=>rfl);let jL:=(vj Zd E kZ)&&&(Zd, a27,bP λ_ _=>rfl);let mm:=(yx ZW E)&&&(ZW, a28,jj λ_ _ _=>rfl);let i4:=(sW Xh E)&&&(Xh, a29,bP λ_ _=>rfl);let ig:=(sG YK E)&&&(YK, a30,gR λ_=>rfl);let gz:=(pE YB E)&&&(YB, a31,jj λ_ _ _=>rfl);let i9:=(tU Xr E)&&&(Xr, a32,jj λ_ _ _=>rfl);let e7:=(qX Zv E)&&&(Zv, a33,rT λ_ _ _ _=>rfl);let oy:=(BH Yj E ig gz i9 e7)&&&(Yj, a34,bP λ_ _=>rfl);let aY:=(yL F35 E bB)&&&(F35, a35,bP λ_ _=>rfl);let jQ:=(wq ZL E aY)&&&(ZL, a36,rT λ_ _ _ _=>rfl);let md:=(zC Yo E oy jQ)&&&(Yo, a37,gR λ_=>rfl);let xt:=(Lj YL E aY)&&&(YL, a38,bP λ_ _=>rfl);let ke:=(J9 YX E aY)&&&(YX, a39,bP λ_ _=>rfl);let lV:=(yC ZD E bQ)&&&(ZD, a40,gR λ_=>rfl);let nq:=(Gm ZM E aO xt ke lV)&&&(ZM, a41,S5 λ_ _ _ _ _=>rfl);let lG:hI l.prog w K mg base _ Cm "pay" _ _ _ _:=(An Yg E aa)|||(Yg, a42,i42,bP λ_ _=>rfl);let fP:hI l.prog w K mg base _ Cm "share" _ _ _ _:=(tL X1 E)|||(X1, a43,i43,gR λ_=>rfl);let cQ:hI l.prog w K mg base _ Cm "doors" _ _ _ _:=(ua Y3 E aa)|||(Y3, a44,i44,bP λ_ _=>rfl);let mh:=(yb Y7 E cQ aa)&&&(Y7, a45,jj λ_ _ _=>rfl);let A6:=(NC ZR E aY)&&&(ZR, a46,bP λ_ _=>rfl);let nP:=(A2 ZU E A6 ke)&&&(ZU, a47,bP λ_ _=>rfl);let wQ:=(JY Z8 E aa nq lG fP mh nP)&&&(Z8, a48,jj λ_ _ _=>rfl);let lR:=(Ac Y8 E md aO wQ)&&&(Y8, a49,bP λ_ _=>rfl);let nY:=(AN Y5 E cQ)&&&(Y5, a50,jj λ_ _ _=>rfl);let i5:Xe l.prog w K mg base _ "NoPlan" Ci VB "ValueError.__new__" _ _ _ _:=(tq F51 E (yp,i51,zf,y3),(F51.binds λ_ _ _ _ _ _=>bP λ_ _=>rfl),(yp,i51,zf,y3),mg_of X G yh);let dc:=(AQ F52 E aO aa nY i5)&&&(F52, a52,bP λ_ _=>rfl);let eV:=(y6 WZ E lR dc)&&&(WZ, a53,jj λ_ _ _=>rfl);let nI:=(B8 ZN E dc)&&&(ZN, a54,jj λ_ _ _=>rfl);let oo:=(Bj F55 E dc)&&&(F55, a55,jj λ_ _ _=>rfl);let Ki:=FI Zl E (P:=l.prog) (base:=base) oo
 let n8:Q4 l.prog w K mg base _ "mended" _ _ [] _ _:=(Ki,([],[],Zl.binds (λ_ _ _ _ _ _ us hl=>by
  obtain⟨a0,a1,a2,rfl⟩:∃a0 a1 a2,us=[a0,a1,a2]:=jj (P:=λus=>∃a0 a1 a2,us=[a0,a1,a2]) (λa0 a1 a2=>(a0,a1,a2,rfl)) us (by simpa using hl)
  show(_,rfl,rfl)),.nil,λ_ _=>rfl),mg_of X G a56,Zl.kp)
 let j3:=(we F57 E eV nI n8)&&&(F57, a57,rT λ_ _ _ _=>rfl);show Pp (Qa F58 E mj jK oJ kn jR fM jL mm i4 j3 eV)
def walk{l:PySem.W.OpenLaw}{q:Program}{loose:List Str}{XP:(Str->Option Value)->Heap->Prop}{YP:World->Heap->Prop}{d:DefRec}{K:Params->gV}(hn:l.most=!63)(To:d.params.defaults=[])
  (hY:∀(w:World) (h:Heap),YP w h->(K w.params).In h)
  (F:∀(w:World) (mg:Str->Option Value) (fa:Addr) (h:Heap),(K w.params).In h->h.Ns mainGlobals mg->mg d.name=!(.ref fa)->
   ∃fd:FuncData,(∀(s:Shared) (u:Value),BindsTo s fd ([u],[]) [("_law_script", u)])/\∀base:Heap,(K w.params).In base->base.Ns mainGlobals mg->ae l.prog w (K w.params) mg base We 12 fa fd ["_law_script"] (yi (K w.params))):
  PySem.W.WalkO q loose XP YP l.row.toRowW d [] (λf vs=>PySem.call f vs):=
 L2.xB (n:=63) (k:=12) (x:="_law_script") (CX:=λ_=>We) (sp:=λw=>yi (K w.params)) hn @_ To (rfl,@_,@_) hY F (λ_ _ a ns hl _ hS=>(a,ns,rfl,hS,hl,λ_=>rfl)) λ_ _ _ _ _ z=>z
end
end Pg
end
open PySem PySem.W PyProof.Rows
set_option maxRecDepth 100000 in
set_option maxHeartbeats 0 in
theorem PySem.Challenge.cw_chanceduel_k21_plans_refused_holds : PySem.Challenge.rw_chanceduel_k21_plans_refused.Holds := by
 w_on;o_law
 refine holds_open (q:=Hd.q) (loose:=["TURNED_KINDS","mended"]) (Xt:=Hd.Xt) (XP:=XL Hd.q [])
  (Yf:=Hd.H.obs) (Ya:=Hd.H.val) (YP:=Hd.H.says) Hd.left Hd.H.of Hd.H.keeps
  (λs e=>xl_of s (Bool.and_eq_true_iff.mp e).1) XL.keeps (by rfl) (by rfl) (by rfl)
  (λs e=>recFacts_of (Bool.and_eq_true_iff.mp e).2) (by rfl) (by assumption) (by decide+kernel)
  ⟨rfl,rfl,rfl,rfl,rfl,by decide+kernel⟩ ?hw ?hc
 (case hw=>w_witness2)
 refine Pg.walk (l:=PySem.Challenge.rw_chanceduel_k21_plans_refused) rfl rfl (fun w h Y=>PySem.W.kIn_of Y) ?F
 case F=>
  k_fill
  intro w mg fa h KX G MA
  refine' Pg.all_mk KX G MA ?_ ?_ ?_ ?_ ?_ ?_ ?_ ?_ ?_ ?_ ?_ ?_ ?_ ?_ ?_ ?_ ?_ ?_ ?_ ?_ ?_ ?_ ?_ ?_ ?_ ?_ ?_ ?_ ?_ ?_ ?_ ?_ ?_ ?_ ?_ ?_ ?_ ?_ ?_ ?_ ?_ ?_ ?_ ?_ ?_ ?_ ?_ ?_ ?_ ?_ ?_ ?_ ?_ ?_ ?_ ?_ ?_ ?_ ?_ ?_ ?_ ?_ ?_ ?_ ?_ ?_ ?_ ?_ ?_ ?_ ?_ ?_ ?_ ?_ ?_ ?_ ?_ ?_ ?_ ?_ ?_ ?_ ?_ ?_ ?_ ?_ ?_ ?_ ?_ ?_ ?_ ?_ ?_ ?_ ?_ ?_ ?_ ?_ ?_ ?_ ?_ ?_ ?_ ?_ ?_ ?_ ?_ ?_ ?_ ?_ ?_ ?_ ?_ ?_ ?_ ?_ ?_ ?_ ?_ ?_ ?_ ?_ ?_ ?_ ?_ ?_ ?_ ?_ ?_ ?_ ?_ ?_ ?_ ?_ ?_ ?_ ?_ ?_ ?_
  all_goals try first| (refine' Pg.FT.of ?_ ?_ ?_ ?_ <;> try k_is)| (refine' Pg.FM.of ?_ ?_ ?_ ?_ ?_ <;> try k_is)| (refine' Pg.FV.of ?_ ?_ ?_ ?_ ?_ <;> try k_is)| k_is| k_exc| kernel_rfl
