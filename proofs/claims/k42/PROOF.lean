import PyProof.Rows.All
import Wide.All
import OpenK.AllK
import Wide.FinOn
import Lean
import PyProof.EqAt
import PyProof.EqKinds
import PyProof.TupleCall
import PyProof.NeKinds
import PyProof.ZipIter
import PyProof.DictUpdate
import PyProof.FactsAll.dict_1
import PyProof.DictIter
import PyProof.DictWalks
import KE.KMinKey
import PyProof.Rows.CallKwBuiltin
import PySem.Challenge.RW_chanceduel_k42_no_goals
set_option Elab.async false
set_option linter.all false
set_option maxRecDepth 100000
set_option maxHeartbeats 4000000
set_option compiler.extract_closed false
def aac:=@List.getElem?_eq_getElem
def aad:=@List.getD_eq_getElem?_getD
def aae:=@List.mem_cons_of_mem
def aaf:=@List.mem_cons_self
def aah:=@List.length_map
def aai:=@List.getElem?_eq_some_iff
def aaj:=@PySem.wpAny_bind
def aal:=@PySem.Heap.get?_push_of_some
def aam:=@Bool.and_eq_true
def aan:=@List.length_append
def aao:=@Nat.le_refl
def aap:=@List.getElem?_map
def aaq:=@PySem.Heap.lt_size
def aar:=@List.mem_of_getElem?
def aas:=@Nat.lt_of_lt_of_le
def aat:=@decide_eq_false
def aau:=@List.mem_map
def aav:=@Option.some.inj
def aaw:=@List.getElem_mem
def aax:=@Nat.le_trans
def aay:=@if_pos
def aaz:=@List.size_toArray
def aaA:=@List.getElem?_append_left
def aaB:=@List.getElem?_append_right
def aaC:=@of_decide_eq_true
def aaD:=@Bool.false_ne_true
def aaE:=@Int.le_of_lt
def aaF:=@if_neg
def aaG:=@List.mem_cons
def aaH:=@List.mem_append_right
def aaI:=@PySem.wpAny_pure
def aaJ:=@List.append_assoc
def aaK:=@absurd
def aaL:=@List.length_cons
def aaM:=@Nat.ne_of_lt
def aaN:=@decide_eq_true_iff
def aaO:=@decide_eq_true
def aaP:=@PySem.Heap.get?_push_size
def aaQ:=@List.getElem?_range
def aaR:=@of_decide_eq_false
def aaS:=@List.nil_append
def aaT:=@List.map_append
def aaU:=@List.getElem?_set_self
def aaV:=@List.map_map
def aaW:=@List.append_nil
def aaX:=@List.length_set
def aaY:=@Int.toNat_natCast
def aaZ:=@congrArg
def aa0:=@List.map_cons
def aa1:=@Int.mul_le_mul_of_nonneg_left
def aa2:=@List.getElem?_set_ne
def aa3:=@List.length_replicate
def aa4:=@Int.eq_of_mul_eq_mul_left
def aa5:=@List.all_eq_true
def aa6:=@Rat.intCast_mul
def aa7:=@Int.mul_le_mul_of_nonneg_right
def aa8:=@List.mem_append
def aa9:=@Option.isSome_iff_exists
def aba:=@List.length_range
def abb:=@Int.natAbs_of_nonneg
def abc:=@Nat.lt_of_le_of_lt
def abd:=@PySem.wpAny_mono
def abe:=@List.replicate_succ
def abf:=@List.getElem_of_mem
def abg:=@List.mem_range
def abh:=@List.ext_getElem
def abi:=@Array.getElem?_eq_some_iff
def abj:=@Int.lt_of_le_of_lt
def abl:=@List.mem_singleton
def abm:=@Option.map_eq_some_iff
def abn:=@List.drop_eq_getElem_cons
def abo:=@List.map_congr_left
def abp:=@beq_iff_eq
def abq:=@Int.mul_comm
def abr:=@List.zip_cons_cons
def abu:=@List.mem_append_left
def abv:=@Nat.lt_succ_self
def abw:=@Nat.le_add_right
def abx:=@Rat.intCast_lt_intCast
def aby:=@List.flatten_cons
def abz:=@Nat.lt_irrefl
def abA:=@Int.natAbs_mul
def abB:=@Int.mul_ediv_cancel_left
def abC:=@List.lookup_cons
def abD:=@Nat.add_sub_cancel_left
def abE:=@Int.mul_nonneg
def abF:=@List.foldl_cons
def abG:=@List.length_zip
def abH:=@Nat.not_lt_zero
def abI:=@Int.mul_pos
def abJ:=@List.range_succ_eq_map
def abK:=@List.take_of_length_le
def abL:=@List.exists_cons_of_ne_nil
def abM:=@List.length_drop
def abN:=@List.mem_filterMap
def abO:=@List.all_cons
def abP:=@List.set_append_left
def abQ:=@Nat.pow_le_pow_right
def abR:=@List.nodup_cons
def abS:=@Nat.lt_succ_of_lt
def abT:=@Int.pow_succ
def abU:=@Nat.sub_self
def abV:=@Int.ofNat_lt
def abW:=@Nat.zero_le
def abX:=@List.getElem?_replicate
def abY:=@List.any_cons
def abZ:=@List.drop_eq_nil_of_le
def ab0:=@Bool.eq_iff_iff
def ab1:=@Nat.zero_add
def ab2:=@Int.le_trans
def ab3:=@Int.emod_nonneg
def ab4:=@Int.dvd_zero
def ab5:=@List.nodup_append
def ab6:=@Int.fmod_eq_emod_of_nonneg
def ab7:=@Int.pow_nonneg
def ab8:=@Int.le_of_mul_le_mul_left
def ab9:=@beq_self_eq_true
def aca:=@List.getElem?_take_of_lt
def acb:=@List.mem_of_mem_eraseIdx
def acd:=@List.of_mem_zip
def ace:=@Nat.min_eq_left
def acf:=@Int.le_of_dvd
def acg:=@List.map_drop
def ach:=@Int.emod_lt_of_pos
def aci:=@List.drop_zero
def acj:=@Nat.ne_of_gt
def ack:=@Int.ne_of_gt
namespace Hd
open PySem PySem.W PyProof.Rows
def at_(i:Nat):Stmt:=PySem.Challenge.pw_chanceduel_k42_no_goals.main.body.getD i (.Pass ⟨0,0,0,0⟩)
def Pz:Stmt->Nat->Stmt
  | .ClassDef _ _ _ b _ _ _ _ _ _ _,j=>b.getD j (.Pass ⟨0,0,0,0⟩)
  | s,_=>s
def dA:Stmt->Arguments
  | .FunctionDef _ a _ _ _ _ _ _ _ _=>a
  | _=>⟨[],[],none,[],[],none,[]⟩
def dB:Stmt->List Stmt
  | .FunctionDef _ _ b _ _ _ _ _ _ _=>b
  | _=>[]
def dS:Stmt->Scope
  | .FunctionDef _ _ _ _ _ _ c _ _ _=>c
  | _=>{kind:= .function,names:=[],isGenerator:=false,isCoroutine:=false}
abbrev row:=PySem.Challenge.rw_chanceduel_k42_no_goals.row
abbrev en(P:Params)(x:Str)(t:Tok)(v:Value):DictEntry:=⟨PyData.keyHash P x, .str x t,v⟩
def q:Program:={PySem.Challenge.pw_chanceduel_k42_no_goals with main:={PySem.Challenge.pw_chanceduel_k42_no_goals.main with body:=[at_ 1,at_ 2,at_ 3,at_ 4,at_ 5,at_ 6,at_ 7,at_ 8,at_ 9,at_ 10,at_ 11,at_ 13,at_ 14,at_ 15,at_ 16,at_ 18,at_ 19,at_ 20,at_ 21,at_ 22,at_ 23,at_ 25,at_ 26,at_ 27,at_ 28,at_ 29,at_ 30,at_ 31,at_ 32,at_ 33,at_ 34,at_ 36,at_ 37,at_ 38,at_ 39,at_ 40,at_ 41,at_ 42,at_ 44,at_ 45,at_ 46,at_ 47,at_ 48,at_ 49,at_ 50,at_ 51,at_ 53,at_ 54,at_ 55,at_ 56,at_ 57,at_ 59,at_ 60,at_ 61,at_ 62,at_ 63,at_ 64,at_ 65,at_ 66,at_ 67,at_ 69,at_ 70,at_ 71,at_ 72,at_ 73,at_ 74,at_ 75,at_ 76,at_ 77,at_ 78,at_ 79]}}
abbrev cO(x q:Str)(t l n f a m:Nat):Obj:=⟨.type "code",none, .fields #[.str x t, .str q (t+1), .str "/claim/cut.py" (t+2), .int l 0, .int n 0, .int 0 0, .int 0 0, .int f 0, .ref a, .bool true, .int 181 0, .ref (a+1), .none, .ref (a+2), .ref (a+3), .ref (a+4), .int m 0, .int l 0, .str "/claim/cut.py" (m+1)], #[]⟩
abbrev dO(x q:Str)(t l n f a m:Nat):Obj:=⟨.type "code",none, .fields #[.str x t, .str q (t+1), .str "/claim/cut.py" (t+2), .int l 0, .int n 0, .int 0 0, .int 0 0, .int f 0, .ref a, .bool true, .int 181 0, .ref (a+1), .none, .none, .none, .ref (a+2), .int m 0, .int l 0, .str "/claim/cut.py" (m+1)], #[]⟩
abbrev fO(x q:Str)(s:Stmt)(m:Value)(c:Nat):Obj:=⟨.type "function",none, .func ⟨x,q,(dA s), .stmts (dB s),(dS s),3,[], .none, .none, .none,m,none, .ref c, .none,0⟩, #[]⟩
abbrev m0:Value:= .str "chanceduel.errors" 187
abbrev m1:Value:= .str "chanceduel.shuts" 414
abbrev m2:Value:= .str "chanceduel.parts" 444
abbrev m3:Value:= .str "chanceduel.places" 498
abbrev m4:Value:= .str "chanceduel.floors" 556
abbrev m5:Value:= .str "chanceduel.rows" 699
abbrev m6:Value:= .str "chanceduel.plans" 775
abbrev m7:Value:= .str "chanceduel.reach" 822
abbrev m8:Value:= .str "law_chanceduel_k42_no_goals" 906
noncomputable def K:Params->Frag:=λP=>
(nat_lit 2,⟨.none,none,(.dict #[] 0), #[]⟩)::
(nat_lit 3,⟨(.type "dict"),none,(.dict #[(en P "__name__" 165 m8),(en P "__doc__" 166 .none),(en P "__package__" 167 .none),(en P "__loader__" 168 (.builtin "__main__.__loader__#opaque")),(en P "__spec__" 169 .none),(en P "__annotations__" 170 (.ref 6)),(en P "__builtins__" 171 (.ref 4)),(en P "__file__" 173 (.str "/claim/cut.py" 172)),(en P "__cached__" 174 .none),(en P "DuelError" 206 (.ref 24)),(en P "NoNumber" 222 (.ref 37)),(en P "NoText" 238 (.ref 49)),(en P "NoName" 254 (.ref 61)),(en P "NoFloor" 270 (.ref 73)),(en P "NoPlace" 295 (.ref 92)),(en P "NoAnswer" 320 (.ref 111)),(en P "ManyAnswers" 347 (.ref 130)),(en P "NoPlan" 372 (.ref 149)),(en P "NoGoal" 397 (.ref 168)),(en P "NoRow" 413 (.ref 180)),(en P "check_goals" 425 (.ref 189)),(en P "is_drawn" 431 (.ref 194)),(en P "drawn_next" 437 (.ref 199)),(en P "draw" 443 (.ref 204)),(en P "common_divisor" 456 (.ref 211)),(en P "fraction" 465 (.ref 218)),(en P "plus" 473 (.ref 225)),(en P "minus" 481 (.ref 232)),(en P "times" 489 (.ref 239)),(en P "under" 497 (.ref 246)),(en P "HANDS" 502 (.ref 247)),(en P "MOST_DOORS" 504 (.int 6 503)),(en P "MOST_BOTTOM" 506 (.int 1000000 505)),(en P "fits_pay" 513 (.ref 254)),(en P "fits_door" 521 (.ref 261)),(en P "common_bottom" 530 (.ref 268)),(en P "fits_chances" 536 (.ref 273)),(en P "fits_doors" 542 (.ref 278)),(en P "fits_row" 548 (.ref 283)),(en P "copied_row" 555 (.ref 290)),(en P "MOST_PLACES" 559 (.int 12 558)),(en P "MOST_SHARE_BOTTOM" 561 (.int 1000 560)),(en P "fits_share" 568 (.ref 297)),(en P "weighed" 579 (.ref 304)),(en P "greatest" 588 (.ref 311)),(en P "least" 597 (.ref 318)),(en P "Floor" 698 (.ref 395)),(en P "with_weights" 711 (.ref 406)),(en P "number_of_head" 721 (.ref 413)),(en P "moved_ahead" 730 (.ref 420)),(en P "cleared_line" 736 (.ref 425)),(en P "cleared" 742 (.ref 430)),(en P "quotients" 755 (.ref 437)),(en P "still_of" 761 (.ref 442)),(en P "answer_of" 774 (.ref 449)),(en P "places_of" 782 (.ref 454)),(en P "first_plan" 792 (.ref 461)),(en P "ways_from" 802 (.ref 468)),(en P "whole_row" 808 (.ref 473)),(en P "led_row" 821 (.ref 480)),(en P "drawn_door" 834 (.ref 487)),(en P "drawn_plan" 844 (.ref 494)),(en P "chance_row" 854 (.ref 501)),(en P "chances_by" 860 (.ref 506)),(en P "better_led" 866 (.ref 511)),(en P "kept_least" 878 (.ref 518)),(en P "held_row" 887 (.ref 525)),(en P "steps_by" 893 (.ref 530)),(en P "chances" 905 (.ref 537)),(en P "_law_number" 917 (.ref 544)),(en P "_law_rows" 923 (.ref 549)),(en P "_law_odd" 931 (.ref 556)),(en P "_law_list" 937 (.ref 561)),(en P "_law_good" 946 (.ref 568)),(en P "_law_first_bad" 956 (.ref 575)),(en P "_law_told" 968 (.ref 582)),(en P "_law_refused" 976 (.ref 589)),(en P "_law_answered" 982 (.ref 594)),(en P "_law_asked" 996 (.ref 601)),(en P "law" 1011 (.ref 608))] 80), #[]⟩)::
(nat_lit 23,⟨(.type "dict"),none,(.dict #[(en P "__module__" 196 m0),(en P "__firstlineno__" 200 (.int 2 199)),(en P "__static_attributes__" 201 (.ref 22)),(en P "__weakref__" 203 (.ref 25)),(en P "__doc__" 204 .none)] 3), #[]⟩)::
(nat_lit 24,⟨(.type "type"),none,(.cls ⟨"DuelError",[(.type "ValueError")],[(.ref 24),(.type "ValueError"),(.type "Exception"),(.type "BaseException"),(.type "object")],23,"DuelError",true,[],[(.ref 37),(.ref 49),(.ref 61),(.ref 73),(.ref 92),(.ref 111),(.ref 130),(.ref 149),(.ref 168),(.ref 180)],false,none,false⟩), #[(some (.ref 15)),none,(some (.str "DuelError" 189)),(some (.str "DuelError" 197)),(some (.builtin "ValueError.__new__")),(some (.bool true))]⟩)::
(nat_lit 36,⟨(.type "dict"),none,(.dict #[(en P "__module__" 214 m0),(en P "__firstlineno__" 218 (.int 4 217)),(en P "__static_attributes__" 219 (.ref 35)),(en P "__doc__" 220 .none)] 2), #[]⟩)::
(nat_lit 37,⟨(.type "type"),none,(.cls ⟨"NoNumber",[(.ref 24)],[(.ref 37),(.ref 24),(.type "ValueError"),(.type "Exception"),(.type "BaseException"),(.type "object")],36,"NoNumber",true,[],[],false,none,false⟩), #[(some (.ref 28)),none,(some (.str "NoNumber" 207)),(some (.str "NoNumber" 215)),(some (.builtin "ValueError.__new__")),(some (.bool true))]⟩)::
(nat_lit 49,⟨(.type "type"),none,(.cls ⟨"NoText",[(.ref 24)],[(.ref 49),(.ref 24),(.type "ValueError"),(.type "Exception"),(.type "BaseException"),(.type "object")],48,"NoText",true,[],[],false,none,false⟩), #[(some (.ref 40)),none,(some (.str "NoText" 223)),(some (.str "NoText" 231)),(some (.builtin "ValueError.__new__")),(some (.bool true))]⟩)::
(nat_lit 61,⟨(.type "type"),none,(.cls ⟨"NoName",[(.ref 24)],[(.ref 61),(.ref 24),(.type "ValueError"),(.type "Exception"),(.type "BaseException"),(.type "object")],60,"NoName",true,[],[],false,none,false⟩), #[(some (.ref 52)),none,(some (.str "NoName" 239)),(some (.str "NoName" 247)),(some (.builtin "ValueError.__new__")),(some (.bool true))]⟩)::
(nat_lit 72,⟨(.type "dict"),none,(.dict #[(en P "__module__" 262 m0),(en P "__firstlineno__" 266 (.int 10 265)),(en P "__static_attributes__" 267 (.ref 71)),(en P "__doc__" 268 .none)] 2), #[]⟩)::
(nat_lit 73,⟨(.type "type"),none,(.cls ⟨"NoFloor",[(.ref 24)],[(.ref 73),(.ref 24),(.type "ValueError"),(.type "Exception"),(.type "BaseException"),(.type "object")],72,"NoFloor",true,[],[],false,none,false⟩), #[(some (.ref 64)),none,(some (.str "NoFloor" 255)),(some (.str "NoFloor" 263)),(some (.builtin "ValueError.__new__")),(some (.bool true))]⟩)::
(nat_lit 92,⟨(.type "type"),none,(.cls ⟨"NoPlace",[(.ref 24)],[(.ref 92),(.ref 24),(.type "ValueError"),(.type "Exception"),(.type "BaseException"),(.type "object")],91,"NoPlace",true,[],[],false,none,false⟩), #[(some (.ref 76)),none,(some (.str "NoPlace" 271)),(some (.str "NoPlace" 279)),(some (.builtin "ValueError.__new__")),(some (.bool true))]⟩)::
(nat_lit 111,⟨(.type "type"),none,(.cls ⟨"NoAnswer",[(.ref 24)],[(.ref 111),(.ref 24),(.type "ValueError"),(.type "Exception"),(.type "BaseException"),(.type "object")],110,"NoAnswer",true,[],[],false,none,false⟩), #[(some (.ref 95)),none,(some (.str "NoAnswer" 296)),(some (.str "NoAnswer" 304)),(some (.builtin "ValueError.__new__")),(some (.bool true))]⟩)::
(nat_lit 130,⟨(.type "type"),none,(.cls ⟨"ManyAnswers",[(.ref 24)],[(.ref 130),(.ref 24),(.type "ValueError"),(.type "Exception"),(.type "BaseException"),(.type "object")],129,"ManyAnswers",true,[],[],false,none,false⟩), #[(some (.ref 114)),none,(some (.str "ManyAnswers" 321)),(some (.str "ManyAnswers" 329)),(some (.builtin "ValueError.__new__")),(some (.bool true))]⟩)::
(nat_lit 149,⟨(.type "type"),none,(.cls ⟨"NoPlan",[(.ref 24)],[(.ref 149),(.ref 24),(.type "ValueError"),(.type "Exception"),(.type "BaseException"),(.type "object")],148,"NoPlan",true,[],[],false,none,false⟩), #[(some (.ref 133)),none,(some (.str "NoPlan" 348)),(some (.str "NoPlan" 356)),(some (.builtin "ValueError.__new__")),(some (.bool true))]⟩)::
(nat_lit 164,cO "__init__" "NoGoal.__init__" 385 35 2 3 159 390)::
(nat_lit 165,fO "__init__" "NoGoal.__init__" (Pz (at_ 10) 0) m0 164)::
(nat_lit 167,⟨(.type "dict"),none,(.dict #[(en P "__module__" 380 m0),(en P "__firstlineno__" 384 (.int 33 383)),(en P "__init__" 392 (.ref 165)),(en P "__static_attributes__" 394 (.ref 166)),(en P "__doc__" 395 .none)] 2), #[]⟩)::
(nat_lit 168,⟨(.type "type"),none,(.cls ⟨"NoGoal",[(.ref 24)],[(.ref 168),(.ref 24),(.type "ValueError"),(.type "Exception"),(.type "BaseException"),(.type "object")],167,"NoGoal",true,[],[],false,none,false⟩), #[(some (.ref 152)),none,(some (.str "NoGoal" 373)),(some (.str "NoGoal" 381)),(some (.builtin "ValueError.__new__")),(some (.bool true))]⟩)::
(nat_lit 180,⟨(.type "type"),none,(.cls ⟨"NoRow",[(.ref 24)],[(.ref 180),(.ref 24),(.type "ValueError"),(.type "Exception"),(.type "BaseException"),(.type "object")],179,"NoRow",true,[],[],false,none,false⟩), #[(some (.ref 171)),none,(some (.str "NoRow" 398)),(some (.str "NoRow" 406)),(some (.builtin "ValueError.__new__")),(some (.bool true))]⟩)::
(nat_lit 188,cO "check_goals" "check_goals" 416 41 2 3 183 423)::
(nat_lit 189,fO "check_goals" "check_goals" (at_ 13) m1 188)::
(nat_lit 193,dO "is_drawn" "is_drawn" 426 47 3 3 190 429)::
(nat_lit 194,fO "is_drawn" "is_drawn" (at_ 14) m1 193)::
(nat_lit 198,dO "drawn_next" "drawn_next" 432 54 2 3 195 435)::
(nat_lit 199,fO "drawn_next" "drawn_next" (at_ 15) m1 198)::
(nat_lit 203,dO "draw" "draw" 438 56 2 3 200 441)::
(nat_lit 204,fO "draw" "draw" (at_ 16) m1 203)::
(nat_lit 210,cO "common_divisor" "common_divisor" 446 69 2 3 205 454)::
(nat_lit 211,fO "common_divisor" "common_divisor" (at_ 18) m2 210)::
(nat_lit 217,cO "fraction" "fraction" 457 77 2 3 212 463)::
(nat_lit 218,fO "fraction" "fraction" (at_ 19) m2 217)::
(nat_lit 231,cO "minus" "minus" 474 86 2 3 226 479)::
(nat_lit 232,fO "minus" "minus" (at_ 21) m2 231)::
(nat_lit 238,cO "times" "times" 482 88 2 3 233 487)::
(nat_lit 239,fO "times" "times" (at_ 22) m2 238)::
(nat_lit 245,cO "under" "under" 490 90 2 3 240 495)::
(nat_lit 246,fO "under" "under" (at_ 23) m2 245)::
(nat_lit 247,⟨(.type "tuple"),none,(.seq #[(.str "one" 500),(.str "other" 501)] 0), #[]⟩)::
(nat_lit 253,cO "fits_pay" "fits_pay" 507 96 1 3 248 511)::
(nat_lit 254,fO "fits_pay" "fits_pay" (at_ 28) m3 253)::
(nat_lit 260,cO "fits_door" "fits_door" 514 98 2 3 255 519)::
(nat_lit 261,fO "fits_door" "fits_door" (at_ 29) m3 260)::
(nat_lit 267,cO "common_bottom" "common_bottom" 522 100 1 3 262 528)::
(nat_lit 268,fO "common_bottom" "common_bottom" (at_ 30) m3 267)::
(nat_lit 272,dO "fits_chances" "fits_chances" 531 105 1 3 269 534)::
(nat_lit 273,fO "fits_chances" "fits_chances" (at_ 31) m3 272)::
(nat_lit 277,dO "fits_doors" "fits_doors" 537 111 2 3 274 540)::
(nat_lit 278,fO "fits_doors" "fits_doors" (at_ 32) m3 277)::
(nat_lit 282,dO "fits_row" "fits_row" 543 115 2 3 279 546)::
(nat_lit 283,fO "fits_row" "fits_row" (at_ 33) m3 282)::
(nat_lit 289,cO "copied_row" "copied_row" 549 124 1 3 284 553)::
(nat_lit 290,fO "copied_row" "copied_row" (at_ 34) m3 289)::
(nat_lit 296,cO "fits_share" "fits_share" 562 131 1 3 291 566)::
(nat_lit 297,fO "fits_share" "fits_share" (at_ 38) m4 296)::
(nat_lit 310,cO "greatest" "greatest" 580 138 1 3 305 586)::
(nat_lit 311,fO "greatest" "greatest" (at_ 40) m4 310)::
(nat_lit 317,cO "least" "least" 589 144 1 3 312 595)::
(nat_lit 318,fO "least" "least" (at_ 41) m4 317)::
(nat_lit 329,dO "__init__" "Floor.__init__" 610 152 3 3 326 613)::
(nat_lit 330,fO "__init__" "Floor.__init__" (Pz (at_ 42) 0) m4 329)::
(nat_lit 336,cO "size" "Floor.size" 616 163 1 3 331 620)::
(nat_lit 337,fO "size" "Floor.size" (Pz (at_ 42) 1) m4 336)::
(nat_lit 343,cO "share" "Floor.share" 623 166 1 3 338 627)::
(nat_lit 344,fO "share" "Floor.share" (Pz (at_ 42) 2) m4 343)::
(nat_lit 350,cO "kind" "Floor.kind" 630 169 2 3 345 635)::
(nat_lit 351,fO "kind" "Floor.kind" (Pz (at_ 42) 3) m4 350)::
(nat_lit 357,cO "doors" "Floor.doors" 638 172 2 3 352 643)::
(nat_lit 358,fO "doors" "Floor.doors" (Pz (at_ 42) 4) m4 357)::
(nat_lit 369,dO "rows" "Floor.rows" 654 182 1 3 366 657)::
(nat_lit 370,fO "rows" "Floor.rows" (Pz (at_ 42) 6) m4 369)::
(nat_lit 394,⟨(.type "dict"),none,(.dict #[(en P "__module__" 605 m4),(en P "__firstlineno__" 609 (.int 150 608)),(en P "__init__" 615 (.ref 330)),(en P "size" 622 (.ref 337)),(en P "share" 629 (.ref 344)),(en P "kind" 637 (.ref 351)),(en P "doors" 645 (.ref 358)),(en P "pay" 653 (.ref 365)),(en P "rows" 659 (.ref 370)),(en P "shown" 670 (.ref 377)),(en P "all_shown" 676 (.ref 382)),(en P "look" 682 (.ref 387)),(en P "best" 688 (.ref 392)),(en P "__static_attributes__" 691 (.ref 393)),(en P "__dict__" 693 (.ref 396)),(en P "__weakref__" 695 (.ref 397)),(en P "__doc__" 696 .none)] 4), #[]⟩)::
(nat_lit 395,⟨(.type "type"),none,(.cls ⟨"Floor",[(.type "object")],[(.ref 395),(.type "object")],394,"Floor",true,[],[],false,none,false⟩), #[none,none,(some (.str "Floor" 598)),(some (.str "Floor" 606)),(some (.builtin "object.__new__")),(some (.bool true))]⟩)::
(nat_lit 405,cO "with_weights" "with_weights" 701 208 1 3 400 709)::
(nat_lit 406,fO "with_weights" "with_weights" (at_ 44) m5 405)::
(nat_lit 412,cO "number_of_head" "number_of_head" 712 215 3 3 407 719)::
(nat_lit 413,fO "number_of_head" "number_of_head" (at_ 45) m5 412)::
(nat_lit 419,cO "moved_ahead" "moved_ahead" 722 220 3 3 414 728)::
(nat_lit 420,fO "moved_ahead" "moved_ahead" (at_ 46) m5 419)::
(nat_lit 424,dO "cleared_line" "cleared_line" 731 222 4 3 421 734)::
(nat_lit 425,fO "cleared_line" "cleared_line" (at_ 47) m5 424)::
(nat_lit 429,dO "cleared" "cleared" 737 224 2 3 426 740)::
(nat_lit 430,fO "cleared" "cleared" (at_ 48) m5 429)::
(nat_lit 436,cO "quotients" "quotients" 743 241 4 3 431 753)::
(nat_lit 437,fO "quotients" "quotients" (at_ 49) m5 436)::
(nat_lit 448,cO "answer_of" "answer_of" 762 251 1 3 443 772)::
(nat_lit 449,fO "answer_of" "answer_of" (at_ 51) m5 448)::
(nat_lit 453,dO "places_of" "places_of" 777 264 2 3 450 780)::
(nat_lit 454,fO "places_of" "places_of" (at_ 53) m6 453)::
(nat_lit 460,cO "first_plan" "first_plan" 783 266 2 3 455 790)::
(nat_lit 461,fO "first_plan" "first_plan" (at_ 54) m6 460)::
(nat_lit 467,cO "ways_from" "ways_from" 793 271 3 3 462 800)::
(nat_lit 468,fO "ways_from" "ways_from" (at_ 55) m6 467)::
(nat_lit 472,dO "whole_row" "whole_row" 803 276 1 3 469 806)::
(nat_lit 473,fO "whole_row" "whole_row" (at_ 56) m6 472)::
(nat_lit 479,cO "led_row" "led_row" 809 279 5 3 474 819)::
(nat_lit 480,fO "led_row" "led_row" (at_ 57) m6 479)::
(nat_lit 486,cO "drawn_door" "drawn_door" 824 286 3 3 481 832)::
(nat_lit 487,fO "drawn_door" "drawn_door" (at_ 59) m7 486)::
(nat_lit 493,cO "drawn_plan" "drawn_plan" 835 291 2 3 488 842)::
(nat_lit 494,fO "drawn_plan" "drawn_plan" (at_ 60) m7 493)::
(nat_lit 500,cO "chance_row" "chance_row" 845 296 4 3 495 852)::
(nat_lit 501,fO "chance_row" "chance_row" (at_ 61) m7 500)::
(nat_lit 505,dO "chances_by" "chances_by" 855 302 4 3 502 858)::
(nat_lit 506,fO "chances_by" "chances_by" (at_ 62) m7 505)::
(nat_lit 510,dO "better_led" "better_led" 861 306 3 3 507 864)::
(nat_lit 511,fO "better_led" "better_led" (at_ 63) m7 510)::
(nat_lit 517,cO "kept_least" "kept_least" 867 314 3 3 512 876)::
(nat_lit 518,fO "kept_least" "kept_least" (at_ 64) m7 517)::
(nat_lit 524,cO "held_row" "held_row" 879 322 3 3 519 885)::
(nat_lit 525,fO "held_row" "held_row" (at_ 65) m7 524)::
(nat_lit 529,dO "steps_by" "steps_by" 888 326 3 3 526 891)::
(nat_lit 530,fO "steps_by" "steps_by" (at_ 66) m7 529)::
(nat_lit 536,cO "chances" "chances" 894 329 2 3 531 903)::
(nat_lit 537,fO "chances" "chances" (at_ 67) m7 536)::
(nat_lit 543,cO "_law_number" "_law_number" 908 339 2 3 538 915)::
(nat_lit 544,fO "_law_number" "_law_number" (at_ 69) m8 543)::
(nat_lit 548,dO "_law_rows" "_law_rows" 918 345 1 3 545 921)::
(nat_lit 549,fO "_law_rows" "_law_rows" (at_ 70) m8 548)::
(nat_lit 555,cO "_law_odd" "_law_odd" 924 359 2 3 550 929)::
(nat_lit 556,fO "_law_odd" "_law_odd" (at_ 71) m8 555)::
(nat_lit 560,dO "_law_list" "_law_list" 932 363 2 3 557 935)::
(nat_lit 561,fO "_law_list" "_law_list" (at_ 72) m8 560)::
(nat_lit 567,cO "_law_good" "_law_good" 938 377 3 3 562 944)::
(nat_lit 568,fO "_law_good" "_law_good" (at_ 73) m8 567)::
(nat_lit 574,cO "_law_first_bad" "_law_first_bad" 947 381 2 3 569 954)::
(nat_lit 575,fO "_law_first_bad" "_law_first_bad" (at_ 74) m8 574)::
(nat_lit 581,cO "_law_told" "_law_told" 957 388 3 3 576 966)::
(nat_lit 582,fO "_law_told" "_law_told" (at_ 75) m8 581)::
(nat_lit 588,cO "_law_refused" "_law_refused" 969 399 2 3 583 974)::
(nat_lit 589,fO "_law_refused" "_law_refused" (at_ 76) m8 588)::
(nat_lit 593,dO "_law_answered" "_law_answered" 977 409 3 3 590 980)::
(nat_lit 594,fO "_law_answered" "_law_answered" (at_ 77) m8 593)::
(nat_lit 600,cO "_law_asked" "_law_asked" 983 417 4 3 595 994)::
(nat_lit 601,fO "_law_asked" "_law_asked" (at_ 78) m8 600)::
(nat_lit 607,cO "law" "law" 997 426 1 3 602 1009)::
(nat_lit 608,fO "law" "law" (at_ 79) m8 607)::[]
noncomputable abbrev H:Hook:=kHook K [2,3,23,24,36,37,49,61,72,73,92,111,130,149,164,165,167,168,180,188,189,193,194,198,199,203,204,210,211,217,218,231,232,238,239,245,246,247,253,254,260,261,267,268,272,273,277,278,282,283,289,290,296,297,310,311,317,318,329,330,336,337,343,344,350,351,357,358,369,370,394,395,405,406,412,413,419,420,424,425,429,430,436,437,448,449,453,454,460,461,467,468,472,473,479,480,486,487,493,494,500,501,505,506,510,511,517,518,524,525,529,530,536,537,543,544,548,549,555,556,560,561,567,568,574,575,581,582,588,589,593,594,600,601,607,608] (λ_=>by kernel_rfl)
abbrev Xt:Shared->Bool:=λs=>xlAt q [] s&&recOk (RowW.records row.toRowW) s
theorem Z'{A B C:Type}{o:Option C}{f:C->A}{g:C->B}{a:A}{b:B}(h:o.map f=some a)(k:o.map g=some b):o.map (λs=>(f s,g s))=some (a,b):=by
  cases o with
  | none=>exact nomatch h
  | some c=>injection h with h;injection k with k;subst h;subst k;rfl
section
variable{A B C D E F G X:Type}{o:Option X}{f:X->A×B×C×D×E×F×G}{t:A×B×C×D×E×F×G}
def p1:A×B×C×D×E×F×G->A
  | (a,_,_,_,_,_,_)=>a
def p2:A×B×C×D×E×F×G->B×C
  | (_,b,c,_,_,_,_)=>(b,c)
def p3:A×B×C×D×E×F×G->D
  | (_,_,_,d,_,_,_)=>d
def p5:A×B×C×D×E×F×G->E
  | (_,_,_,_,e,_,_)=>e
def p6:A×B×C×D×E×F×G->F
  | (_,_,_,_,_,f,_)=>f
def p4:A×B×C×D×E×F×G->G
  | (_,_,_,_,_,_,g)=>g
theorem pr(h:o.map (λx=>p1 (f x))=some t.1)(g:o.map (λx=>p2 (f x))=some (t.2.1,t.2.2.1))(k:o.map (λx=>p3 (f x))=some t.2.2.2.1)(k1:o.map (λx=>p5 (f x))=some t.2.2.2.2.1)(k2:o.map (λx=>p6 (f x))=some t.2.2.2.2.2.1)(l:o.map (λx=>p4 (f x))=some t.2.2.2.2.2.2):o.map f=some t:=by
  cases o with
  | none=>exact nomatch h
  | some x=>
    replace h:p1 (f x)=t.1:=aav h;replace g:p2 (f x)=(t.2.1,t.2.2.1):=aav g;replace k:p3 (f x)=t.2.2.2.1:=aav k;replace k1:p5 (f x)=t.2.2.2.2.1:=aav k1;replace k2:p6 (f x)=t.2.2.2.2.2.1:=aav k2;replace l:p4 (f x)=t.2.2.2.2.2.2:=aav l;show some (f x)=some t;revert h g k k1 k2 l;generalize f x=u;obtain ⟨a,b,c,d,e,f',y⟩:=u;obtain ⟨a',b',c',d',e',f'',y'⟩:=t;intro h g k k1 k2 l;cases (h:a=a');cases (g:(b,c)=(b',c'));cases (k:d=d');cases (k1:e=e');cases (k2:f'=f'');cases (l:y=y');rfl
end
def WL{A B:Type}(o:Option A)(c:A->Bool)(T:A->Option B):Option (A×B):=o.bind λa=>match c a with
  | true=>(T a).map λb=>(a,b)
  | false=>none
def Wm {A B:Type} (o:Option A) (c:A->Bool) (T:A->Option B) (k:A->B->Bool):Option B:=o.bind λa=>match c a with
  | true=>(T a).bind λb=>match k a b with
    | true=>some b
    | false=>none
  | false=>none
theorem bnd {A B C:Type} {o:Option A} {c:A->Bool} {T:A->Option B} {k:A->B->Bool} {g:B->C} {v:C} (h:(WL o c T).map (λx=>k x.1 x.2)=some true) (l:(WL o c T).map (λx=>g x.2)=some v):(Wm o c T k).map g=some v:=by
  unfold WL at h l;unfold Wm;cases o with
  | none=>exact nomatch h
  | some a=>
    dsimp only [Option.bind] at h l⊢;cases hc:c a with
    | false=>rw [hc] at h;exact nomatch h
    | true=>
      rw [hc] at h l;dsimp only at h l⊢;cases hT:T a with
      | none=>rw [hT] at h;exact nomatch h
      | some b=>
        rw [hT] at h l;injection h with h;injection l with l
        dsimp only [Option.bind];rw [show k a b=true from h];exact aaZ some l
noncomputable abbrev oA(p:Program)(w:World)(N:Nat):Option Shared:=(Fast.tw10274390034422433532 Fast.tw14364793385576792824 (opening p) w N (Fast.tw1435165496053646825 (opening p)).1 (Fast.tw1435165496053646825 (opening p)).2).bind (fenceModules? p)
abbrev cA(s:Shared):Bool:=s.heap.isNs mainGlobals&&s.gens.size==0
noncomputable abbrev tA(p:Program)(w:World)(N:Nat)(s₀:Shared):Option Shared:=Fast.tw14082659384304107361 Fast.tw14364793385576792824 p w s₀.heap.objs.size (s₀.heap.nsMap mainGlobals "__annotations__") N s₀ (topStub p)
abbrev kA(p:Program)(s₀ s₁:Shared):Bool:=staticsOk (importedModules p.main.body) s₀.heap s₁.heap&&namesBound p s₁.heap&&gensDone s₁&&laidKept s₀.heap s₁.heap
theorem oe(p:Program)(w:World)(N:Nat):openEnds treeTable p w N=Wm (oA p w N) cA (tA p w N) (kA p):=by unfold openEnds fencedOpening topFrom Wm oA tA;rewrite [Fast.te14082659384304107361,Fast.te14364793385576792824,Fast.te10274390034422433532,Fast.te1435165496053646825];rfl
noncomputable abbrev go(w:World):=WL (oA row.prog w 9636) cA (tA row.prog w 9636)
abbrev gd:=openGood q []
noncomputable abbrev sn(x:Shared×Shared):=Fast.tw4187177175401517315 q [] (importedModules row.prog.main.body) Xt true x.2
noncomputable abbrev sg(x:Shared×Shared):=plainSeenE q (looseW q []) x.2
theorem p7:∀q L I X b s,p6 (openSeen q L I X b s)=plainSeenE q (looseW q L) s:=λ_ _ _ _ _ _=>rfl
noncomputable abbrev sa(x:Shared×Shared):=p1 (openSeen q [] (importedModules row.prog.main.body) Xt true x.2)
theorem p9{w:World}{g}(h:(go w).map sa=some g):(go w).map (λx=>p1 (sn x))=some g:=by
  have e:(λx=>p1 (sn x))=sa:=funext λx=>congrArg (λf=>p1 (f q [] (importedModules row.prog.main.body) Xt true x.2)) Fast.te4187177175401517315.symm
  rw [e];exact h
theorem p8{w:World}{g}(h:(go w).map sg=some g):(go w).map (λx=>p6 (sn x))=some g:=by
  have e:(λx=>p6 (sn x))=sg:=funext λx=>(congrArg (λf=>p6 (f q [] (importedModules row.prog.main.body) Xt true x.2)) Fast.te4187177175401517315.symm).trans (p7 q [] (importedModules row.prog.main.body) Xt true x.2)
  rw [e];exact h
theorem la(w:World):(go w).map sa=some gd.1:=by kernel_rfl
theorem lb(w:World):(go w).map (λx=>p2 (sn x))=some (gd.2.1,gd.2.2.1):=by kernel_rfl
theorem lc(w:World):(go w).map (λx=>p3 (sn x))=some gd.2.2.2.1:=by kernel_rfl
theorem le(w:World):(go w).map (λx=>p5 (sn x))=some gd.2.2.2.2.1:=by kernel_rfl
theorem lg(w:World):(go w).map sg=some gd.2.2.2.2.2.1:=by kernel_rfl
theorem ld(w:World):(go w).map (λx=>p4 (sn x))=some gd.2.2.2.2.2.2:=by kernel_rfl
theorem lk(w:World):(go w).map (λx=>kA row.prog x.1 x.2)=some true:=by kernel_rfl
theorem lo(w:World):(go w).map (λx=>H.obs x.2)=some (H.val w):=by kernel_rfl
theorem VH(w:World):(openEnds treeTable row.prog w 9636).map (openSeen q [] (importedModules row.prog.main.body) Xt true)=some gd:=by rewrite [oe,Fast.te4187177175401517315];exact bnd (lk w) (pr (p9 (la w)) (lb w) (lc w) (le w) (p8 (lg w)) (ld w))
theorem U2(w:World):(openEnds treeTable row.prog w 9636).map H.obs=some (H.val w):=by rewrite [oe];exact bnd (lk w) (lo w)
theorem left:LeftO row.prog q [] Xt H.obs H.val 9636:=λw=>Z' (VH w) (U2 w)
end Hd
local macro_rules|`(())=>`(by omega)
local macro_rules|`(@_)=>`(by decide)
open Lean in
def rpt:Nat → Term → MacroM (TSyntax `rcasesPat)
|0,_=>Macro.throwUnsupported
|n+1,t=>match t with
|`(⟨$a,*⟩)=>do
 let b←a.getElems.mapM (rpt n)
 let b←b.mapM λp=>`(Lean.Parser.Tactic.rcasesPatLo|$p:rcasesPat)
 `(rcasesPat|⟨$b,*⟩)
|`(_)=>`(rcasesPat|_)
|`($x:ident)=>`(rcasesPat|$x:ident)
|_=>Macro.throwUnsupported
open Lean in
local macro_rules|`(tactic|have ⟨$a,*⟩:=$e)=>do
 let p←rpt 99 (←`(⟨$a,*⟩))
 `(tactic|obtain $p:rcasesPat:=$e)
open Lean in
local macro_rules|`(λ$xs*=>$b)=>do
 let mut ys:=#[]
 let mut ts:=#[]
 if (←MonadRef.getRef)[0].isToken "fun" then Macro.throwUnsupported
 for x in xs do
  if x.1.isOfKind `Lean.Parser.Term.anonymousCtor then
   let p←rpt 99 ⟨x.1⟩
   let y←withFreshMacroScope `(h)
   ys:=ys.push y
   ts:=ts.push (←`(tactic|obtain $p:rcasesPat:=$y))
  else ys:=ys.push ⟨x.1⟩
 if ts.isEmpty then Macro.throwUnsupported
 `(λ$ys*=>by{$[$ts]*;exact $b})
set_option hygiene false in
local macro_rules|`($g &&& ($F,$a,$n))=>`(mc $g (($F).binds λ_ _ _ _ _ _=>$n) (mg_of X G $a) ($F).kp)
set_option hygiene false in
local macro_rules|`($g ||| ($F,$a,$i,$n))=>`(⟨$g,(($F).binds λ_ _ _ _ _ _=>$n),⟨lj,lh,kJ,kU⟩,⟨$a,$i,($F).kp⟩⟩)
set_option genSizeOf false
set_option bootstrap.genMatcherCode false
noncomputable def PySem.W.Fast.tw13457731810715372793:=PySem.Challenge.pw_chanceduel_k42_no_goals
theorem PySem.W.Fast.te13457731810715372793:PySem.Challenge.pw_chanceduel_k42_no_goals=PySem.W.Fast.tw13457731810715372793:=rfl
def D2:2<=PySem.sizeLine:=@_
abbrev tf:=PySem.W.Frag
namespace L2
open PySem PySem.Spec PyProof.Rows
variable{us:List Value}{a b dx C:Addr}{P prog:Program}{w:World}{h h' base:Heap}{δ:List (Addr×Obj)}{s:Shared}{g':Array GenState}{ch fp:List Addr}{i:Nat}{x:Str}{M:Model}{A:Around}{E Q:Value->Shared->Prop}{u:Value}{pos:Pos}{e c tg:Expr}{es:List Expr}{body:List Stmt}{f:Value->Value->Sem Value}{op:CmpOp}{mA mg:Str->Option Value}{kw:List (Str×Value)}{outer:List Env}{fd:FuncData}{ps:List Str}
abbrev Key:=Sum Int Str
def uY:Key->Value->Bool
 | .inl k,v=>Value.isInt k v
 | .inr x,v=>Value.isStrOf x v
def XS(w:World):Key->Int
 | .inl k=>hashInt k
 | .inr x=>hashStr w x
def bf:∀{k:Key} {v:Value},uY k v=true->(∃i t,k=Sum.inl i/\v=Value.int i t)\/(∃x t,k=Sum.inr x/\v=Value.str x t)
 | .inl i,v,h=>by have⟨t,e⟩:=Value.isInt_shape (k:=i) (v:=v) h;exact .inl ⟨i,t,rfl,e⟩
 | .inr x,v,h=>by have⟨t,e⟩:=Value.isStrOf_shape (x:=x) (v:=v) h;exact .inr ⟨x,t,rfl,e⟩
def Gh(i:Int)(t:Tok):uY (.inl i) (.int i t)=true:=by simp[uY,Value.isInt]
def Fx(x:Str)(t:Tok):uY (.inr x) (.str x t)=true:=by simp[uY,Value.isStrOf]
def PX(a b:Int):decide ((Sum.inl a:Key)=Sum.inl b)=(a==b):=by
 by_cases e:a=b
 ·subst e;simp
 ·have h:¬(Sum.inl a:Key)=Sum.inl b:=λq=>e (Sum.inl.inj q);rw[aat h];exact(beq_eq_false_iff_ne.mpr e).symm
def QQ(a b:Str):decide ((Sum.inr a:Key)=Sum.inr b)=decide (a=b):=by
 by_cases e:a=b
 ·subst e;simp
 ·have h:¬(Sum.inr a:Key)=Sum.inr b:=λq=>e (Sum.inr.inj q);rw[aat h,aat e]
def RM(a:Int)(b:Str):decide ((Sum.inl a:Key)=Sum.inr b)=false:=aat nofun
def QJ(a:Str)(b:Int):decide ((Sum.inr a:Key)=Sum.inl b)=false:=aat nofun
def bN(prog:Program)(w:World):PySem.KeyKind prog w Key where
 is:=uY
 hash:=XS w
 inj:=λv a b ha hb=>by
  rcases bf ha with ⟨i,t,rfl,rfl⟩| ⟨x,t,rfl,rfl⟩
  ·rcases bf hb with ⟨j,u,rfl,e⟩| ⟨y,u,rfl,e⟩
   ·injection e with e1 _;rw[e1]
   ·exact nomatch e
  ·rcases bf hb with ⟨j,u,rfl,e⟩| ⟨y,u,rfl,e⟩
   ·exact nomatch e
   ·injection e with e1 _;rw[e1]
 byValue:=λk v h=>by rcases bf h with ⟨i,t,rfl,rfl⟩| ⟨x,t,rfl,rfl⟩ <;> rfl
 pyHash:=λhv h=>by
  rcases bf hv with ⟨i,t,rfl,rfl⟩| ⟨x,t,rfl,rfl⟩
  ·exact wpAny_pyHash_int h
  ·exact wpAny_pyHash_str h
 eqBool:=λhu hv h=>by
  rcases bf hu with ⟨i,t,rfl,rfl⟩| ⟨x,t,rfl,rfl⟩
  ·rcases bf hv with ⟨j,u,rfl,rfl⟩| ⟨y,u,rfl,rfl⟩
   ·rw[PX]at h;exact wpAny_eqBool_int h
   ·rw[RM]at h;exact SeqAt.EqAt.int_str i t y u _ _ _ _ h
  ·rcases bf hv with ⟨j,u,rfl,rfl⟩| ⟨y,u,rfl,rfl⟩
   ·rw[QJ]at h;exact SeqAt.EqAt.str_int x t j u _ _ _ _ h
   ·rw[QQ]at h;exact wpAny_eqBool_str h
 «strs»:=λk x t v h=>by
  rcases bf h with ⟨i,u,rfl,e⟩| ⟨y,u,rfl,e⟩
  ·exact nomatch e
  ·injection e with e1 _
   subst e1;cases v <;> rfl
def Am(prog:Program)(w:World)(i:Int)(t:Tok):(bN prog w).is (.inl i) (.int i t)=true:=Gh i t
def AI(prog:Program)(w:World)(x:Str)(t:Tok):(bN prog w).is (.inr x) (.str x t)=true:=Fx x t
inductive V where
 | aE| bl (b:Bool)| int (i:Int)| str (x:Str)| Hw (b:Array UInt8)| Qz (b:UInt64)| ref (a:Addr)| ty (n:String)
 deriving DecidableEq
variable{v:V}
def ax:V->Value->Prop
 | .aE,u=>u=Value.none
 | .bl b,u=>u=Value.bool b
 | .int i,u=>∃t,u=Value.int i t
 | .str x,u=>∃t,u=Value.str x t
 | .Hw b,u=>∃t,u=Value.bytes b t
 | .Qz b,u=>∃t,u=Value.float b t
 | .ref a,u=>u=Value.ref a
 | .ty n,u=>u=Value.type n
abbrev aj:List V->List Value->Prop:=Paired ax
def aj.length{xs:List V}(r:aj xs us):xs.length=us.length:=Paired.length r
def aj.get:∀{xs:List V} {us:List Value} {i:Nat} {x:V},aj xs us->xs[i]? =some x->∃u,us[i]? =some u/\ax x u
 | _,_,_,_,.nil,e=>by simp at e
 | _,_,0,_,.cons r _,e=>by simp at e;subst e;exact⟨_,rfl,r⟩
 | _,_,i+1,x,.cons _ t,e=>by have⟨u,h1,h2⟩:=aj.get (i:=i) (x:=x) t (by simpa using e);exact⟨u,by simpa using h1,h2⟩
def aj.set{x:V}{u:Value}(r:ax x u):∀{xs:List V} {us:List Value} (i:Nat),aj xs us->aj (xs.set i x) (us.set i u)
 | _,_,_,.nil=>.nil
 | _,_,0,.cons _ t=>.cons r t
 | _,_,i+1,.cons q t=>.cons q (aj.set r i t)
def aj.append:∀{xs ys:List V} {us ws:List Value},aj xs us->aj ys ws->aj (xs++ys) (us++ws)
 | _,_,_,_,.nil,s=>s
 | _,_,_,_,.cons r t,s=>.cons r (aj.append t s)
def aj.take:∀{xs:List V} {us:List Value} (n:Nat),aj xs us->aj (xs.take n) (us.take n)
 | _,_,0,_=>.nil
 | _,_,_+1,.nil=>.nil
 | _,_,n+1,.cons r t=>.cons r (aj.take n t)
def aj.drop:∀{xs:List V} {us:List Value} (n:Nat),aj xs us->aj (xs.drop n) (us.drop n)
 | _,_,0,r=>r
 | _,_,_+1,.nil=>.nil
 | _,_,n+1,.cons _ t=>aj.drop n t
def gL:Option V->Option Value->Prop
 | some v,some u=>ax v u
 | none,none=>True
 | _,_=>False
def KV{κ:Type}:List (κ×V)->List (κ×Value)->Prop:=Paired λ(p:κ×V) (q:κ×Value)=>p.1=q.1/\ax p.2 q.2
def kV:Key->V
 | .inl i=>.int i
 | .inr x=>.str x
inductive HO where
 | lst (xs:List V)
 | tup (xs:List V)
 | dK (Κ:List (Key×V))| dT (Κ:List (List Key×V))
 | set (S:Int->Bool) (n:Nat)
 | ins (C dx:Addr) (fs:List (Str×V))
 | own (x:Addr)
 | xd (fs:List (Str×V))
 | met (f x:Addr)
 | V' (lo hi:Int)
 | wG (o:Obj) (u:HO)
 | LV (ps:Array Value)
 | ext (φ:Heap->Prop)
variable{o:HO}
abbrev Hp:=Addr->Option HO
def upd(H:Hp)(a:Addr)(o:HO):Hp:=λb=>if b=a then some o else H b
def Ι{H:Hp}:upd H a o a=some o:=by unfold upd;rw[if_pos rfl]
def ω{H:Hp}(h:b≠a):upd H a o b=H b:=by unfold upd;rw[if_neg h]
def UM{H:Hp}{u:HO}(h:H a=some o)(h':H b=some u)(d:o≠u):a≠b:=by intro e;subst e;rw[h]at h';exact d (aav h')
def aH{H:Hp}(h:H a=some o)(h':H b=none):a≠b:=by intro e;subst e;rw[h]at h';cases h'
section
variable(P:Program)(w:World)
def aM(H:Hp)(h:Heap)(a:Addr):HO->Prop
 | .lst xs=>xs.length<=sizeLine/\∃(its:List Value) (n:Nat),aj xs its/\h.get? a=some {cls:=.type "list",data:=.seq its.toArray n}
 | .tup xs=>xs.length<=sizeLine/\∃its:List Value,aj xs its/\IsTup h a its.toArray
 | .dK Κ=>Κ.length<=sizeLine/\(a==sysModules)=false/\∃vs,KV Κ vs/\h.DictOf (bN P w) a vs
 | .dT Κ=>Κ.length<=sizeLine/\(a==sysModules)=false/\∃xs:List (List Key×Addr×Value),
   Paired (λ(p:List Key×V) (q:List Key×Addr×Value)=>p.1=q.1/\H q.2.1=some (.tup (p.1.map kV))/\ax p.2 q.2.2) Κ xs/\
   ∃o es ep,h.get? a=some o/\o.ExactDict/\o.data= .dict es ep/\es.toList=xs.map (entryOfKey (tupleKind (bN P w)))/\(xs.map (·.1)).Nodup
 | .set S n=>h.SetOf (intKind P w) a S n
 | .ins C dx fs=>H dx=some (.own a)/\fs.length<=1000/\dx≠a/\h.get? a=some (PySem.W.instObj C dx)/\
   ∃mA,h.Ns1 dx mA/\(∀f,gL (fs.lookup f) (mA f))/\PySem.Within mA (fs.map (·.1))
 | .own _=>∃o,h.get? a=some o
 | .xd fs=>∃mA,h.Ns1 a mA/\∀f,gL (fs.lookup f) (mA f)
 | .V' lo hi=>∃t u v,h.get? a=some {cls:=.type "range",data:=.fields #[.int lo t,.int hi u,.int 1 v]}
 | .wG o u=>h.get? a=some o/\aM H h a u
 | .LV ps=>h.get? a=some {cls:=.none,data:=.fields ps}
 | .met f x=>h.get? a=some (PySem.W.methodObj (.ref f) (.ref x))
 | .ext φ=>φ h/\(∃o,h.get? a=some o)/\∀h1 h2:Heap,φ h1->(∀o,h1.get? a=some o->h2.get? a=some o)->φ h2
def jD(H:Hp)(h:Heap):Prop:=∀a o,H a=some o->aM P w H h a o
end
section
variable{H H':Hp}
def aM.lt(x:aM P w H h a o):a < h.objs.size:=by
 cases o with
 | lst xs=>have⟨_,_,_,_,e⟩:=x;exact aaq e
 | tup xs=>have⟨_,_,_,p⟩:=x;exact p.lt
 | dK Κ=>have⟨_,_,_,_,o,_,_,e,_⟩:=x;exact aaq e
 | dT Κ=>have⟨_,_,_,_,o,_,_,e,_⟩:=x;exact aaq e
 | set S n=>have⟨o,_,_,_,e,_⟩:=x;exact aaq e
 | ins C dx fs=>have⟨_,_,_,e,_⟩:=x;exact aaq e
 | own y=>have⟨_,e⟩:=x;exact aaq e
 | xd fs=>have⟨_,⟨_,_,_,e,_⟩,_⟩:=x;exact aaq e
 | V' lo hi=>have⟨_,_,_,e⟩:=x;exact aaq e
 | wG ob u=>have⟨e,_⟩:=x;exact aaq e
 | LV ps=>exact aaq (show h.get? a=some _ from x)
 | met f y=>exact aaq (show h.get? a=some _ from x)
 | ext φ=>have⟨_,⟨_,e⟩,_⟩:=x;exact aaq e
def Paired.Pe{α β:Type}{F G:α->β->Prop}:∀{l₁:List α} {l₂:List β},Paired F l₁ l₂->(∀a b,F a b->G a b)->Paired G l₁ l₂
 | _,_,.nil,_=>.nil
 | _,_,.cons r t,f=>.cons (f _ _ r) (Paired.Pe t f)
def aM.qf(x:aM P w H h a o)(k:∀b u,(b=a\/H b=some (.own a))->h.get? b=some u->h'.get? b=some u)
  (ho:∀b,H b=some (.own a)->H' b=some (.own a)) (ht:∀b xs,H b=some (.tup xs)->H' b=some (.tup xs)):aM P w H' h' a o:=by
 induction o with
 | lst xs=>have⟨z,its,n,r,e⟩:=x;exact⟨z,its,n,r,k _ _ (.inl rfl) e⟩
 | tup xs=>have⟨z,its,r,ob,e,c⟩:=x;exact⟨z,its,r,ob,k _ _ (.inl rfl) e,c⟩
 | dK Κ=>have⟨z,y,vs,r,ob,es,ep,e,c⟩:=x;exact⟨z,y,vs,r,ob,es,ep,k _ _ (.inl rfl) e,c⟩
 | dT Κ=>
  have⟨z,y,xs,r,ob,es,ep,e,c⟩:=x;exact⟨z,y,xs,Paired.Pe r λp q z=>⟨z.1,ht _ _ z.2.1,z.2.2⟩,ob,es,ep,k _ _ (.inl rfl) e,c⟩
 | set S n=>have⟨ob,es,ep,t,e,c⟩:=x;exact⟨ob,es,ep,t,k _ _ (.inl rfl) e,c⟩
 | ins C dx fs=>
  have⟨d,z,ne,e,mA,⟨od,es,ep,e2,c⟩,r⟩:=x;exact⟨ho _ d,z,ne,k _ _ (.inl rfl) e,mA,⟨od,es,ep,k _ _ (.inr d) e2,c⟩,r⟩
 | own y=>have⟨ob,e⟩:=x;exact⟨ob,k _ _ (.inl rfl) e⟩
 | xd fs=>have⟨mA,⟨od,es,ep,e,c⟩,r⟩:=x;exact⟨mA,⟨od,es,ep,k _ _ (.inl rfl) e,c⟩,r⟩
 | V' lo hi=>have⟨t,u,v,e⟩:=x;exact⟨t,u,v,k _ _ (.inl rfl) e⟩
 | wG ob u ih=>have⟨e,q⟩:=x;exact⟨k _ _ (.inl rfl) e,ih q⟩
 | LV ps=>
  have e:h.get? a=some {cls:=.none,data:=.fields ps}:=x;show h'.get? a=some {cls:=.none,data:=.fields ps};exact k a _ (.inl rfl) e
 | met f y=>
  have e:h.get? a=some (PySem.W.methodObj (.ref f) (.ref y)):=x;show h'.get? a=some (PySem.W.methodObj (.ref f) (.ref y));exact k a _ (.inl rfl) e
 | ext φ=>have⟨p,⟨o,e⟩,st⟩:=x;exact⟨st _ _ p λo q=>k _ _ (.inl rfl) q,⟨o,k _ _ (.inl rfl) e⟩,st⟩
def jD.lt(x:jD P w H h)(e:H a=some o):a < h.objs.size:=(x a o e).lt
def jD.fresh(x:jD P w H h)(e:h.objs.size<=a):H a=none:=by
 cases q:H a with
 | none=>rfl
 | some u=>exact aaK (aas (x.lt q) e) (abz _)
def jD.kept(x:jD P w H h)(k:∀b u,h.get? b=some u->h'.get? b=some u):jD P w H h':=λa o e=>
 (x a o e).qf (λb u _ q=>k b u q) (λ_ q=>q) λ_ _ q=>q
def jD.laid(x:jD P w H h)(k:∀b u,h.get? b=some u->h'.get? b=some u)(hp:h.objs.size<=a)(new:aM P w (upd H a o) h' a o):jD P w (upd H a o) h':=λb u e=>by
 have hn:=x.fresh hp;by_cases hb:b=a
 ·subst hb;rw[Ι]at e;cases e;exact new
 ·rw[ω hb]at e;exact(x b u e).qf (λc v _ q=>k c v q) (λc q=>by rw[ω (aH q hn)];exact q) λc xs q=>by rw[ω (aH q hn)];exact q
end
def Rd(H:Hp)(a:Addr)(u:HO):Prop:=H a=some u\/∃o,H a=some (.wG o u)
def Rd.ok{H:Hp}{u:HO}(r:Rd H a u)(x:jD P w H h):aM P w H h a u:=by
 rcases r with r| ⟨o,r⟩
 ·exact x a u r
 ·have⟨_,q⟩:=x a _ r;exact q
def Se:Option HO->Prop
 | some (.lst _)=>True
 | some (.dK _)=>True
 | some (.dT _)=>True
 | some (.set _ _)=>True
 | some (.ins _ _ _)=>True
 | some (.ext _)=>True
 | _=>False
section
variable{H:Hp}{x e:Addr}{o':HO}
def jD.write(ok:jD P w H h)(mu:Se (H x))(he:e=x\/H e=some (.own x))(k:∀b u,b≠e->h.get? b=some u->h'.get? b=some u)(OG:∃u,h'.get? e=some u)
  (new:aM P w (upd H x o') h' x o'):jD P w (upd H x o') h':=λb u q=>by
 have TM:∀c y,H c=some (.own y)->c≠x:=λc y r z=>by subst z;rw[r]at mu;exact mu
 have Xk:∀c xs,H c=some (.tup xs)->c≠x:=λc xs r z=>by subst z;rw[r]at mu;exact mu
 by_cases hb:b=x
 ·subst hb;rw[Ι]at q;cases q;exact new
 ·rw[ω hb]at q;by_cases JH:b=e
  ·have q':H b=some (.own x):=by
    rcases he with z| z
    ·exact aaK (JH.trans z) hb
    ·rw[JH];exact z
   rw[q]at q';cases q';have⟨v,hv⟩:=OG;exact⟨v,by rw[JH];exact hv⟩
  ·refine(ok b u q).qf (λc v hc r=>k c v ?_ r) (λc r=>by rw[ω (TM c b r)];exact r) λc xs r=>by rw[ω (Xk c xs r)];exact r
   rcases hc with rfl| hc
   ·exact JH
   ·rintro rfl;rcases he with z| z
    ·exact TM c b hc z
    ·rw[hc]at z;cases z;exact hb rfl
end
structure Un(fs ex:List Addr)(H H':Hp)(h h':Heap):Prop where
 keep:∀b o,h.get? b=some o->H b=none->b∉fs->b∉ex->h'.get? b=some o
 slot:∀b o,h.get? b=some o->H b=none->b∈fs->b∉ex->∃sl,h'.get? b=some {o with slots:=sl}
 free:∀b o,h.get? b=some o->H b=none->b∉ex->H' b=none
 there:∀b o,h.get? b=some o->b∉ex->∃o',h'.get? b=some o'
 lG:∀b xs,H b=some (.tup xs)->H' b=some (.tup xs)
 kf:∀b o u,H b=some (.wG o u)->H' b=some (.wG o u)
 lF:∀b ps,H b=some (.LV ps)->∃more,H' b=some (.LV (ps++more))
section
variable{fs HA ex ex':List Addr}{H H1 H2:Hp}{h1 h2:Heap}{x e:Addr}
def Un.any(u:Un fs ex H H1 h h1){ob:Obj}(q:h.get? b=some ob)(n:H b=none)(hx:b∉ex):∃sl,h1.get? b=some {ob with slots:=sl}:=by
 by_cases hb:b∈fs
 ·exact u.slot b ob q n hb hx
 ·exact⟨ob.slots,u.keep b ob q n hb hx⟩
def Un.kept(k:∀b u,h.get? b=some u->h'.get? b=some u):Un fs ex H H h h':=
 ⟨λb ob q _ _ _=>k b ob q,λb ob q _ _ _=>⟨ob.slots,k b ob q⟩,λ_ _ _ n _=>n,λb ob q _=>⟨ob,k b ob q⟩,λ_ _ q=>q,λ_ _ _ q=>q,λ_ ps q=>⟨#[],by rw[q];simp⟩⟩
def Un.refl:Un fs ex H H h h:=Un.kept λ_ _ q=>q
def Un.laid(k:∀b u,h.get? b=some u->h'.get? b=some u)(hp:h.objs.size<=a)(hn:H a=none):Un fs ex H (upd H a o) h h' where
 keep:=λb u q _ _ _=>k b u q
 slot:=λb u q _ _ _=>⟨u.slots,k b u q⟩
 free:=λb u q n _=>by rw[ω (aaM (aas (aaq q) hp))];exact n
 there:=λb u q _=>⟨u,k b u q⟩
 lG:=λb xs q=>by rw[ω (aH q hn)];exact q
 kf:=λb u xs q=>by rw[ω (aH q hn)];exact q
 lF:=λb ps q=>⟨#[],by rw[ω (aH q hn),q];simp⟩
def Un.write(mu:Se (H x))(he:e=x\/H e=some (.own x))(k:∀b u,b≠e->h.get? b=some u->h'.get? b=some u)(OG:∃u,h'.get? e=some u):Un fs ex H (upd H x o) h h':=by
 have hx:∀b,H b=none->b≠x:=λb n z=>by subst z;rw[n]at mu;exact mu
 have hb:∀b,H b=none->b≠e:=λb n z=>by
  subst z;rcases he with r| r
  ·exact hx b n r
  ·rw[n]at r;cases r
 have hm:∀b u,H b=some u->¬Se (some u)->b≠x:=λb u q nm z=>by subst z;rw[q]at mu;exact nm mu
 refine⟨λb u q n _ _=>k b u (hb b n) q,λb u q n _ _=>⟨u.slots,k b u (hb b n) q⟩,λb u q n _=>by rw[ω (hx b n)];exact n,λb u q _=>?_,
  λb xs q=>by rw[ω (hm b _ q λz=>z)];exact q,λb u xs q=>by rw[ω (hm b _ q λz=>z)];exact q,λb ps q=>⟨#[],by rw[ω (hm b _ q λz=>z),q];simp⟩⟩
 by_cases JH:b=e
 ·subst JH;exact OG
 ·exact⟨u,k b u JH q⟩
end
def WD(h:Heap)(H:Hp):List Addr:=(List.range h.objs.size).filter λa=>(H a).isSome
def vQ(h:Heap)(H:Hp):Heap:=PySem.W.hideAll h (WD h H)
def FJ(h:Heap)(H:Hp):(vQ h H).objs.size=h.objs.size:=PySem.W.hideAll_size _ _
def HU{H:Hp}{o:Obj}(e:h.get? b=some o)(n:H b=none):(vQ h H).get? b=some o:=
 PySem.W.hideAll_get _ e λhm=>by have q:(H b).isSome=true:=(List.mem_filter.mp hm).2;rw[n]at q;simp at q
def NI{H:Hp}{o:Obj}(e:(vQ h H).get? b=some o):h.get? b=some o/\H b=none:=by
 have e':h.get? b=some o:=PySem.W.of_hideAll (WD h H) e;refine⟨e',?_⟩;cases q:H b with
 | none=>rfl
 | some x=>
  have hm:b∈WD h H:=List.mem_filter.mpr ⟨List.mem_range.mpr (Heap.lt_size e'),by simp[q]⟩;have z:(vQ h H).get? b=none:=PySem.W.hideAll_none (WD h H) hm;rw[z]at e;cases e
structure Mod(K:tf)(mg:Str->Option Value)(base:Heap):Prop where
 Vy:K.In base
 glob:base.Ns mainGlobals mg
 blt:∃mb,base.Ns builtinsNs mb/\∀x:Str,x≠"__name__"->mb x=bootBuiltins x
 nolimit:base.NoLimit
structure Cx where
 prog:Program
 w:World
 K:tf
 mg:Str->Option Value
 base:Heap
 A:Around
 N:List Str
 s₀:Shared
 H₀:Hp
 env:Env
 outer:List Env
 stack:List Env
 ex:List Addr
 fn:Str->Bool
 calm:Bool
 pn:List (Addr×Obj)
 xe:Value->Shared->Prop
variable{X:Cx}
def lI(l:List Env):List Addr:=l.filterMap (·.frame)
abbrev Cx.fs(X:Cx):List Addr:=lI X.outer
def VC(sc:Scope)(x:Str):Prop:=sc.names.lookup x=some .local\/sc.names.lookup x=some .cell\/sc.names.lookup x=some .free
def Loc(sc:Scope)(x:Str):Prop:=sc.names.lookup x=some .local\/sc.names.lookup x=some .cell
def aaa(env:Env)(h:Heap)(m:Str->Option Value)(x:Str)(u:Value):Prop:=
 (env.kindOf x=some .local/\m x=some u)\/((env.kindOf x=some .cell\/env.kindOf x=some .free)/\∃c,env.cells.lookup x=some c/\h.IsCell c (some u))
structure Cx.Ok(X:Cx):Prop where
 mod:Mod X.K X.mg X.base
 kind:X.env.scope.kind= .function
 glob:X.env.globals=mainGlobals
 blt:X.env.builtins=builtinsNs
 above:X.s₀.heap.objs.size<=X.env.locals
 inj:∀x y c,X.env.cells.lookup x=some c->X.env.cells.lookup y=some c->x=y
 has:∀x,(X.env.kindOf x=some .cell\/X.env.kindOf x=some .free)->∃c,X.env.cells.lookup x=some c
 P8:∀x c,X.fn x=true->X.env.cells.lookup x=some c->X.s₀.heap.objs.size<=c
 hd:X.calm=true->X.A.handled=none
 frames:X.A.frames=some X.stack
 Sw:X.stack=X.outer\/(X.stack=X.env::X.outer/\X.env.frame=some X.env.locals)
 Si:∀b∈X.ex,b≠X.env.locals/\∀x c,X.env.cells.lookup x=some c->c≠b
 bs:∀b o,X.base.get? b=some o->X.s₀.heap.get? b=some o/\X.H₀ b=none
 LY:X.base.objs.size<=X.s₀.heap.objs.size
 Dy:∀b o,X.base.get? b=some o->b∉X.ex
 Bh:∀b∈X.ex,b∉X.fs
 nJ:X.s₀.heap.FunFrames X.base X.outer
 NM:∀b∈X.fs,X.H₀ b=none
structure Inv(X:Cx)(δ:List (Addr×Obj))(σ:List (Option V))(H:Hp)(s:Shared):Prop where
 ok:X.Ok
 os:s.os=X.s₀.os
 bare:AllBare s.gens
 base:Un X.fs X.ex X.H₀ H X.s₀.heap s.heap
 loc:∃m,s.heap.Ns X.env.locals m/\∀(i:Nat) (x:Str) (v:V),X.N[i]? =some x->σ[i]? =some (some v)->VC X.env.scope x->∃u,ax v u/\aaa X.env s.heap m x u
 cell:∀x c,X.env.cells.lookup x=some c->∃v,s.heap.IsCell c v
 free:H X.env.locals=none
 fe:∀x c,X.env.cells.lookup x=some c->H c=none
 pin:∀p∈X.pn++δ,s.heap.get? p.1=some p.2/\H p.1=none/\p.1≠X.env.locals/\p.1∉X.fs/\∀v,p.2.data≠ .cell v
 ay:jD X.prog X.w H s.heap
 len:σ.length=X.N.length
section
variable{σ:List (Option V)}{H H':Hp}
def Cx.Ok.Yj(ok:X.Ok){o:Obj}(e:X.base.get? b=some o):b∉X.fs:=λhb=>by have:=(ok.nJ.mem hb).1;rw[e]at this;cases this
def Inv.bs(I:Inv X δ σ H s):∀b o,X.base.get? b=some o->s.heap.get? b=some o/\H b=none:=λb o e=>
 ⟨I.base.keep b o (I.ok.bs b o e).1 (I.ok.bs b o e).2 (I.ok.Yj e) (I.ok.Dy b o e),I.base.free b o (I.ok.bs b o e).1 (I.ok.bs b o e).2 (I.ok.Dy b o e)⟩
def Inv.bk(I:Inv X δ σ H s):∀b o,X.base.get? b=some o->s.heap.get? b=some o:=λb o e=>(I.bs b o e).1
def Inv.mod(I:Inv X δ σ H s):Mod X.K X.mg X.base:=I.ok.mod
def Inv.iX(I:Inv X δ σ H s):X.K.In s.heap:=I.ok.mod.Vy.keeps I.bk
def Inv.lt(I:Inv X δ σ H s):X.env.locals < s.heap.objs.size:=let ⟨_,hn,_⟩:=I.loc;hn.lt
def Inv.sz(I:Inv X δ σ H s):X.s₀.heap.objs.size<=s.heap.objs.size:=aax I.ok.above (Nat.le_of_lt I.lt)
def Inv.XX(I:Inv X δ σ H s)(h:s.heap.objs.size<=a):a∉X.fs:=λhb=>by have⟨_,o,ho,_⟩:=I.ok.nJ.mem hb;exact aaK (aas (aaq ho) (aax I.sz h)) (abz _)
def Inv.KZ(I:Inv X δ σ H s):∀x c,X.env.cells.lookup x=some c->c≠X.env.locals:=λx c e z=>by have⟨v,o,ho,hd⟩:=I.cell x c e;have⟨m,⟨o',es,ep,ly,NJ,_⟩,_⟩:=I.loc;rw[z,ly]at ho;cases ho;rw[NJ]at hd;cases hd
def Inv.nJ(I:Inv X δ σ H s):s.heap.FunFrames X.base X.outer:=by
 have all:∀(l:List Env),(∀b∈lI l,b∈X.fs)->X.s₀.heap.FunFrames X.base l->s.heap.FunFrames X.base l:=by
  intro l
  induction l with
  | nil=>intro _ _;trivial
  | cons env r ih=>
   intro hs hl;have⟨hk,⟨L,o,hf,hn,ho,hd⟩,hr⟩:=hl;have hL:L∈X.fs:=hs L (by unfold lI;rw[List.filterMap_cons,hf];exact List.mem_cons_self);have⟨sl,e⟩:=I.base.slot L o ho (I.ok.NM L hL) hL λz=>I.ok.Bh L z hL;exact⟨hk,⟨L,_,hf,hn,e,hd⟩,ih (λb hb=>hs b (by unfold lI;rw[List.filterMap_cons,hf];exact List.mem_cons_of_mem _ hb)) hr⟩
 exact all X.outer (λ_ hb=>hb) I.ok.nJ
def Inv.stack(I:Inv X δ σ H s):s.heap.FunFrames X.base X.stack:=by
 rcases I.ok.Sw with e| ⟨e,hf⟩
 ·rw[e];exact I.nJ
 ·rw[e];have⟨m,hn,_⟩:=I.loc;refine .cons (by rw[I.ok.kind];decide) hf hn ?_ I.nJ;exact Heap.get?_none_of_le (aax I.ok.LY I.ok.above)
def Inv.ym(I:Inv X δ σ H s):∀b∈lI X.stack,b∈X.env.locals::X.fs:=λb hb=>by
 rcases I.ok.Sw with e| ⟨e,hf⟩
 ·rw[e]at hb;exact aae _ hb
 ·rw[e]at hb;unfold lI at hb;rw[List.filterMap_cons,hf]at hb;exact hb
def Inv.qE(I:Inv X δ σ H s):∀b∈lI X.stack,H b=none:=λb hb=>by
 rcases aaG.mp (I.ym b hb) with e| hb
 ·rw[e];exact I.free
 ·have⟨_,o,ho,_⟩:=I.ok.nJ.mem hb;exact I.base.free b o ho (I.ok.NM b hb) λz=>I.ok.Bh b z hb
def Inv.step{t':Nat}{d':Drawn}(I:Inv X δ σ H s)
  (Hx:∀b∈ch,(b∈X.ex\/X.s₀.heap.objs.size<=b)/\b≠X.env.locals/\(∀x c,X.env.cells.lookup x=some c->c≠b)/\∀p∈X.pn++δ,p.1≠b)
  (keep:∀b o,b≠X.env.locals->b∉X.fs->b∉ch->s.heap.get? b=some o->H b=none->h'.get? b=some o)
  (slot:∀b o,b≠X.env.locals->b∈X.fs->b∉ch->s.heap.get? b=some o->H b=none->∃sl,h'.get? b=some {o with slots:=sl}) (free:∀b o,b∉ch->s.heap.get? b=some o->H b=none->H' b=none)
  (there:∀b o,b∉ch->s.heap.get? b=some o->∃o',h'.get? b=some o')
  (lG:∀b xs,H b=some (.tup xs)->H' b=some (.tup xs)) (kf:∀b o u,H b=some (.wG o u)->H' b=some (.wG o u)) (lF:∀b ps,H b=some (.LV ps)->∃more,H' b=some (.LV (ps++more)))
  (ns:∀m,s.heap.Ns X.env.locals m->h'.Ns X.env.locals m) (ay:jD X.prog X.w H' h') (hg:AllBare g'):
  Inv X δ σ H' {s with heap:=h',gens:=g',drawn:=d',toks:=t'}:=by
 have neL:∀b o,X.s₀.heap.get? b=some o->b≠X.env.locals:=λb o e=>aaM (aas (aaq e) I.ok.above);have Wv:∀b o,X.s₀.heap.get? b=some o->b∉X.ex->b∉ch:=λb o e hx hb=>by
  rcases(Hx b hb).1 with z| z
  ·exact hx z
  ·exact aaK (aas (aaq e) z) (abz _)
 have cellK:∀x c,X.env.cells.lookup x=some c->∀v,s.heap.IsCell c v->h'.IsCell c v:=λx c e v ⟨o,ho,hd⟩=>by
  have U1:c∉ch:=λz=>(Hx c z).2.2.1 x c e rfl;by_cases hc:c∈X.fs
  ·have⟨sl,q⟩:=slot c o (I.KZ x c e) hc U1 ho (I.fe x c e);exact⟨_,q,hd⟩
  ·exact⟨o,keep c o (I.KZ x c e) hc U1 ho (I.fe x c e),hd⟩
 refine⟨I.ok,I.os,hg,⟨λb o e n hb hx=>?_,λb o e n hb hx=>?_,λb o e n hx=>?_,λb o e hx=>?_,λb xs e=>lG b xs (I.base.lG b xs e),λb o xs e=>kf b o xs (I.base.kf b o xs e),λb ps e=>?_⟩,?_,λx c e=>?_,?_,λx c e=>?_,λp hp=>?_,ay,I.len⟩
 ·exact keep b o (neL b o e) hb (Wv b o e hx) (I.base.keep b o e n hb hx) (I.base.free b o e n hx)
 ·have⟨sl,e1⟩:=I.base.slot b o e n hb hx;have⟨sl',e2⟩:=slot b _ (neL b o e) hb (Wv b o e hx) e1 (I.base.free b o e n hx);exact⟨sl',e2⟩
 ·have⟨o',e1⟩:=I.base.there b o e hx;exact free b o' (Wv b o e hx) e1 (I.base.free b o e n hx)
 ·have⟨o',e1⟩:=I.base.there b o e hx;exact there b o' (Wv b o e hx) e1
 ·have⟨m1,e1⟩:=I.base.lF b ps e;have⟨m2,e2⟩:=lF b _ e1;exact⟨m1++m2,by rw[e2,Array.append_assoc]⟩
 ·have⟨m,hn,hl⟩:=I.loc;refine⟨m,ns m hn,λi x v e1 e2 e3=>?_⟩;have⟨u,r,l⟩:=hl i x v e1 e2 e3;refine⟨u,r,?_⟩;rcases l with l| ⟨k,c,e,z⟩
  ·exact .inl l
  ·exact .inr ⟨k,c,e,cellK x c e _ z⟩
 ·have⟨v,z⟩:=I.cell x c e;exact⟨v,cellK x c e v z⟩
 ·have⟨m,⟨o,_,_,ho,_⟩,_⟩:=I.loc;exact free _ o (λz=>(Hx _ z).2.1 rfl) ho I.free
 ·have⟨v,o,ho,hd⟩:=I.cell x c e;exact free c o (λz=>(Hx c z).2.2.1 x c e rfl) ho (I.fe x c e)
 ·have⟨e,n,ne,nf,d⟩:=I.pin p hp;have U1:p.1∉ch:=λz=>(Hx p.1 z).2.2.2 p hp rfl;exact⟨keep p.1 p.2 ne nf U1 e n,free p.1 p.2 U1 e n,ne,nf,d⟩
def Inv.un{t':Nat}(I:Inv X δ σ H s)(u:Un X.fs [] H H' s.heap h')(ay:jD X.prog X.w H' h'):Inv X δ σ H' {s with heap:=h',toks:=t'}:=by
 have⟨m,⟨o,es,ep,ho,r⟩,_⟩:=id I.loc;have⟨sl,hL⟩:=u.any ho I.free (by simp)
 exact I.step (g':=s.gens) (d':=s.drawn) (ch:=[]) (λ_ z=>nomatch z) (λb o _ hb _ e n=>u.keep b o e n hb (by simp)) (λb o _ hb _ e n=>u.slot b o e n hb (by simp)) (λb o _ e n=>u.free b o e n (by simp)) (λb o _ e=>u.there b o e (by simp)) u.lG u.kf u.lF (λm' hm=>by
  have⟨o',WA,YN,ly,r'⟩:=hm;rw[ho]at ly;cases ly
  exact⟨_,WA,YN,hL,r'⟩) ay I.bare
def Inv.call{t':Nat}{d':Drawn}(I:Inv X δ σ H s)(u:Un (lI X.stack) ch H H' s.heap h')(ay:jD X.prog X.w H' h')(hg:AllBare g')
  (Hx:∀b∈ch,(b∈X.ex\/X.s₀.heap.objs.size<=b)/\b≠X.env.locals/\(∀x c,X.env.cells.lookup x=some c->c≠b)/\∀p∈X.pn++δ,p.1≠b):
  Inv X δ σ H' {s with heap:=h',gens:=g',drawn:=d',toks:=t'}:=by
 have⟨m,⟨o,es,ep,ho,r⟩,_⟩:=id I.loc;have⟨sl,hL⟩:=u.any ho I.free λz=>(Hx _ z).2.1 rfl
 exact I.step (ch:=ch) Hx (λb o hL hb hc e n=>u.keep b o e n (λz=>(aaG.mp (I.ym b z)).elim hL hb) hc) (λb o _ _ hc e n=>u.any e n hc) (λb o hc e n=>u.free b o e n hc) (λb o hc e=>u.there b o e hc) u.lG u.kf u.lF (λm' hm=>by
  have⟨o',WA,YN,ly,r'⟩:=hm;rw[ho]at ly;cases ly
  exact⟨_,WA,YN,hL,r'⟩) ay hg
def Inv.turned{t':Nat}{it:Addr}(I:Inv X δ σ H s)(k:∀b o,b≠it->s.heap.get? b=some o->h'.get? b=some o)(hn:H it=none)(hL:it≠X.env.locals)
  (h1:it∈X.ex\/X.s₀.heap.objs.size<=it) (h2:∀x c,X.env.cells.lookup x=some c->c≠it) (h3:∀p∈X.pn++δ,p.1≠it):Inv X δ σ H {s with heap:=h',toks:=t'}:=by
 have nit:∀b u,H b=some u->b≠it:=λb u e z=>by rw[z,hn]at e;cases e
 refine I.step (g':=s.gens) (d':=s.drawn) (ch:=[it]) (λb hb=>?_) (λb o _ _ hc e _=>k b o (λz=>hc (by simp[z])) e) (λb o _ _ hc e _=>⟨o.slots,k b o (λz=>hc (by simp[z])) e⟩) (λ_ _ _ _ n=>n)
  (λb o hc e=>⟨o,k b o (λz=>hc (by simp[z])) e⟩) (λ_ _ e=>e) (λ_ _ _ e=>e) (λb ps e=>⟨#[],by rw[e];simp⟩) (λm hm=>?_) (λb u e=>?_) I.bare
 ·have e:b=it:=by simpa using hb
  subst e;exact⟨h1,hL,h2,h3⟩
 ·have⟨o,es,ep,ho,r⟩:=hm;exact⟨o,es,ep,k _ o (Ne.symm hL) ho,r⟩
 ·refine(I.ay b u e).qf (λc v hc q=>k c v ?_ q) (λ_ q=>q) λ_ _ q=>q;rcases hc with z| z
  ·rw[z];exact nit b u e
  ·exact nit c _ z
def Inv.tok(I:Inv X δ σ H s)(t:Nat):Inv X δ σ H {s with toks:=t}:=I.un (h':=s.heap) (t':=t) Un.refl I.ay
def Inv.kept{t':Nat}(I:Inv X δ σ H s)(k:∀b u,s.heap.get? b=some u->h'.get? b=some u):Inv X δ σ H {s with heap:=h',toks:=t'}:=I.un (Un.kept k) (I.ay.kept k)
def Inv.laid{t':Nat}(I:Inv X δ σ H s)(k:∀b u,s.heap.get? b=some u->h'.get? b=some u)(hp:s.heap.objs.size<=a)(new:aM X.prog X.w (upd H a o) h' a o):
  Inv X δ σ (upd H a o) {s with heap:=h',toks:=t'}:=I.un (Un.laid k hp (I.ay.fresh hp)) (I.ay.laid k hp new)
def Inv.write{x e:Addr}{t':Nat}(I:Inv X δ σ H s)(mu:Se (H x))(he:e=x\/H e=some (.own x))(k:∀b u,b≠e->s.heap.get? b=some u->h'.get? b=some u)(OG:∃u,h'.get? e=some u)
  (new:aM X.prog X.w (upd H x o) h' x o):Inv X δ σ (upd H x o) {s with heap:=h',toks:=t'}:=I.un (Un.write mu he k OG) (I.ay.write mu he k OG new)
def Inv.ET{sv:List (Addr×Obj)}(I:Inv X δ σ H s)(h:∀p∈sv,s.heap.get? p.1=some p.2/\H p.1=none/\p.1≠X.env.locals/\p.1∉X.fs/\∀v,p.2.data≠ .cell v):Inv X sv σ H s:=
 ⟨I.ok,I.os,I.bare,I.base,I.loc,I.cell,I.free,I.fe,λp hp=>(aa8.mp hp).elim (λz=>I.pin p (abu _ z)) (h p),I.ay,I.len⟩
def sX{N:List Str}(hN:N.Nodup){j:Nat}(a:N[i]? =some x)(b:N[j]? =some x):i=j:=by have⟨h1,e1⟩:=aai.mp a;have⟨h2,e2⟩:=aai.mp b;exact(List.getElem_inj hN).mp (e1.trans e2.symm)
def vj{Q:Unit->Shared->Prop}(I:Inv X δ σ H s)(hN:X.N.Nodup)(hi:X.N[i]? =some x)(hx:Loc X.env.scope x)(r:ax v u)
  (h:∀s',Inv X δ (σ.set i (some v)) H s'->(∃a,Heap.SameBut a s.heap s'.heap/\(a=X.env.locals\/X.env.cells.lookup x=some a))->Q Unit.unit s') (hf:X.fn x=true\/X.env.scope.names.lookup x=some .local:=by first| exact .inl rfl| exact .inr rfl| assumption):wpAny M A (storeName X.env x u) Q E s:=by
 have⟨m,hn,hl⟩:=id I.loc;have JX:(X.env.scope.kind== .class|| (X.env.scope.kind== .module&&X.env.locals != X.env.globals))=false:=by rw[I.ok.kind];rfl
 have V3:i < σ.length:=by rw[I.len];exact(aai.mp hi).1
 have KZ:=I.KZ;have tracked:∀{a:Addr} {h':Heap},(∃o,s.heap.get? a=some o/\H a=none)->Heap.SameBut a s.heap h'->jD X.prog X.w H h':=λ{a h'} ha hs b ob e=>by
  have⟨_,_,Oo⟩:=ha;refine(I.ay b ob e).qf (λc w' hc q=>(hs.2 c ?_).trans q) (λ_ q=>q) λ_ _ q=>q;rintro rfl;rcases hc with rfl| hc
  ·rw[Oo]at e;cases e
  ·rw[Oo]at hc;cases hc
 rcases hx with hk| hk
 ·refine wpAny_storeName_local hk hn (λh' Fp hs=>?_) JX;have⟨oL,_,_,hoL,_⟩:=id hn;refine h _ ⟨I.ok,I.os,I.bare,⟨λb o e n hb hx=>?_,λb o e n hb hx=>?_,I.base.free,λb o e hx=>?_,I.base.lG,I.base.kf,I.base.lF⟩,⟨_,Fp,λj y v' e1 e2 e3=>?_⟩,λy c e=>?_,I.free,I.fe,λp hp=>?_,tracked ⟨oL,hoL,I.free⟩ hs,by simpa using I.len⟩ ⟨_,hs,.inl rfl⟩
  ·exact(hs.2 b (aaM (aas (aaq e) I.ok.above))).trans (I.base.keep b o e n hb hx)
  ·have⟨sl,e1⟩:=I.base.slot b o e n hb hx;exact⟨sl,(hs.2 b (aaM (aas (aaq e) I.ok.above))).trans e1⟩
  ·have⟨o',e1⟩:=I.base.there b o e hx;exact⟨o',(hs.2 b (aaM (aas (aaq e) I.ok.above))).trans e1⟩
  ·by_cases hj:j=i
   ·subst hj;rw[hi]at e1;cases e1;rw[aaU V3]at e2;cases e2;exact⟨u,r,.inl ⟨hk,by simp⟩⟩
   ·rw[aa2 (Ne.symm hj)]at e2;have⟨u',r',q⟩:=hl j y v' e1 e2 e3;refine⟨u',r',?_⟩;rcases q with ⟨k,e⟩| ⟨k,c,e,z⟩
    ·refine .inl ⟨k,?_⟩;have:y≠x:=λe=>hj (sX hN e1 (e▸hi));simp[this,e]
    ·exact .inr ⟨k,c,e,z.sameBut hs (KZ y c e)⟩
  ·have⟨w',z⟩:=I.cell y c e;exact⟨w',z.sameBut hs (KZ y c e)⟩
  ·have⟨e,n,ne,nf,d⟩:=I.pin p hp;exact⟨(hs.2 p.1 ne).trans e,n,ne,nf,d⟩
 ·have T7:X.fn x=true:=by
   rcases hf with z| z
   ·exact z
   ·rw[z]at hk;cases hk
  have⟨c,hc⟩:=I.ok.has x (.inl hk);have⟨w',z⟩:=I.cell x c hc;refine wpAny_storeName_cell I.ok.kind hk hc z (λh' Bj hs=>?_);have⟨oc,hoc,XN⟩:=id z;refine h {s with heap:=h'} ⟨I.ok,I.os,I.bare,⟨λb o e n hb hx=>?_,λb o e n hb hx=>?_,I.base.free,λb o e hx=>?_,I.base.lG,I.base.kf,I.base.lF⟩,⟨m,hn.sameBut hs (Ne.symm (KZ x c hc)),λj y v' e1 e2 e3=>?_⟩,λy c' e=>?_,I.free,I.fe,λp hp=>?_,tracked ⟨oc,hoc,I.fe x c hc⟩ hs,by simpa using I.len⟩ ⟨c,hs,.inr hc⟩
  ·exact(hs.2 b (aaM (aas (aaq e) (I.ok.P8 x c T7 hc)))).trans (I.base.keep b o e n hb hx)
  ·have⟨sl,e1⟩:=I.base.slot b o e n hb hx;exact⟨sl,(hs.2 b (aaM (aas (aaq e) (I.ok.P8 x c T7 hc)))).trans e1⟩
  ·have⟨o',e1⟩:=I.base.there b o e hx;exact⟨o',(hs.2 b (aaM (aas (aaq e) (I.ok.P8 x c T7 hc)))).trans e1⟩
  ·by_cases hj:j=i
   ·subst hj;rw[hi]at e1;cases e1;rw[aaU V3]at e2;cases e2;exact⟨u,r,.inr ⟨.inl hk,c,hc,Bj⟩⟩
   ·rw[aa2 (Ne.symm hj)]at e2;have⟨u',r',q⟩:=hl j y v' e1 e2 e3;refine⟨u',r',?_⟩;rcases q with q| ⟨k,c',e,z'⟩
    ·exact .inl q
    ·refine .inr ⟨k,c',e,z'.sameBut hs ?_⟩;rintro rfl;exact hj (sX hN e1 (I.ok.inj _ _ _ e hc▸hi))
  ·by_cases R1:c'=c
   ·subst R1;exact⟨_,Bj⟩
   ·have⟨w2,z2⟩:=I.cell y c' e;exact⟨w2,z2.sameBut hs R1⟩
  ·have⟨e,n,ne,nf,d⟩:=I.pin p hp;refine⟨(hs.2 p.1 ?_).trans e,n,ne,nf,d⟩;intro q;rw[q,hoc]at e;have q':oc=p.2:=aav e;exact d w' (by rw[<-q'];exact XN)
def nW{Q:Unit->Shared->Prop}(I:Inv X δ σ H s)(hN:X.N.Nodup)(hi:X.N[i]? =some x)(hx:Loc X.env.scope x)(r:ax v u)
  (h:∀s',Inv X δ (σ.set i (some v)) H s'->Q Unit.unit s') (hf:X.fn x=true\/X.env.scope.names.lookup x=some .local:=by first| exact .inl rfl| exact .inr rfl| assumption):wpAny M A (storeName X.env x u) Q E s:=
 vj I hN hi hx r (λs' I' _=>h s' I') hf
def Inv.Ou{s':Shared}(I:Inv X δ σ H s)(ho:s'.os=s.os)(u:Un (lI X.stack) ch H H' s.heap s'.heap)(ay:jD X.prog X.w H' s'.heap)(hg:AllBare s'.gens)
  (Hx:∀b∈ch,(b∈X.ex\/X.s₀.heap.objs.size<=b)/\b≠X.env.locals/\(∀x c,X.env.cells.lookup x=some c->c≠b)/\∀p∈X.pn++δ,p.1≠b):Inv X δ σ H' s':=by
 have⟨h',g',d',t',o'⟩:=s';have e:o'=s.os:=ho;subst e;exact I.call (g':=g') (t':=t') (d':=d') u ay hg Hx
end
abbrev XK:=Value->Option Addr->Hp->Prop
abbrev St:=List (Option V)
variable{σ:St}
abbrev VK:=V->Hp->Prop
abbrev TE:=St->Hp->VK->Prop
variable{ta te:TE}
abbrev TT:=St->Hp->(Bool->Hp->Prop)->Prop
abbrev TA:=St->Hp->(List V->Hp->Prop)->Prop
variable{t:TA}
structure pO where
 nx:St->Hp->Prop
 rt:VK
 bk:St->Hp->Prop:=λ_ _=>False
 ct:St->Hp->Prop:=λ_ _=>False
abbrev TS:=pO->St->Hp->Prop
def EP(X:Cx)(δ:List (Addr×Obj))(σ:St)(Q:VK)(u:Value)(s':Shared):Prop:=∃v H',Inv X δ σ H' s'/\ax v u/\Q v H'
def TP(X:Cx)(δ:List (Addr×Obj))(σ:St)(Q:Bool->Hp->Prop)(b:Bool)(s':Shared):Prop:=∃H',Inv X δ σ H' s'/\Q b H'
def AP(X:Cx)(δ:List (Addr×Obj))(σ:St)(Q:List V->Hp->Prop)(us:List Value)(s':Shared):Prop:=∃vs H',Inv X δ σ H' s'/\aj vs us/\Q vs H'
def SP(X:Cx)(δ:List (Addr×Obj))(D:pO)(f:Flow)(s':Shared):Prop:=
 match f with
 | .next=>∃σ' H',Inv X δ σ' H' s'/\D.nx σ' H'
 | .brk=>∃σ' H',Inv X δ σ' H' s'/\D.bk σ' H'
 | .cont=>∃σ' H',Inv X δ σ' H' s'/\D.ct σ' H'
 | .ret u=>∃v σ' H',Inv X δ σ' H' s'/\ax v u/\D.rt v H'
def PE(X:Cx)(e:Expr)(t:TE):Prop:=
 ∀(δ:List (Addr×Obj)) (s:Shared) (σ:St) (H:Hp) (Q:VK),Inv X δ σ H s->t σ H Q->wpAny (model X.prog X.w) X.A (eval e X.env) (EP X δ σ Q) X.xe s
def PT(X:Cx)(e:Expr)(t:TT):Prop:=
 ∀(δ:List (Addr×Obj)) (s:Shared) (σ:St) (H:Hp) (Q:Bool->Hp->Prop),Inv X δ σ H s->t σ H Q->wpAny (model X.prog X.w) X.A (isTrue e X.env (eval e X.env)) (TP X δ σ Q) X.xe s
def PW(X:Cx)(e:Expr)(t:TT):Prop:=
 ∀(whole:Sem Value) (δ:List (Addr×Obj)) (s:Shared) (σ:St) (H:Hp) (Q:Bool->Hp->Prop),Inv X δ σ H s->t σ H Q->wpAny (model X.prog X.w) X.A (isTrue e X.env whole) (TP X δ σ Q) X.xe s
def PA(X:Cx)(es:List Expr)(t:TA):Prop:=
 ∀(pos:Pos) (δ:List (Addr×Obj)) (s:Shared) (σ:St) (H:Hp) (Q:List V->Hp->Prop),Inv X δ σ H s->t σ H Q->wpAny (model X.prog X.w) X.A (spliced (backTo pos (starEach es X.env))) (AP X δ σ Q) X.xe s
def PS(X:Cx)(st:Stmt)(t:TS):Prop:=
 ∀(δ:List (Addr×Obj)) (s:Shared) (σ:St) (H:Hp) (D:pO),Inv X δ σ H s->t D σ H->wpAny (model X.prog X.w) X.A (exec st X.env) (SP X δ D) X.xe s
def yC(X:Cx)(st:List Stmt)(t:TS):Prop:=
 ∀(δ:List (Addr×Obj)) (s:Shared) (σ:St) (H:Hp) (D:pO),Inv X δ σ H s->t D σ H->wpAny (model X.prog X.w) X.A (execs st X.env) (SP X δ D) X.xe s
def bc{α:Type}{t:Sem α}{Q Q':α->Shared->Prop}(h:wpAny M A t Q E s)(hQ:∀a s,Q a s->Q' a s):wpAny M A t Q' E s:=abd h hQ λ_ _ x=>x
section
def W_(i:Nat):TE:=λσ H Q=>∃v,σ[i]? =some (some v)/\Q v H
def tC(v:V):TE:=λ_ H Q=>Q v H
def Dh(hN:X.N[i]? =some x)(hv:VC X.env.scope x)(hd:(x==("__debug__":Str))=false:=by decide)(B1:(x==("__classdict__":Str))=false:=by decide):PE X (.Name x pos) (W_ i):=by
 intro δ s σ H Q I h;have⟨v,e,h⟩:=h;have⟨m,hn,hl⟩:=I.loc;have⟨u,r,l⟩:=hl i x v hN e hv;have fin:EP X δ σ Q u s:=⟨v,H,I,r,h⟩;rcases l with ⟨hk,hm⟩| ⟨hk,c,hc,Oz⟩
 ·exact wpAny_Name (wpAny_loadName_local I.ok.kind hk hn hm fin) hd
 ·rcases hk with hk| hk
  ·exact wpAny_Name (wpAny_loadName_cell I.ok.kind hk hc Oz fin) hd
  ·exact wpAny_Name (wpAny_loadName_free I.ok.kind hk hc Oz fin B1) hd
def PM{i j pos}:PE X (.Constant (.int i) j pos) (tC (.int i)):=λ_ _ _ H _ I h=>wpAny_Constant_int ⟨.int i,H,I.tok _,⟨_,rfl⟩,h⟩
def TJ{b j pos}:PE X (.Constant (.bool b) j pos) (tC (.bl b)):=λ_ _ _ H _ I h=>Constant_bool ⟨.bl b,H,I,rfl,h⟩
def Qo{j pos}:PE X (.Constant .none j pos) (tC .aE):=λ_ _ _ H _ I h=>Constant_none ⟨.aE,H,I,rfl,h⟩
def PH{x j pos}:PE X (.Constant (.str x) j pos) (tC (.str x)):=λ_ _ _ H _ I h=>Calls.Constant_str ⟨.str x,H,I.tok _,⟨_,rfl⟩,h⟩
def Gl(X:Cx)(x:Str):Prop:=X.env.kindOf x=some .globalImplicit
def kQ{H:Hp}(I:Inv X δ σ H s)(hg:Gl X x)(hm:X.mg x=some u)(h:Q u s)
  (hd:(x==("__debug__":Str))=false:=by decide):wpAny (model X.prog X.w) X.A (eval (.Name x pos) X.env) Q E s:=
 Calls.Name_function_global I.ok.kind hg (Calls.loadGlobal_global (by rw[I.ok.glob];exact I.mod.glob.keeps I.bk) hm h) hd
def kG{H:Hp}(I:Inv X δ σ H s)(hg:Gl X x)(hm:X.mg x=none)(hv:bootBuiltins x=some u)(h:Q u s)
  (hn:x≠"__name__":=by decide) (hd:(x==("__debug__":Str))=false:=by decide):wpAny (model X.prog X.w) X.A (eval (.Name x pos) X.env) Q E s:=by
 have⟨mb,h1,h2⟩:=I.mod.blt;exact Calls.Name_function_global I.ok.kind hg (Calls.loadGlobal_builtin (by rw[I.ok.glob];exact I.mod.glob.keeps I.bk) hm (by rw[I.ok.blt];exact h1.keeps I.bk) ((h2 x hn).trans hv) h) hd
def yq(hg:Gl X x)(hm:X.mg x=some u)(r:ax v u)(hd:(x==("__debug__":Str))=false:=by decide):PE X (.Name x pos) (tC v):=
 λ_ _ _ H _ I h=>kQ I hg hm ⟨v,H,I,r,h⟩ hd
def M_(hg:Gl X x)(hm:X.mg x=none)(hv:bootBuiltins x=some u)(r:ax v u)(hn:x≠"__name__":=by decide)(hd:(x==("__debug__":Str))=false:=by decide):PE X (.Name x pos) (tC v):=
 λ_ _ _ H _ I h=>kG I hg hm hv ⟨v,H,I,r,h⟩ hn hd
variable{a b:Expr}{tb:TE}
def tB(t:TE):TT:=λσ H Q=>t σ H λx H1=>∃c,x= .bl c/\Q c H1
def Rp{t:TE}(h:PE X e t)(he:∀whole,isTrue e X.env whole=(do let v<-whole;standAt e.pos;holding [v] (truthy v)):=by intro _;rfl):PT X e (tB t):=by intro δ s σ H Q I hw;refine isTrue_plain (bc (h δ s σ H _ I hw) λv s1 xz=>?_) (he _);have⟨x,H1,I1,r1,q1⟩:=xz;have⟨d,rfl,q⟩:=q1;cases r1;exact wpAny_truthy_bool ⟨H1,I1,q⟩
variable{tA S6:TT}{rest:List Expr}
def YD(t u:TT):TT:=λσ H Q=>t σ H λc H1=>if c=true then u σ H1 Q else Q false H1
def tOr(t u:TT):TT:=λσ H Q=>t σ H λc H1=>if c=true then Q true H1 else u σ H1 Q
def Zz(t:TT):TT:=λσ H Q=>t σ H λc H1=>Q (!c) H1
def pw_and1(ha:PT X a tA):PW X (.BoolOp .And [a] pos) tA:=by
 intro wh δ s σ H Q I h;refine isTrue_and (bc (ha δ s σ H Q I h) λc s1 e=>?_);cases c with
 | true=>exact isTrue_and_nil e
 | false=>exact e
def pw_or1(ha:PT X a tA):PW X (.BoolOp .Or [a] pos) tA:=by
 intro wh δ s σ H Q I h;refine isTrue_or (bc (ha δ s σ H Q I h) λc s1 e=>?_);cases c with
 | false=>exact isTrue_or_nil e
 | true=>exact e
def pw_and(ha:PT X a tA)(hb:PW X (.BoolOp .And (b::rest) pos) S6):PW X (.BoolOp .And (a::b::rest) pos) (YD tA S6):=by
 intro wh δ s σ H Q I h;refine isTrue_and (bc (ha δ s σ H _ I h) λc s1 xz=>?_);have⟨H1,I1,q1⟩:=xz;cases c with
 | true=>exact hb wh δ s1 σ H1 Q I1 q1
 | false=>exact⟨H1,I1,q1⟩
def pw_or(ha:PT X a tA)(hb:PW X (.BoolOp .Or (b::rest) pos) S6):PW X (.BoolOp .Or (a::b::rest) pos) (tOr tA S6):=by
 intro wh δ s σ H Q I h;refine isTrue_or (bc (ha δ s σ H _ I h) λc s1 xz=>?_);have⟨H1,I1,q1⟩:=xz;cases c with
 | true=>exact⟨H1,I1,q1⟩
 | false=>exact hb wh δ s1 σ H1 Q I1 q1
def Rb(ha:PT X a tA):PT X (.UnaryOp .Not a pos) (Zz tA):=by intro δ s σ H Q I h;exact isTrue_not (ha δ s σ H (λc H1=>Q (!c) H1) I h)
def SJ(ta tb:TE):TE:=λσ H Q=>ta σ H λx H1=>∃c,x= .bl c/\if c=true then tb σ H1 Q else Q (.bl false) H1
def U9(ta:TE):TE:=λσ H Q=>ta σ H λx H1=>∃c,x= .bl c/\Q (.bl (!c)) H1
def Rf{op}{t:TE}(h:PE X a t):PE X (.BoolOp op [a] pos) t:=λδ s σ H Q I hw=>BoolOp_one (h δ s σ H Q I hw)
def Qi(ha:PE X a ta)(hb:PE X (.BoolOp .And (b::rest) pos) tb):PE X (.BoolOp .And (a::b::rest) pos) (SJ ta tb):=by
 intro δ s σ H Q I h;refine BoolOp_and (bc (ha δ s σ H _ I h) λv s1 xz=>?_);have⟨x,H1,I1,r1,q1⟩:=xz;have⟨c,rfl,q1⟩:=q1;cases r1;refine wpAny_truthy_bool ?_;cases c with
 | true=>exact hb δ s1 σ H1 Q I1 q1
 | false=>exact⟨.bl false,H1,I1,rfl,q1⟩
def R8(ha:PE X a ta):PE X (.UnaryOp .Not a pos) (U9 ta):=by intro δ s σ H Q I h;refine UnaryOp_ (bc (ha δ s σ H _ I h) λv s1 xz=>?_);have⟨x,H1,I1,r1,q1⟩:=xz;have⟨c,rfl,q1⟩:=q1;cases r1;exact not_of (wpAny_truthy_bool ⟨.bl (!c),H1,I1,rfl,q1⟩)
def tIf(t:TT)(ta tb:TE):TE:=λσ H Q=>t σ H λc H1=>if c=true then ta σ H1 Q else tb σ H1 Q
def Ih(hc:PT X c tA)(ha:PE X a ta)(hb:PE X b tb):PE X (.IfExp c a b pos) (tIf tA ta tb):=by
 intro δ s σ H Q I h;refine wpAny_IfExp (bc (hc δ s σ H _ I h) λd s1 xz=>?_);have⟨H1,I1,q1⟩:=xz;cases d with
 | true=>exact ha δ s1 σ H1 Q I1 q1
 | false=>exact hb δ s1 σ H1 Q I1 q1
end
def fU(K:tf)(H:Hp)(a:Addr)(xs:List V):Prop:=
 Rd H a (.lst xs)\/
  ∃(o:Obj) (its:Array Value) (n:Nat),K.lookup a=some o/\o.cls= .type "list"/\o.dict=none/\o.data= .seq its n/\its.size<=sizeLine/\aj xs its.toList
def mZ(K:tf)(H:Hp)(a:Addr)(xs:List V):Prop:=
 Rd H a (.tup xs)\/
  ∃(o:Obj) (its:Array Value) (n:Nat),K.lookup a=some o/\o.cls= .type "tuple"/\o.data= .seq its n/\its.size<=sizeLine/\aj xs its.toList
def Z3:Value->Option V
 | .none=>some .aE
 | .bool b=>some (.bl b)
 | .int i _=>some (.int i)
 | .str x _=>some (.str x)
 | .bytes b _=>some (.Hw b)
 | .float b _=>some (.Qz b)
 | .ref a=>some (.ref a)
 | .type n=>some (.ty n)
 | _=>none
def ax.abs{x:V}(r:ax x u):Z3 u=some x:=by
 cases x with
 | aE=>cases r;rfl
 | bl _=>cases r;rfl
 | int _=>have⟨t,rfl⟩:=r;rfl
 | str _=>have⟨t,rfl⟩:=r;rfl
 | Hw _=>have⟨t,rfl⟩:=r;rfl
 | Qz _=>have⟨t,rfl⟩:=r;rfl
 | ref _=>cases r;rfl
 | ty _=>cases r;rfl
def ax.inj{x y:V}{u:Value}(r:ax x u)(q:ax y u):x=y:=aav (r.abs.symm.trans q.abs)
def aj.inj:∀{xs ys:List V} {us:List Value},aj xs us->aj ys us->xs=ys
 | _,_,_,.nil,.nil=>rfl
 | _,_,_,.cons r t,.cons r' t'=>by rw[r.inj r',aj.inj t t']
section
variable{H:Hp}{xs ys:List V}
def fU.of{K:tf}(h:H a=some (.lst xs)):fU K H a xs:=.inl (.inl h)
def mZ.of{K:tf}(h:H a=some (.tup xs)):mZ K H a xs:=.inl (.inl h)
def Inv.list(I:Inv X δ σ H s)(h:fU X.K H a xs):∃its:List Value,aj xs its/\PlainL s.heap a its.toArray/\xs.length<=sizeLine:=by
 rcases h with h| ⟨o,its,n,hk,hc,hd,hs,hz,r⟩
 ·have⟨z,its,n,r,e⟩:=h.ok I.ay;exact⟨its,r,⟨_,n,e,rfl,rfl,rfl⟩,z⟩
 ·refine⟨its.toList,r,⟨o,n,I.iX a o hk,hc,hd,by simpa using hs⟩,?_⟩;have e:=r.length;simp only[Array.length_toList]at e;omega
def Inv.tuple(I:Inv X δ σ H s)(h:mZ X.K H a xs):∃its:List Value,aj xs its/\IsTup s.heap a its.toArray/\xs.length<=sizeLine:=by
 rcases h with h| ⟨o,its,n,hk,hc,hs,hz,r⟩
 ·have⟨z,its,r,p⟩:=h.ok I.ay;exact⟨its,r,p,z⟩
 ·refine⟨its.toList,r,⟨o,I.iX a o hk,hc,n,by simpa using hs⟩,?_⟩;have e:=r.length;simp only[Array.length_toList]at e;omega
def Inv.bP(I:Inv X δ σ H s)(h:fU X.K H a xs)(h':fU X.K H a ys):xs=ys:=by
 have⟨its,r,⟨o,n,e,_,_,d⟩,_⟩:=I.list h;have⟨its',r',⟨o',n',e',_,_,d'⟩,_⟩:=I.list h';rw[e]at e';cases e';rw[d]at d';injection d' with d1 _
 have:its=its':=by simpa using congrArg Array.toList d1
 subst this;exact r.inj r'
def Inv.kR(I:Inv X δ σ H s)(h:mZ X.K H a xs)(h':mZ X.K H a ys):xs=ys:=by
 have⟨its,r,⟨o,e,_,n,d⟩,_⟩:=I.tuple h;have⟨its',r',⟨o',e',_,n',d'⟩,_⟩:=I.tuple h';rw[e]at e';cases e';rw[d]at d';injection d' with d1 _
 have:its=its':=by simpa using congrArg Array.toList d1
 subst this;exact r.inj r'
end
section
variable{st:Stmt}{rest:List Stmt}{t u:TS}
def Ui:TS:=λD σ H=>D.nx σ H
def Yg(t u:TS):TS:=λD σ H=>t {D with nx:=u D} σ H
def MD:yC X [] Ui:=λ_ _ σ H _ I h=>wpAny_execs_nil ⟨σ,H,I,h⟩
def zZ(h1:PS X st t)(h2:yC X rest u):yC X (st::rest) (Yg t u):=by
 intro δ s σ H D I h;refine wpAny_execs_cons (bc (h1 δ s σ H {D with nx:=u D} I h) λf s1 q=>?_);cases f with
 | next=>
  have⟨σ',H',I',q⟩:=q;exact h2 δ s1 σ' H' D I' q
 | ret v=>exact q
 | brk=>exact q
 | cont=>exact q
def DY(h1:PS X st t):yC X [st] t:=by
 intro δ s σ H D I h;refine wpAny_execs_cons (bc (h1 δ s σ H D I h) λf s1 q=>?_);cases f with
 | next=>exact wpAny_execs_nil q
 | ret v=>exact q
 | brk=>exact q
 | cont=>exact q
def T6:TS:=λD σ H=>D.ct σ H
def zx:PS X (.Continue pos) T6:=λ_ _ σ H _ I h=>wpAny_Continue ⟨σ,H,I,h⟩
def Inv.quiet{H:Hp}(I:Inv X δ σ H s):interactive X.env=false:=by simp[interactive,I.ok.kind]
def SM(te:TE):TS:=λD σ H=>te σ H λ_ H1=>D.nx σ H1
def DR(he:PE X e te)(hs:swapsWith e none pos.line X.env=pure false:=by rfl):PS X (.Expr e pos) (SM te):=by intro δ s σ H D I h;exact wpAny_Expr_any (bc (he δ s σ H _ I h) λv s1 ⟨x,H1,I1,r1,q1⟩=>⟨σ,H1,I1,q1⟩) I.quiet hs
def XE(te:TE):TS:=λD σ H=>te σ H D.rt
def RQ(he:PE X e te):PS X (.Return (some e) pos) (XE te):=by intro δ s σ H D I h;exact wpAny_Return_some (bc (he δ s σ H _ I h) λv s1 ⟨x,H1,I1,r1,q1⟩=>⟨x,σ,H1,I1,r1,q1⟩)
def XD(c:TT)(t u:TS):TS:=λD σ H=>c σ H λb H1=>if b=true then t D σ H1 else u D σ H1
def VR{a b:List Stmt}{tc:TT}(hc:PT X c tc)(ha:yC X a t)(hb:yC X b u):PS X (.If c a b pos) (XD tc t u):=by
 intro δ s σ H D I h;refine wpAny_If (bc (hc δ s σ H _ I h) λd s1 xz=>?_);have⟨H1,I1,q1⟩:=xz;cases d with
 | true=>exact ha δ s1 σ H1 D I1 q1
 | false=>exact hb δ s1 σ H1 D I1 q1
end
abbrev TG:=V->St->Hp->(St->Hp->Prop)->Prop
abbrev RK:=List V->St->Hp->(St->Hp->Prop)->Prop
def PG(X:Cx)(target:Expr)(t:TG):Prop:=
 ∀(δ:List (Addr×Obj)) (s:Shared) (σ:St) (H:Hp) (v:V) (u:Value) (Q:St->Hp->Prop),Inv X δ σ H s->ax v u->t v σ H Q->
  wpAny (model X.prog X.w) X.A (assign target X.env u) (λ_ s'=>∃σ' H',Inv X δ σ' H' s'/\Q σ' H') X.xe s
def Wz(X:Cx)(ts:List Expr)(t:RK):Prop:=
 ∀(δ:List (Addr×Obj)) (s:Shared) (σ:St) (H:Hp) (vs:List V) (us:List Value) (Q:St->Hp->Prop),Inv X δ σ H s->aj vs us->t vs σ H Q->
  wpAny (model X.prog X.w) X.A (assignInOrder ((assignEach ts X.env).map (·.2)) us) (λ_ s'=>∃σ' H',Inv X δ σ' H' s'/\Q σ' H') X.xe s
abbrev Q7:=V->V->V->Hp->(Hp->Prop)->Prop
def VW(X:Cx)(t:Q7):Prop:=
 ∀(δ:List (Addr×Obj)) (s:Shared) (σ:St) (H:Hp) (o i v:V) (ov iv u:Value) (Q:Hp->Prop),Inv X δ σ H s->ax o ov->ax i iv->ax v u->t o i v H Q->
  wpAny (model X.prog X.w) X.A (setItem ov iv u) (λ_ s'=>∃H',Inv X δ σ H' s'/\Q H') X.xe s
section
def iD(i:Nat):TG:=λv σ H Q=>Q (σ.set i (some v)) H
def au(hN:X.N.Nodup)(hi:X.N[i]? =some x)(hx:Loc X.env.scope x)(hf:X.fn x=true\/X.env.scope.names.lookup x=some .local:=by first| exact .inl rfl| exact .inr rfl| assumption):PG X (.Name x pos) (iD i):=by intro δ s σ H v u Q I r h;exact wpAny_assign_Name (nW I hN hi hx r (λs' I'=>⟨_,H,I',h⟩) hf)
def Lw:RK:=λvs σ H Q=>vs=[]/\Q σ H
def nM(t:TG)(u:RK):RK:=λvs σ H Q=>∃v r,vs=v::r/\t v σ H λσ' H'=>u r σ' H' Q
def kO:Wz X [] Lw:=by intro δ s σ H vs us Q I r h;have⟨e,h⟩:=h;subst e;cases r;exact assignInOrder_nil ⟨σ,H,I,h⟩
def b8{t:TG}{u:RK}(h1:PG X e t)(h2:Wz X es u)
  (hs:(assignEach (e::es) X.env).map (·.2)=assign e X.env::(assignEach es X.env).map (·.2):=by rfl):Wz X (e::es) (nM t u):=by
 intro δ s σ H vs us Q I r h;have⟨v,vr,e1,h⟩:=h;subst e1;cases r with
 | cons r rr=>
  rw[hs];refine assignInOrder_cons (bc (h1 δ s σ H _ _ _ I r h) λ_ s1 xz=>?_);have⟨σ1,H1,I1,q1⟩:=xz;exact h2 δ s1 σ1 H1 _ _ Q I1 rr q1
def KA(K:tf)(n:Nat)(t:RK):TG:=λv σ H Q=>∃a xs,v= .ref a/\mZ K H a xs/\xs.length=n/\t xs σ H Q
def oE{k:Nat}{t:RK}{n:Nat}(hc:X.calm=true)(h:Wz X es t)
  (hn:(assignEach es X.env).length=n:=by rfl) (vh:(assignEach es X.env).findIdx? (·.1)=none:=by rfl):PG X (.Tuple es k pos) (KA X.K n t):=by
 intro δ s σ H v u Q I r hw;have⟨a,xs,e1,hq,hl,hw⟩:=hw;subst e1;cases r;have⟨its,rv,ht,hz⟩:=I.tuple hq;refine assign_Tuple_tuple (I.ok.hd hc) ht (by simp[hn,<-hl,rv.length]) vh λh' hx=>?_;have I1:Inv X δ σ H {s with heap:=h'}:=I.kept (t':=s.toks) λb o e=>hx b o (aaM (aaq e)) e;exact h δ _ σ H xs _ Q I1 (by simpa using rv) hw
def Xg(to ti:TE)(t:Q7):TG:=λv σ H Q=>to σ H λo H1=>ti σ H1 λi H2=>t o i v H2 λH3=>Q σ H3
def Qh{o i:Expr}{to ti:TE}{t:Q7}(ho:PE X o to)(hi:PE X i ti)(hs:VW X t)
  (ha:∀v,assign (.Subscript o i pos) X.env v=(do
   let ov<-holding [v] (eval o X.env)
   let iv<-holding [v,ov] (eval i X.env)
   standAt pos
   holding [v,ov,iv] (setItem ov iv v)
   release [v,ov,iv] []):=by intro _;rfl):PG X (.Subscript o i pos) (Xg to ti t):=by
 intro δ s σ H v u Q I r h;rw[ha];refine aaj (wpAny_holding (bc (ho δ s σ H _ I h) λov s1 xz=>?_));have⟨x,H1,I1,r1,q1⟩:=xz;refine aaj (wpAny_holding (bc (hi δ s1 σ H1 _ I1 q1) λiv s2 xz=>?_));have⟨y,H2,I2,r2,q2⟩:=xz;refine aaj (wpAny_standAt (aaj (wpAny_holding (bc (hs δ s2 σ H2 x y v ov iv u _ I2 r1 r2 r q2) λ_ s3 xz=>?_))));have⟨H3,I3,q3⟩:=xz;exact wpAny_release ⟨σ,H3,I3,q3⟩
def U3(te:TE)(g:TG):TS:=λD σ H=>te σ H λx H1=>g x σ H1 D.nx
def HH{g:TG}(he:PE X e te)(hg:PG X tg g)(hs:swapsWithSole [tg] e pos.line X.env=pure false:=by rfl)(hw:swappedStores [tg] e X.env=pure none:=by rfl)
  (h1:(assignEach [tg] X.env).map (·.2)=[assign tg X.env]:=by rfl):PS X (.Assign [tg] e pos) (U3 te g):=by
 intro δ s σ H D I h;refine wpAny_Assign_stores (bc (he δ s σ H _ I h) λv s1 xz=>?_) hs hw;have⟨x,H1,I1,r1,q1⟩:=xz;rw[h1];exact bc (hg δ s1 σ H1 x v _ I1 r1 q1) λ_ s2 q=>q
def QY{pos':Pos}(hN:X.N.Nodup)(hi:X.N[i]? =some x)(hx:Loc X.env.scope x)(he:PE X e te)(hs:swapsWith e (some (.Name x pos')) pos.line X.env=pure false:=by rfl)(hf:X.fn x=true\/X.env.scope.names.lookup x=some .local:=by first| exact .inl rfl| exact .inr rfl| assumption):
  PS X (.Assign [.Name x pos'] e pos) (U3 te (iD i)):=by
 intro δ s σ H D I h;refine wpAny_Assign_Name (bc (he δ s σ H _ I h) λv s1 xz=>?_) hs;have⟨y,H1,I1,r1,q1⟩:=xz;exact nW I1 hN hi hx r1 (λs2 I2=>⟨_,H1,I2,q1⟩) hf
end
section
def RZ(c:TT)(tb:TS):TS:=λD σ H=>∃W:Nat->St->Hp->Prop,(∃m,W m σ H)/\∀m σ H,W m σ H->
 c σ H λb H1=>if b=true then∃N:St->Hp->Prop,(∀σ' H',N σ' H'->∃m',m' < m/\W m' σ' H')/\tb {D with nx:=N,ct:=N,bk:=D.nx} σ H1 else D.nx σ H1
def H_{tc:TT}{tb:TS}(hp:PassesOwn (model X.prog X.w) X.A X.env X.xe)(hc:PT X c tc)(hb:yC X body tb):PS X (.While c body [] pos) (RZ tc tb):=by
 intro δ s σ H D I h;have⟨W,⟨m0,w0⟩,turn⟩:=h;refine wpAny_While (codeAny_whileLoop (λn s'=>∃σ' H',Inv X δ σ' H' s'/\W n σ' H') ?_ m0 ⟨σ,H,I,w0⟩);rintro n s1 ⟨σ1,H1,I1,w1⟩;refine wpAny_passesOwn hp (bc (hc δ s1 σ1 H1 _ I1 (turn n σ1 H1 w1)) λb s2 xz=>?_);have⟨H2,I2,q2⟩:=xz;cases b with
 | true=>
  have⟨N,hN,q2⟩:=q2;rw[aay rfl];refine wpAny_passesOwn hp (bc (hb δ s2 σ1 H2 _ I2 q2) λf s3 q3=>?_);cases f with
  | next=>
   have⟨σ3,H3,I3,n3⟩:=q3;have⟨m',hm,w3⟩:=hN σ3 H3 n3;exact⟨m',hm,σ3,H3,I3,w3⟩
  | cont=>
   have⟨σ3,H3,I3,n3⟩:=q3;have⟨m',hm,w3⟩:=hN σ3 H3 n3;exact⟨m',hm,σ3,H3,I3,w3⟩
  | brk=>exact q3
  | ret v=>exact q3
 | false=>
  rw[aaF aaD];exact wpAny_execs_nil ⟨σ1,H2,I2,q2⟩
end
structure It where
 go:Nat->Hp->Prop
 T':Nat->Hp->V->Hp->Prop
 stop:Nat->Hp->Prop
def tO(X:Cx)(δ:List (Addr×Obj))(H:Hp)(b:Addr):Prop:=
 H b=none/\b≠X.env.locals/\b∉X.fs/\(b∈X.ex\/X.s₀.heap.objs.size<=b)/\(∀x c,X.env.cells.lookup x=some c->c≠b)/\∀p∈X.pn++δ,p.1≠b
def Inv.Cv{H H':Hp}(I:Inv X δ σ H s)(hb:s.heap.objs.size<=b)(hn:H' b=none):tO X δ H' b:=by
 refine⟨hn,acj (aas I.lt hb),I.XX hb,.inr (aax I.sz hb),λx c e z=>?_,λp hp z=>?_⟩
 ·have⟨v,q⟩:=I.cell x c e;exact aaK (aas q.lt (by rw[z];exact hb)) (abz _)
 ·exact aaK (aas (aaq (I.pin p hp).1) (by rw[z];exact hb)) (abz _)
structure Turn(P:Program)(w:World)(K:tf)(tg:Expr)(J:It)(fp:List Addr)(it:Addr)(tn:Nat->Heap->Prop):Prop where
 mem:it∈fp
 obj:∀i h,tn i h->∀b∈fp,∃o,h.get? b=some o/\∀v,o.data≠ .cell v
 keep:∀i h h',tn i h->(∀b∈fp,∀o,h.get? b=some o->h'.get? b=some o)->tn i h'
 item:∀(X:Cx),X.prog=P->X.w=w->X.K=K->X.calm=true->∀(i:Nat) (δ:List (Addr×Obj)) (s:Shared) (σ:St) (H:Hp) (E:Value->Shared->Prop),Inv X δ σ H s->(∀b∈fp,tO X δ H b)->tn i s.heap->J.go i H->
  wpAny (model P w) X.A (pyNext (.ref it)) (λr s1=>∃u,r=some u/\
   wpAny (model P w) X.A (letOwnedTupleGo tg (.ref it) u) (λ_ s2=>∃x H',Inv X δ σ H' s2/\ax x u/\J.T' i H x H'/\tn (i+1) s2.heap/\∀b∈fp,H' b=none) E s1) E s
 done:∀(X:Cx),X.prog=P->X.w=w->X.K=K->X.calm=true->∀(i:Nat) (δ:List (Addr×Obj)) (s:Shared) (σ:St) (H:Hp) (E:Value->Shared->Prop),Inv X δ σ H s->(∀b∈fp,tO X δ H b)->tn i s.heap->J.stop i H->
  wpAny (model P w) X.A (pyNext (.ref it)) (λr s1=>r=none/\Inv X δ σ H s1) E s
 self:∀(A:Around) (i:Nat) (s:Shared) (Q:Value->Shared->Prop) (E:Value->Shared->Prop),tn i s.heap->Q (.ref it) s->wpAny (model P w) A (pyIter (.ref it)) Q E s
abbrev TI:=St->Hp->(It->Hp->Prop)->Prop
def LU(X:Cx)(δ:List (Addr×Obj))(σ:St)(tg:Expr)(R:It->Hp->Prop)(WI:Value)(s2:Shared):Prop:=
 ∃(it:Addr) (fp:List Addr) (tn:Nat->Heap->Prop) (J:It) (H':Hp),WI= .ref it/\Inv X δ σ H' s2/\Turn X.prog X.w X.K tg J fp it tn/\tn 0 s2.heap/\(∀b∈fp,tO X δ H' b)/\R J H'
def PI(X:Cx)(tg iter:Expr)(wi:TI):Prop:=
 ∀(δ:List (Addr×Obj)) (s:Shared) (σ:St) (H:Hp) (R:It->Hp->Prop),Inv X δ σ H s->wi σ H R->
  wpAny (model X.prog X.w) X.A (eval iter X.env) (λv s1=>wpAny (model X.prog X.w) X.A (pyIter v) (LU X δ σ tg R) X.xe s1) X.xe s
def vw   {E : Value -> Shared -> Prop}   {it : Addr}  {o : Obj} {n : String} {vs : Array Value} {Q : Unit -> Shared -> Prop} (ho : s.heap.get? it = some o) (hc : o.cls = .type n) (hd : o.data = .fields vs)
    (hn : ["enumerate","zip","dict_itemiterator","dict_reverseitemiterator","odict_iterator","itertools.zip_longest","itertools.pairwise"].contains n = false) (hQ : Q Unit.unit s) : wpAny M A (letOwnedTupleGo tg (.ref it) u) Q E s :=by
  unfold letOwnedTupleGo
  cases tg <;> first
    | exact aaI hQ
    | (cases u <;> first
        | exact aaI hQ
        | (refine aaj (wpAny_load ho ?_)
           rw[hc,hd];show wpAny M A (if (["enumerate","zip","dict_itemiterator","dict_reverseitemiterator","odict_iterator","itertools.zip_longest","itertools.pairwise"].contains n && vs[0]? == some (rawInt _)) = true then _ else _) Q E s;rw[aaF (by intro h;rw[hn,Bool.false_and]at h;cases h)]
           exact aaI hQ))
def WG(K:tf)(a:Addr):It:=
 ⟨λi H=>∃xs x,fU K H a xs/\xs[i]? =some x,λi H x H'=>H'=H/\∀xs,fU K H a xs->xs[i]? =some x,λi H=>∃xs,fU K H a xs/\xs.length<=i⟩
def Xp(K:tf)(a:Addr):It:=
 ⟨λi H=>∃xs x,mZ K H a xs/\xs[i]? =some x,λi H x H'=>H'=H/\∀xs,mZ K H a xs->xs[i]? =some x,λi H=>∃xs,mZ K H a xs/\xs.length<=i⟩
def Ut(lo:Int)(n:Nat):It:=⟨λi _=>i < n,λi H x H'=>H'=H/\x= .int (lo+i),λi _=>n<=i⟩
def FE{K:tf}(a it:Addr):Turn P w K tg (WG K a) [it] it (λi h=>h.IsListIter it a i) where
 mem:=by simp
 obj:=λi h st b hb=>by
  have e:b=it:=by simpa using hb
  subst e;have⟨o,e,c,d⟩:=st;exact⟨o,e,λv z=>by rw[d]at z;cases z⟩
 keep:=λi h h' st k=>st.at λo e=>k it (by simp) o e
 item:=by intro X hP hw hK hc i δ s σ H E I hf st hg;subst hP hw hK;have⟨xs,x,hq,hx⟩:=hg;have⟨its,rv,p,hz⟩:=I.list hq;have⟨u,hu,ru⟩:=rv.get hx;have⟨f0,f1,f2,f3,f4,f5⟩:=hf it (by simp);refine wpAny_pyNext_list_item st p.isList (x:=u) (by simpa using hu) λh' sY sb=>?_;have I1:Inv X δ σ H {s with heap:=h'}:=I.turned (t':=s.toks) (λb o hb e=>(sb.2 b hb).trans e) f0 f1 f3 f4 f5;have⟨o,e,c,d⟩:=id sY;exact⟨u,rfl,vw (s:={s with heap:=h'}) e c d @_ ⟨x,H,I1,ru,⟨rfl,λys hy=>by rw[I.bP hy hq];exact hx⟩,sY,λb hb=>(hf b hb).1⟩⟩
 done:=by intro X hP hw hK hc i δ s σ H E I hf st hg;subst hP hw hK;have⟨xs,hq,hx⟩:=hg;have⟨its,rv,p,hz⟩:=I.list hq;have⟨f0,f1,f2,f3,f4,f5⟩:=hf it (by simp);have hl:=rv.length;exact wpAny_pyNext_list_end (I.ok.hd hc) st p.isList (by simp;omega) λh' eb=>⟨rfl,I.turned (t':=s.toks) (λb o hb e=>eb b o hb e) f0 f1 f3 f4 f5⟩
 self:=λ_ _ _ _ _ st h=>wpAny_pyIter_listiter st h
def Bv{K:tf}(a it:Addr):Turn P w K tg (Xp K a) [it] it (λi h=>h.IsTupleIter it a i) where
 mem:=by simp
 obj:=λi h st b hb=>by
  have e:b=it:=by simpa using hb
  subst e;have⟨o,e,c,d⟩:=st;exact⟨o,e,λv z=>by rw[d]at z;cases z⟩
 keep:=λi h h' st k=>st.at λo e=>k it (by simp) o e
 item:=by intro X hP hw hK hc i δ s σ H E I hf st hg;subst hP hw hK;have⟨xs,x,hq,hx⟩:=hg;have⟨its,rv,p,hz⟩:=I.tuple hq;have⟨u,hu,ru⟩:=rv.get hx;have⟨f0,f1,f2,f3,f4,f5⟩:=hf it (by simp);refine wpAny_pyNext_tuple_item st (show s.heap.IsTuple a its.toArray from p) (x:=u) (by simpa using hu) λh' sY sb=>?_;have I1:Inv X δ σ H {s with heap:=h'}:=I.turned (t':=s.toks) (λb o hb e=>(sb.2 b hb).trans e) f0 f1 f3 f4 f5;have⟨o,e,c,d⟩:=id sY;exact⟨u,rfl,vw (s:={s with heap:=h'}) e c d @_ ⟨x,H,I1,ru,⟨rfl,λys hy=>by rw[I.kR hy hq];exact hx⟩,sY,λb hb=>(hf b hb).1⟩⟩
 done:=by intro X hP hw hK hc i δ s σ H E I hf st hg;subst hP hw hK;have⟨xs,hq,hx⟩:=hg;have⟨its,rv,p,hz⟩:=I.tuple hq;have⟨f0,f1,f2,f3,f4,f5⟩:=hf it (by simp);have hl:=rv.length;exact wpAny_pyNext_tuple_end (I.ok.hd hc) st (show s.heap.IsTuple a its.toArray from p) (by simp;omega) λh' eb=>⟨rfl,I.turned (t':=s.toks) (λb o hb e=>eb b o hb e) f0 f1 f3 f4 f5⟩
 self:=λ_ _ _ _ _ st h=>wpAny_pyIter_tupleiter st h
def Bl{K:tf}(it:Addr)(lo:Int)(n:Nat):Turn P w K tg (Ut lo n) [it] it (λi h=>IsRangeIter h it (lo+(i:Nat) * 1) ((n:Int) - (i:Nat)) 1) where
 mem:=by simp
 obj:=λi h st b hb=>by
  have e:b=it:=by simpa using hb
  subst e
  exact⟨_,st,λv z=>by
   have z':Data.fields _=Data.cell v:=z
   cases z'⟩
 keep:=λi h h' st k=>k it (by simp) _ st
 item:=by intro X hP hw hK hc i δ s σ H E I hf st hg;subst hP hw hK;have⟨f0,f1,f2,f3,f4,f5⟩:=hf it (by simp);have W:=Walks.range (prog:=X.prog) (w:=X.w) (I.ok.hd hc) it lo 1 n;refine W.item i s _ _ hg st λv h' tk hv sY kk=>?_;have⟨t,rfl⟩:=hv;have I1:Inv X δ σ H {s with heap:=h',toks:=tk}:=I.turned (λb o hb e=>kk b o (by simpa using hb) e) f0 f1 f3 f4 f5;refine⟨_,rfl,vw (s:={s with heap:=h',toks:=tk}) (n:="range_iterator") sY rfl rfl @_ ⟨.int (lo+i),H,I1,⟨t,?_⟩,⟨rfl,rfl⟩,sY,λb hb=>(hf b hb).1⟩⟩;rw[Int.mul_one]
 done:=by intro X hP hw hK hc i δ s σ H E I hf st hg;subst hP hw hK;have⟨f0,f1,f2,f3,f4,f5⟩:=hf it (by simp);exact wpAny_pyNext_range_end (I.ok.hd hc) st (by have:n<=i:=hg;omega) λh' eb=>⟨rfl,I.turned (t':=s.toks) (λb o hb e=>eb b o hb e) f0 f1 f3 f4 f5⟩
 self:=λ_ _ _ _ _ st h=>wpAny_pyIter_rangeiter st h
section
def yL{H:Hp}{R:It->Hp->Prop}{lo hi:Int}{t u v:Tok}{tk:Nat}(I:Inv X δ σ H s)(h1: -(2 ^ 62)<=lo)(h2:lo < 2 ^ 62)(h3: -(2 ^ 62)<=hi)(h4:hi < 2 ^ 62)
  (q:R (Ut lo (hi - lo).toNat) H):wpAny (model X.prog X.w) X.A (pyIter (.ref s.heap.objs.size)) (LU X δ σ tg R) E {s with heap:=s.heap.push {cls:=.type "range",data:=.fields #[.int lo t,.int hi u,.int 1 v]},toks:=tk}:=by
 refine wpAny_pyIter_range (IsRange.new ..) (small_one h1 h2 h3 h4) ?_;have I1:Inv X δ σ H {s with heap:=s.heap.push {cls:=.type "range",data:=.fields #[.int lo t,.int hi u,.int 1 v]},toks:=tk}:=I.kept λb o e=>aal _ e
 refine⟨(s.heap.push {cls:=.type "range",data:=.fields #[.int lo t,.int hi u,.int 1 v]}).objs.size,[(s.heap.push {cls:=.type "range",data:=.fields #[.int lo t,.int hi u,.int 1 v]}).objs.size],_,_,H,rfl,
  I1.kept (t':=tk) λb o e=>aal _ e,Bl _ lo (hi - lo).toNat,?_,λb hb=>?_,q⟩
 ·have e1:lo+((0:Nat):Int) * 1=lo:=by simp
  have e2:(((hi - lo).toNat:Nat):Int) - ((0:Nat):Int)=Builtin.Range.rangeSize lo hi 1:=by rw[rangeSize_one];split <;> omega
  show IsRangeIter _ _ (lo+((0:Nat):Int) * 1) ((((hi - lo).toNat:Nat):Int) - ((0:Nat):Int)) 1;rw[e1,e2];exact aaP _ rfl
 ·have e:b=(s.heap.push {cls:=.type "range",data:=.fields #[.int lo t,.int hi u,.int 1 v]}).objs.size:=by simpa using hb
  subst e;exact I1.Cv (aao _) (I1.ay.fresh (aao _))
def T1(ta:TA):TI:=λσ H R=>ta σ H λvs H1=>∃j:Int,vs=[.int j]/\ -(2 ^ 62)<=j/\j < 2 ^ 62/\R (Ut 0 j.toNat) H1
def V5(ta:TA):TI:=λσ H R=>ta σ H λvs H1=>∃i j:Int,vs=[.int i,.int j]/\(-(2 ^ 62)<=i/\i < 2 ^ 62/\ -(2 ^ 62)<=j/\j < 2 ^ 62)/\R (Ut i (j - i).toNat) H1
def Fv{a:Expr}{ta:TA}{p:Pos}(hg:Gl X "range")(hm:X.mg "range"=none)(ha:PA X [a] ta)(hs:starEach [a] X.env=[(false,eval a X.env)]:=by rfl):PI X tg (.Call (.Name "range" p) [a] [] pos) (T1 ta):=by
 intro δ s σ H R I h;refine Call_ (kG I hg hm boot_range (PyProof.Rows.callWith_type1 (bc (ha pos δ s σ H _ I h) λus s1 xz=>?_) hs rfl));have⟨vs,H1,I1,r1,q1⟩:=xz;have⟨j,e,q1,q2,q⟩:=q1;subst e;cases r1 with
 | cons r rr=>
  cases rr;have⟨t,rfl⟩:=r;exact call_range_1 (yL I1 () () q1 q2 (by simpa using q))
def FW{a b:Expr}{ta:TA}{p:Pos}(hg:Gl X "range")(hm:X.mg "range"=none)(ha:PA X [a,b] ta)(hs:starEach [a,b] X.env=[(false,eval a X.env),(false,eval b X.env)]:=by rfl)(R7:starEach [b] X.env=[(false,eval b X.env)]:=by rfl):
  PI X tg (.Call (.Name "range" p) [a,b] [] pos) (V5 ta):=by
 intro δ s σ H R I h;refine Call_ (kG I hg hm boot_range (PyProof.Rows.callWith_type1 (bc (ha pos δ s σ H _ I h) fun us s1 ⟨vs,H1,I1,r1,q1⟩=>?_) (by rw[hs,R7]) (by rw[R7];rfl)));have⟨i,j,e,⟨q1,q2,q3,q4⟩,q⟩:=q1;subst e;cases r1 with
 | cons r rr=>
  cases rr with
  | cons r' rr=>
   cases rr;have⟨t,rfl⟩:=r;have⟨t',rfl⟩:=r';exact call_range_2 (yL I1 q1 q2 q3 q4 q)
def ZU(wi:TI)(g:TG)(tb:TS):TS:=λD σ H=>wi σ H λJ H1=>∃W:Nat->Nat->St->Hp->Prop,(∃m,W 0 m σ H1)/\∀i m σ H,W i m σ H->
 (J.stop i H/\D.nx σ H)\/(J.go i H/\∃N:St->Hp->Prop,(∀σ' H',N σ' H'->∃m',m' < m/\W (i+1) m' σ' H')/\∀x H',J.T' i H x H'->g x σ H' λσ2 H2=>tb {D with nx:=N,ct:=N,bk:=D.nx} σ2 H2)
def wJ(fp:List Addr)(h:Heap):List (Addr×Obj):=fp.filterMap λb=>(h.get? b).map λo=>(b,o)
def eV{o:Obj}(hb:b∈fp)(e:h.get? b=some o):(b,o)∈wJ fp h:=abN.mpr ⟨b,hb,by rw[e];rfl⟩
def Hm{p:Addr×Obj}(hp:p∈wJ fp h):p.1∈fp/\h.get? p.1=some p.2:=by
 have⟨b,hb,e⟩:=abN.mp hp;cases q:h.get? b with
 | none=>rw[q]at e;cases e
 | some o=>
  rw[q]at e;have e':(b,o)=p:=aav e;subst e';exact⟨hb,q⟩
def Inv.pinned{H:Hp}(I:Inv X δ σ H s)(hf:∀b∈fp,tO X δ H b)(ho:∀b∈fp,∃o,s.heap.get? b=some o/\∀v,o.data≠ .cell v):Inv X (δ++wJ fp s.heap) σ H s:=
 I.ET λp hp=>(aa8.mp hp).elim (λz=>I.pin p (aaH _ z)) λz=>by have⟨hb,e⟩:=Hm z;have⟨f0,f1,f2,_⟩:=hf p.1 hb;have⟨o,e',d⟩:=ho p.1 hb;rw[e]at e';cases e';exact⟨e,f0,f1,f2,d⟩
def Inv.jO{pl:List (Addr×Obj)}{H:Hp}(I:Inv X (δ++pl) σ H s):Inv X δ σ H s:=I.ET λp hp=>I.pin p (aaH _ (abu _ hp))
def BI{iter:Expr}{wi:TI}{g:TG}{tb:TS}(hp:PassesOwn (model X.prog X.w) X.A X.env X.xe)(hc:X.calm=true)(hi:PI X tg iter wi)(hg:PG X tg g)(hb:yC X body tb)
  (hs:∀x,foldedSetIterable iter X.env x=pure x:=by intro _;rfl):PS X (.For tg iter body [] pos) (ZU wi g tb):=by
 intro δ s σ H D I h;refine wpAny_For (bc (hi δ s σ H _ I h) λv s1 h1=>bc h1 λWI s2 h2=>?_) hs;have⟨it,fp,tn,J,H2,e,I2,T,st2,f2,W,⟨m0,w0⟩,turn⟩:=h2;subst e;have QZ:∀{H':Hp},(∀b∈fp,H' b=none)->∀b∈fp,tO X δ H' b:=λhn b hb=>⟨hn b hb,(f2 b hb).2⟩;refine codeAny_forLoop_any (λn s'=>∃i σ' H',Inv X δ σ' H' s'/\tn i s'.heap/\(∀b∈fp,H' b=none)/\W i n σ' H') ?_ m0 ⟨0,σ,H2,I2,st2,λb hb=>(f2 b hb).1,w0⟩;rintro n s3 ⟨i,σ3,H3,I3,st3,fr3,w3⟩;rcases turn i n σ3 H3 w3 with ⟨stop,qn⟩| ⟨go,N,hN,step⟩
 ·refine wpAny_passesOwn hp (bc (T.done X rfl rfl rfl hc i δ s3 σ3 H3 X.xe I3 (QZ fr3) st3 stop) λr s4 xz=>?_);have⟨hr,I4⟩:=xz;subst hr;exact wpAny_execs_nil ⟨σ3,H3,I4,qn⟩
 ·refine wpAny_passesOwn hp (bc (T.item X rfl rfl rfl hc i δ s3 σ3 H3 X.xe I3 (QZ fr3) st3 go) λr s4 xz=>?_);have⟨u,hr,h4⟩:=xz;subst hr;refine wpAny_passesOwn hp (bc h4 λ_ s5 xz=>?_);have⟨x,H5,I5,r5,y5,YU,WW⟩:=xz;have I5':=I5.pinned (QZ WW) (T.obj _ _ YU);refine wpAny_passesOwn hp (bc (hg _ s5 σ3 H5 x u _ I5' r5 (step x H5 y5)) λ_ s6 xz=>?_);have⟨σ6,H6,I6,q6⟩:=xz;refine wpAny_passesOwn hp (bc (hb _ s6 σ6 H6 _ I6 q6) λf s7 q7=>?_);have again:∀{σ7:St} {H7:Hp},Inv X (δ++wJ fp s5.heap) σ7 H7 s7->N σ7 H7->∃m,m < n/\∃i σ' H',Inv X δ σ' H' s7/\tn i s7.heap/\(∀b∈fp,H' b=none)/\W i m σ' H':=λ{σ7 H7} I7 n7=>by have⟨m',hm,w7⟩:=hN σ7 H7 n7;refine⟨m',hm,i+1,σ7,H7,I7.jO,T.keep _ _ _ YU λb hb o e=>(I7.pin (b,o) (aaH _ (aaH _ (eV hb e)))).1,λb hb=>?_,w7⟩;have⟨o,e,d⟩:=T.obj _ _ YU b hb;exact(I7.pin (b,o) (aaH _ (aaH _ (eV hb e)))).2.1
  cases f with
  | next=>have⟨σ7,H7,I7,n7⟩:=q7;exact again I7 n7
  | cont=>have⟨σ7,H7,I7,n7⟩:=q7;exact again I7 n7
  | brk=>have⟨σ7,H7,I7,q7⟩:=q7;exact⟨σ7,H7,I7.jO,q7⟩
  | ret v=>have⟨x7,σ7,H7,I7,r7,q7⟩:=q7;exact⟨x7,σ7,H7,I7.jO,r7,q7⟩
end
abbrev R2:=V->V->Hp->VK->Prop
variable{r:R2}
def iC(X:Cx)(f:Value->Value->Sem Value)(r:R2):Prop:=
 ∀(δ:List (Addr×Obj)) (s:Shared) (σ:St) (H:Hp) (x y:V) (v u:Value) (Q:VK),Inv X δ σ H s->ax x v->ax y u->r x y H Q->
  wpAny (model X.prog X.w) X.A (f v u) (EP X δ σ Q) X.xe s
def Ww(X:Cx)(f:Value->Sem Value)(r:V->Hp->VK->Prop):Prop:=
 ∀(δ:List (Addr×Obj)) (s:Shared) (σ:St) (H:Hp) (x:V) (v:Value) (Q:VK),Inv X δ σ H s->ax x v->r x H Q->
  wpAny (model X.prog X.w) X.A (f v) (EP X δ σ Q) X.xe s
def dG(X:Cx)(f:Value)(r:List V->Hp->VK->Prop):Prop:=
 ∀(δ:List (Addr×Obj)) (s:Shared) (σ:St) (H:Hp) (xs:List V) (us:List Value) (Q:VK),Inv X δ σ H s->aj xs us->r xs H Q->
  wpAny (model X.prog X.w) X.A (call f us) (EP X δ σ Q) X.xe s
def Vh(r:R2)(ta tb:TE):TE:=λσ H Q=>ta σ H λx H1=>tb σ H1 λy H2=>r x y H2 Q
def tUn(r:V->Hp->VK->Prop)(ta:TE):TE:=λσ H Q=>ta σ H λx H1=>r x H1 Q
def rI(C:Int->Int->Prop)(g:Int->Int->V):R2:=λx y H Q=>∃i j,x= .int i/\y= .int j/\C i j/\Q (g i j) H
def zH(g:Int->Int->V):R2:=λx y H Q=>∃i j,x= .int i/\y= .int j/\Q (g i j) H
def rU(g:Int->V):V->Hp->VK->Prop:=λx H Q=>∃i,x= .int i/\Q (g i) H
section
variable{a b:Expr}{tb tc:TE}
def Rm(ha:PE X a ta)(hb:PE X b tb){H:Hp}{R:V->V->Hp->Prop}(I:Inv X δ σ H s)
  (h:ta σ H λx H1=>tb σ H1 λy H2=>R x y H2)
  (hf:∀v u s2 x y H2,Inv X δ σ H2 s2->ax x v->ax y u->R x y H2->wpAny (model X.prog X.w) X.A (f v u) Q X.xe s2):
  wpAny (model X.prog X.w) X.A (eval a X.env) (λv s₁=>wpAny (model X.prog X.w) X.A (eval b X.env) (λu s₂=>wpAny (model X.prog X.w) X.A (f v u) Q X.xe s₂) X.xe s₁) X.xe s:=by
 refine bc (ha δ s σ H _ I h) λv s1 xz=>?_;have⟨x,H1,I1,r1,q1⟩:=xz;refine bc (hb δ s1 σ H1 _ I1 q1) λu s2 xz=>?_;have⟨y,H2,I2,r2,q2⟩:=xz;exact hf v u s2 x y H2 I2 r1 r2 q2
def Uy{op:Operator}(ho:iC X (binaryOp op) r)(ha:PE X a ta)(hb:PE X b tb):PE X (.BinOp a op b pos) (Vh r ta tb):=by intro δ s σ H Q I h;exact wpAny_BinOp (Rm ha hb I h λv u s2 x y H2 I2 rx ry q=>ho δ s2 σ H2 x y v u Q I2 rx ry q)
def U_{op:UnaryOp}{r:V->Hp->VK->Prop}(ho:Ww X (unaryOp op) r)(ha:PE X a ta):PE X (.UnaryOp op a pos) (tUn r ta):=by intro δ s σ H Q I h;exact UnaryOp_ (bc (ha δ s σ H _ I h) λv s1 ⟨x,H1,I1,r1,q1⟩=>ho δ s1 σ H1 x v Q I1 r1 q1)
def W2{C:Int->Int->Prop}{g:Int->Int->Int}
  (rule:∀(i j:Int) (t u:Tok) (s:Shared) (Q:Value->Shared->Prop) (E:Value->Shared->Prop),C i j->Q (.int (g i j) s.toks) {s with toks:=s.toks+1}->wpAny (model X.prog X.w) X.A (f (.int i t) (.int j u)) Q E s):
  iC X f (rI C λi j=>.int (g i j)):=by
 intro δ s σ H x y v u Q I rx ry h;have⟨i,j,rfl,rfl,hc,q⟩:=h;have⟨t,rfl⟩:=rx;have⟨t',rfl⟩:=ry;exact rule i j t t' s _ _ hc ⟨.int (g i j),H,I.tok _,⟨_,rfl⟩,q⟩
def SU{g:Int->Int->Int}
  (rule:∀(i j:Int) (t u:Tok) (s:Shared) (Q:Value->Shared->Prop) (E:Value->Shared->Prop),Q (.int (g i j) s.toks) {s with toks:=s.toks+1}->wpAny (model X.prog X.w) X.A (f (.int i t) (.int j u)) Q E s):
  iC X f (zH λi j=>.int (g i j)):=by
 intro δ s σ H x y v u Q I rx ry h;have⟨i,j,rfl,rfl,q⟩:=h;have⟨t,rfl⟩:=rx;have⟨t',rfl⟩:=ry;exact rule i j t t' s _ _ ⟨.int (g i j),H,I.tok _,⟨_,rfl⟩,q⟩
def Nq{g:Int->Int->Bool}
  (rule:∀(i j:Int) (t u:Tok) (s:Shared) (Q:Value->Shared->Prop) (E:Value->Shared->Prop),Q (.bool (g i j)) s->wpAny (model X.prog X.w) X.A (f (.int i t) (.int j u)) Q E s):
  iC X f (zH λi j=>.bl (g i j)):=by
 intro δ s σ H x y v u Q I rx ry h;have⟨i,j,rfl,rfl,q⟩:=h;have⟨t,rfl⟩:=rx;have⟨t',rfl⟩:=ry;exact rule i j t t' s _ _ ⟨.bl (g i j),H,I,rfl,q⟩
def CM(i j:Int):Prop:=0<=j/\j<=1000000/\i.natAbs < 2 ^ 64
def PV:iC X (binaryOp .Add) (zH λi j=>.int (i+j)):=SU λ_ _ _ _ _ _ _ q=>add_int q
def Qk:iC X (binaryOp .Sub) (zH λi j=>.int (i - j)):=SU λ_ _ _ _ _ _ _ q=>sub_int q
def Pt:iC X (binaryOp .Mod) (rI (λ_ j=>0 < j) λi j=>.int (i % j)):=W2 λi j _ _ _ _ _ hc q=>by have h1:(0:Int) < j:=hc;exact mod_int' () (by rw[ab6 i ()];exact q)
def Po:iC X (binaryOp .Pow) (rI CM λi j=>.int (i ^ j.toNat)):=W2 λ_ _ _ _ _ _ _ hc q=>pow_int_small hc.1 hc.2.1 hc.2.2 q
def unI{f:Value->Sem Value}{g:Int->Int}
  (rule:∀(i:Int) (t:Tok) (s:Shared) (Q:Value->Shared->Prop) (E:Value->Shared->Prop),Q (.int (g i) s.toks) {s with toks:=s.toks+1}->wpAny (model X.prog X.w) X.A (f (.int i t)) Q E s):
  Ww X f (rU λi=>.int (g i)):=by
 intro δ s σ H x v Q I rx h;have⟨i,rfl,q⟩:=h;have⟨t,rfl⟩:=rx;exact rule i t s _ _ ⟨.int (g i),H,I.tok _,⟨_,rfl⟩,q⟩
def P5:Ww X (unaryOp .USub) (rU λi=>.int (-i)):=unI λ_ _ _ _ _ q=>neg_int q
end
def Vu:V->V->Bool
 | .aE,.aE=>true| .aE,.int _=>true| .int _,.aE=>true| .aE,.bl _=>true| .bl _,.aE=>true| .aE,.str _=>true| .str _,.aE=>true
 | .int _,.int _=>true| .bl _,.bl _=>true| .str _,.str _=>true| .Hw _,.Hw _=>true
 | .int _,.str _=>true| .str _,.int _=>true| .bl _,.str _=>true| .str _,.bl _=>true
 | _,_=>false
def rEq:R2:=λx y H Q=>Vu x y=true/\Q (.bl (decide (x=y))) H
def rNe:R2:=λx y H Q=>Vu x y=true/\Q (.bl (!decide (x=y))) H
def Fg{i j:Int}:decide (V.int i=V.int j)=(i==j):=by rw[ab0];simp
def K_{i j:Bool}:decide (V.bl i=V.bl j)=(i==j):=by rw[ab0];simp
def D4{i j:Str}:decide (V.str i=V.str j)=(i==j):=by rw[ab0];simp
def Ff{i j:Array UInt8}:decide (V.Hw i=V.Hw j)=(i.toList==j.toList):=by rw[ab0];cases i;cases j;simp
section
variable{a b:Expr}{tb tc:TE}
def aC{H:Hp}{Q:VK}{k k':Bool}(I:Inv X δ σ H s)(q:Q (.bl k) H)(e:k=k'):EP X δ σ Q (.bool k') s:=by subst e;exact⟨.bl k,H,I,rfl,q⟩
def OC:iC X (compareOp .Eq) rEq:=by
 intro δ s σ H x y v u Q I rx ry h;have⟨hs,q⟩:=h;cases x with
 | aE=>
  cases rx;cases y with
  | aE=>cases ry;exact PySem.EqNone.eq_none_none (aC I q (by simp))
  | bl j=>cases ry;exact PySem.EqNone.eq_none_bool (aC I q (by simp))
  | int j=>have⟨t',rfl⟩:=ry;exact PySem.EqNone.eq_none_int (aC I q (by simp))
  | str j=>have⟨t',rfl⟩:=ry;exact PySem.EqNone.eq_none_str (aC I q (by simp))
  | _=>exact aaK (show false=true from hs) aaD
 | bl i=>
  cases rx;cases y with
  | aE=>cases ry;exact PySem.EqNone.eq_bool_none (aC I q (by simp))
  | bl j=>cases ry;exact eq_bool (aC I q K_)
  | str j=>have⟨t',rfl⟩:=ry;exact PySem.EqMixed.eq_bool_str (aC I q (by simp))
  | _=>exact aaK (show false=true from hs) aaD
 | int i=>
  have⟨t,rfl⟩:=rx;cases y with
  | aE=>cases ry;exact PySem.EqNone.eq_int_none (aC I q (by simp))
  | int j=>have⟨t',rfl⟩:=ry;exact eq_int (aC I q Fg)
  | str j=>have⟨t',rfl⟩:=ry;exact PySem.EqMixed.eq_int_str (aC I q (by simp))
  | _=>exact aaK (show false=true from hs) aaD
 | str i=>
  have⟨t,rfl⟩:=rx;cases y with
  | aE=>cases ry;exact PySem.EqNone.eq_str_none (aC I q (by simp))
  | bl j=>cases ry;exact PySem.EqMixed.eq_str_bool (aC I q (by simp))
  | int j=>have⟨t',rfl⟩:=ry;exact PySem.EqMixed.eq_str_int (aC I q (by simp))
  | str j=>have⟨t',rfl⟩:=ry;exact eq_str (aC I q D4)
  | _=>exact aaK (show false=true from hs) aaD
 | Hw i=>
  have⟨t,rfl⟩:=rx;cases y with
  | Hw j=>have⟨t',rfl⟩:=ry;exact PySem.W.eq_bytes (aC I q Ff)
  | _=>exact aaK (show false=true from hs) aaD
 | _=>cases y <;> exact aaK (show false=true from hs) aaD
def Vf:iC X (compareOp .NotEq) rNe:=by
 intro δ s σ H x y v u Q I rx ry h;have⟨hs,q⟩:=h;cases x with
 | aE=>
  cases rx;cases y with
  | aE=>cases ry;exact PySem.EqNone.ne_none_none (aC I q (by simp))
  | bl j=>cases ry;exact PySem.EqNone.ne_none_bool (aC I q (by simp))
  | int j=>have⟨t',rfl⟩:=ry;exact PySem.EqNone.ne_none_int (aC I q (by simp))
  | str j=>have⟨t',rfl⟩:=ry;exact PySem.EqNone.ne_none_str (aC I q (by simp))
  | _=>exact aaK (show false=true from hs) aaD
 | bl i=>
  cases rx;cases y with
  | aE=>cases ry;exact PySem.EqNone.ne_bool_none (aC I q (by simp))
  | bl j=>cases ry;exact ne_bool (aC I q (aaZ not K_))
  | str j=>have⟨t',rfl⟩:=ry;exact PySem.EqMixed.ne_bool_str (aC I q (by simp))
  | _=>exact aaK (show false=true from hs) aaD
 | int i=>
  have⟨t,rfl⟩:=rx;cases y with
  | aE=>cases ry;exact PySem.EqNone.ne_int_none (aC I q (by simp))
  | int j=>have⟨t',rfl⟩:=ry;exact ne_int (aC I q (aaZ not Fg))
  | str j=>have⟨t',rfl⟩:=ry;exact PySem.EqMixed.ne_int_str (aC I q (by simp))
  | _=>exact aaK (show false=true from hs) aaD
 | str i=>
  have⟨t,rfl⟩:=rx;cases y with
  | aE=>cases ry;exact PySem.EqNone.ne_str_none (aC I q (by simp))
  | bl j=>cases ry;exact PySem.EqMixed.ne_str_bool (aC I q (by simp))
  | int j=>have⟨t',rfl⟩:=ry;exact PySem.EqMixed.ne_str_int (aC I q (by simp))
  | str j=>have⟨t',rfl⟩:=ry;exact ne_str (aC I q (aaZ not D4))
  | _=>exact aaK (show false=true from hs) aaD
 | Hw i=>
  have⟨t,rfl⟩:=rx;cases y with
  | Hw j=>have⟨t',rfl⟩:=ry;exact PySem.W.ne_bytes (aC I q (aaZ not Ff))
  | _=>exact aaK (show false=true from hs) aaD
 | _=>cases y <;> exact aaK (show false=true from hs) aaD
def Ig:iC X (compareOp .Lt) (zH λi j=>.bl (decide (i < j))):=Nq λ_ _ _ _ _ _ _ q=>lt_int q
def KJ:iC X (compareOp .LtE) (zH λi j=>.bl (decide (i<=j))):=Nq λ_ _ _ _ _ _ _ q=>le_int q
def VN:iC X (compareOp .Gt) (zH λi j=>.bl (decide (j < i))):=Nq λ_ _ _ _ _ _ _ q=>gt_int q
def Vx:iC X (compareOp .GtE) (zH λi j=>.bl (decide (j<=i))):=Nq λ_ _ _ _ _ _ _ q=>ge_int q
def BV:iC X (compareOp .Is) (λx y H Q=>y= .aE/\Q (.bl (decide (x= .aE))) H):=by
 intro δ s σ H x y v u Q I rx ry h;have⟨rfl,q⟩:=h;cases ry;refine is_none_gen (aC I q ?_)
 cases x <;> first
  | (cases rx;rfl)
  | (have⟨t,rfl⟩:=rx;rfl)
def E7:iC X (compareOp .IsNot) (λx y H Q=>y= .aE/\Q (.bl (!decide (x= .aE))) H):=by
 intro δ s σ H x y v u Q I rx ry h;have⟨rfl,q⟩:=h;cases ry;refine isnot_none_gen (aC I q ?_)
 cases x <;> first
  | (cases rx;rfl)
  | (have⟨t,rfl⟩:=rx;rfl)
def iC.or{r':R2}(h:iC X f r)(h':iC X f r'):iC X f (λx y H Q=>r x y H Q\/r' x y H Q):=by
 intro δ s σ H x y v u Q I rx ry q;rcases q with q| q
 ·exact h δ s σ H x y v u Q I rx ry q
 ·exact h' δ s σ H x y v u Q I rx ry q
def dZ(b:Expr)(h:op≠ .In:=by decide)(h2:op≠ .NotIn:=by decide):behindInMarks op b=false:=by
 have e1:(op==CmpOp.In)=false:=by cases op <;> first| rfl| exact aaK rfl h
 have e2:(op==CmpOp.NotIn)=false:=by cases op <;> first| rfl| exact aaK rfl h2
 cases b <;> simp[behindInMarks,e1,e2]
def Mp(ho:iC X (compareOp op) r)(ha:PE X a ta)(hb:PE X b tb)(hm:behindInMarks op b=false):PE X (.Compare a [op] [b] pos) (Vh r ta tb):=by intro δ s σ H Q I h;exact wpAny_Compare1 (Rm ha hb I h λv u s2 x y H2 I2 rx ry q=>ho δ s2 σ H2 x y v u Q I2 rx ry q) hm
def Us(t:TE):TT:=λσ H Q=>t σ H λx H'=>∃k,x= .bl k/\Q k H'
def MS(ho:iC X (compareOp op) r)(ha:PE X a ta)(hb:PE X b tb)(hm:behindInMarks op b=false):PT X (.Compare a [op] [b] pos) (Us (Vh r ta tb)):=by
 intro δ s σ H Q I h
 refine wpAny_isTrue_Compare1 (bc (ha δ s σ H _ I h) fun v s1 ⟨x,H1,I1,r1,q1⟩=>bc (hb δ s1 σ H1 _ I1 q1) fun u s2 ⟨y,H2,I2,r2,q2⟩=>
  bc (ho δ s2 σ H2 x y v u _ I2 r1 r2 q2) fun c s3 ⟨z,H3,I3,r3,k,e,q3⟩=>?_) hm
 subst e;cases r3;exact wpAny_truthy_bool ⟨H3,I3,q3⟩
def KP(r r':R2)(ta tb tc:TE):TE:=λσ H Q=>ta σ H λx H1=>tb σ H1 λy H2=>r x y H2 λz H3=>∃k,z= .bl k/\
 (if k=true then tc σ H3 λw' H4=>r' y w' H4 Q else Q (.bl false) H3)
def J9{P1:CmpOp}{r':R2}(ho:iC X (compareOp op) r)(ly:iC X (compareOp P1) r')(ha:PE X a ta)(hb:PE X b tb)(hc:PE X c tc)
  (hm:lastMarks [op,P1] [b,c]=false:=by with_unfolding_all rfl):PE X (.Compare a [op,P1] [b,c] pos) (KP r r' ta tb tc):=by
 intro δ s σ H Q I h
 refine Compare_chain (bc (ha δ s σ H _ I h) fun v s1 ⟨x,H1,I1,r1,q1⟩=>chain_link (bc (hb δ s1 σ H1 _ I1 q1) fun u s2 ⟨y,H2,I2,r2,q2⟩=>
  bc (ho δ s2 σ H2 x y v u _ I2 r1 r2 q2) fun d s3 ⟨z,H3,I3,r3,k,e,q3⟩=>?_)) hm
 subst e;cases r3;refine wpAny_truthy_bool ?_;cases k with
 | false=>exact ite_ff ⟨.bl false,H3,I3,rfl,q3⟩
 | true=>exact ite_tt (chain_last (bc (hc δ s3 σ H3 _ I3 q3) λw' s4 ⟨z',H4,I4,r4,q4⟩=>ly δ s4 σ H4 y z' u w' Q I4 r2 r4 q4))
def oW:(sizeLine:Nat) < 2 ^ 63:=by rw[sizeLine_eq];decide
def DL:iC X (binaryOp .Add) (λx y H Q=>∃i j,x= .str i/\y= .str j/\i.length+j.length<=sizeLine/\Q (.str (i++j)) H):=by intro δ s σ H x y v u Q I rx ry h;have⟨i,j,rfl,rfl,hz,q⟩:=h;have⟨t,rfl⟩:=rx;have⟨t',rfl⟩:=ry;exact add_str (λt' tk=>⟨.str (i++j),H,I.tok _,⟨_,rfl⟩,q⟩) hz
def lN{x:V}(r:aj [x] us):∃u,us=[u]/\ax x u:=by
 cases r with
 | cons r1 r2=>cases r2;exact⟨_,rfl,r1⟩
def Pb{x y:V}(r:aj [x,y] us):∃u w',us=[u,w']/\ax x u/\ax y w':=by
 cases r with
 | cons r1 r2=>
  cases r2 with
  | cons r3 r4=>cases r4;exact⟨_,_,rfl,r1,r3⟩
def K0:dG X (.builtin "abs") (λxs H Q=>∃i,xs=[.int i]/\Q (.int (if i < 0 then -i else i)) H):=by intro δ s σ H xs us Q I r h;have⟨i,rfl,q⟩:=h;have⟨u,rfl,t,rfl⟩:=lN r;exact call_abs_int λu tk=>⟨.int (if i < 0 then -i else i),H,I.tok _,⟨_,rfl⟩,q⟩
end
structure Bi(h:Heap)(x dx C:Addr)(mA:Str->Option Value):Prop where
 obj:h.get? x=some (PySem.W.instObj C dx)
 ns:h.Ns1 dx mA
 ne:dx≠x
def vt(n:h.Ns1 dx mA):∃od,h.get? dx=some od/\∀name,PySem.W.lookIn name od=some (mA name):=by
 have⟨o,es,ep,ho,hd,hk,_,hm⟩:=n;refine⟨o,ho,λname=>?_⟩;have e:=hm name;unfold nsFind findBy at e;rw[<-Array.find?_toList]at e;unfold PySem.W.lookIn;rw[hd];dsimp only;split
 ·rename_i y q;rw[q]at e;exact aaZ some e
 ·rename_i q;rw[q]at e;have a:es.toList.any (·.refKey)=false:=by rw[List.any_eq_false];intro y hy;have⟨z,t,ZS⟩:=hk y (Array.mem_toList_iff.mp hy);simp[DictEntry.refKey,ZS]
  have a':¬es.toList.any (·.refKey)=true:=by rw[a];exact aaD
  rw[aaF a'];exact aaZ some e
def Bi.look{x:Addr}(I:Bi h x dx C mA):∃od,PySem.W.InstAt h x (PySem.W.instObj C dx) C (some od)/\∀name,PySem.W.lookIn name od=some (mA name):=
 let ⟨od,ho,hl⟩:=vt I.ns
 ⟨od,⟨I.obj,rfl,rfl,ho⟩,hl⟩
section
variable{K:tf}{x f:Addr}{name:Str}{v:Value}
def qF{expr:Bool}(X:K.In s.heap)(I:Bi s.heap x dx C mA)(hg:PySem.W.plainGet K C name=true)(hh:PySem.W.hasDictIn K C=true)
  (ha:PySem.W.findIn K (.ref C) name=some none) (hv:mA name=some v) (hv':PySem.W.handedIn v=true) (h:Q v {s with toks:=s.toks+1}):
  wpAny (model prog w) A (getAttr (.ref x) name expr) Q E s:=by
 have⟨od,J,hl⟩:=I.look;exact PySem.W.get_value X J (PySem.W.plainGet_of hg).1 (PySem.W.findObj_own hh ha rfl (by rw[hl,hv])) hv' h
def JO{pl:Sem Bool}{Q:Value×List Value->Shared->Prop}(X:K.In s.heap)(I:Bi s.heap x dx C mA)(hg:PySem.W.plainGet K C name=true)
  (hf:PySem.W.findIn K (.ref C) name=some (some (.ref f))) (ht:PySem.W.isFn K (.ref f)=true) (hv:mA name=none) (h:Q (.ref f,[.ref x]) s):
  wpAny (model prog w) A (getMethod (.ref x) name pl) Q E s:=by
 have⟨od,J,hl⟩:=I.look;exact PySem.W.method_fn X J (PySem.W.plainGet_of hg).1 (PySem.W.plainGet_of hg).2 hf (abp.mp ht) (by show(PySem.W.lookIn name od).map (·.isSome)=some false;rw[hl,hv];rfl) h
def NS{ns:List Str}{Q:Unit->Shared->Prop}(X:K.In s.heap)(I:Bi s.heap x dx C mA)
  (hs:PySem.W.findIn K (.ref C) "__setattr__"=some (some (.builtin "object.__setattr__"))) (hp:PySem.W.plainOver K C=true) (ht:PySem.W.takerIn K C name=some none) (hh:PySem.W.hasDictIn K C=true)
  (hw:PySem.Within mA ns) (hsz:ns.length<=sizeLine)
  (h:∀h',Bi h' x dx C (λy=>if y=name then some v else mA y)->Heap.SameBut dx s.heap h'->Q Unit.unit {s with heap:=h',toks:=s.toks+2}):
  wpAny (model prog w) A (setAttr (.ref x) name v) Q E s:=by
 have⟨od,J,hl⟩:=I.look;refine PySem.W.set_plain X J hs (PySem.W.osa_open (s:={s with toks:=s.toks+1}) (r:=none) X J hp ht λb=>?_);have⟨cd,hc,NJ⟩:=PySem.W.any_some hh;have hx:s.heap.get? x=some ⟨.ref C,some dx,.plain,#[]⟩:=I.obj;refine aaj (aaI (aaj (aaj (wpAny_loadPart hx (aaj (PySem.W.Looks.here (s:={s with toks:=s.toks+1}) (PySem.W.looks_clsIn X hc) ?_))))));rw[NJ];refine aaI (a:=some dx) (aaj (aaI (aaj ?_)));refine wpAny_nsSet1 (s:={s with toks:=s.toks+1}) I.ns λh' Sn R7=>?_;have⟨oD,esD,epD,UR,SW,Pd⟩:=Sn.count (PySem.Within.cons name v hw);refine aaj (wpAny_lookBehind UR (by rw[SW];exact pastItsLine_dict (aax Pd (by rw[aaL];omega))) ?_);exact aaI (h _ ⟨(R7.2 _ (Ne.symm I.ne)).trans I.obj,Sn,I.ne⟩ R7)
def KU{R:Result->Shared->Prop}{vs:List Value}(X:K.In s.heap)(hm:PySem.W.makesIn K C=true)
  (hi:PySem.W.findIn K (.ref C) "__init__"=some (some (.ref f))) (hf:PySem.W.typeIn K (.ref f)=some (.type "function"))
  (h:codeAny (model prog w) (A.under (.builtin "type.__call__" ⟨.ref C::vs,kw⟩)) (.call (.ref f) ⟨.ref (s.heap.objs.size+1)::vs,kw⟩) (PySem.W.InitBack (s.heap.objs.size+1) R)
   {s with heap:=(s.heap.push PySem.W.emptyDict).push (PySem.W.instObj C s.heap.objs.size)}):
  codeAny (model prog w) A (.call (.ref C) ⟨vs,kw⟩) R s:=by
 have⟨hh,g,d,t,os⟩:=s;exact PySem.W.make_core (PySem.W.makes_of X hm) (PySem.W.looks_findIn X hi) (λself=>PySem.W.bind_fn X self hf) (.inl rfl) h
end
def h7(f:Str)(v:V):List (Str×V)->List (Str×V)
 | []=>[(f,v)]
 | (g,x)::r=>if g=f then (g,v)::r else (g,x)::h7 f v r
def jZ(f g:Str)(v:V):∀fs:List (Str×V),(h7 f v fs).lookup g=if g=f then some v else fs.lookup g
 | []=>by
  show List.lookup g [(f,v)]=_;by_cases h:g=f
  ·have hb:(g==f)=true:=abp.mpr h;simp only[List.lookup,hb,if_pos h]
  ·have hb:(g==f)=false:=beq_eq_false_iff_ne.mpr h;simp only[List.lookup,hb,if_neg h]
 | (k,x)::r=>by
  have ih:=jZ f g v r;rw[show h7 f v ((k,x)::r)=(if k=f then (k,v)::r else (k,x)::h7 f v r) from rfl];by_cases hk:k=f
  ·rw[aay hk];by_cases h:g=k
   ·have hb:(g==k)=true:=abp.mpr h;simp only[List.lookup,hb,if_pos (h.trans hk)]
   ·have hb:(g==k)=false:=beq_eq_false_iff_ne.mpr h;simp only[List.lookup,hb,if_neg (λe:g=f=>h (e.trans hk.symm))]
  ·rw[aaF hk];by_cases h:g=k
   ·have hb:(g==k)=true:=abp.mpr h;simp only[List.lookup,hb,if_neg (λe:g=f=>hk (h.symm.trans e))]
   ·have hb:(g==k)=false:=beq_eq_false_iff_ne.mpr h;simp only[List.lookup,hb];exact ih
def oR(f:Str)(v:V):∀fs:List (Str×V),f∈(h7 f v fs).map (·.1)/\∀g,g∈fs.map (·.1)->g∈(h7 f v fs).map (·.1)
 | []=>⟨by simp[h7],λg h=>by simp at h⟩
 | (k,x)::r=>by
  have⟨i1,i2⟩:=oR f v r;rw[show h7 f v ((k,x)::r)=(if k=f then (k,v)::r else (k,x)::h7 f v r) from rfl];by_cases hk:k=f
  ·rw[aay hk];subst hk;exact⟨by simp,λg h=>by simpa using h⟩
  ·rw[aaF hk];refine⟨?_,λg h=>?_⟩
   ·rw[aa0];exact aae _ i1
   ·rw[aa0]at h⊢;rcases aaG.mp h with e| e
    ·exact aaG.mpr (.inl e)
    ·exact aae _ (i2 g e)
def pQ(f:Str)(v:V):∀fs:List (Str×V),(h7 f v fs).length<=fs.length+1
 | []=>by simp[h7]
 | (k,x)::r=>by
  have ih:=pQ f v r;rw[show h7 f v ((k,x)::r)=(if k=f then (k,v)::r else (k,x)::h7 f v r) from rfl];by_cases hk:k=f
  ·rw[aay hk,aaL,aaL];omega
  ·rw[aaF hk,aaL,aaL];omega
def gL.some_of{o:Option Value}(r:gL (some v) o):∃u,o=some u/\ax v u:=by
 cases o with
 | none=>exact(show False from r).elim
 | some u=>exact⟨u,rfl,r⟩
def gL.none_of{o:Option Value}(r:gL none o):o=none:=by
 cases o with
 | none=>rfl
 | some u=>exact(show False from r).elim
def vE(r:ax v u):PySem.W.handedIn u=true:=by
 cases v with
 | aE=>cases(show u=Value.none from r);rfl
 | bl b=>cases(show u=Value.bool b from r);rfl
 | int i=>have⟨t,e⟩:=(show∃t,u=Value.int i t from r);cases e;rfl
 | str x=>have⟨t,e⟩:=(show∃t,u=Value.str x t from r);cases e;rfl
 | Hw b=>have⟨t,e⟩:=(show∃t,u=Value.bytes b t from r);cases e;rfl
 | Qz b=>have⟨t,e⟩:=(show∃t,u=Value.float b t from r);cases e;rfl
 | ref a=>cases(show u=Value.ref a from r);rfl
 | ty n=>cases(show u=Value.type n from r);rfl
section
variable{H H':Hp}{fs HA:List (Str×V)}
def qy(ay:jD P w H h)(e:H a=some (.ins C dx fs)):∃mA,Bi h a dx C mA/\(∀f,gL (fs.lookup f) (mA f))/\PySem.Within mA (fs.map (·.1))/\fs.length<=1000/\H dx=some (.own a):=by have⟨d,z,ne,ob,mA,n,r,q⟩:=(show aM P w H h a (.ins C dx fs) from ay a _ e);exact⟨mA,⟨ob,n,ne⟩,r,q,z,d⟩
end
structure EF(K:tf)(C:Addr):Prop where
 pg:PySem.W.plainGet K C Str.empty=true
 hd:PySem.W.hasDictIn K C=true
 po:PySem.W.plainOver K C=true
 sa:PySem.W.findIn K (.ref C) "__setattr__"=some (some (.builtin "object.__setattr__"))
def EF.get{K:tf}{C:Addr}(c:EF K C)(f:Str):PySem.W.plainGet K C f=true:=c.pg
def iy(K:tf)(C:Addr)(f:Str):Prop:=PySem.W.findIn K (.ref C) f=some none
def iy.Tb{K:tf}{f:Str}(n:iy K C f):PySem.W.takerIn K C f=some none:=by unfold PySem.W.takerIn;rw[show PySem.W.findIn K (.ref C) f=some none from n];rfl
structure N7(K:tf)(C:Addr)(m:Str)(f:Addr):Prop where
 at_:PySem.W.findIn K (.ref C) m=some (some (.ref f))
 fn:PySem.W.isFn K (.ref f)=true
 kp:PySem.W.keepIn K (.ref f)=true
section
variable{H:Hp}{fs:List (Str×V)}{f:Str}
def Dk{b:Bool}(I:Inv X δ σ H s)(e:H a=some (.ins C dx fs))(c:EF X.K C)(n:iy X.K C f)(l:fs.lookup f=some v)
  (h:∀u s',Inv X δ σ H s'->ax v u->Q u s'):wpAny (model X.prog X.w) A (getAttr (.ref a) f b) Q E s:=by
 have⟨mA,O,r,_,_,_⟩:=qy I.ay e;have⟨u,hu,ru⟩:=gL.some_of (v:=v) (o:=mA f) (by rw[<-l];exact r f);exact qF I.iX O (c.get f) c.hd n hu (vE ru) (h u _ (I.tok _) ru)
def rA{m:Str}{g:Addr}{pl:Sem Bool}{Q:Value×List Value->Shared->Prop}(I:Inv X δ σ H s)(e:H a=some (.ins C dx fs))(c:EF X.K C)(k:N7 X.K C m g)(l:fs.lookup m=none)
  (h:Q (.ref g,[.ref a]) s):wpAny (model X.prog X.w) A (getMethod (.ref a) m pl) Q E s:=by
 have⟨mA,O,r,_,_,_⟩:=qy I.ay e;have hn:mA m=none:=gL.none_of (by rw[<-l];exact r m);exact JO I.iX O (c.get m) k.at_ k.fn hn h
def DJ{y:V}{Q:Unit->Shared->Prop}(I:Inv X δ σ H s)(e:H a=some (.ins C dx fs))(c:EF X.K C)(n:iy X.K C f)(hl:fs.length < 1000)(ry:ax y u)
  (h:∀s',Inv X δ σ (upd H a (.ins C dx (h7 f y fs))) s'->Q Unit.unit s'):wpAny (model X.prog X.w) A (setAttr (.ref a) f u) Q E s:=by
 have⟨mA,O,r,wi,_,ho⟩:=qy I.ay e;have hz:(fs.map (·.1)).length<=sizeLine:=by rw[aah,sizeLine_eq];omega
 refine NS I.iX O c.sa c.po n.Tb c.hd wi hz λh' O' sb=>h _ ?_;have hd:∃o,h'.get? dx=some o:=let ⟨o,_,_,e',_⟩:=O'.ns;⟨o,e'⟩
 refine I.write (x:=a) (e:=dx) (by rw[e];exact True.intro) (.inr ho) (λb q hb z=>(sb.2 b hb).trans z) hd ?_;refine⟨by rw[ω O.ne];exact ho,?_,O.ne,O'.obj,_,O'.ns,λg=>?_,λg hg=>?_⟩
 ·have:=pQ f y fs;omega
 ·show gL ((h7 f y fs).lookup g) (if g=f then some u else mA g);rw[jZ];by_cases q:g=f
  ·rw[aay q,aay q];exact ry
  ·rw[aaF q,aaF q];exact r g
 ·by_cases q:g=f
  ·rw[q];exact(oR f y fs).1
  ·refine(oR f y fs).2 g (wi g λz=>hg ?_);show(if g=f then some u else mA g)=none;rw[aaF q];exact z
def Inv.made(I:Inv X δ σ H s):Inv X δ σ (upd (upd H s.heap.objs.size (.own (s.heap.objs.size+1))) (s.heap.objs.size+1) (.ins C s.heap.objs.size []))
  {s with heap:=(s.heap.push PySem.W.emptyDict).push (PySem.W.instObj C s.heap.objs.size)}:=by
 have e1:(s.heap.push PySem.W.emptyDict).get? s.heap.objs.size=some PySem.W.emptyDict:=aaP s.heap rfl;have e2:((s.heap.push PySem.W.emptyDict).push (PySem.W.instObj C s.heap.objs.size)).get? (s.heap.objs.size+1)=some (PySem.W.instObj C s.heap.objs.size):=by have:=aaP (s.heap.push PySem.W.emptyDict) (o:=PySem.W.instObj C s.heap.objs.size) rfl;rwa[Heap.size_push]at this
 have e3:(s.heap.push PySem.W.emptyDict).Ns s.heap.objs.size (λ_=>none):=⟨PySem.W.emptyDict,#[],_,e1,rfl,(λe he=>absurd he (by simp)),λ_=>rfl⟩;have I1:=I.laid (a:=s.heap.objs.size) (o:=.own (s.heap.objs.size+1)) (h':=s.heap.push PySem.W.emptyDict) (t':=s.toks) (λb u q=>aal _ q) (aao _) ⟨_,e1⟩;refine I1.laid (a:=s.heap.objs.size+1) (o:=.ins C s.heap.objs.size []) (t':=s.toks) (λb u q=>aal _ q) (Nat.le_of_eq (Heap.size_push _ _)) ?_;have ne:s.heap.objs.size≠s.heap.objs.size+1:=aaM (abv _);refine⟨by rw[ω ne,Ι],abW _,ne,e2,λ_=>none,(Heap.Ns1.of_empty e3).at λo q=>aal _ q,λ_=>True.intro,λy hy=>aaK rfl hy⟩
def D7{env:Env}{f:Str}(hb:attributeBase e f env (eval e env)=eval e env)
  (h:wpAny (model prog w) A (eval e env) (λo s₁=>wpAny (model prog w) A (getAttr o f true) Q E s₁) E s):wpAny (model prog w) A (eval (.Attribute e f pos) env) Q E s:=
 Attribute_any_ h (by rw[arm_eval_Attribute,hb])
end
def XA(K:tf)(ta:TE)(f:Str):TE:=λσ H Q=>ta σ H λx H1=>∃a C dx fs v,x= .ref a/\H1 a=some (.ins C dx fs)/\EF K C/\iy K C f/\fs.lookup f=some v/\Q v H1
def X3(K:tf)(ta tv:TE)(f:Str):TS:=λD σ H=>tv σ H λy H1=>ta σ H1 λx H2=>∃a C dx fs,x= .ref a/\H2 a=some (.ins C dx fs)/\EF K C/\iy K C f/\fs.length < 1000/\
 D.nx σ (upd H2 a (.ins C dx (h7 f y fs)))
section
variable{o value:Expr}{f:Str}{pos' ur:Pos}{tv:TE}
def Qv(he:PE X e ta)(hb:attributeBase e f X.env (eval e X.env)=eval e X.env):PE X (.Attribute e f pos) (XA X.K ta f):=by intro δ s σ H Q I h;refine D7 hb (bc (he δ s σ H _ I h) λu s1 xz=>?_);have⟨x,H1,I1,rx,a,C,dx,fs,v,ex,ea,c,n,l,q⟩:=xz;subst ex;obtain rfl:u=Value.ref a:=rx;exact Dk I1 ea c n l λu' s2 I2 ru=>⟨v,H1,I2,ru,q⟩
def QO(ha:PE X o ta)(hv:PE X value tv)(hs:swapsWith value (some (.Attribute o f pos')) pos.line X.env=pure false):PS X (.Assign [.Attribute o f pos'] value pos) (X3 X.K ta tv f):=by intro δ s σ H D I h;refine plainObj_wpAny_Assign_Attribute (bc (hv δ s σ H _ I h) fun u s1 ⟨y,H1,I1,ry,q⟩=>bc (ha δ s1 σ H1 _ I1 q) λov s2 xz=>?_) hs;have⟨x,H2,I2,rx,a,C,dx,fs,ex,ea,c,n,l,q2⟩:=xz;subst ex;obtain rfl:ov=Value.ref a:=rx;exact DJ I2 ea c n l ry λs3 I3=>⟨σ,_,I3,q2⟩
end
section
variable{H:Hp}{c:Value}{b:Bool}
inductive jI(K:tf)(H:Hp):V->Value->Prop where
 | aE:jI K H .aE (.type "NoneType")
 | bl (x:Bool):jI K H (.bl x) (.type "bool")
 | int (i:Int):jI K H (.int i) (.type "int")
 | str (x:Str):jI K H (.str x) (.type "str")
 | Qz (x:UInt64):jI K H (.Qz x) (.type "float")
 | lst {a:Addr} {xs:List V} (e:H a=some (.lst xs)):jI K H (.ref a) (.type "list")
 | wG {a:Addr} {o:Obj} {xs:List V} (e:H a=some (.wG o (.lst xs))):jI K H (.ref a) (.type "list")
 | tup {a:Addr} {xs:List V} (e:H a=some (.tup xs)):jI K H (.ref a) (.type "tuple")
 | dK {a:Addr} {Κ:List (Key×V)} (e:H a=some (.dK Κ)):jI K H (.ref a) (.type "dict")
 | dT {a:Addr} {Κ:List (List Key×V)} (e:H a=some (.dT Κ)):jI K H (.ref a) (.type "dict")
 | ins {a C dx:Addr} {fs:List (Str×V)} (e:H a=some (.ins C dx fs)) (cl:EF K C) (ha:PySem.W.findIn K (.ref C) "__class__"=some (some (.builtin "object.__class__")))
   (hn:PySem.W.specialIn K (.builtin "object.__class__") "__get__"=some (some (.builtin "getset_descriptor.__get__"))) (htk:PySem.W.takesIn K (.builtin "object.__class__")=some true)
   (hm:PySem.W.mroIn K C (.type "object")=some true):jI K H (.ref a) (.ref C)
def G9{x:V}{t:Value}(I:Inv X δ σ H s)(rx:ax x u)(ty:jI X.K H x t)(e:PySem.W.kitOne X.K t c=some b)(h:∀tk,Q (.bool b) {s with toks:=tk}):
  wpAny (model X.prog X.w) A (call (.builtin "isinstance") [u,c]) Q E s:=by
 cases ty with
 | aE=>cases(show u=Value.none from rx);exact PySem.W.kia_one PySem.W.kitx_none I.iX True.intro e nofun h
 | bl y=>cases(show u=Value.bool y from rx);exact PySem.W.kia_one PySem.W.kitx_bool I.iX True.intro e nofun h
 | int i=>have⟨t,q⟩:=(show∃t,u=Value.int i t from rx);cases q;exact PySem.W.kia_one PySem.W.kitx_int I.iX True.intro e nofun h
 | str y=>have⟨t,q⟩:=(show∃t,u=Value.str y t from rx);cases q;exact PySem.W.kia_one PySem.W.kitx_str I.iX True.intro e nofun h
 | Qz y=>have⟨t,q⟩:=(show∃t,u=Value.float y t from rx);cases q;exact PySem.W.kia_one PySem.W.kitx_float I.iX True.intro e nofun h
 | @lst a xs ea=>
  cases(show u=Value.ref a from rx);have⟨_,_,n,_,h1⟩:=(show aM X.prog X.w H s.heap a (.lst xs) from I.ay a _ ea);exact PySem.W.kia_one PySem.W.kitx_list I.iX ⟨_,h1,rfl⟩ e nofun h
 | @wG a ob xs ea=>
  cases(show u=Value.ref a from rx);have⟨_,_,_,n,_,h1⟩:=(show aM X.prog X.w H s.heap a (.wG ob (.lst xs)) from I.ay a _ ea);exact PySem.W.kia_one PySem.W.kitx_list I.iX ⟨_,h1,rfl⟩ e nofun h
 | @tup a xs ea=>
  cases(show u=Value.ref a from rx);have⟨_,_,_,p⟩:=(show aM X.prog X.w H s.heap a (.tup xs) from I.ay a _ ea);have⟨o,h1,h2,_⟩:=p;exact PySem.W.kia_one PySem.W.kitx_tuple I.iX ⟨o,h1,h2⟩ e nofun h
 | @dK a Κ ea=>
  cases(show u=Value.ref a from rx);have⟨_,_,vs,_,p⟩:=(show aM X.prog X.w H s.heap a (.dK Κ) from I.ay a _ ea);have⟨o,es,ep,h1,h2,_⟩:=p;exact PySem.W.kia_one PySem.W.kitx_dict I.iX ⟨o,h1,h2.1⟩ e nofun h
 | @dT a Κ ea=>
  cases(show u=Value.ref a from rx);have⟨_,_,xs,_,o,es,ep,h1,h2,_⟩:=(show aM X.prog X.w H s.heap a (.dT Κ) from I.ay a _ ea);exact PySem.W.kia_one PySem.W.kitx_dict I.iX ⟨o,h1,h2.1⟩ e nofun h
 | @ins a C dx fs ea cl ha hn htk hm=>
  cases(show u=Value.ref a from rx);have⟨mA,O,_⟩:=qy I.ay ea;have⟨od,J,_⟩:=O.look;exact PySem.W.kia_one (PySem.W.kitx_own (cl.get _) cl.hd ha hn htk hm) I.iX J e nofun h
end
structure bD(k:Nat)(A:Around):Prop where
 hd:A.handled=none
 dp:A.depth+3 * k+5 < recursionLimit
 un:A.units+16 * k+200 < cLine
def bD.mono{j k:Nat}(r:bD k A)(h:j<=k):bD j A:=⟨r.hd,by have:=r.dp;omega,by have:=r.un;omega⟩
def bD.deeper{k:Nat}(r:bD (k+1) A)(env:Env):bD k (A.deeper env):=
 ⟨r.hd,by have:=r.dp;show A.depth+1+3 * k+5 < _;omega,by have:=r.un;show A.units+3+16 * k+200 < _;omega⟩
def Du:(A.under (.builtin "type.__call__" ⟨.ref C::us,kw⟩)).depth=A.depth+1:=by
 first| rfl| simp[Around.under,Code.weight,Code.isCreation,Code.isGuard,Code.isCaller,Code.frames,Code.isFrame,guardIds]
def BO:(A.under (.builtin "type.__call__" ⟨.ref C::us,kw⟩)).units=A.units+1:=by
 first| rfl| simp[Around.under,Code.cUnits,Code.frames,Code.isFrame]
def bD.make{k:Nat}(r:bD (k+1) A)(C:Addr)(us:List Value)(kw:List (Str×Value)):bD k (A.under (.builtin "type.__call__" ⟨.ref C::us,kw⟩)):=
 ⟨r.hd,by have:=r.dp;rw[Du];omega,by have:=r.un;rw[BO];omega⟩
def bD.depth{k:Nat}(r:bD k A):A.depth < recursionLimit:=by have:=r.dp;omega
def bD.units{k:Nat}(r:bD k A):A.units+64 < cLine:=by have:=r.un;omega
def bD.C_{k:Nat}(r:bD k A):A.units < cLine:=by have:=r.un;omega
def Ph:TA:=λ_ H Q=>Q [] H
def O8(ta:TE)(tr:TA):TA:=λσ H Q=>ta σ H λx H1=>tr σ H1 λxs H2=>Q (x::xs) H2
section
def Jq:PA X [] Ph:=λ_ _ _ _ H Q I h=>Calls.spliced_nil ⟨[],H,I,.nil,h⟩
def xD(ha:PE X e te)(hr:PA X es t)(hs:starEach (e::es) X.env=(false,eval e X.env)::starEach es X.env:=by rfl):PA X (e::es) (O8 te t):=by intro pos δ s σ H Q I h;rw[hs];show wpAny _ _ (spliced ((false,eval e X.env)::backTo pos (starEach es X.env))) _ _ s;refine Calls.spliced_cons (bc (ha δ s σ H _ I h) λu s1 xz=>?_);have⟨x,H1,I1,r1,q1⟩:=xz;exact bc (hr pos δ s1 σ H1 _ I1 q1) λus s2 ⟨xs,H2,I2,r2,q2⟩=>⟨x::xs,H2,I2,.cons r1 r2,q2⟩
def Zi(t:TA):TE:=λσ H Q=>t σ H λxs H1=>xs.length<=sizeLine/\∀p,H1 p=none->Q (.ref p) (upd H1 p (.tup xs))
def ZW(t:TA):TE:=λσ H Q=>t σ H λxs H1=>xs.length<=sizeLine/\∀p,H1 p=none->Q (.ref p) (upd H1 p (.lst xs))
def QV{x1}(h:PA X es t):PE X (.Tuple es x1 pos) (Zi t):=by intro δ s σ H Q I hq;refine wpAny_Tuple_spliced (bc (h pos δ s σ H _ I hq) fun us s1 ⟨xs,H1,I1,r,z,q⟩=>⟨by rw[<-r.length];exact z,?_⟩);have hf:H1 s1.heap.objs.size=none:=I1.ay.fresh (aao _);refine⟨.ref s1.heap.objs.size,upd H1 s1.heap.objs.size (.tup xs),I1.laid (t':=s1.toks) (λb u e=>aal _ e) (aao _) ?_,rfl,q _ hf⟩;exact⟨z,us,r,⟨_,aaP _ rfl,rfl,_,rfl⟩⟩
def HY(h:PA X es t):PE X (.List es pos) (ZW t):=by intro δ s σ H Q I hq;refine wpAny_List_spliced (bc (h pos δ s σ H _ I hq) fun us s1 ⟨xs,H1,I1,r,z,q⟩=>⟨by rw[<-r.length];exact z,?_⟩);have hf:H1 s1.heap.objs.size=none:=I1.ay.fresh (aao _);refine⟨.ref s1.heap.objs.size,upd H1 s1.heap.objs.size (.lst xs),I1.laid (t':=s1.toks) (λb u e=>aal _ e) (aao _) ?_,rfl,q _ hf⟩;exact⟨z,us,0,r,aaP _ rfl⟩
end
abbrev Sp:=List V->Hp->VK->XK->Prop
variable{sp:Sp}
abbrev A1:=List Env->Hp->Shared->XK->Value->Shared->Prop
variable{CX:A1}
structure Dz(P:Program)(w:World)(K:tf)(mg:Str->Option Value)(base:Heap)(A:Around)(outer:List Env)(s:Shared)(H:Hp):Prop where
 frames:A.frames=some outer
 mod:Mod K mg base
 bs:∀b o,base.get? b=some o->s.heap.get? b=some o/\H b=none
 LY:base.objs.size<=s.heap.objs.size
 nJ:s.heap.FunFrames base outer
 NM:∀b∈lI outer,H b=none
 ay:jD P w H s.heap
 bare:AllBare s.gens
def CE(outer:List Env)(P:Program)(w:World)(H:Hp)(s:Shared)(Q:VK)(u:Value)(s':Shared):Prop:=
 ∃v H',s'.os=s.os/\AllBare s'.gens/\Un (lI outer) [] H H' s.heap s'.heap/\jD P w H' s'.heap/\ax v u/\Q v H'
def CR(CX:A1)(outer:List Env)(P:Program)(w:World)(H:Hp)(s:Shared)(Q:VK)(E:XK)(r:Result)(s':Shared):Prop:=
 match r with
 | .ok (.ret u)=>CE outer P w H s Q u s'
 | .ok _=>False
 | .error e=>CX outer H s E e s'
structure ah(P:Program)(w:World)(K:tf)(mg:Str->Option Value)(base:Heap)(CX:A1)(k:Nat)(f:Addr)(fd:FuncData)(ps:List Str)(sp:Sp):Prop where
 len:∀vs H Q E,sp vs H Q E->vs.length=ps.length
 run:∀(A:Around) (outer:List Env) (s:Shared) (H:Hp) (args:Args) (us:List Value) (vs:List V) (Q:VK) (E:XK),bD k A->Dz P w K mg base A outer s H->BindsTo s fd args (ps.zip us)->aj vs us->sp vs H Q E->
  codeAny (model P w) A (.call (.ref f) args) (CR CX outer P w H s Q E) s
def Dz.make{K:tf}{H:Hp}(e:Dz P w K mg base A outer s H)(C:Addr)(us:List Value)(kw:List (Str×Value)):
  Dz P w K mg base (A.under (.builtin "type.__call__" ⟨.ref C::us,kw⟩)) outer s H:=⟨by first| exact e.frames| (simpa [Around.under,Code.envs,Code.isFrame,pushEnvs] using e.frames),e.mod,e.bs,e.LY,e.nJ,e.NM,e.ay,e.bare⟩
section
variable{H:Hp}{s':Shared}
def Inv.Ru(I:Inv X δ σ H s):Dz X.prog X.w X.K X.mg X.base X.A X.stack s H:=
 ⟨I.ok.frames,I.ok.mod,I.bs,aax I.ok.LY I.sz,I.stack,I.qE,I.ay,I.bare⟩
def Inv.after{Q:VK}(I:Inv X δ σ H s)(h:CE X.stack X.prog X.w H s Q u s'):EP X δ σ Q u s':=by have⟨v,H',os,bare,un,ay,r,q⟩:=h;have⟨hh,g,d,t,WK⟩:=s';obtain rfl:WK=s.os:=os;exact⟨v,H',I.call (h':=hh) (g':=g) (d':=d) (t':=t) (ch:=[]) un ay bare (λb z=>absurd z (by simp)),r,q⟩
end
def hJ(K:tf)(fd:FuncData)(ps:List Str)(ds:List Value):Prop:=
 ∀(s:Shared) (us:List Value),K.In s.heap->(us++ds).length=ps.length->BindsTo s fd ⟨us,[]⟩ (ps.zip (us++ds))
def hJ.all{K:tf}(h:∀us:List Value,us.length=ps.length->bindArgs fd ⟨us,[]⟩=pure (ps.zip us)):hJ K fd ps []:=λs us _ hl=>by rw[aaW]at hl⊢;exact .of_eq (h us hl)
section
variable{k:Nat}{f:Addr}{ql:List V}{ds:List Value}{E:XK}{m:Str}{p apos:Pos}{o:Expr}
structure Mk(K:tf)(C f:Addr):Prop where
 makes:PySem.W.makesIn K C=true
 init:PySem.W.findIn K (.ref C) "__init__"=some (some (.ref f))
 fn:PySem.W.isFn K (.ref f)=true
 kp:PySem.W.keepIn K (.ref C)=true
end
def PK(X:Cx)(Sq:List Keyword)(t:TA):Prop:=
 ∀(pos:Pos) (δ:List (Addr×Obj)) (s:Shared) (σ:St) (H:Hp) (Q:List V->Hp->Prop),Inv X δ σ H s->t σ H Q->wpAny (model X.prog X.w) X.A (evalAll ((backToKw pos (keywordEach Sq X.env)).map (·.2))) (AP X δ σ Q) X.xe s
section
variable{k:Nat}{f:Addr}{ks:List Str}{E:XK}{m:Str}{p apos Cp:Pos}{o:Expr}{Sq:List Keyword}{tk:TA}{nm:Option Str}
def Q1:PK X [] Ph:=λ_ _ _ _ H Q I h=>wpAny_evalAll_nil ⟨[],H,I,.nil,h⟩
def Nt(ha:PE X e te)(hr:PK X Sq t):PK X (⟨nm,e,Cp⟩::Sq) (O8 te t):=by intro pos δ s σ H Q I h;show wpAny _ _ (evalAll ((do let v<-eval e X.env;standAt pos;pure v)::(backToKw pos (keywordEach Sq X.env)).map (·.2))) _ _ s;refine wpAny_evalAll_cons (aaj (bc (ha δ s σ H _ I h) fun u s1 ⟨x,H1,I1,r1,q1⟩=>aaj (wpAny_standAt (aaI ?_))));exact bc (hr pos δ s1 σ H1 _ I1 q1) λus s2 ⟨xs,H2,I2,r2,q2⟩=>⟨x::xs,H2,I2,.cons r1 r2,q2⟩
variable{g:List Value->List Value->List Value}{gV:List V->List V->List V}
end
structure Ε(N P:List Str)(sc:Scope):Prop where
 kind:sc.kind= .function
 co:sc.isCoroutine=false
 gen:sc.isGenerator=false
 nd:N.Nodup
 pre:N.take P.length=P
 par:∀x∈P,sc.names.lookup x=some .local\/sc.names.lookup x=some .cell
 Rj:∀y∈sc.names,y.2≠ .free
def vA{kindOf:Str->Option NameKind}{x:Str}:∀{binds:List (Str×Value)} {m:Str->Option Value},(∀v,(x,v)∉binds)->bindL kindOf binds m x=m x
 | [],_,_=>rfl
 | (n,v)::r,m,h=>by
  unfold bindL;rw[vA λw hw=>h w (aae _ hw)];split
  ·have:x≠n:=by rintro rfl;exact h v aaf
   simp[this]
  ·rfl
def vk{kindOf:Str->Option NameKind}{x:Str}:∀{binds:List (Str×Value)} {m:Str->Option Value},(∀v,(x,v)∉binds)->bindC kindOf binds m x=m x
 | [],_,_=>rfl
 | (n,v)::r,m,h=>by
  unfold bindC;rw[vk λw hw=>h w (aae _ hw)];split
  ·rfl
  ·have:x≠n:=by rintro rfl;exact h v aaf
   simp[this]
def vF{kindOf:Str->Option NameKind}{x:Str}{v:Value}:∀{P:List Str} {vs:List Value} {i:Nat} {m:Str->Option Value},P.Nodup->P[i]? =some x->vs[i]? =some v->kindOf x=some .local->
  bindL kindOf (P.zip vs) m x=some v
 | [],_,_,_,_,h,_,_=>by simp at h
 | _::_,[],_,_,_,_,h,_=>by simp at h
 | p::P,w::vs,0,m,nd,h1,h2,hk=>by simp at h1 h2;subst h1;subst h2;show bindL kindOf ((p,w)::P.zip vs) m p=_;unfold bindL;rw[vA λv hv=>(abR.mp nd).1 (acd hv).1,aay hk];simp
 | p::P,w::vs,i+1,m,nd,h1,h2,hk=>by show bindL kindOf ((p,w)::P.zip vs) m x=_;unfold bindL;exact vF (i:=i) (List.nodup_cons.mp nd).2 (by simpa using h1) (by simpa using h2) hk
def vz{kindOf:Str->Option NameKind}{x:Str}{v:Value}:∀{P:List Str} {vs:List Value} {i:Nat} {m:Str->Option Value},P.Nodup->P[i]? =some x->vs[i]? =some v->kindOf x≠some .local->
  bindC kindOf (P.zip vs) m x=some v
 | [],_,_,_,_,h,_,_=>by simp at h
 | _::_,[],_,_,_,_,h,_=>by simp at h
 | p::P,w::vs,0,m,nd,h1,h2,hk=>by simp at h1 h2;subst h1;subst h2;show bindC kindOf ((p,w)::P.zip vs) m p=_;unfold bindC;rw[vk λv hv=>(abR.mp nd).1 (acd hv).1,aaF hk];simp
 | p::P,w::vs,i+1,m,nd,h1,h2,hk=>by show bindC kindOf ((p,w)::P.zip vs) m x=_;unfold bindC;exact vz (i:=i) (List.nodup_cons.mp nd).2 (by simpa using h1) (by simpa using h2) hk
def start(N:List Str)(vs:List V):St:=vs.map some++List.replicate (N.length - vs.length) none
def lB(CX:A1)(P:Program)(w:World)(K:tf)(mg:Str->Option Value)(base:Heap)(N:List Str)(qual:Str)(scope:Scope)(f:Addr)(cd:Value)(A:Around)(outer:List Env)(s:Shared)(H:Hp)(E:XK):Cx where
 prog:=P
 w:=w
 K:=K
 mg:=mg
 base:=base
 A:=A.deeper (envOfC qual scope s.heap.objs.size f cd)
 N:=N
 s₀:=s
 H₀:=H
 env:=envOfC qual scope s.heap.objs.size f cd
 outer:=outer
 stack:=envOfC qual scope s.heap.objs.size f cd::outer
 ex:=[]
 calm:=true
 fn:=λ_=>true
 pn:=[]
 xe:=λe s'=>wpAny (model P w) (A.deeper (envOfC qual scope s.heap.objs.size f cd)) (leaving (envOfC qual scope s.heap.objs.size f cd) e) (λ_ YJ=>CX outer H s E e YJ) (λe' YJ=>CX outer H s E e' YJ) s'
def yW{sc:Scope}{n:Nat}(h:sc.names.lookup x=some .cell):∃c,(cellsFrom n sc.names []).lookup x=some c:=by have q:=PySem.W.cellsFrom_some sc.names n [] (.inl h);exact aa9.mp q
def Fy{K:tf}{N:List Str}{qual:Str}{scope:Scope}{f:Addr}{cd:Value}{s1:Shared}{H:Hp}{E:XK}{vs:List V}
  (S:Ε N ps scope) (hd:A.handled=none) (e0:Dz P w K mg base A outer s H) (hl:vs.length=ps.length) (r:aj vs us)
  (x:InCallC s s.heap.objs.size (bindL (envOfC qual scope s.heap.objs.size f cd).kindOf (ps.zip us) λ_=>none) (cellsFrom (s.heap.objs.size+1) scope.names []) (bindC (envOfC qual scope s.heap.objs.size f cd).kindOf (ps.zip us) λ_=>none) s1):
  Inv (lB CX P w K mg base N qual scope f cd A outer s H E) [] (start N vs) H s1:=by
 have dN:ps.length<=N.length:=by have:=aaZ List.length S.pre;rw[List.length_take]at this;omega
 have⟨h1,tk,rfl,hk⟩:=x.done;have Ul:∀b:Addr,b∉(lB CX P w K mg base N qual scope f cd A outer s H E).ex:=λb z=>absurd (show b∈([]:List Addr) from z) (by simp)
 refine⟨⟨e0.mod,S.kind,rfl,rfl,aao _,λy z c h1 h2=>?_,λy hy=>?_,λy c _ h=>?_,λ_=>hd,Around.frames_deeper e0.frames,.inr ⟨rfl,rfl⟩,λb z=>aaK z (Ul b),e0.bs,e0.LY,λb _ _=>Ul b,λb z=>aaK z (Ul b),e0.nJ,e0.NM⟩,
  rfl,e0.bare,Un.kept hk,⟨_,x.toInCall.ns,λi y v h1 h2 h3=>?_⟩,λy c h=>⟨_,x.cell y c h⟩,e0.ay.fresh (Nat.le_refl _),λy c h=>?_,λp hp=>absurd (show p∈([]:List (Addr×Obj)) from hp) (by simp),e0.ay.kept hk,?_⟩
 ·exact name_of_addr x.apart (PySem.mem_of_lookup h1) (PySem.mem_of_lookup h2)
 ·have hy:scope.names.lookup y=some .cell\/scope.names.lookup y=some .free:=hy;rcases hy with hy| hy
  ·exact yW hy
  ·exact aaK rfl (S.Rj _ (PySem.mem_of_lookup hy))
 ·exact Nat.le_of_lt (x.above y c (PySem.mem_of_lookup h))
 ·have hi:i < vs.length:=by
   unfold start at h2;by_cases hi:i < vs.length
   ·exact hi
   ·rw[List.getElem?_append_right (by simpa using hi)]at h2;rw[abX]at h2;split at h2 <;> cases h2
  have ha:vs[i]? =some v:=by
   unfold start at h2;rw[List.getElem?_append_left (by simpa using hi),List.getElem?_map]at h2;cases e:vs[i]? with
   | none=>rw[e]at h2;cases h2
   | some a=>rw[e]at h2;cases h2;rfl
  have⟨u,hu,rv⟩:=r.get ha;have hp:ps[i]? =some y:=by rw[<-S.pre,aca ()];exact h1
  have ndP:ps.Nodup:=by rw[<-S.pre];exact S.nd.sublist (List.take_sublist _ _)
  refine⟨u,rv,?_⟩;rcases S.par y (aar hp) with k| k
  ·exact .inl ⟨k,vF ndP hp hu k⟩
  ·have⟨c,e⟩:=yW (n:=s.heap.objs.size+1) k;refine .inr ⟨.inl k,c,e,?_⟩;have q:=x.cell y c e;rw[vz ndP hp hu (by show scope.names.lookup y≠_;rw[k];decide)]at q;exact q
 ·exact e0.ay.fresh (Nat.le_of_lt (x.above y c (PySem.mem_of_lookup h)))
 ·unfold start;show _=N.length;rw[aan,aah,aa3];omega
def TV{K:tf}{k:Nat}{f:Addr}{name qual:Str}{params:Arguments}{scope:Scope}{dV kV doc pm aY ct oc:Value}{an od:Option Addr}
  {BF:Array (Option Value)} {N:List Str}  (lk:K.lookup f=some ⟨oc,od,.func (PySem.W.fnOf name qual params body scope dV kV doc pm an aY ct),BF⟩) (B1:PySem.W.codeIn K aY qual=true) (S:Ε N ps scope)
  (len:∀vs H Q E,sp vs H Q E->vs.length=ps.length)
  (tD:∀(A:Around) (outer:List Env) (s:Shared) (H:Hp) (vs:List V) (Q:VK) (E:XK),bD k (A.deeper (envOfC qual scope s.heap.objs.size f aY))->sp vs H Q E->
   ∃t,yC (lB CX P w K mg base N qual scope f aY A outer s H E) body t/\t {nx:=λ_ H'=>Q .aE H',rt:=Q} (start N vs) H):
  ah P w K mg base CX (k+1) f (PySem.W.fnOf name qual params body scope dV kV doc pm an aY ct) ps sp:=by
 refine⟨len,λA outer s H args us vs Q E hr e0 hb r GU=>?_⟩;have hl:=len _ _ _ _ GU;have KX:K.In s.heap:=e0.mod.Vy.keeps λb o e=>(e0.bs b o e).1;have lim:s.heap.NoLimit:=e0.mod.nolimit.keeps λb o e=>(e0.bs b o e).1;have TY:∀y∈ps.zip us,scope.names.lookup y.1=some .local\/(scope.names.lookup y.1=some .cell/\((cellsFrom (s.heap.objs.size+1) scope.names []).lookup y.1).isSome=true):=λ⟨n,v⟩ hy=>by
  rcases S.par n (acd hy).1 with q| q
  ·exact .inl q
  ·exact .inr ⟨q,PySem.W.cellsFrom_some _ _ _ (.inl q)⟩
 refine codeAny_call_function hr.depth (KX _ _ lk) rfl S.co S.gen rfl (PySem.W.codeRec_of KX B1) (hb _ _ _ _ ?_);refine wpAny_newFunctionEnv_cells S.kind TY λenv he s1 x=>?_;subst he;refine⟨lim.keeps x.toInCall.keep,codeAny_func ?_⟩;have⟨t,ht,hq⟩:=tD A outer s H vs Q E (hr.deeper _) GU;have I:Inv (lB CX P w K mg base N qual scope f aY A outer s H E) [] (start N vs) H s1:=Fy S hr.hd e0 hl r x;refine abd (ht [] s1 (start N vs) H _ I hq) (λfl s' hs=>?_) λe s' hs=>hs
 have fin:∀{σ':St} {H':Hp} {v:V} {u:Value},Inv (lB CX P w K mg base N qual scope f aY A outer s H E) [] σ' H' s'->ax v u->Q v H'->CE outer P w H s Q u s':=
  λ{σ' H' v u} J rv q=>⟨v,H',J.os,J.bare,J.base,J.ay,rv,q⟩
 cases fl with
 | ret u=>
  have⟨v,σ',H',J,rv,q⟩:=hs;exact fin J rv q
 | next=>
  have⟨σ',H',J,q⟩:=hs;exact fin (v:=V.aE) (u:=Value.none) J rfl q
 | brk=>
  have⟨_,_,_,q⟩:=hs;exact False.elim q
 | cont=>
  have⟨_,_,_,q⟩:=hs;exact False.elim q
section
variable{p:Pos}{id T:String}{r:List V->Hp->VK->Prop}
def ZI(r:List V->Hp->VK->Prop)(t:TA):TE:=λσ H Q=>t σ H λvs H1=>r vs H1 Q
def Ko(hc:dG X (.builtin id) r)(hg:Gl X x)(hm:X.mg x=none)(hv:bootBuiltins x=some (.builtin id))(ha:PA X (e::es) t)(hn:x≠"__name__":=by decide)(pB:(x==("__debug__":Str))=false:=by decide)
  (he:starEach (e::es) X.env=(false,eval e X.env)::starEach es X.env:=by rfl) (dN:(backTo pos (starEach es X.env)).any (·.1)=false:=by rfl):PE X (.Call (.Name x p) (e::es) [] pos) (ZI r t):=by
 intro δ s σ H Q I h;refine wpAny_Call_Name_kw (kG I hg hm hv ?_ hn pB);exact PyProof.Rows.callWith_builtin1 (bc (ha pos δ s σ H _ I h) λus s1 ⟨vs,H1,I1,r1,q1⟩=>hc δ s1 σ H1 vs us Q I1 r1 q1) he dN
def Gy(hc:dG X (.type T) r)(hg:Gl X x)(hm:X.mg x=none)(hv:bootBuiltins x=some (.type T))(ha:PA X (e::es) t)(hn:x≠"__name__":=by decide)(pB:(x==("__debug__":Str))=false:=by decide)
  (he:starEach (e::es) X.env=(false,eval e X.env)::starEach es X.env:=by rfl) (dN:(backTo pos (starEach es X.env)).any (·.1)=false:=by rfl):PE X (.Call (.Name x p) (e::es) [] pos) (ZI r t):=by
 intro δ s σ H Q I h;refine wpAny_Call_Name_kw (kG I hg hm hv ?_ hn pB);exact PyProof.Rows.callWith_type1 (bc (ha pos δ s σ H _ I h) λus s1 ⟨vs,H1,I1,r1,q1⟩=>hc δ s1 σ H1 vs us Q I1 r1 q1) he dN
end
end L2
namespace HT
open PySem PyProof.Rows
section
variable{prog:Program}{w:World}{A:Around}{E:Value->Shared->Prop}{s:Shared}
def NN{t b:Addr}{vs ws:List Value}{Q:Value->Shared->Prop}(ht:IsTup s.heap t vs.toArray)(hb:IsTup s.heap b ws.toArray)(hv:vs≠[])
  (h1:ws=[]->Q (.ref t) s) (h2:ws≠[]->Q (.ref s.heap.objs.size) {s with heap:=s.heap.push {cls:=.type "tuple",data:=.seq (vs++ws).toArray}})
  (hsz:vs.length+ws.length<=sizeLine):wpAny (model prog w) A (binaryOp .Add (.ref t) (.ref b)) Q E s:=by
 have⟨⟨cls,dd,data,sl⟩,ho,hc,n,hd⟩:=id ht;have⟨⟨afQ,WB,data2,R_⟩,Wu,hc2,n2,hd2⟩:=id hb;simp only at hc hd hc2 hd2;subst hc hd hc2 hd2;have e:vs.toArray++ws.toArray=(vs++ws).toArray:=by simp
 by_cases hw:ws=[]
 ·exact concat_meets ⟨_,ho,rfl⟩ ⟨_,Wu,rfl⟩ noFill_tuple_add seq_tuple_add PySem.F.slot_tuple_add PySem.F.entry_tuple_add (PySem.F.args_tuple_add_2 _ _)
   (tuple_addW1 t b vs.toArray ws.toArray n n2 dd WB sl R_ (by simpa using hv) (by simp[hw])) ⟨ho,Wu,h1 hw⟩
 ·refine concat_meets ⟨_,ho,rfl⟩ ⟨_,Wu,rfl⟩ noFill_tuple_add seq_tuple_add PySem.F.slot_tuple_add PySem.F.entry_tuple_add (PySem.F.args_tuple_add_2 _ _)
   (tuple_addW2 t b vs.toArray ws.toArray n n2 dd WB sl R_ (by simpa using hv) (by simpa using hw) (by rw[List.size_toArray,List.size_toArray];exact hsz)) ⟨ho,Wu,?_⟩
  rw[e];exact h2 hw
def Az(n d:Nat):Option Int->Nat
 | none=>d
 | some v=>if v < 0 then (v+(n:Int)).toNat else min v.toNat n
def zR(n d:Nat):Az n d none=d:=rfl
def qx(n d k:Nat):Az n d (some (k:Int))=min k n:=by show(if (k:Int) < 0 then ((k:Int)+(n:Int)).toNat else min (k:Int).toNat n)=min k n;rw[aaF (),aaY]
end
end HT
namespace L2
open PySem PySem.Spec PyProof.Rows
variable{X:Cx}{n:Nat}{δ:List (Addr×Obj)}{s:Shared}{its:List Value}
abbrev TO:=St->Hp->(Option Int->Hp->Prop)->Prop
def PO(X:Cx)(e:Option Expr)(t:TO):Prop:=
 ∀(δ:List (Addr×Obj)) (s:Shared) (σ:St) (H:Hp) (Q:Option Int->Hp->Prop),Inv X δ σ H s->t σ H Q->
  wpAny (model X.prog X.w) X.A (evalPart e X.env) (λu s'=>∃o H',Inv X δ σ H' s'/\IsPart u o/\Q o H') X.xe s
def MN:TO:=λ_ H Q=>Q none H
def Tn(t:TE):TO:=λσ H Q=>t σ H λx H1=>∃i,x= .int i/\Q (some i) H1
section
variable{e:Expr}{te:TE}{lo hi:Option Expr}{tl th:TO}{pos p2:Pos}
def Ef:PO X none MN:=by intro δ s σ H Q I h;rw[evalPart_none];exact aaI ⟨none,H,I,.none,h⟩
def qz(h:PE X e te):PO X (some e) (Tn te):=by intro δ s σ H Q I hw;rw[evalPart_some];refine bc (h δ s σ H _ I hw) λu s1 xz=>?_;have⟨x,H1,I1,r1,q1⟩:=xz;have⟨i,rfl,q⟩:=q1;have⟨t,rfl⟩:=r1;exact⟨some i,H1,I1,.int i t,q⟩
def SlR(X:Cx)(r:V->Option Int->Option Int->Hp->VK->Prop):Prop:=
 ∀(δ:List (Addr×Obj)) (s:Shared) (σ:St) (H:Hp) (x:V) (v vl vu:Value) (lo hi:Option Int) (sl:Addr) (Q:VK),Inv X δ σ H s->ax x v->s.heap.IsSliceOf sl vl vu .none->IsPart vl lo->IsPart vu hi->r x lo hi H Q->
  ∃T id,typeLookup (.type T) "__getitem__"=pure (some (.builtin id))/\s.TypeIs v T/\wpAny (model X.prog X.w) X.A (getItem v (.ref sl)) (EP X δ σ Q) X.xe s
def tSl(r:V->Option Int->Option Int->Hp->VK->Prop)(te:TE)(tl th:TO):TE:=λσ H Q=>te σ H λx H1=>tl σ H1 λl H2=>th σ H2 λu H3=>r x l u H3 Q
def qJ{r:V->Option Int->Option Int->Hp->VK->Prop}(hr:SlR X r)(he:PE X e te)(hl:PO X lo tl)(hu:PO X hi th):PE X (.Subscript e (.Slice lo hi none p2) pos) (tSl r te tl th):=by intro δ s σ H Q I h;refine Subscript_ (bc (he δ s σ H _ I h) λv s1 xz=>?_);have⟨x,H1,I1,r1,q1⟩:=xz;refine wpAny_Slice (bc (hl δ s1 σ H1 _ I1 q1) fun vl s2 ⟨l,H2,I2,pl,q2⟩=>bc (hu δ s2 σ H2 _ I2 q2) λvu s3 xz=>?_);have⟨u,H3,I3,pu,q3⟩:=xz;rw[evalPart_none];refine aaI ?_;have I4:Inv X δ σ H3 {s3 with heap:=s3.heap.push {cls:=.type "slice",data:=.fields #[vl,vu,.none]}}:=I3.kept (t':=s3.toks) λb ob q=>aal _ q;have⟨T,id,hT,ht,hg⟩:=hr δ {s3 with heap:=s3.heap.push {cls:=.type "slice",data:=.fields #[vl,vu,.none]}} σ H3 x v vl vu l u s3.heap.objs.size Q I4 r1 (Heap.IsSliceOf.new ..) pl pu q3;show wpAny (model X.prog X.w) X.A (subscriptTail e (.Slice lo hi none p2) v (.ref s3.heap.objs.size)) (EP X δ σ Q) X.xe {s3 with heap:=s3.heap.push {cls:=.type "slice",data:=.fields #[vl,vu,.none]}};exact tail_any (ops:=[.ref s3.heap.objs.size,v]) ht hT hg (by with_unfolding_all rfl)
def ud(xs:List V)(lo hi:Option Int):List V:=(xs.drop (HT.Az xs.length 0 lo)).take (HT.Az xs.length xs.length hi - HT.Az xs.length 0 lo)
def yF(xs:List V)(lo hi:Option Int):(ud xs lo hi).length<=xs.length:=by unfold ud;rw[List.length_take,abM];omega
def OY(K:tf):R2:=λx y H Q=>∃a b xs ys,x= .ref a/\y= .ref b/\mZ K H a xs/\mZ K H b ys/\xs≠[]/\xs.length+ys.length<=sizeLine/\
 (ys=[]->Q (.ref a) H)/\(ys≠[]->∀p,H p=none->Q (.ref p) (upd H p (.tup (xs++ys))))
def aj.xR{xs:List V}{us:List Value}(r:aj xs us):us=[]↔xs=[]:=by
 cases r with
 | nil=>simp
 | cons _ _=>simp
def Nu:iC X (binaryOp .Add) (OY X.K):=by intro δ s σ H x y v u Q I rx ry h;have⟨a,b,xs,ys,rfl,rfl,ha,hb,hx,hz,q1,q2⟩:=h;cases rx;cases ry;have⟨its,r1,p1,_⟩:=I.tuple ha;have⟨JU,r2,p2,_⟩:=I.tuple hb;refine HT.NN p1 p2 (λz=>hx (r1.xR.mp z)) (λz=>⟨.ref a,H,I,rfl,q1 (r2.xR.mp z)⟩) (λz=>?_) (by rw[<-r1.length,<-r2.length];exact hz);refine⟨.ref s.heap.objs.size,_,I.laid (t':=s.toks) (o:=.tup (xs++ys)) (λb ob q=>aal _ q) (aao _) ?_,rfl,q2 (λw=>z (r2.xR.mpr w)) _ (I.ay.fresh (aao _))⟩;exact⟨by rw[aan];exact hz,_,r1.append r2,IsTup.new _ _⟩
end
def Jg(n:Nat)(i:Int):Option Nat:=if 0<=i then (if i < n then some i.toNat else none) else if -(n:Int)<=i then some (i+n).toNat else none
def ki{α:Type}(xs:List α)(i:Int):Option α:=(Jg xs.length i).bind λj=>xs[j]?
def D0{i:Int}{j:Nat}(h:Jg n i=some j):seqIndex? i n=some j/\j < n/\ -(n:Int)<=i/\i < n:=by
 unfold Jg at h;by_cases h0:0<=i
 ·rw[aay h0]at h;by_cases h1:i < n
  ·rw[aay h1]at h;have e:i.toNat=j:=aav h;exact⟨by rw[seqIndex_of h0 h1,e],(),(),h1⟩
  ·rw[aaF h1]at h;cases h
 ·rw[aaF h0]at h;by_cases h1: -(n:Int)<=i
  ·rw[aay h1]at h;have e:(i+n).toNat=j:=aav h;exact⟨by rw[seqIndex_neg () h1,e],(),h1,()⟩
  ·rw[aaF h1]at h;cases h
def x6{α:Type}{xs:List α}{i:Int}{v:α}(h:ki xs i=some v):∃j,seqIndex? i xs.length=some j/\xs[j]? =some v/\j < xs.length/\ -(xs.length:Int)<=i/\i < xs.length:=by
 unfold ki at h;cases e:Jg xs.length i with
 | none=>rw[e]at h;cases h
 | some j=>
  rw[e]at h;have⟨h1,h2,h3,h4⟩:=D0 e;exact⟨j,h1,h,h2,h3,h4⟩
def ag{α:Type}{xs:List α}{j:Nat}{v:α}(h:xs[j]? =some v):ki xs (j:Int)=some v:=by
 have hj:j < xs.length:=(aai.mp h).1;have e:Jg xs.length (j:Int)=some j:=by unfold Jg;rw[if_pos (),if_pos ()];simp
 unfold ki;rw[e];exact h
def vT(b:Expr):Prop:=∀o i,subscripted b false o i=operate [o,i] (getItem o i)
def LX(X:Cx)(r:R2):Prop:=
 ∀(value slice:Expr) (δ:List (Addr×Obj)) (s:Shared) (σ:St) (H:Hp) (x y:V) (v u:Value) (Q:VK),Inv X δ σ H s->ax x v->ax y u->r x y H Q->
  subscripted slice false v u=operate [v,u] (getItem v u)->wpAny (model X.prog X.w) X.A (subscriptTail value slice v u) (EP X δ σ Q) X.xe s
def MtR(X:Cx)(id:String)(r:V->List V->Hp->VK->Prop):Prop:=
 ∀(δ:List (Addr×Obj)) (s:Shared) (σ:St) (H:Hp) (x:V) (xs:List V) (v:Value) (us:List Value) (Q:VK),Inv X δ σ H s->ax x v->aj xs us->r x xs H Q->
  wpAny (model X.prog X.w) X.A (call (.builtin id) (v::us)) (EP X δ σ Q) X.xe s
section
variable{a b:Expr}{ta tb:TE}{pos:Pos}
def LX.or{r r':R2}(h:LX X r)(h':LX X r'):LX X (λx y H Q=>r x y H Q\/r' x y H Q):=by
 intro value slice δ s σ H x y v u Q I rx ry q hs;rcases q with q| q
 ·exact h value slice δ s σ H x y v u Q I rx ry q hs
 ·exact h' value slice δ s σ H x y v u Q I rx ry q hs
def Ta{r:R2}(hr:LX X r)(ha:PE X a ta)(hb:PE X b tb)(hs:vT b):PE X (.Subscript a b pos) (Vh r ta tb):=by intro δ s σ H Q I h;exact Subscript_ (Rm ha hb I h λv u s2 x y H2 I2 rx ry q=>hr a b δ s2 σ H2 x y v u Q I2 rx ry q (hs _ _))
def Vk(K:tf):R2:=λx y H Q=>∃p xs i v,x= .ref p/\y= .int i/\fU K H p xs/\ki xs i=some v/\Q v H
def Tu(K:tf):R2:=λx y H Q=>∃p xs i v,x= .ref p/\y= .int i/\mZ K H p xs/\ki xs i=some v/\Q v H
def SV:R2:=λx y H Q=>∃z i c,x= .str z/\y= .int i/\z.length<=sizeLine/\ki z.cps.toList i=some c/\Q (.str ⟨#[c]⟩) H
def MY:LX X (Vk X.K):=by
 intro value slice δ s σ H x y v u Q I rx ry h hs;have⟨p,xs,i,z,rfl,rfl,hq,he,q⟩:=h;cases rx;have⟨t,rfl⟩:=ry;have⟨its,r,pl,hz⟩:=I.list hq;have⟨j,h1,h2,h3,h4,h5⟩:=x6 he;have⟨w,ew,D9⟩:=r.get h2;have hl:=r.length;have hn:=oW;have fin:EP X δ σ Q w s:=⟨z,H,I,D9,q⟩;by_cases h0:0<=i
 ·have hj:i.toNat=j:=by rw[seqIndex_of h0 h5]at h1;exact aav h1
  exact item_listR pl.isList h0 () (by rw[hj];simpa using ew) fin hs
 ·have hj:(i+(its.toArray.size:Int)).toNat=j:=by rw[seqIndex_neg () h4]at h1;rw[aaz,<-hl];exact aav h1
  exact subscriptTail_builtinR (x:=w) pl.isList.typeIs slot_list_getitem.lookup
   (wpAny_getItem_list_neg (Q:=λr s'=>r=w/\EP X δ σ Q r s') pl.isList () (by rw[List.size_toArray] <;> omega) () (by rw[hj];simpa using ew) ⟨rfl,fin⟩) hs
def PR:LX X (Tu X.K):=by
 intro value slice δ s σ H x y v u Q I rx ry h hs;have⟨p,xs,i,z,rfl,rfl,hq,he,q⟩:=h;cases rx;have⟨t,rfl⟩:=ry;have⟨its,r,pl,hz⟩:=I.tuple hq;have⟨j,h1,h2,h3,h4,h5⟩:=x6 he;have⟨w,ew,D9⟩:=r.get h2;have hl:=r.length;have hn:=oW;have fin:EP X δ σ Q w s:=⟨z,H,I,D9,q⟩
 exact subscriptTail_builtinR (x:=w) pl.typeIs slot_tuple_getitem.lookup
  (getItem_tuple (j:=j) (Q:=λr s'=>r=w/\EP X δ σ Q r s') pl () () (by rw[List.size_toArray,<-hl];exact h1) (by simpa using ew) ⟨rfl,fin⟩) hs
def Pu:LX X SV:=by
 intro value slice δ s σ H x y v u Q I rx ry h hs;have⟨z,i,c,rfl,rfl,hz,he,q⟩:=h;have⟨t,rfl⟩:=rx;have⟨t',rfl⟩:=ry;have⟨j,h1,h2,h3,h4,h5⟩:=x6 he;have hl:z.cps.toList.length=z.length:=by simp[Str.length]
 rw[hl]at h1 h4 h5;have hn:=oW
 exact tail_any (typeIs_str s z t) slot_str_getitem.lookup (getItem_str (c:=c) (by
  have e1:decide (i < -(2 ^ 63:Int))=false:=aat ();have e2:decide (i ≥ 2 ^ 63)=false:=aat ()
  rw[e1,e2,Bool.or_false]) (by rw[h1];simpa using h2) ⟨.str ⟨#[c]⟩,H,I.tok _,⟨_,rfl⟩,q⟩) hs
def rIx(K:tf):R2:=λx y H Q=>Vk K x y H Q\/Tu K x y H Q\/SV x y H Q
def RG:LX X (rIx X.K):=MY.or (PR.or Pu)
def A7(its:List Value)(n j:Nat)(u:Value):Obj.mapSeq (·.setIfInBounds j u) {cls:=.type "list",data:=.seq its.toArray n}={cls:=.type "list",data:=.seq (its.set j u).toArray n}:=by simp[Obj.mapSeq]
def Inv.lst{δ:List (Addr×Obj)}{σ:St}{H:Hp}{s:Shared}{p:Addr}{xs:List V}(I:Inv X δ σ H s)(h:H p=some (.lst xs)):
  ∃(its:List Value) (n:Nat),aj xs its/\s.heap.get? p=some {cls:=.type "list",data:=.seq its.toArray n}/\xs.length<=sizeLine:=by
 have⟨z,its,n,r,e⟩:=I.ay p _ h;exact⟨its,n,r,e,z⟩
def Inv.QP{σ:St}{H:Hp}{p:Addr}{xs ys:List V}{its':List Value}{n':Nat}{f:Obj->Obj}(I:Inv X δ σ H s)(h:H p=some (.lst xs))
  (ho:s.heap.get? p=some {cls:=.type "list",data:=.seq its.toArray n}) (hf:f {cls:=.type "list",data:=.seq its.toArray n}={cls:=.type "list",data:=.seq its'.toArray n'}) (r:aj ys its') (hz:ys.length<=sizeLine) (t:Nat):
  Inv X δ σ (upd H p (.lst ys)) {s with heap:=s.heap.update p f,toks:=t}:=by
 have e:(s.heap.update p f).get? p=some {cls:=.type "list",data:=.seq its'.toArray n'}:=by rw[Heap.get?_update_self f ho (by rw[hf] <;> rfl),hf]
 refine I.write (x:=p) (e:=p) (by rw[h];trivial) (.inl rfl) (λb u hb q=>(Heap.get?_update_other _ _ (Ne.symm hb)).trans q) ⟨_,e⟩ ?_;exact⟨hz,its',n',r,e⟩
def O4:V->V->V->Hp->(Hp->Prop)->Prop:=λo i v H Q=>∃p xs k j,o= .ref p/\i= .int k/\H p=some (.lst xs)/\Jg xs.length k=some j/\Q (upd H p (.lst (xs.set j v)))
def LQ:VW X O4:=by
 intro δ s σ H o i v ov iv u Q I ro ri rv h;have⟨p,xs,k,j,rfl,rfl,hp,hj,q⟩:=h;cases ro;have⟨t,rfl⟩:=ri;have⟨its,n,r,ho,hz⟩:=I.lst hp;have⟨h1,h2,h3,h4⟩:=D0 hj;have hl:=r.length;have hn:=oW
 have I':Inv X δ σ (upd H p (.lst (xs.set j v))) {s with heap:=s.heap.update p (Obj.mapSeq (·.setIfInBounds j u))}:=
  I.QP hp ho (A7 its n j u) (r.set rv j) (by rw[aaX];exact hz) s.toks
 by_cases h0:0<=k
 ·have hk:k.toNat=j:=by rw[seqIndex_of h0 h4]at h1;exact aav h1
  exact PySem.W.ki_setAt ho h0 () (by rw[aaz,<-hl];exact h4) (by rw[hk];exact⟨_,I',q⟩)
 ·have hk:(k+(its.toArray.size:Int)).toNat=j:=by rw[seqIndex_neg () h3]at h1;rw[aaz,<-hl];exact aav h1
  exact PySem.W.ki_setBack ho () (by rw[aaz,<-hl];exact h3) () (by rw[hk];exact⟨_,I',q⟩)
def vY(lo hi:Option Int)(n:Nat):(sliceBounds lo hi none n).1=((HT.Az n 0 lo:Nat):Int)/\(sliceBounds lo hi none n).2.1=((HT.Az n n hi:Nat):Int)/\(sliceBounds lo hi none n).2.2=1:=by
 refine⟨?_,?_,rfl⟩
 ·cases lo with
  | none=>simp[sliceBounds,HT.Az]
  | some i=>
   simp only[sliceBounds,HT.Az,Option.getD_none,show(1:Int) > 0 by decide,if_true];by_cases h:i < 0
   ·simp only[h,if_true] <;> omega
   ·simp only[h,if_false] <;> omega
 ·cases hi with
  | none=>simp[sliceBounds,HT.Az]
  | some i=>
   simp only[sliceBounds,HT.Az,Option.getD_none,show(1:Int) > 0 by decide,if_true];by_cases h:i < 0
   ·simp only[h,if_true] <;> omega
   ·simp only[h,if_false] <;> omega
def t_(its:List Value)(lo hi:Option Int):slicePick its.toArray lo hi none=((its.drop (HT.Az its.length 0 lo)).take (HT.Az its.length its.length hi - HT.Az its.length 0 lo)).toArray:=by have⟨h1,h2,h3⟩:=vY lo hi its.toArray.size;unfold slicePick;rw[h1,h2,h3];simp only[sliceRange_one,pick_run,List.size_toArray] <;> rfl
def Yv(K:tf):V->Option Int->Option Int->Hp->VK->Prop:=λx lo hi H Q=>∃a xs,x= .ref a/\fU K H a xs/\∀p,H p=none->Q (.ref p) (upd H p (.lst (ud xs lo hi)))
def xH:SlR X (Yv X.K):=by intro δ s σ H x v vl vu lo hi sl Q I rx hs pl pu h;have⟨a,xs,rfl,hx,q⟩:=h;cases rx;have⟨its,r,ht,hz⟩:=I.list hx;have hlen:=r.length;refine⟨"list",_,slot_list_getitem.lookup,ht.isList.typeIs,?_⟩;refine wpAny_getItem_list_slice ht.isList hs pl pu .none (by simp) ?_ (by rw[List.size_toArray] <;> omega);rw[t_,<-hlen];refine⟨.ref s.heap.objs.size,_,I.laid (t':=s.toks) (o:=.lst (ud xs lo hi)) (λb ob q=>aal _ q) (aao _) ?_,rfl,q _ (I.ay.fresh (aao _))⟩;exact⟨aax (yF xs lo hi) hz,_,0,(r.drop (HT.Az xs.length 0 lo)).take (HT.Az xs.length xs.length hi - HT.Az xs.length 0 lo),aaP _ rfl⟩
def d9:V->Bool
 | .aE=>true
 | .bl _=>true
 | .int _=>true
 | .str _=>true
 | _=>false
def ue:V->V->Bool
 | .aE,.aE=>true
 | .bl a,.bl b=>a==b
 | .bl a,.int b=>(if a then 1 else 0)==b
 | .int a,.bl b=>a==(if b then 1 else 0)
 | .int a,.int b=>a==b
 | .str a,.str b=>a==b
 | _,_=>false
def xP{A:Around}{y x:V}{u v:Value}(ry:ax y u)(rx:ax x v)(fy:d9 y=true)(fx:d9 x=true):SeqAt.EqAt A s u v (ue y x):=by
 cases y with
 | aE=>
  cases ry;cases x with
  | aE=>cases rx;exact SeqAt.EqAt.same _
  | bl b=>cases rx;exact SeqAt.EqAt.none_bool b
  | int b=>have⟨t,rfl⟩:=rx;exact SeqAt.EqAt.none_int b t
  | str b=>have⟨t,rfl⟩:=rx;exact SeqAt.EqAt.none_str b t
  | _=>exact aaK (show false=true from fx) aaD
 | bl a=>
  cases ry;cases x with
  | aE=>cases rx;exact SeqAt.EqAt.bool_none a
  | bl b=>cases rx;exact SeqAt.EqAt.bool_bool a b
  | int b=>have⟨t,rfl⟩:=rx;exact SeqAt.EqAt.bool_int a b t
  | str b=>have⟨t,rfl⟩:=rx;exact SeqAt.EqAt.bool_str a b t
  | _=>exact aaK (show false=true from fx) aaD
 | int a=>
  have⟨t',rfl⟩:=ry;cases x with
  | aE=>cases rx;exact SeqAt.EqAt.int_none a t'
  | bl b=>cases rx;exact SeqAt.EqAt.int_bool a t' b
  | int b=>have⟨t,rfl⟩:=rx;exact SeqAt.EqAt.int_int a t' b t
  | str b=>have⟨t,rfl⟩:=rx;exact SeqAt.EqAt.int_str a t' b t
  | _=>exact aaK (show false=true from fx) aaD
 | str a=>
  have⟨t',rfl⟩:=ry;cases x with
  | aE=>cases rx;exact SeqAt.EqAt.str_none a t'
  | bl b=>cases rx;exact SeqAt.EqAt.str_bool a t' b
  | int b=>have⟨t,rfl⟩:=rx;exact SeqAt.EqAt.str_int a t' b t
  | str b=>have⟨t,rfl⟩:=rx;exact SeqAt.EqAt.str_str a t' b t
  | _=>exact aaK (show false=true from fx) aaD
 | _=>exact aaK (show false=true from fy) aaD
def MW(x:V)(u:Value):Bool:=match u with
 | .none=>ue .aE x
 | .bool b=>ue (.bl b) x
 | .int i _=>ue (.int i) x
 | .str z _=>ue (.str z) x
 | _=>false
def HP{x y:V}{u:Value}(r:ax y u)(f:d9 y=true):MW x u=ue y x:=by
 cases y with
 | aE=>cases r;rfl
 | bl b=>cases r;rfl
 | int i=>have⟨t,rfl⟩:=r;rfl
 | str z=>have⟨t,rfl⟩:=r;rfl
 | _=>exact aaK (show false=true from f) aaD
def vX{x:V}:∀{xs:List V} {us:List Value},aj xs us->xs.all d9=true->us.any (MW x)=xs.any λy=>ue y x
 | _,_,.nil,_=>rfl
 | y::xs,u::us,.cons r t,f=>by rw[abO,aam]at f;rw[abY,abY,HP r f.1,vX t f.2]
def sW{A:Around}{s:Shared}{x:V}{v:Value}(rx:ax x v)(fx:d9 x=true):∀{xs:List V} {us:List Value},aj xs us->xs.all d9=true->∀u∈us,SeqAt.EqAt A s u v (MW x u)
 | _,_,.nil,_=>λu hu=>by cases hu
 | y::xs,u::us,.cons r t,f=>λu' hu=>by
  rw[abO,aam]at f;rcases aaG.mp hu with rfl| hu
  ·rw[HP r f.1];exact xP r rx f.1 fx
  ·exact sW rx fx t f.2 u' hu
def SD(x:V)(xs:List V):Bool:=xs.any λy=>ue y x
def rIn(K:tf)(neg:Bool):R2:=λx y H Q=>∃p xs,y= .ref p/\(fU K H p xs\/mZ K H p xs)/\d9 x=true/\xs.all d9=true/\Q (.bl (if neg then !SD x xs else SD x xs)) H
def GZ:iC X (compareOp .In) (rIn X.K false):=by
 intro δ s σ H x y v u Q I rx ry h;have⟨p,xs,rfl,hq,fx,fs,q⟩:=h;cases ry;rcases hq with hq| hq
 ·have⟨its,r,pl,hz⟩:=I.list hq;refine SeqAt.in_listAt (MW x) pl.isList (λw hw=>sW rx fx r fs w (by simpa using hw)) ⟨.bl _,H,I,rfl,?_⟩;rw[show its.toArray.any (MW x)=its.any (MW x) by simp,vX r fs];exact q
 ·have⟨its,r,pl,hz⟩:=I.tuple hq;refine SeqAt.in_tupleAt (MW x) pl (λw hw=>sW rx fx r fs w (by simpa using hw)) ⟨.bl _,H,I,rfl,?_⟩;rw[show its.toArray.any (MW x)=its.any (MW x) by simp,vX r fs];exact q
def wj:dG X (.builtin "len") (λxs H Q=>∃p ys,xs=[.ref p]/\(fU X.K H p ys\/mZ X.K H p ys)/\Q (.int ys.length) H):=by
 intro δ s σ H xs us Q I r h;have⟨p,ys,rfl,hq,q⟩:=h;have⟨u,rfl,rx⟩:=lN r;cases rx;have hn:=oW;rcases hq with hq| hq
 ·have⟨its,r',pl,hz⟩:=I.list hq;have hlen:=r'.length;exact Calls.call_len_list pl.isList (by simp only[List.size_toArray] <;> omega) ⟨.int ys.length,H,I.tok _,⟨s.toks+1,by rw[List.size_toArray,hlen]⟩,q⟩
 ·have⟨its,r',pl,hz⟩:=I.tuple hq;have hlen:=r'.length;exact len_tuple pl (by simp only[List.size_toArray] <;> omega) ⟨.int ys.length,H,I.tok _,⟨s.toks+1,by rw[List.size_toArray,hlen]⟩,q⟩
def x5:dG X (.builtin "len") (λxs H Q=>∃z,xs=[.str z]/\z.length<=sizeLine/\Q (.int z.length) H):=by intro δ s σ H xs us Q I r h;have⟨z,rfl,hz,q⟩:=h;have⟨u,rfl,t,rfl⟩:=lN r;have hn:=oW;exact len_str () ⟨.int z.length,H,I.tok _,⟨_,rfl⟩,q⟩
def dG.or{f:Value}{r r':List V->Hp->VK->Prop}(h:dG X f r)(h':dG X f r'):dG X f (λxs H Q=>r xs H Q\/r' xs H Q):=by
 intro δ s σ H xs us Q I rs q;rcases q with q| q
 ·exact h δ s σ H xs us Q I rs q
 ·exact h' δ s σ H xs us Q I rs q
def wL:dG X (.type "list") (λxs H Q=>∃p ys,xs=[.ref p]/\(fU X.K H p ys\/mZ X.K H p ys)/\∀l,H l=none->Q (.ref l) (upd H l (.lst ys))):=by
 intro δ s σ H xs us Q I r h;have⟨p,ys,rfl,hq,q⟩:=h;have⟨u,rfl,rx⟩:=lN r;cases rx
 have fin:∀(its:List Value),aj ys its->ys.length<=sizeLine->∀(h':Heap) (c':Nat),(∀b o',s.heap.get? b=some o'->h'.get? b=some o')->
   h'.get? s.heap.objs.size=some {cls:=.type "list",dict:=none,data:=.seq its.toArray c',slots:= #[]}->EP X δ σ Q (.ref s.heap.objs.size) {s with heap:=h'}:=λits r' hz h' c' kp e=>
  ⟨.ref s.heap.objs.size,_,I.laid (t':=s.toks) kp (aao _) (show aM X.prog X.w _ h' _ (.lst ys) from⟨hz,its,c',r',e⟩),rfl,q _ (I.ay.fresh (aao _))⟩
 rcases hq with hq| hq
 ·have⟨its,r',pl,hz⟩:=I.list hq;have hlen:=r'.length;have⟨o,ho,hc,n,hd⟩:=pl.isList;exact call_list_seq p (.inl rfl) ho hc hd (λh' c' kp e=>fin its r' hz h' c' kp e) (by simp only[List.size_toArray] <;> omega)
 ·have⟨its,r',pl,hz⟩:=I.tuple hq;have hlen:=r'.length;have⟨o,ho,hc,n,hd⟩:=pl;exact call_list_seq p (.inr rfl) ho hc hd (λh' c' kp e=>fin its r' hz h' c' kp e) (by simp only[List.size_toArray] <;> omega)
def tyV(K:tf)(T:String)(x:V)(H:Hp):Prop:=match x with
 | .str _=>T="str"
 | .int _=>T="int"
 | .ref p=>(T="list"/\∃xs,fU K H p xs)\/(T="tuple"/\∃o,K.lookup p=some o/\o.cls= .type "tuple"/\o.dict=none)\/
   (T="dict"/\((∃Κ,H p=some (.dK Κ))\/∃Κ,H p=some (.dT Κ)))\/(T="set"/\∃S n,H p=some (.set S n))
 | _=>False
def RI{σ:St}{H:Hp}{T:String}{x:V}{v:Value}(I:Inv X δ σ H s)(r:ax x v)(ty:tyV X.K T x H):
  s.TypeIs v T/\∀a,v= .ref a->∃ob,s.heap.get? a=some ob/\ob.dict=none:=by
 cases x with
 | str z=>
  have⟨t,rfl⟩:=r;cases(show T="str" from ty);exact⟨typeIs_str s z t,λ_ e=>nomatch e⟩
 | int i=>
  have⟨t,rfl⟩:=r;cases(show T="int" from ty);exact⟨typeIs_int s i t,λ_ e=>nomatch e⟩
 | ref p=>
  cases r;rcases ty with ⟨rfl,xs,hq⟩| ⟨rfl,o,hk,hc,hd⟩| ⟨rfl,hk⟩| ⟨rfl,S,n,hk⟩
  ·have⟨its,_,pl,_⟩:=I.list hq;refine⟨pl.isList.typeIs,λa e=>?_⟩;cases e;have⟨o,n,e,c,hd,_⟩:=pl;exact⟨o,e,hd⟩
  ·refine⟨⟨o,I.iX p o hk,hc⟩,λa e=>?_⟩;cases e;exact⟨o,I.iX _ o hk,hd⟩
  ·have z:∃o,s.heap.get? p=some o/\o.ExactDict:=by
    rcases hk with ⟨Κ,hk⟩| ⟨Κ,hk⟩
    ·have⟨_,_,_,_,o,_,_,e,ex,_⟩:=I.ay p _ hk;exact⟨o,e,ex⟩
    ·have⟨_,_,_,_,o,_,_,e,ex,_⟩:=I.ay p _ hk;exact⟨o,e,ex⟩
   have⟨o,e,ex⟩:=z;refine⟨⟨o,e,ex.1⟩,λa e2=>?_⟩;cases e2;exact⟨o,e,ex.2.1⟩
  ·have⟨o,_,_,_,e,ex,_⟩:=I.ay p _ hk;refine⟨⟨o,e,ex.1⟩,λa e2=>?_⟩;cases e2;exact⟨o,e,ex.2.1⟩
 | _=>exact False.elim ty
def tBM(K:tf)(T:String)(r:V->List V->Hp->VK->Prop)(to:TE)(t:TA):TE:=λσ H Q=>to σ H λx H1=>tyV K T x H1/\t σ H1 λxs H2=>r x xs H2 Q
variable{o e:Expr}{es:List Expr}{to:TE}{t:TA}{name:Str}{apos aV:Pos}{T id:String}{r:V->List V->Hp->VK->Prop}
def O3(pa:PlainAttrs T)(slot:Slot T name id)(hty:typeOf (.builtin id)=pure (.type "method_descriptor"))(hm:MtR X id r)(ho:PE X o to)(ha:PA X (e::es) t)
  (j9:attributeBase o name X.env (eval o X.env)=eval o X.env:=by rfl)
  (Jr:((backTo aV (starEach (e::es) X.env)).all (λx=> !x.1)&&(backToKw aV (keywordEach [] X.env)).all (λx=>x.1.isSome)
   &&decide ((e::es).length+([]:List Keyword).length+(if ([]:List Keyword).isEmpty then 0 else 1) < 30))=true:=by rfl)
  (zQ:(apos.endLine==aV.line)=true:=by rfl) (hs:starEach (e::es) X.env=(false,eval e X.env)::starEach es X.env:=by rfl) (mC:(backTo aV (starEach es X.env)).any (·.1)=false:=by rfl):
  PE X (.Call (.Attribute o name apos) (e::es) [] aV) (tBM X.K T r to t):=by
 intro δ s σ H Q I h;refine wpAny_Call_method_late j9 Jr zQ rfl (bc (ho δ s σ H _ I h) λv s1 xz=>?_);have⟨x,H1,I1,r1,ty,q1⟩:=xz;have⟨h1,h2⟩:=RI I1 r1 ty;refine⟨T,id,pa,slot,hty,h1,h2,?_⟩;have hA:=ha aV δ s1 σ H1 _ I1 q1;rw[hs]at hA⊢;refine Calls.callWith_builtin (by show(false|| (backTo aV (starEach es X.env)).any (·.1))=false;rw[mC] <;> rfl) (Calls.evalArgs_plain ?_);exact bc hA λus s2 ⟨vs,H2,I2,r2,q2⟩=>hm δ s2 σ H2 x vs v us Q I2 r1 r2 q2
end
def MtM(X:Cx)(id:String)(r:V->List V->Hp->VK->Prop):Prop:=
 ∀(δ:List (Addr×Obj)) (s:Shared) (σ:St) (H:Hp) (x:V) (xs:List V) (v:Value) (us:List Value) (Q:VK),Inv X δ σ H s->ax x v->aj xs us->r x xs H Q->
  wpAny (model X.prog X.w) X.A (call (.builtin id) (v::us)) (EP X δ σ Q) X.xe s
def aj.one:∀{x:V} {us:List Value},aj [x] us->∃u,us=[u]/\ax x u
 | _,_,.cons r .nil=>⟨_,rfl,r⟩
def aj.two:∀{x y:V} {us:List Value},aj [x,y] us->∃u v,us=[u,v]/\ax x u/\ax y v
 | _,_,_,.cons r (.cons q .nil)=>⟨_,_,rfl,r,q⟩
def aj.rep{xs:List V}{us:List Value}(h:aj xs us):∀k:Nat,aj (List.replicate k xs).flatten (List.replicate k us).flatten
 | 0=>.nil
 | k+1=>by rw[abe,abe,aby,aby];exact aj.append h (aj.rep h k)
def vN(its:List Value):∀(k:Nat) (acc:List Value),
  List.foldl (λx1 x2=>x1++x2) acc.toArray (List.replicate k its.toArray)=(acc++(List.replicate k its).flatten).toArray
 | 0,acc=>by simp
 | k+1,acc=>by
  have e:acc.toArray++its.toArray=(acc++its).toArray:=by simp
  have e2:(acc++its)++(List.replicate k its).flatten=acc++(List.replicate (k+1) its).flatten:=by rw[abe,aby,aaJ]
  rw[<-e2,<-vN its k (acc++its),<-e,abe,abF]
section
variable{σ:St}{H:Hp}{l b:Addr}{xs ys zs:List V}
def Inv.XH{its':List Value}{f:Array Value->Array Value}{t':Nat}(I:Inv X δ σ H s)(hH:H l=some (.lst xs))
  (e:s.heap.get? l=some {cls:=.type "list",data:=.seq its.toArray n}) (hf:f its.toArray=its'.toArray) (hv:aj ys its') (hz:ys.length<=sizeLine):
  Inv X δ σ (upd H l (.lst ys)) {s with heap:=s.heap.update l (Obj.mapSeq f),toks:=t'}:=by
 have q:=PySem.IsL.update e f;rw[hf]at q;refine I.write (x:=l) (e:=l) (by rw[hH];exact trivial) (.inl rfl) (λb' u hb hu=>(Heap.get?_update_other s.heap (Obj.mapSeq f) (Ne.symm hb)).trans hu) ⟨_,q⟩ ?_;exact⟨hz,its',_,hv,q⟩
def Inv.Ro{t':Nat}(I:Inv X δ σ H s)(hv:aj ys its)(hz:ys.length<=sizeLine):
  Inv X δ σ (upd H s.heap.objs.size (.lst ys)) {s with heap:=s.heap.push {cls:=.type "list",data:=.seq its.toArray},toks:=t'}:=
 I.laid (λ_ _ q=>aal _ q) (aao _) ⟨hz,its,0,hv,aaP _ rfl⟩
def Inv.fresh(I:Inv X δ σ H s):H s.heap.objs.size=none:=I.ay.fresh (aao _)
def Inv.ME(I:Inv X δ σ H s)(hH:H l=some (.lst xs)):xs.length<=sizeLine/\∃(its:List Value) (n:Nat),aj xs its/\xs.length=its.length/\s.heap.get? l=some {cls:=.type "list",data:=.seq its.toArray n}:=by have⟨z,its,n,r,e⟩:=I.ay l _ hH;exact⟨z,its,n,r,r.length,e⟩
def Kv(h:n<=sizeLine):Builtin.List.listTooLong n=false:=by unfold Builtin.List.listTooLong;exact aat ()
end
section
def Eu:V->List V->Hp->VK->Prop:=λx vs H Q=>∃l xs y,x= .ref l/\vs=[y]/\H l=some (.lst xs)/\xs.length < sizeLine/\Q .aE (upd H l (.lst (xs++[y])))
def uZ:MtM X "list.append" Eu:=by intro δ s σ H x vs v us Q I rx rv h;have⟨l,xs,y,rfl,rfl,hH,hz,q⟩:=h;cases rx;have⟨u,rfl,ru⟩:=rv.one;have⟨z,its,n,r,hl,e⟩:=I.ME hH;refine call_meets F.slot_list_append ⟨_,e,rfl⟩ F.entry_list_append (F.args_list_append_2 _ _) (PySem.list_append l its.toArray n u (by rw[aaz];omega)) ⟨e,?_⟩;refine⟨.aE,_,I.XH (its':=its++[u]) hH e (by simp) (r.append (.cons ru .nil)) ?_,rfl,q⟩;rw[aan,List.length_singleton];omega
def Qw:R2:=λx y H Q=>∃l b xs zs,x= .ref l/\y= .ref b/\H l=some (.lst xs)/\H b=some (.lst zs)/\xs.length+zs.length<=sizeLine/\∀p,H p=none->Q (.ref p) (upd H p (.lst (xs++zs)))
def KD:iC X (binaryOp .Add) Qw:=by
 intro δ s σ H x y v u Q I rx ry h;have⟨l,b,xs,zs,rfl,rfl,hH,hB,hz,q⟩:=h;cases rx;cases ry;have⟨z,its,n,r,hl,e⟩:=I.ME hH;have⟨z2,JU,n2,r2,FV,e2⟩:=I.ME hB;refine PySem.P.add_list e e2 ?_ (by rw[aaz,aaz];omega);have ea:its.toArray++JU.toArray=(its++JU).toArray:=by simp
 rw[ea];exact⟨.ref _,_,I.Ro (t':=s.toks) (r.append r2) (by rw[aan];omega),rfl,q _ I.fresh⟩
def QN:R2:=λx y H Q=>∃l k xs,x= .ref l/\y= .int k/\H l=some (.lst xs)/\ -(2 ^ 63)<=k/\k < 2 ^ 63/\xs.length * k.toNat<=sizeLine/\
 ∀p,H p=none->Q (.ref p) (upd H p (.lst (List.replicate k.toNat xs).flatten))
def N8{α:Type}(xs:List α)(k:Nat):(List.replicate k xs).flatten.length=k * xs.length:=by
 induction k with
 | zero=>simp
 | succ k ih=>rw[abe,aby,aan,ih,Nat.succ_mul,Nat.add_comm]
def K3:iC X (binaryOp .Mult) QN:=by
 intro δ s σ H x y v u Q I rx ry h;have⟨l,k,xs,rfl,rfl,hH,h1,h2,hz,q⟩:=h;cases rx;have⟨t,rfl⟩:=ry;have⟨z,its,n,r,hl,e⟩:=I.ME hH;have hlen:its.toArray.size * k.toNat<=sizeLine:=by rw[aaz,<-hl];exact hz
 have Yo:¬its.toArray.size * k.toNat > (2 ^ 63 - 1) / 8:=by
  have:(sizeLine:Nat)<=(2 ^ 63 - 1) / 8:=@_
  omega
 have XO:¬(!Builtin.List.listFitsIndex k)=true:=by rw[fitsIndex_both h1 h2];exact aaD
 have TX:¬Builtin.List.listTooLong (its.toArray.size * k.toNat)=true:=by rw[Kv hlen];exact aaD
 have Dr:List.foldl (λx1 x2=>x1++x2) #[] (List.replicate (if its.toArray.isEmpty=true then 0 else k.toNat) its.toArray)=(List.replicate k.toNat its).flatten.toArray:=by
  have f0:∀m:Nat,List.foldl (λx1 x2=>x1++x2) #[] (List.replicate m its.toArray)=(List.replicate m its).flatten.toArray:=λm=>by have:=vN its m [];rw[aaS]at this;exact this
  rw[f0];cases its with
  | nil=>simp
  | cons a r'=>rw[if_neg (by simp)]
 refine wpAny_binaryOp_repeat_ref (T:="list") (U:="int") @_ ⟨_,e,rfl⟩ (λs'=>typeIs_int s' k t) noFill_list_mul F.fills_int_mul F.slot_int_rmul repeat_list F.slot_int_index.lookup
  (call_meets F.slot_int_rmul (typeIs_int s k t) F.entry_int_rmul (F.args_int_rmul_2 _ _) (int___rmul___int_list k t l its.toArray n)
   ⟨e,rfl,⟨_,e,rfl⟩,call_meets F.slot_list_mul ⟨_,e,rfl⟩ F.entry_list_mul (F.args_list_mul_2 _ _) (AutoListH.list___mul___list_int_3 l its.toArray n k t XO Yo TX) ⟨e,?_⟩⟩)
 rw[Dr];exact⟨.ref _,_,I.Ro (t':=s.toks) (r.rep k.toNat) (by rw[N8,Nat.mul_comm];exact hz),rfl,q _ I.fresh⟩
end
end L2
namespace Att
open PySem PySem.W PySem.Calls PyProof.Rows
def qg{P:Params}{h:Heap}:∀(ns:List Int) (vs:List Value),WellAll P h vs (ns.map WData.int)->IntsAre vs ns:=by
 intro ns
 induction ns with
 | nil=>
  intro vs w;rw[List.map_nil]at w;cases w;exact .nil
 | cons n ns ih=>
  intro vs w;rw[aa0]at w;cases w with
  | cons a b=>
   cases a;exact .cons _ _ (ih _ b)
def GY{l:OpenLaw}{n:Nat}(hn:l.most=some n){P:Params}{h:Heap}{args:List WData}{vals:List Value}
  (N6:l.row.toRowW.claim.pre args=true) (YB:WellAll P h vals args):
  ∃a vs ns,vals=[Value.ref a]/\args=[WData.list (ns.map WData.int)]/\h.get? a=some {cls:=.type "list",data:=.seq vs.toArray}/\IntsAre vs ns/\ns.length<=n:=by
 have hsh:WShape.hasAll [] args [.list .int]=true:=(pre_splitW N6).1;have hc:l.pre.holds [] {args:=args}=true:=(pre_splitW N6).2;have⟨d,r,rfl,h1,h2⟩:=hasAllW_cons hsh;obtain rfl:=hasAllW_nil h2;have⟨xs,rfl,h3⟩:=hasW_list h1;have⟨ns,rfl⟩:=items_int h3;have hlen:ns.length<=n:=by
  unfold OpenLaw.pre at hc;have h4:(WTm.not (.lt (.lit (.int (n:Int))) (.len (.arg 0)))).holds [] {args:=[.list (ns.map .int)]}=true:=by have h4:=(holds_andW hc).1;rw[hn]at h4;exact h4
  have h5:=condW_of h4 (w_not (w_lt w_lit (w_len_list (w_arg rfl))));rw[aah]at h5;refine Nat.le_of_not_lt λq=>?_;have q':(n:Int) < ((ns.length:Nat):Int):=()
  first
   | (rw[aaO q']at h5;exact aaK h5 @_)
   | (simp at h5;omega)
 cases YB with
 | cons w1 w2=>
  cases w2;cases w1 with
  | list ho MB=>exact⟨_,_,ns,rfl,rfl,ho,qg ns _ MB,hlen⟩
def He(l:OpenLaw)(args:List WData):l.row.toRowW.claim.post args (.bool true) args=true:=
 postW_of (r:=l.row.toRowW) (X:=(true==true))
  (show WShape.has [] (.bool true) .bool=true by first| rfl| decide| simp[WShape.has,WShape.arms,WShape.armsAll])
  (show(WTm.eq .res (.lit (.bool true))).value [] {args:=args,res:=some (.bool true),after:=args}=some (.bool (true==true)) from w_eq_bool (w_res rfl) w_lit) rfl
def z7{l:OpenLaw}{n:Nat}{q:Program}{loose:List Str}{XP:(Str->Option Value)->Heap->Prop}{YP:World->Heap->Prop}{d:DefRec}
  (hn:l.most=some n) (U4:d.params.defaults=[])
  (call:∀(w:World) (s₀ s₁:Shared) (mg mb:Str->Option Value) (fa:Addr) (o:Obj) (pm cd doc:Value) (a:Addr) (vs:List Value) (ns:List Int),
   Ground q loose [] XP w s₀ mg mb s₁.heap->YP w s₁.heap->
   s₁.heap.get? fa=some o->o.data= .func (docDef d.name d.params d.body d.scope pm cd doc)->s₁.heap.CodeRec cd d.name->mg d.name=some (.ref fa)->
   s₁.heap.get? a=some {cls:=.type "list",data:=.seq vs.toArray}->IntsAre vs ns->ns.length<=n->s₁.gens= #[]->
   codeAny (model l.prog w) callerA (.call (.ref fa) ⟨[.ref a],[]⟩) (λr s'=>r= .ok (.ret (.bool true))/\OldK s₁.heap s'.heap/\s'.os=s₁.os/\AllBare s'.gens) s₁):
  WalkO q loose XP YP l.row.toRowW d [] (λf vs=>PySem.call f vs):=by
 intro w s₀ s₁ mg mb G Y fa o pm cd doc dV kV ho hd B1 hD Mt hg args vals as N6 aeq hrd YB ZR;obtain rfl:dV= .none:=Dflts.none hD U4;obtain rfl:kV= .none:=Dflts.noKw hD;have⟨a,vs,ns,rfl,rfl,Ri,hints,hlen⟩:=GY hn N6 YB;refine enter_call (codeAny_mono (call w s₀ s₁ mg mb fa o pm cd doc a vs ns G Y ho (fd_plain hd) B1 Mt Ri hints hlen hg) λr s' hq=>?_);have⟨rfl,h2,h3,h4⟩:=hq;exact⟨.inl ⟨.bool true,.bool true,[],rfl,λ_=>rfl,.bool true,He l _,λ_=>⟨List.Pairwise.nil,λ_ hm=>(nomatch hm)⟩⟩,h2,h3,h4⟩
end Att
namespace L2
open PySem PySem.Spec PyProof.Rows
def uL:∀{vs:List Value} {ns:List Int},IntsAre vs ns->aj (ns.map V.int) vs
 | _,_,.nil=>.nil
 | _,_,.cons n t h=>.cons ⟨t,rfl⟩ (uL h)
def PJ(H:Hp):Prop:=∀b,H b=none\/∃o xs,H b=some (.wG o (.lst xs))
def Kt{P:Program}{w:World}{K:tf}{mg mb:Str->Option Value}{CX:A1}{k:Nat}{fa a:Addr}{fd:FuncData}{x:Str}{sp:Sp}{s₁:Shared}{vs:List Value}{ns:List Int}
  (KX:K.In s₁.heap) (JQ:s₁.heap.Ns mainGlobals mg) (hb:s₁.heap.Ns builtinsNs mb) (hbb:∀x:Str,x≠"__name__"->mb x=bootBuiltins x) (Zd:s₁.heap.NoLimit) (hg:s₁.gens= #[])
  (ha:s₁.heap.get? a=some {cls:=.type "list",data:=.seq vs.toArray}) (hi:IntsAre vs ns) (hl:ns.length<=sizeLine) (hr:bD k callerA)
  (F:∀base:Heap,K.In base->base.Ns mainGlobals mg->ah P w K mg base CX k fa fd [x] sp) (TQ:∀(s:Shared) (u:Value),BindsTo s fd ⟨[u],[]⟩ [(x,u)])
  (GU:∀H:Hp,PJ H->fU K H a (ns.map V.int)->sp [.ref a] H (λv _=>v= .bl true) λ_ _ _=>False)
  (Z2:∀H e s',CX [] H s₁ (λ_ _ _=>False) e s'->False):
  codeAny (model P w) callerA (.call (.ref fa) ⟨[.ref a],[]⟩) (λr s'=>r= .ok (.ret (.bool true))/\OldK s₁.heap s'.heap/\s'.os=s₁.os/\AllBare s'.gens) s₁:=by
 have rv:=uL hi;have Xc:=hi.length
 have core:∀H:Hp,PJ H->fU K H a (ns.map V.int)->jD P w H s₁.heap->(∀b,H b≠none->b=a)->(H a≠none->K.lookup a=none)->
   codeAny (model P w) callerA (.call (.ref fa) ⟨[.ref a],[]⟩) (λr s'=>r= .ok (.ret (.bool true))/\OldK s₁.heap s'.heap/\s'.os=s₁.os/\AllBare s'.gens) s₁:=by
  intro H hO hS ay hA hK;have EI:∀{b:Addr} {o:Obj},s₁.heap.get? b=some o->H b=none->(vQ s₁.heap H).get? b=some o:=λe n=>HU e n;have Ul:∀{b:Addr} {o:Obj} {es:Array DictEntry} {ep:Nat},s₁.heap.get? b=some o->o.data= .dict es ep->H b=none:=λ{b o es ep} e d=>by
   cases q:H b with
   | none=>rfl
   | some u=>
    have e':b=a:=hA b (by rw[q];simp);subst e';rw[ha]at e;cases e;have d':Data.seq vs.toArray _=Data.dict es ep:=d;cases d'
  have WC:∀{b:Addr} {m:Str->Option Value},s₁.heap.Ns b m->(vQ s₁.heap H).Ns b m:=λ{b m} ⟨o,es,ep,e,d,r⟩=>⟨o,es,ep,EI e (Ul e d),d,r⟩
  have hKb:K.In (vQ s₁.heap H):=λb o e=>EI (KX b o e) (by
   cases q:H b with
   | none=>rfl
   | some u=>
    have e':b=a:=hA b (by rw[q];simp);subst e'
    rw[hK (by rw[q];simp)]at e;cases e)
  have hM:Mod K mg (vQ s₁.heap H):=⟨hKb,WC JQ,⟨mb,WC hb,hbb⟩,let ⟨mc,h1,h2⟩:=Zd;⟨mc,WC h1,h2⟩⟩;have e0:Dz P w K mg (vQ s₁.heap H) callerA [] s₁ H:=⟨rfl,hM,λb o e=>NI e,Nat.le_of_eq (FJ _ _),trivial,λb hb=>absurd (show b∈([]:List Addr) from hb) (by simp),ay,.of_eq hg⟩;refine codeAny_mono ((F _ hKb (WC JQ)).run callerA [] s₁ H ⟨[.ref a],[]⟩ [.ref a] [.ref a] _ _ hr e0 (TQ s₁ (.ref a)) (.cons rfl .nil) (GU H hO hS)) λr s' h=>?_;cases r with
  | error e=>exact(Z2 H e s' h).elim
  | ok fl=>
   cases fl with
   | next=>exact False.elim h
   | brk=>exact False.elim h
   | cont=>exact False.elim h
   | ret u=>
    have⟨v,H',os,bare,un,Zj,r',q⟩:=h;have q':v= .bl true:=q;subst q';obtain rfl:u=Value.bool true:=r';refine⟨rfl,OldK.of_keep λb o e=>?_,os,bare⟩;cases q:H b with
    | none=>exact un.keep b o e q (by intro z;exact absurd (show b∈([]:List Addr) from z) (by simp)) (by simp)
    | some u=>
     rcases hO b with z| ⟨ob,xs,z⟩
     ·rw[q]at z;cases z
     ·have z2:=un.kf b ob _ z;have⟨e1,_⟩:=ay b _ z;have⟨e2,_⟩:=Zj b _ z2;rw[e]at e1;cases e1;exact e2
 cases hk:K.lookup a with
 | some o=>
  have e:=KX a o hk;rw[ha]at e;cases e;refine core (λ_=>none) (λ_=>.inl rfl) (.inr ⟨_,vs.toArray,_,hk,rfl,rfl,rfl,by rw[List.size_toArray,Xc];exact hl,by simpa using rv⟩) (λb u z=>by have z':(none:Option HO)=some u:=z;cases z') (λb z=>absurd rfl z) λz=>absurd rfl z
 | none=>
  refine core (λb=>if b=a then some (.wG {cls:=.type "list",data:=.seq vs.toArray} (.lst (ns.map V.int))) else none) (λb=>?_) (.inl (.inr ⟨{cls:=.type "list",data:=.seq vs.toArray},aay rfl⟩)) (λb u z=>?_) (λb z=>?_) λ_=>hk
  ·by_cases hb:b=a
   ·exact .inr ⟨_,_,aay hb⟩
   ·exact .inl (aaF hb)
  ·by_cases hb:b=a
   ·have z':=(aay hb).symm.trans z;cases z';subst hb;exact⟨ha,by rw[aah];exact hl,vs,_,rv,ha⟩
   ·have z':=(aaF hb).symm.trans z;cases z'
  ·by_cases hb:b=a
   ·exact hb
   ·exact aaK (aaF hb) z
def wQ{l:PySem.W.OpenLaw}{n k:Nat}{q:Program}{loose:List Str}{XP:(Str->Option Value)->Heap->Prop}{YP:World->Heap->Prop}{d:DefRec}{K:Params->tf}{CX:World->A1}{sp:World->Sp}{x:Str}
  (hn:l.most=some n) (Sn:n<=sizeLine) (U4:d.params.defaults=[]) (hr:bD k callerA)
  (hY:∀(w:World) (h:Heap),YP w h->(K w.params).In h)
  (F:∀(w:World) (mg:Str->Option Value) (fa:Addr) (h:Heap),(K w.params).In h->h.Ns mainGlobals mg->mg d.name=some (.ref fa)->
   ∃fd:FuncData,(∀(s:Shared) (u:Value),BindsTo s fd ⟨[u],[]⟩ [(x,u)])/\
    ∀base:Heap,(K w.params).In base->base.Ns mainGlobals mg->ah l.prog w (K w.params) mg base (CX w) k fa fd [x] (sp w))
  (GU:∀(w:World) (H:Hp) (a:Addr) (ns:List Int),ns.length<=n->PJ H->fU (K w.params) H a (ns.map V.int)->sp w [.ref a] H (λv _=>v= .bl true) λ_ _ _=>False)
  (Z2:∀(w:World) (H:Hp) (s:Shared) (e:Value) (s':Shared),CX w [] H s (λ_ _ _=>False) e s'->False):
  PySem.W.WalkO q loose XP YP l.row.toRowW d [] (λf vs=>PySem.call f vs):=by
 refine Att.z7 hn U4 λw s₀ s₁ mg mb fa o pm cd doc a vs ns G Y ho hd B1 Mt Ri hints hlen hg=>?_;have KX:=hY w _ Y;have⟨fd,hb,hF⟩:=F w mg fa _ KX G.T.g Mt;exact Kt KX G.T.g G.T.b G.T.builtins G.T.nolimit hg Ri hints (aax hlen Sn) hr hF hb (λH hO hS=>GU w H a ns hlen hO hS) λH e s'=>Z2 w H s₁ e s'
end L2
/- THE Xs Mf (shape;LID,My.* are Tj):
  My.Adr:a structure of Mq addresses Yc YF UC names (classes,GV);My.Txt K t:a structure (Prop) of Mq equations over K;
  My.BJ:{K} {implicit addresses ..} (e1:nsIn K mainGlobals "law"=some (some (.ref f))) (e2:K.lookup f=some ⟨oc,od,.func (fnOf "law" "law" params body scope dV kV doc pm an aY ct),sl⟩) (e3:codeIn K aY "law"=true) .. :∃t,My.Txt K t
set_option maxRecDepth 100000 in
set_option maxHeartbeats 0 in
def PySem.Challenge.cw_LID_holds : PySem.Challenge.rw_LID.Holds := by
 w_on;o_law;k_head;(case hw=>w_witness2)
 k_fill
 refine L2.wQ (l:=PySem.Challenge.rw_LID) (n:=63) (k:=40) (x:="script") (CX:=fun w=>..) (sp:=fun _=>My.Pr) rfl @_ rfl ⟨rfl,@_,@_⟩ (fun w h Y=>PySem.W.kIn_of Y) ?F ?S ?C
 case F=>
  intro w mg fa h KX G Mt;have T:∃t,My.Txt (L2.Zv KX) t:=by
   dsimp only[L2.Zv]
   refine' My.BJ ?e1 ?e2 ?e3 ..
   (case e1=>PySem.W.k_is)
   (case e2=>PySem.W.k_is)
   ..
  have⟨t,T⟩:=T;have e0:=Mt.symm.trans (PySem.W.mg_of KX G T.law);cases e0;exact⟨_,λs u=>.of_eq rfl,λbase kb nb=>My.C8 T kb nb⟩
 case S=>exactλw H a ns hl hO hS=>..
 case C=>exact ..
(Mq tactic k_is has no namespace:write k_is) -/
namespace L2
open PySem PySem.Spec PyProof.Rows
variable{P prog:Program}{w:World}{mg:Str->Option Value}{base h B:Heap}{qual:Str}{f x C:Addr}{fd:FuncData}{ps N xs ys:List Str}{A:Around}{H':Hp}{M:Model}{E:Value->Shared->Prop}{s:Shared}{env:Env}{outer:List Env}{o ox:Obj}{Q:Unit->Shared->Prop}{X:Cx}{δ pn p':List (Addr×Obj)}{σ:St}{scope:Scope}{pos:Pos}{Μ:List Nat}
def k7(s:Stmt):Arguments:=match s with
 | .FunctionDef _ a _ _ _ _ _ _ _ _=>a
 | _=>{posonlyargs:=[],args:=[],vararg:=none,kwonlyargs:=[],kw_defaults:=[],kwarg:=none,defaults:=[]}
def fH(s:Stmt):List Stmt:=match s with
 | .FunctionDef _ _ b _ _ _ _ _ _ _=>b
 | _=>[]
def ν(s:Stmt):Scope:=match s with
 | .FunctionDef _ _ _ _ _ _ sc _ _ _=>sc
 | _=>{kind:=.function,names:=[],isGenerator:=false,isCoroutine:=false}
abbrev Wk:A1:=λ_ _ _ _ _ _=>False
abbrev E0:XK:=λ_ _ _=>False
structure cQ(K:tf)(x qual:Str)(st:Stmt)(f:Addr)(fd:FuncData):Prop where
 ex:∃(oc:Value) (od:Option Addr) (kV doc pm:Value) (an:Option Addr) (aY ct:Value) (BF:Array (Option Value)),
  fd=PySem.W.fnOf x qual (k7 st) (fH st) (ν st) .none kV doc pm an aY ct/\K.lookup f=some ⟨oc,od,.func fd,BF⟩/\PySem.W.codeIn K aY qual=true
 kp:PySem.W.keepIn K (.ref f)=true
section
variable{K:tf}
def cQ.binds{x:Str}{st:Stmt}(F:cQ K x qual st f fd)
  (h:∀(kV doc pm:Value) (an:Option Addr) (aY ct:Value) (us:List Value),us.length=ps.length->bindArgs (PySem.W.fnOf x qual (k7 st) (fH st) (ν st) .none kV doc pm an aY ct) ⟨us,[]⟩=pure (ps.zip us)):hJ K fd ps []:=by
 have⟨oc,od,kV,doc,pm,an,aY,ct,BF,rfl,lk,B1⟩:=F.ex;exact .all (h kV doc pm an aY ct)
def Kd{x:Str}{st:Stmt}{oc:Value}{od an:Option Addr}{BF:Array (Option Value)}{kV doc pm aY ct:Value}(l:K.lookup f=some ⟨oc,od,.func (PySem.W.fnOf x qual (k7 st) (fH st) (ν st) .none kV doc pm an aY ct),BF⟩)
  (c:PySem.W.codeIn K aY qual=true) (k:PySem.W.keepIn K (.ref f)=true):cQ K x qual st f (PySem.W.fnOf x qual (k7 st) (fH st) (ν st) .none kV doc pm an aY ct):=⟨⟨oc,od,kV,doc,pm,an,aY,ct,BF,rfl,l,c⟩,k⟩
end
def HG{k:Nat}(hr:bD k A):A.units+1 < cLine:=abc (Nat.add_le_add_left (by decide:1<=64) _) hr.units
def Gk{A B:Prop}(h:B):if false=true then A else B:=by rw[aaF aaD];exact h
def Fz{A B:Prop}(h:A):if true=true then A else B:=by rw[aay rfl];exact h
def dj(H H':Hp):Prop:=∀b o,H b=some o->H' b=some o
def dj.refl(H:Hp):dj H H:=λ_ _ h=>h
def dj.trans{H H1 H2:Hp}(a:dj H H1)(b:dj H1 H2):dj H H2:=λc o h=>b c o (a c o h)
def dj.free{H:Hp}(e:dj H H'){l:Addr}(h:H' l=Option.none):H l=Option.none:=by
 cases q:H l with
 | none=>rfl
 | some o=>
  rw[e l o q]at h;cases h
def dj.seq{K:tf}{H:Hp}{a:Addr}{xs:List V}(e:dj H H')(h:fU K H a xs):fU K H' a xs:=by
 rcases h with (h| ⟨o,h⟩)| h
 ·exact .inl (.inl (e _ _ h))
 ·exact .inl (.inr ⟨o,e _ _ h⟩)
 ·exact .inr h
section
def aM.here{H:Hp}{a:Addr}{o:HO}(x:aM P w H h a o):∃ob,h.get? a=some ob:=by
 cases o with
 | lst xs=>have⟨_,_,_,_,e⟩:=x;exact⟨_,e⟩
 | tup xs=>have⟨_,_,_,ob,e,_⟩:=x;exact⟨ob,e⟩
 | dK Κ=>have⟨_,_,_,_,ob,_,_,e,_⟩:=x;exact⟨ob,e⟩
 | dT Κ=>have⟨_,_,_,_,ob,_,_,e,_⟩:=x;exact⟨ob,e⟩
 | set S n=>have⟨ob,_,_,_,e,_⟩:=x;exact⟨ob,e⟩
 | ins C dx fs=>have⟨_,_,_,e,_⟩:=x;exact⟨_,e⟩
 | own y=>exact x
 | xd fs=>have⟨_,⟨ob,_,_,e,_⟩,_⟩:=x;exact⟨ob,e⟩
 | V' lo hi=>have⟨_,_,_,e⟩:=x;exact⟨_,e⟩
 | wG ob u=>have⟨e,_⟩:=x;exact⟨_,e⟩
 | LV ps=>exact⟨_,show h.get? a=some _ from x⟩
 | met f y=>exact⟨_,show h.get? a=some _ from x⟩
 | ext φ=>have⟨_,z,_⟩:=x;exact z
def IH(B:Heap)(l:List Env)(x:Addr)(o:Obj)(fl:Value)(h:Heap):Prop:=
 B.StaysIn h/\B.get? x=none/\h.FunFrames B l/\∃(vs:Array Value) (T:Addr) (oT:Obj) (ts:Array Value),h.get? x=some {o with data:=.fields vs}/\vs[2]? =some .none/\vs[1]? =some (.ref T)/\
  B.get? T=none/\T≠x/\h.get? T=some oT/\oT.data= .fields ts/\ts[3]? =some fl
section
variable{l:List Env}{L:Addr}{vs:Array Value}
def sZ{h':Heap}{T:Addr}{oT:Obj}{ts:Array Value}(hT:h.get? T=some oT)(hd:oT.data= .fields ts)(k:∀b,b≠T->h'.get? b=h.get? b):h.UpToSlots h':=λb ob e hn=>
 ⟨ob.slots,(k b λz=>by rw[z,hT]at e;cases e;exact hn _ hd).trans e⟩
def vI{h':Heap}(hl:h.FunFrames B l)(u:h.UpToSlots h'):h'.FunFrames B l:=hl.of_keeps λb ob e hn=>by have⟨sl,q⟩:=u b ob e hn;exact⟨_,q,rfl⟩
def Aq{head:Value}{WM:Bool}(PN:A.frames=some (env::outer))(hf:env.frame=some L)(hB:B.StaysIn s.heap)(hn:B.get? x=none)(hl:s.heap.FunFrames B (env::outer))(hx:s.heap.get? x=some {o with data:=.fields vs})(h1:1 < vs.size)(h2:vs[2]? =some .none)
  (h:∀h',IH B (env::outer) x o (rawInt L) h'->s.heap.UpToSlots h'->Q Unit.unit {s with heap:=h'}):
  wpAny M A (do let a<-frameOf env;let pl<-entryPlaceOf L WM;let n<-EntryCells.newEntry head a .none (rawInt L) .none pl;setField (.ref x) 1 n) Q E s:=by
 refine aaj (wpAny_frameOf_fun PN hl hf λg1 S1=>aaj (wpAny_entryPlaceOf λpl dN=>?_));have nx:x∉(env::outer).filterMap (·.frame):=λz=>by have⟨_,ob,e,d⟩:=hl.mem z;rw[hx]at e;cases e;exact d _ rfl
 have Sg:g1.get? x=some {o with data:=.fields vs}:=(S1.2.1 x nx).trans hx;unfold EntryCells.newEntry newFields;refine aaj (wpAny_newObj_type ?_ (dN.sizeOk5 _ _ _ _ _));have L6:=aal (h:=g1) {cls:=.type "traceback",dict:=none,data:=.fields ([head,.ref L,.none,rawInt L,.none]++(if pl.isEmpty then List.replicate 6 Value.none else pl)).toArray} Sg;refine wpAny_setField L6 rfl h1 (h _ ?_ ?_)
 ·have up1:∀b ob,b≠x->g1.get? b=some ob->((g1.push {cls:=.type "traceback",dict:=none,data:=.fields ([head,.ref L,.none,rawInt L,.none]++(if pl.isEmpty then List.replicate 6 Value.none else pl)).toArray}).update x (Obj.mapFields (·.setIfInBounds 1 (Value.ref g1.objs.size)))).get? b=some ob:=λb ob nb e=>
   (Heap.get?_update_other _ _ (Ne.symm nb)).trans (aal _ e)
  have neT:g1.objs.size≠x:=acj (aaq Sg)
  refine⟨λb ob e=>up1 b ob (λz=>by rw[z,hn]at e;cases e) ((S1.2.1 b λz=>by rw[(hl.mem z).1]at e;cases e).trans (hB b ob e)),hn,hl.of_keeps λb ob e d=>?_,vs.setIfInBounds 1 (.ref g1.objs.size),g1.objs.size,_,_,Heap.get?_update_self _ L6 rfl,by rw[Array.getElem?_setIfInBounds_ne @_];exact h2,by simp[h1],?_,neT,
   (Heap.get?_update_other _ _ (Ne.symm neT)).trans (aaP g1 rfl),rfl,?_⟩
  ·have⟨sl,q⟩:=S1.2.2 b ob e;exact⟨_,up1 b _ (λz=>by rw[z,hx]at e;cases e;exact d _ rfl) q,rfl⟩
  ·cases q:B.get? g1.objs.size with
   | none=>rfl
   | some ob=>
    have:=aaq (hB _ _ q);rw[<-S1.1]at this;exact aaK this (abz _)
  ·first
    | (simp;done)
    | (rcases dN with rfl| ⟨_,_,_,_,_,_,_,rfl⟩ <;> simp)
 ·intro b ob e d;have⟨sl,q⟩:=S1.2.2 b ob e;refine⟨sl,?_⟩;rw[Heap.get?_update_other _ _ (λz:x=b=>by rw[<-z,hx]at e;cases e;exact d _ rfl)];exact aal _ q
def IS(PN:A.frames=some (env::outer))(hf:env.frame=some L)(hB:B.StaysIn s.heap)(hn:B.get? x=none)(hl:s.heap.FunFrames B (env::outer))(hx:s.heap.get? x=some {o with data:=.fields vs})(h1:vs[1]? =some .none)(h2:vs[2]? =some .none)
  (h:∀h',IH B (env::outer) x o (rawInt L) h'->s.heap.UpToSlots h'->Q Unit.unit {s with heap:=h'}):wpAny M A (noteFrame (.ref x) env) Q E s:=by
 unfold noteFrame;simp only[hf];refine aaj (wpAny_field hx rfl h1 ?_);rw[aaF @_];exact Aq PN hf hB hn hl hx (abi.mp h1).1 h2 h
def OR(PN:A.frames=some (env::outer))(hf:env.frame=some L)(R:IH B (env::outer) x o .none s.heap)
  (h:∀h',IH B (env::outer) x o (rawInt L) h'->s.heap.UpToSlots h'->Q Unit.unit {s with heap:=h'}):wpAny M A (noteFrame (.ref x) env) Q E s:=by
 have⟨hB,hn,hl,vs,T,oT,ts,hx,h2,h1,nT,WS,hT,dT,h3⟩:=R;unfold noteFrame;simp only[hf];refine aaj (wpAny_field hx rfl h1 ?_);rw[if_pos (show(Value.ref T != Value.none)=true by simp)];refine aaj (wpAny_field hT dT h3 ?_);rw[if_neg (show¬((Value.none==rawInt L)=true) by simp[rawInt])];refine aaj (wpAny_setField hT dT (abi.mp h3).1 ?_);have LI:∀b,b≠T->(s.heap.update T (Obj.mapFields (·.setIfInBounds 3 Value.none))).get? b=s.heap.get? b:=λb nb=>Heap.get?_update_other _ _ (Ne.symm nb);have u:=sZ hT dT LI;exact Aq PN hf (λb ob e=>(LI b λz=>by rw[z,nT]at e;cases e).trans (hB b ob e)) hn (vI hl u) ((LI x (Ne.symm WS)).trans hx) (abi.mp h1).1 h2 λh' F' u'=>h h' F' (u.trans u')
def qp{fl:Value}(R:IH B l x o fl s.heap)(h:∀h',IH B l x o .none h'->s.heap.UpToSlots h'->Q Unit.unit {s with heap:=h'}):wpAny M A (setFlight (.ref x) none) Q E s:=by have⟨hB,hn,hl,vs,T,oT,ts,hx,h2,h1,nT,WS,hT,dT,h3⟩:=R;unfold setFlight;refine aaj (wpAny_field hx rfl h1 ?_);rw[if_pos (show(Value.ref T != Value.none)=true by simp)];have z3:=(abi.mp h3).1;have LI:∀b,b≠T->(s.heap.update T (Obj.mapFields (·.setIfInBounds 3 ((none:Option Addr).elim Value.none λf=>rawInt f)))).get? b=s.heap.get? b:=λb nb=>Heap.get?_update_other _ _ (Ne.symm nb);have u:=sZ hT dT LI;refine wpAny_setField hT dT z3 (h _ ⟨λb ob e=>(LI b λz=>by rw[z,nT]at e;cases e).trans (hB b ob e),hn,vI hl u,vs,T,_,_,(LI x (Ne.symm WS)).trans hx,h2,h1,nT,WS,Heap.get?_update_self _ hT (Obj.isFreed_of_fields (Obj.data_mapFields dT _)),Obj.data_mapFields dT _,by simp[z3]⟩ u)
def Iq{fl:Value}(R:IH B (env::outer) x o fl h):IH B outer x o fl h:=by have⟨hB,hn,⟨_,_,hl⟩,r⟩:=R;exact⟨hB,hn,hl,r⟩
end
structure AA(P:Program)(w:World)(l:List Env)(H H':Hp)(h h' B:Heap)(x:Addr)(o:Obj):Prop where
 un:Un (lI l) [] H H' h h'
 ok:jD P w H' B
 A0:IH B l x o .none h'
 RY:∀b u,h.get? b=some u->H b=none->b∉lI l->B.get? b=some u
 Nh:∀b u,h.get? b=some u->b∉lI l->∃u',B.get? b=some u'
variable{l:List Env}{H:Hp}{h' RS:Heap}
def AA.ay(F:AA P w l H H' h h' B x o):jD P w H' h':=F.ok.kept F.A0.1
def AA.nx(F:AA P w l H H' h h' B x o):H' x=none:=by
 cases e:H' x with
 | none=>rfl
 | some u=>
  have⟨ob,q⟩:=aM.here (F.ok x u e);rw[F.A0.2.1]at q;cases q
def AA.on(F:AA P w l H H' h h' B x o)(f:IH B l x o .none RS)(u:h'.UpToSlots RS):AA P w l H H' h RS B x o where
 un :=⟨λb o e n hb _=>f.1 b o (F.RY b o e n hb),
  λb o e n hb hx=>by
   have⟨sl,e1⟩:=F.un.slot b o e n hb hx;have⟨_,o',ly,hd⟩:=F.A0.2.2.1.mem hb;rw[e1]at ly;cases ly;have⟨R_,e2⟩:=u b _ e1 hd;exact⟨R_,e2⟩,
  F.un.free,
  λb o e _=>by
   by_cases hb:b∈lI l
   ·have⟨_,o',ly,hd⟩:=F.A0.2.2.1.mem hb;have⟨sl,e2⟩:=u b _ ly hd;exact⟨_,e2⟩
   ·have⟨o',q⟩:=F.Nh b o e hb;exact⟨o',f.1 _ _ q⟩,
  F.un.lG,F.un.kf,F.un.lF⟩
 ok:=F.ok
 A0:=f
 RY:=F.RY
 Nh:=F.Nh
end
def bM(P:Program)(w:World):A1:=λouter H s E e s'=>
 ∃x o H' B,e= .ref x/\s'.os=s.os/\AllBare s'.gens/\AA P w outer H H' s.heap s'.heap B x o/\E o.cls o.dict H'
section
variable{H:Hp}{RS:Heap}
def AA.leave(I:Inv X δ σ H s)(hex:X.ex=[])(vh:∀b∈lI X.outer,b∈lI X.stack)(ok:jD X.prog X.w H' B)(f:IH B X.outer x ox .none RS)(Zy:X.s₀.heap.get? x=none)
  (RY:∀b o,b≠x->s.heap.get? b=some o->H b=none->b∉lI X.stack->B.get? b=some o)
  (Nh:∀b o,b≠x->s.heap.get? b=some o->b∉lI X.stack->∃o',B.get? b=some o')
  (sl:∀b o,s.heap.get? b=some o->b∈lI X.stack->∃sl,RS.get? b=some {o with slots:=sl})
  (free:∀b o,s.heap.get? b=some o->H b=none->H' b=none)
  (lG:∀b xs,H b=some (.tup xs)->H' b=some (.tup xs)) (kf:∀b o u,H b=some (.wG o u)->H' b=some (.wG o u))
  (lF:∀b ps,H b=some (.LV ps)->∃more,H' b=some (.LV (ps++more))):AA X.prog X.w X.outer X.H₀ H' X.s₀.heap RS B x ox:=by
 have nX:∀b o,X.s₀.heap.get? b=some o->b≠x:=λb o e z=>by rw[z,Zy]at e;cases e
 have iL:∀b:Addr,b∉X.ex:=λb z=>by rw[hex]at z;cases z
 have nS:∀b o,X.s₀.heap.get? b=some o->b∉lI X.outer->b∉lI X.stack:=λb o e hb z=>
  (aaG.mp (I.ym b z)).elim (λq=>aaM (aas (aaq e) I.ok.above) q) hb
 refine⟨⟨λb o e n hb _=>?_,λb o e n hb _=>?_,λb o e n _=>?_,λb o e _=>?_,λb xs e=>lG b xs (I.base.lG b xs e),λb o u e=>kf b o u (I.base.kf b o u e),λb ps e=>?_⟩,ok,f,λb o e n hb=>?_,λb o e hb=>?_⟩
 ·exact f.1 b o (RY b o (nX b o e) (I.base.keep b o e n hb (iL b)) (I.base.free b o e n (iL b)) (nS b o e hb))
 ·have⟨s1,e1⟩:=I.base.slot b o e n hb (iL b);have⟨s2,e2⟩:=sl b _ e1 (vh b hb);exact⟨s2,e2⟩
 ·have⟨o',e1⟩:=I.base.there b o e (iL b);exact free b o' e1 (I.base.free b o e n (iL b))
 ·have⟨o',e1⟩:=I.base.there b o e (iL b);by_cases hb:b∈lI X.stack
  ·have⟨s2,e2⟩:=sl b _ e1 hb;exact⟨_,e2⟩
  ·have⟨o2,q⟩:=Nh b o' (nX b o e) e1 hb;exact⟨o2,f.1 _ _ q⟩
 ·have⟨m1,e1⟩:=I.base.lF b ps e;have⟨m2,e2⟩:=lF b _ e1;exact⟨m1++m2,by rw[e2,Array.append_assoc]⟩
 ·exact RY b o (nX b o e) (I.base.keep b o e n hb (iL b)) (I.base.free b o e n (iL b)) (nS b o e hb)
 ·have⟨o',e1⟩:=I.base.there b o e (iL b);exact Nh b o' (nX b o e) e1 (nS b o e hb)
end
def cR(CX:A1)(X:Cx)(R:St->XK):Prop:=∀(δ:List (Addr×Obj)) (σ:St) (H:Hp) (s:Shared) (e:Value) (s':Shared),Inv X δ σ H s->CX X.stack H s (R σ) e s'->X.xe e s'
def DM(X:Cx)(R:St->XK):Prop:=∀(δ:List (Addr×Obj)) (σ:St) (H:Hp) (s:Shared) (x:Addr) (o:Obj) (vs:Array Value),Inv X δ σ H s->s.heap.get? x=some {o with data:=.fields vs}->vs[1]? =some .none->vs[2]? =some .none->X.s₀.heap.get? x=none->H x=none->
 R σ o.cls o.dict H->X.xe (.ref x) s
section
variable{K:tf}{cd:Value}{s₀:Shared}{H₀:Hp}{E:XK}
def yd:∀b∈lI outer,b∈lI (env::outer):=λb hb=>by have⟨en,he,hf⟩:=abN.mp hb;exact abN.mpr ⟨en,aae _ he,hf⟩
def ο:cR (bM P w) (lB (bM P w) P w K mg base N qual scope f cd A outer s₀ H₀ E) (λ_=>E):=by
 intro δ σ H s e s' I hx;have⟨x,o,H',B,rfl,os,bare,F,hE⟩:=hx;show wpAny _ _ (do noteFrame (.ref x) _;setFlight (.ref x) none) _ _ s';refine aaj (OR (B:=B) I.ok.frames rfl F.A0 λh4 f4 u4=>qp f4 λh5 f5 u5=>?_);refine⟨x,o,H',B,rfl,os.trans I.os,bare,AA.leave I rfl yd F.ok (Iq f5) ?_ (λb o _=>F.RY b o) (λb o _=>F.Nh b o) (λb o q hb=>?_) (λb o q n=>F.un.free b o q n (by simp)) F.un.lG F.un.kf F.un.lF,hE⟩
 ·show s₀.heap.get? x=none;cases q:s₀.heap.get? x with
  | none=>rfl
  | some u=>
   have⟨u',e1⟩:=I.base.there x u q nofun;by_cases hb:x∈lI (lB (bM P w) P w K mg base N qual scope f cd A outer s₀ H₀ E).stack
   ·have⟨vs,_,_,_,ZA,_⟩:=F.A0.2.2.2;have⟨_,o',ly,hd⟩:=F.A0.2.2.1.mem hb;rw[ZA]at ly;cases ly;exact aaK rfl (hd _)
   ·have⟨u2,e2⟩:=F.Nh x u' e1 hb;rw[F.A0.2.1]at e2;cases e2
 ·have⟨sl,e1⟩:=F.un.slot b o q (I.qE b hb) hb (by simp);have⟨_,o',ly,hd⟩:=F.A0.2.2.1.mem hb;rw[e1]at ly;cases ly;have⟨R_,e2⟩:=(u4.trans u5) b _ e1 hd;exact⟨R_,e2⟩
def Ng:DM (lB (bM P w) P w K mg base N qual scope f cd A outer s₀ H₀ E) (λ_=>E):=by
 intro δ σ H s x o vs I hx h1 h2 Zy nH hE;show wpAny _ _ (do noteFrame (.ref x) _;setFlight (.ref x) none) _ _ s
 have SE:∀env∈(lB (bM P w) P w K mg base N qual scope f cd A outer s₀ H₀ E).stack,∀b,env.frame=some b->b∈x::lI (lB (bM P w) P w K mg base N qual scope f cd A outer s₀ H₀ E).stack:=
  λenv he b hb=>aae _ (abN.mpr ⟨env,he,hb⟩)
 refine aaj (IS (B:=PySem.W.hideAll s.heap (x::lI (lB (bM P w) P w K mg base N qual scope f cd A outer s₀ H₀ E).stack)) I.ok.frames rfl (λb o q=>PySem.W.of_hideAll _ q) (PySem.W.hideAll_none _ aaf)
  (PySem.W.funFrames_hide I.stack SE) hx h1 h2 λh4 f4 u4=>qp f4 λh5 f5 u5=>?_)
 have Yh:∀b u,b≠x->s.heap.get? b=some u->b∉lI (lB (bM P w) P w K mg base N qual scope f cd A outer s₀ H₀ E).stack->(PySem.W.hideAll s.heap (x::lI (lB (bM P w) P w K mg base N qual scope f cd A outer s₀ H₀ E).stack)).get? b=some u:=
  λb u nb q hb=>PySem.W.hideAll_get _ q λz=>(aaG.mp z).elim nb hb
 refine⟨x,o,H,_,rfl,I.os,I.bare,AA.leave I rfl yd (λa o e=>(I.ay a o e).qf (λb v hb q=>?_) (λ_ q=>q) λ_ _ q=>q) (Iq f5) Zy
  (λb o nb q _ hb=>Yh b o nb q hb) (λb o nb q hb=>⟨o,Yh b o nb q hb⟩) (λb o q hb=>?_) (λ_ _ _ n=>n) (λ_ _ q=>q) (λ_ _ _ q=>q) (λb ps q=>⟨#[],by rw[q];simp⟩),hE⟩
 ·have tr:H b≠none:=λn=>by
   rcases hb with hb| hb
   ·rw[hb,e]at n;cases n
   ·rw[hb]at n;cases n
  exact Yh b v (λz=>tr (by rw[z];exact nH)) q λz=>tr (I.qE b z)
 ·have⟨_,o',ly,hd⟩:=I.stack.mem hb;rw[q]at ly;cases ly;exact(u4.trans u5) b o q hd
end
def QU(sp:Sp)(ql:List V)(R:St->XK)(t:TA):TE:=λσ H Q=>t σ H λvs H1=>sp (vs++ql) H1 Q (R σ)
section
variable{CX:A1}{k:Nat}{sp:Sp}{ql:List V}{ds:List Value}{R:St->XK}{x:Str}{p:Pos}{e:Expr}{es:List Expr}{t:TA}
def vZ{H:Hp}{Q:VK}{us:List Value}{vs:List V}(F:ah X.prog X.w X.K X.mg X.base CX k f fd ps sp)(hr:bD k X.A)(hb:hJ X.K fd ps ds)(hd:aj ql ds)(hx:cR CX X R)
  (I:Inv X δ σ H s) (r:aj vs us) (h:sp (vs++ql) H Q (R σ)):wpAny (model X.prog X.w) X.A (call (.ref f) us) (EP X δ σ Q) X.xe s:=by
 have r2:aj (vs++ql) (us++ds):=r.append hd;have hl:(us++ds).length=ps.length:=by rw[<-r2.length];exact F.len _ _ _ _ h
 refine wpAny_call (codeAny_mono (F.run X.A X.stack s H ⟨us,[]⟩ (us++ds) (vs++ql) Q (R σ) hr I.Ru (hb s us I.iX hl) r2 h) λr s' hq=>?_);cases r with
 | error e=>exact hx δ σ H s e s' I hq
 | ok fl=>
  cases fl with
  | ret u=>exact I.after hq
  | next=>exact False.elim hq
  | brk=>exact False.elim hq
  | cont=>exact False.elim hq
def Lp(F:ah X.prog X.w X.K X.mg X.base CX k f fd ps sp)(hr:bD k X.A)(hg:Gl X x)(hm:X.mg x=some (.ref f))(hk:PySem.W.keepIn X.K (.ref f)=true)(hb:hJ X.K fd ps ds)(hd:aj ql ds)(hx:cR CX X R)
  (ha:PA X (e::es) t) (pB:(x==("__debug__":Str))=false:=by decide) (he:starEach (e::es) X.env=(false,eval e X.env)::starEach es X.env:=by rfl) (dN:(backTo pos (starEach es X.env)).any (·.1)=false:=by rfl):
  PE X (.Call (.Name x p) (e::es) [] pos) (QU sp ql R t):=by
 intro δ s σ H Q I h;refine wpAny_Call_Name_kw (kQ I hg hm ?_ pB);refine PySem.W.callWith_K (h₀:=X.base) I.ok.mod.Vy hk (bc (ha pos δ s σ H _ I h) fun us s1 ⟨vs,H1,I1,r,q⟩=>⟨I1.iX,?_⟩) he dN;exact vZ F hr hb hd hx I1 r q
end
structure gA(K:tf)(C:Addr)(i9:List Value)(newId:String):Prop where
 ok:PySem.W.excIn K C i9 newId=true
def E9{K:tf}{N:Addr}{h0:Heap}{m:Str->Option Value}(q:PySem.W.nsOkIn K N=true)(X0:K.In h0)(X:K.In h)(n:h0.Ns N m):h.Ns N m:=by
 have⟨o,es,ep,e,r⟩:=n;cases z:K.lookup N with
 | none=>unfold PySem.W.nsOkIn at q;rw[z]at q;cases q
 | some ob=>
  have e0:=X0 _ _ z;rw[e]at e0;cases e0;exact⟨o,es,ep,X _ _ z,r⟩
def gA.obj{K:tf}{i9:List Value}{newId:String}{h0:Heap}(c:gA K C i9 newId)(X0:K.In h0):
  ∃bm N nm q bs hdct sn sub ab col dd k0 k1 k2 k3 k5 mN,mN ("__init__":Str)=none/\
   ∀h:Heap,K.In h->h.get? C=some (excClassObj nm q C N bs bm hdct sn sub ab col dd k0 k1 k2 k3 k5 newId)/\h.Ns N mN/\OwnTail h i9 bm:=by
 have q:=c.ok;unfold PySem.W.excIn at q;split at q
 ·rename_i dd cd sl ho;split at q
  ·rename_i C' bm k0 k1 k2 k3 n k5 hm hs;rw[aam,aam,aam,aam,aam]at q;have⟨⟨⟨⟨⟨q1,q2⟩,q3⟩,q4⟩,q5⟩,q6⟩:=q;cases abp.mp q1;cases abp.mp q2;have q3:cd.hasDel=false:=by simpa using q3
   have QX:sl= #[k0,k1,k2,k3,some (.builtin newId),k5]:=by cases sl with| mk l=>exact aaZ Array.mk hs
   have⟨c1,c2,c3,c4,c5,c6,c7,c8,c9,XI,Zh⟩:=cd;cases(show c3=_ from hm);cases(show Zh=_ from q3);subst QX;refine⟨bm,c4,c1,c5,c2,c6,c7,c8,c9,XI,dd,k0,k1,k2,k3,k5,h0.nsMap c4,PySem.W.nsMap_none_of_in X0 q5 (abp.mp q6),λh X=>⟨X _ _ ho,?_,PySem.W.tail_of_in X q4⟩⟩;exact E9 q5 X0 X (.of_isNs (PySem.W.isNs_of_in X0 q5))
  ·cases q
 ·cases q
def Cx.Py(X:Cx)(R:St->XK)(δ:List (Addr×Obj)):Cx:={X with
 pn:=X.pn++δ
 xe:=λe s'=>∃sv σ H s,Inv {X with pn:=X.pn++δ} sv σ H s/\bM X.prog X.w X.stack H s (R σ) e s'}
def Cx.cx(X:Cx)(x:Addr)(pn:List (Addr×Obj)):Cx:={X with
 A:=X.A.mark (some (.ref x))
 calm:=false
 pn:=pn
 xe:=λ_ _=>False}
def Cx.Ok.pns(ok:X.Ok)(pn:List (Addr×Obj))(E:Value->Shared->Prop):({X with pn:=pn,xe:=E}:Cx).Ok:=
 ⟨ok.mod,ok.kind,ok.glob,ok.blt,ok.above,ok.inj,ok.has,ok.P8,ok.hd,ok.frames,ok.Sw,ok.Si,ok.bs,ok.LY,ok.Dy,ok.Bh,ok.nJ,ok.NM⟩
def Cx.Ok.O1(ok:({X with pn:=pn,xe:=E}:Cx).Ok):X.Ok:=
 ⟨ok.mod,ok.kind,ok.glob,ok.blt,ok.above,ok.inj,ok.has,ok.P8,ok.hd,ok.frames,ok.Sw,ok.Si,ok.bs,ok.LY,ok.Dy,ok.Bh,ok.nJ,ok.NM⟩
def Cx.Ok.cx(ok:X.Ok)(x:Addr)(pn:List (Addr×Obj)):(Cx.cx X x pn).Ok:=
 ⟨ok.mod,ok.kind,ok.glob,ok.blt,ok.above,ok.inj,ok.has,ok.P8,nofun,ok.frames,ok.Sw,ok.Si,ok.bs,ok.LY,ok.Dy,ok.Bh,ok.nJ,ok.NM⟩
def Cx.Ok.NG(ok:(Cx.cx X x pn).Ok)(hd:X.calm=true->X.A.handled=none):X.Ok:=
 ⟨ok.mod,ok.kind,ok.glob,ok.blt,ok.above,ok.inj,ok.has,ok.P8,hd,ok.frames,ok.Sw,ok.Si,ok.bs,ok.LY,ok.Dy,ok.Bh,ok.nJ,ok.NM⟩
section
variable{H:Hp}
def Inv.W7(I:Inv X δ σ H s)(E:Value->Shared->Prop):Inv {X with pn:=X.pn++δ,xe:=E} [] σ H s:=
 ⟨I.ok.pns _ _,I.os,I.bare,I.base,I.loc,I.cell,I.free,I.fe,λp hp=>I.pin p (by rwa[aaW]at hp),I.ay,I.len⟩
def Inv.mq(I:Inv {X with pn:=X.pn++δ,xe:=E} p' σ H s):Inv X δ σ H s:=
 ⟨Cx.Ok.O1 I.ok,I.os,I.bare,I.base,I.loc,I.cell,I.free,I.fe,λp hp=>I.pin p (abu _ hp),I.ay,I.len⟩
def SP.mq{D:pO}{f:Flow}{s':Shared}(h:SP {X with pn:=X.pn++δ,xe:=E} p' D f s'):SP X δ D f s':=by
 cases f with
 | next=>have⟨a,b,I,q⟩:=h;exact⟨a,b,Inv.mq I,q⟩
 | brk=>have⟨a,b,I,q⟩:=h;exact⟨a,b,Inv.mq I,q⟩
 | cont=>have⟨a,b,I,q⟩:=h;exact⟨a,b,Inv.mq I,q⟩
 | ret u=>have⟨v,a,b,I,r,q⟩:=h;exact⟨v,a,b,Inv.mq I,r,q⟩
def Inv.RR(I:Inv X δ σ H s)(x:Addr){oe:Obj}(hx:s.heap.get? x=some oe)(hn:H x=none)(hL:x≠X.env.locals)(hf:x∉X.fs)(hd:∀v,oe.data≠ .cell v):Inv (Cx.cx X x (X.pn++δ++[(x,oe)])) [] σ H s:=
 ⟨I.ok.cx _ _,I.os,I.bare,I.base,I.loc,I.cell,I.free,I.fe,λp hp=>by
  rw[aaW]at hp;rcases aa8.mp hp with z| z
  ·exact I.pin p z
  ·have e:p=(x,oe):=by simpa using z
   subst e
   exact⟨hx,hn,hL,hf,hd⟩,I.ay,I.len⟩
def Inv.Qg(I:Inv X δ σ H s)(x:Addr):Inv (Cx.cx X x (X.pn++δ)) [] σ H s:=
 ⟨I.ok.cx _ _,I.os,I.bare,I.base,I.loc,I.cell,I.free,I.fe,λp hp=>I.pin p (by rwa[aaW]at hp),I.ay,I.len⟩
def Inv.HX{more:List (Addr×Obj)}(I:Inv (Cx.cx X x (X.pn++δ++more)) p' σ H s)(hd:X.calm=true->X.A.handled=none):Inv X δ σ H s:=
 ⟨Cx.Ok.NG I.ok hd,I.os,I.bare,I.base,I.loc,I.cell,I.free,I.fe,λp hp=>I.pin p (abu _ (abu _ hp)),I.ay,I.len⟩
def AA.back{s':Shared}(I:Inv X δ σ H s)(os:s'.os=s.os)(bare:AllBare s'.gens)(F:AA X.prog X.w X.stack H H' s.heap s'.heap B x o):Inv X δ σ H' s':=
 I.Ou os F.un F.ay bare (λb z=>absurd z (by simp))
end
section
variable{K:tf}
def Ao{D:Addr}{pI:List Value}{ie:String}{oe:Obj}{Q:Bool->Shared->Prop}(X:K.In s.heap)(d:gA K D pI ie)(hb:pI.contains (.type "BaseException")=true)
  (hu:PySem.W.subIn K (.ref C) (.ref D)=some true) (hx:s.heap.get? x=some oe) (hc:oe.cls= .ref C) (h:Q true s):wpAny M A (excMatches (.ref x) (.ref D)) Q E s:=by
 have⟨hp,g,dr,t,os⟩:=s;have⟨bm',N',nm',q',bs',aag,sn',adf,ab',adO,ON,k0',k1',k2',k3',k5',mN',aeH,Tt⟩:=d.obj X;have hD:=(Tt _ X).1;have Pd:(Value.ref D::bm').contains (.type "BaseException")=true:=by rw[List.contains_cons,(Tt _ X).2.2.hasType hb,Bool.or_true]
 have Z4:=PySem.W.looks_subIn (M:=M) X hu;have f:=tc_notTuple;unfold excMatches
 repeat (first| (with_reducible refine wpAny_loadPart_at hx ?_;rw[hc])| with_reducible refine wpAny_loadPart_at hD ?_| (with_reducible refine wpAny_isSubtype_exc hD ?_;rw[Pd])| with_reducible refine Z4.at ?_| wp_step)
 exact h
end
section
variable{H H1:Hp}{s0:Shared}{h0:Heap}
def Iu(I:Inv X δ σ H' s)(vh:X.stack=X.env::X.outer)(hf:X.env.frame=some X.env.locals)(F:AA X.prog X.w X.stack H1 H' h0 s.heap B x o):∃vs:Array Value,vs[2]? =some .none/\Inv (Cx.cx X x (X.pn++δ++[(x,{o with data:=.fields vs})])) [] σ H' s:=by
 have⟨vs,_,_,_,hx,hv2,_⟩:=F.A0.2.2.2;have nfr:∀b∈lI X.stack,x≠b:=λb hb z=>by subst z;have⟨_,o',ly,hd⟩:=F.A0.2.2.1.mem hb;rw[hx]at ly;cases ly;exact hd _ rfl
 refine⟨vs,hv2,Inv.RR I x hx F.nx (nfr _ (by rw[vh];exact abN.mpr ⟨X.env,aaf,hf⟩)) (λz=>nfr x (by rw[vh];exact yd x z) rfl) (λv q=>by cases q)⟩
end
def D8{R:St->XK}:cR (bM X.prog X.w) (Cx.Py X R δ) R:=by intro sv σ H s e s' I hx;exact⟨sv,σ,H,s,⟨Cx.Ok.pns (Cx.Ok.O1 I.ok) _ _,I.os,I.bare,I.base,I.loc,I.cell,I.free,I.fe,I.pin,I.ay,I.len⟩,hx⟩
def mi(env:Env):List (Str×NameKind)->List (Str×Addr)->List (Str×Addr)
 | [],acc=>acc
 | p::r,acc=>mi env r (if p.2== .free then (p.1,(env.cells.lookup p.1).getD 0)::acc else acc)
def sR(h:∀p∈scope.names,p.2= .free->(env.cells.lookup p.1).isSome=true):closureFor scope env=pure (mi env scope.names []):=by
 have key:∀(l:List (Str×NameKind)) (acc:List (Str×Addr)),(∀p∈l,p.2= .free->(env.cells.lookup p.1).isSome=true)->
   (forIn l acc (λ(p:Str×NameKind) (r:List (Str×Addr))=>(if p.2== .free then (do let c<-cellOf env p.1;pure (ForInStep.yield ((p.1,c)::r))) else pure (ForInStep.yield r):Sem (ForInStep (List (Str×Addr))))))=(pure (mi env l acc):Sem (List (Str×Addr))):=by
  intro l
  induction l with
  | nil=>intro acc _;rfl
  | cons p r ih=>
   intro acc hp;rw[List.forIn_cons];have ih':=λa=>ih a λq hq=>hp q (aae _ hq);have⟨n,k⟩:=p;by_cases hk:k= .free
   ·subst hk;have hs:=hp (n,.free) aaf rfl;cases hl:env.cells.lookup n with
    | none=>rw[show env.cells.lookup (n,NameKind.free).1=none from hl]at hs;cases hs
    | some c=>
     have e1:mi env ((n,.free)::r) acc=mi env r ((n,c)::acc):=by show mi env r (if (NameKind.free==NameKind.free)=true then (n,(env.cells.lookup n).getD 0)::acc else acc)=_;rw[aay @_,hl];rfl
     have e2:cellOf env n=pure c:=by unfold cellOf;rw[hl]
     rw[e1];have e3:(NameKind.free==NameKind.free)=true:=@_
     simp only[e3,if_true,e2,pure_bind];exact ih' _
   ·have hb:(k==NameKind.free)=false:=by simpa using hk
    have e1:mi env ((n,k)::r) acc=mi env r acc:=by show mi env r (if (k==NameKind.free)=true then (n,(env.cells.lookup n).getD 0)::acc else acc)=_;rw[hb,aaF @_]
    rw[e1];simp only[hb,Bool.false_eq_true,if_false,pure_bind];exact ih' _
 have:=key scope.names [] h;unfold closureFor
 first
  | exact this
  | (simp only[bind_pure];exact this)
  | (rw[bind_pure];exact this)
def vn{env:Env}{y:Str}{c:Addr}:∀(l:List (Str×NameKind)) (acc:List (Str×Addr)),(∀p∈l,p.2= .free->(env.cells.lookup p.1).isSome=true)->
  (acc.lookup y=some c->env.cells.lookup y=some c)->(mi env l acc).lookup y=some c->env.cells.lookup y=some c
 | [],acc,_,ha,h=>ha h
 | (n,k)::r,acc,hp,ha,h=>by
  refine vn r _ (λq hq=>hp q (aae _ hq)) (λe=>?_) h;split at e
  ·rename_i hk;rw[abC]at e;cases q:(y==n) with
   | true=>
    rw[q]at e;have e':(env.cells.lookup n).getD 0=c:=aav e;have hn:y=n:=by simpa using q
    subst hn;have hs:=hp (y,k) List.mem_cons_self (by simpa using hk);cases z:env.cells.lookup y with
    | none=>rw[show env.cells.lookup (y,k).1=none from z]at hs;cases hs
    | some d=>rw[z]at e';rw[<-e'];rfl
   | false=>rw[q]at e;exact ha e
  ·exact ha e
def rN{env:Env}{y:Str}:∀(l:List (Str×NameKind)) (acc:List (Str×Addr)),((y,NameKind.free)∈l\/(acc.lookup y).isSome=true)->((mi env l acc).lookup y).isSome=true
 | [],acc,h=>by
  rcases h with h| h
  ·cases h
  ·exact h
 | (n,k)::r,acc,h=>by
  refine rN r _ ?_;by_cases hy:y=n
  ·subst hy;by_cases hk:k= .free
   ·subst hk;right;show(List.lookup y (if (NameKind.free==NameKind.free)=true then (y,(env.cells.lookup y).getD 0)::acc else acc)).isSome=true;rw[aay @_,abC,ab9];rfl
   ·rcases h with h| h
    ·rcases aaG.mp h with z| z
     ·exact aaK (Prod.mk.inj z).2.symm hk
     ·exact .inl z
    ·right;rw[if_neg (by simpa using hk)];exact h
  ·rcases h with h| h
   ·rcases aaG.mp h with z| z
    ·exact aaK (Prod.mk.inj z).1 hy
    ·exact .inl z
   ·right;split
    ·rw[List.lookup_cons,show(y==n)=false by simpa using hy];exact h
    ·exact h
def Cx.comp(X:Cx)(Nc:List Str)(scope:Scope)(C:Addr)(s:Shared)(H:Hp)(fp:List Addr):Cx:={X with
 N:=Nc
 s₀:=s
 H₀:=H
 env:=compEnvC scope (mi X.env scope.names []) C X.env
 outer:=X.stack
 ex:=fp
 fn:=λ_=>false
 pn:=[]
 xe:=λ_ _=>False}
def Ε.of{P:List Str}{sc:Scope}(h:(sc.kind,sc.isCoroutine,sc.isGenerator)=(.function,false,false))(h2:N.Nodup/\N.take P.length=P/\(∀x∈P,sc.names.lookup x=some .local\/sc.names.lookup x=some .cell)/\(∀y∈sc.names,y.2≠ .free):=by decide+kernel):Ε N P sc:=by have⟨a,b,c,d⟩:=h2;exact⟨aaZ (·.1) h,aaZ (·.2.1) h,aaZ (·.2.2) h,a,b,c,d⟩
structure ai(X:Cx)(scope:Scope)(xs ys:List Str)(Μ:List Nat):Prop where
 kind:scope.kind= .function
 KG:∀p∈scope.names,p.2≠ .cell
 names:∀p∈scope.names,p.2= .local->scope.names.lookup p.1=some .local
 own:∀x∈xs,scope.names.lookup x=some .local
 free:∀p∈scope.names,p.2= .free->X.env.scope.names.lookup p.1=some .cell
 nd:(xs++ys).Nodup
 cap:∀q∈ys.zip Μ,X.N[q.2]? =some q.1/\X.env.scope.names.lookup q.1=some .cell/\scope.names.lookup q.1=some .free
 len:ys.length=Μ.length
def ai.of{sc:Scope}(_:Ε N ps sc)(hN:X.N=N)(hs:X.env.scope=sc)(k:scope.kind= .function)(h:(∀p∈scope.names,p.2≠ .cell)/\(∀p∈scope.names,p.2= .local->scope.names.lookup p.1=some .local)/\(∀x∈xs,scope.names.lookup x=some .local)/\(∀p∈scope.names,p.2= .free->sc.names.lookup p.1=some .cell)/\(xs++ys).Nodup/\(∀q∈ys.zip Μ,N[q.2]? =some q.1/\sc.names.lookup q.1=some .cell/\scope.names.lookup q.1=some .free)/\ys.length=Μ.length:=by decide+kernel):ai X scope xs ys Μ:=by subst hN hs;have⟨a,b,c,d,e,f,g⟩:=h;exact⟨k,a,b,c,d,e,f,g⟩
def JD{env:Env}{y:Str}:∀{l:List (Str×NameKind)},(∀p∈l,p.2≠ .cell)->
  ((l.map λ(n,k)=>if (k==NameKind.free&&env.scope.kind== .function&&env.kindOf n==some .cell) then (n,NameKind.cell) else (n,k)).lookup y=some .cell\/
   (l.map λ(n,k)=>if (k==NameKind.free&&env.scope.kind== .function&&env.kindOf n==some .cell) then (n,NameKind.cell) else (n,k)).lookup y=some .free)->(y,NameKind.free)∈l
 | [],_,h=>by rcases h with h| h <;> cases h
 | (n,k)::r,hc,h=>by
  have ih:=@JD env y r (λp hp=>hc p (aae _ hp));rw[aa0]at h;by_cases q:(k==NameKind.free&&env.scope.kind== .function&&env.kindOf n==some .cell)=true
  ·have hk:k= .free:=by rw[aam,aam]at q;simpa using q.1.1
   subst hk;by_cases hy:y=n
   ·subst hy;exact aaf
   ·refine aae _ (ih ?_);have hb:(y==n)=false:=by simpa using hy
    simp only[q,if_true,List.lookup_cons,hb]at h;exact h
  ·by_cases hy:y=n
   ·subst hy;have hb:(y==y)=true:=by simp
    simp only[q,Bool.false_eq_true,if_false,List.lookup_cons,hb]at h;rcases h with h| h
    ·exact aaK (aav h) (hc (y,k) aaf)
    ·rw[<-aav h];exact aaf
   ·refine aae _ (ih ?_);have hb:(y==n)=false:=by simpa using hy
    simp only[q,Bool.false_eq_true,if_false,List.lookup_cons,hb]at h;exact h
def yG{env:Env}{y:Str}(hk:env.scope.kind= .function)(hy:env.kindOf y=some .cell):∀{l:List (Str×NameKind)},l.lookup y=some .free->
  (l.map λ(n,k)=>if (k==NameKind.free&&env.scope.kind== .function&&env.kindOf n==some .cell) then (n,NameKind.cell) else (n,k)).lookup y=some .cell
 | [],h=>by cases h
 | (n,k)::r,h=>by
  have ih:=@yG env y hk hy r;rw[aa0];rw[abC]at h;by_cases e:y=n
  ·subst e;have hb:(y==y)=true:=by simp
   rw[hb]at h;have:k= .free:=aav h;subst this;have q:(NameKind.free==NameKind.free&&env.scope.kind== .function&&env.kindOf y==some .cell)=true:=by rw[hk,hy];rfl
   simp only[q,if_true,List.lookup_cons,hb]
  ·have hb:(y==n)=false:=by simpa using e
   rw[hb]at h;by_cases q:(k==NameKind.free&&env.scope.kind== .function&&env.kindOf n==some .cell)=true
   ·simp only[q,if_true,List.lookup_cons,hb];exact ih h
   ·simp only[q,Bool.false_eq_true,if_false,List.lookup_cons,hb];exact ih h
def ai.has(S:ai X scope xs ys Μ)(ok:X.Ok):∀p∈scope.names,p.2= .free->(X.env.cells.lookup p.1).isSome=true:=λp hp hf=>by have⟨c,e⟩:=ok.has p.1 (.inl (S.free p hp hf));rw[e];rfl
def HS{α β:Type}:∀{xs:List α} {ys:List β} {j:Nat} {x:α} {y:β},xs[j]? =some x->ys[j]? =some y->(x,y)∈xs.zip ys
 | x::xs,y::ys,0,_,_,h1,h2=>by cases h1;cases h2;exact aaf
 | x::xs,y::ys,j+1,_,_,h1,h2=>aae _ (HS (xs:=xs) (ys:=ys) (j:=j) h1 h2)
 | [],_,_,_,_,h1,_=>by simp at h1
 | _::_,[],_,_,_,_,h2=>by simp at h2
def pJ(Μ:List Nat)(σ:St):St:=Μ.map λi=>(σ[i]?).join
def vO(n:Nat)(gg:TG):Prop:=∀v (os cs:St) H (Q:St->Hp->Prop),os.length=n->gg v (os++cs) H Q->gg v (os++cs) H λσ' H'=>(∃WK:St,WK.length=n/\σ'=WK++cs)/\Q σ' H'
def Ba(J:It)(n:Nat)(gg:TG)(tc:TT)(te:TE)(cs:St)(Q:VK)(H1:Hp)(D:Addr):Prop:=
 ∃W:Nat->Nat->List V->Hp->Prop,(∃m,W 0 m [] (upd H1 D (.lst [])))/\∀i m ys H2,W i m ys H2->H2 D=some (.lst ys)/\
  ((J.stop i H2/\Q (.ref D) H2)\/(J.go i H2/\∀x H3,J.T' i H2 x H3->∀os:St,os.length=n->gg x (os++cs) H3 λσ' H3'=>tc σ' H3' λb H4=>match b with
   | true=>te σ' H4 λy H5=>H5 D=some (.lst ys)/\ys.length < sizeLine/\∃m',m' < m/\W (i+1) m' (ys++[y]) (upd H5 D (.lst (ys++[y])))
   | false=>∃m',m' < m/\W (i+1) m' ys H4))
def KH(wi:TI)(n:Nat)(gg:TG)(tc:TT)(te:TE)(Μ:List Nat):TE:=λσ H Q=>wi σ H λJ H1=>∀D,H1 D=none->Ba J n gg tc te (pJ Μ σ) Q H1 D
def Xa(cs:List Expr)(env:Env):Sem Bool:=match cs with
 | []=>pure true
 | c::_=>isTrue c env (eval c env)
def WE(X:Cx)(cs:List Expr)(t:TT):Prop:=
 (cs=[]\/∃c,cs=[c])/\∀(δ:List (Addr×Obj)) (s:Shared) (σ:St) (H:Hp) (Q:Bool->Hp->Prop),Inv X δ σ H s->t σ H Q->wpAny (model X.prog X.w) X.A (Xa cs X.env) (TP X δ σ Q) X.xe s
def uK{elt target iter:Expr}{cs:List Expr}{scope:Scope}{pos:Pos}{it acc:Value}{env:Env}(h:cs=[]\/∃c,cs=[c]):
  compTurn (.ListComp elt [⟨target,iter,cs,0⟩] scope pos) 0 it acc env=(standAt iter.pos >>= λ_=>pyNext it >>= λr=>match r with
   | none=>pure (.done .next)
   | some v=>letOwnedTupleGo target it v >>= λ_=>assign target env v >>= λ_=>Xa cs env >>= λok=>
    (if ok=true then (eval elt env >>= λx=>call (.builtin "list.append") [acc,x] >>= λ_=>pure Unit.unit) >>= λ_=>again (.compLoop (.ListComp elt [⟨target,iter,cs,0⟩] scope pos) 0 it acc env)
     else again (.compLoop (.ListComp elt [⟨target,iter,cs,0⟩] scope pos) 0 it acc env))):=by
 rcases h with rfl| ⟨c,rfl⟩ <;> (unfold compTurn Xa;dsimp only[List.getElem?_cons_zero,List.getElem?_cons_succ,List.getElem?_nil];simp only[List.forIn_cons,List.forIn_nil,bind_assoc,pure_bind,if_true];rfl)
section
variable{elt iter tg:Expr}{cs:List Expr}{wi:TI}{gg:TG}{tc:TT}{te:TE}
def u7(S:ai X scope xs ys Μ)(hc:X.calm=true)(hg:∀C s H fp,PG (Cx.comp X (xs++ys) scope C s H fp) tg gg)(hk:vO xs.length gg)(ht:∀C s H fp,WE (Cx.comp X (xs++ys) scope C s H fp) cs tc)(he:∀C s H fp,PE (Cx.comp X (xs++ys) scope C s H fp) elt te)
    {H2:Hp} {s2:Shared} {it:Addr} {fp:List Addr} {tn:Nat->Heap->Prop} {J:It} {Q:V->Hp->Prop} {PQ:Value->Addr->Result->Shared->Prop} (I:Inv X δ σ H2 s2) (T:Turn X.prog X.w X.K tg J fp it tn) (t0:tn 0 s2.heap) (f2:∀b∈fp,tO X δ H2 b)
  (h:∀D,H2 D=none->Ba J xs.length gg tc te (pJ Μ σ) Q H2 D)
  (hPQ:∀D C s' H',Inv X δ σ H' s'->Q (.ref D) H'->(∃m,s'.heap.Ns C m)->H' C=none->X.s₀.heap.objs.size<=C->C≠X.env.locals->(∀z c,X.env.cells.lookup z=some c->c≠C)->(∀p∈X.pn++δ,p.1≠C)->PQ (.ref D) C (.ok .next) s'):
  wpAny (model X.prog X.w) X.A (newList []) (λacc s3=>wpAny (model X.prog X.w) X.A (newFunctionEnv scope X.env.globals (mi X.env scope.names []) [] X.env.qual none .none (some X.env)) (λUe s4=>
   codeAny (model X.prog X.w) X.A (.compStart (.ListComp elt [⟨tg,iter,cs,0⟩] scope pos) 0 (.ref it) acc {Ue with scope:=relabel scope X.env}) (PQ acc Ue.locals) s4) X.xe s3) X.xe s2:=by
 have hD:H2 s2.heap.objs.size=none:=I.fresh;have⟨W,⟨m0,w0⟩,step⟩:=h _ hD;refine wpAny_newObj_type ?_;have I3:Inv X δ σ (upd H2 s2.heap.objs.size (.lst [])) {s2 with heap:=s2.heap.push {cls:=.type "list",data:=.seq ([]:List Value).toArray}}:=Inv.Ro (t':=s2.toks) I (ys:=[]) (its:=[]) .nil (abW _);generalize hH3:upd H2 s2.heap.objs.size (.lst [])=H3 at I3 w0;generalize hs3:({s2 with heap:=s2.heap.push {cls:=.type "list",data:=.seq ([]:List Value).toArray}}:Shared)=s3 at I3;have X8:∀b∈fp,H3 b=none:=λb hb=>by have⟨o,e,_⟩:=T.obj _ _ t0 b hb;rw[<-hH3,ω (aaM (aaq e))];exact(f2 b hb).1
 have t3:tn 0 s3.heap:=T.keep _ _ _ t0 λb hb o e=>by rw[<-hs3];exact aal _ e
 refine wpAny_newFunctionEnv S.KG (λy hy=>nomatch hy) (λh4 ns4 sb4=>?_) S.kind;have hC:H3 s3.heap.objs.size=none:=I3.fresh
 have kp:∀b o,s3.heap.get? b=some o->h4.get? b=some o:=λb o e=>
  (sb4.2 b (aaM (aaq e))).trans (aal _ e)
 generalize Yx:({s3 with heap:=h4,toks:=s3.toks+([]:List (Str×Value)).length}:Shared)=s4;have e4:s4.heap=h4:=by rw[<-Yx]
 have KZ:∀z c,X.env.cells.lookup z=some c->c≠s3.heap.objs.size:=λz c e q=>by have⟨v,w⟩:=I3.cell z c e;exact abz _ (q▸w.lt)
 have vi:∀z c,(mi X.env scope.names []).lookup z=some c->X.env.cells.lookup z=some c:=λz c e=>vn scope.names [] (S.has I.ok) nofun e;have Lne:s3.heap.objs.size≠X.env.locals:=acj I3.lt;have ok:(Cx.comp X (xs++ys) scope s3.heap.objs.size s3 H3 fp).Ok:=by
  refine⟨I3.ok.mod,S.kind,I3.ok.glob,I3.ok.blt,aao _,λz z' c e1 e2=>I3.ok.inj z z' c (vi z c e1) (vi z' c e2),λz hz=>?_,λz c hz=>(by cases hz),I3.ok.hd,I3.ok.frames,.inl rfl,λb hb=>⟨?_,λz c e=>?_⟩,I3.bs,?_,λb o e hb=>?_,λb hb hf=>?_,I3.stack,I3.qE⟩
  ·have:=rN (env:=X.env) scope.names [] (.inl (JD S.KG hz));exact aa9.mp this
  ·have⟨o,e,_⟩:=T.obj _ _ t3 b hb;exact aaM (aaq e)
  ·exact(f2 b hb).2.2.2.2.1 z c (vi z c e)
  ·exact aax I3.ok.LY I3.sz
  ·have⟨_,_,_,hy,_⟩:=f2 b hb;have e0:=(I3.ok.bs b o e).1;rcases hy with hy| hy
   ·exact I3.ok.Dy b o e hy
   ·exact aaK (aas (aaq e0) hy) (abz _)
  ·have⟨_,hl,hfs,_⟩:=f2 b hb;exact(aaG.mp (I3.ym b hf)).elim hl hfs
 have hlen:((List.replicate xs.length (none:Option V))++pJ Μ σ).length=(xs++ys).length:=by rw[aan,aan,aa3,S.len];unfold pJ;rw[aah]
 have I4:Inv X δ σ H3 s4:=by rw[<-Yx];exact I3.kept kp
 have Ic:Inv (Cx.comp X (xs++ys) scope s3.heap.objs.size s3 H3 fp) [] ((List.replicate xs.length (none:Option V))++pJ Μ σ) H3 s4:=by
  refine⟨ok,by rw[<-Yx];rfl,I4.bare,Un.kept (by rw[e4];exact kp),⟨_,by rw[e4];exact ns4,λi z v e1 e2 e3=>?_⟩,λz c e=>I4.cell z c (vi z c e),hC,λz c e=>I4.fe z c (vi z c e),(λp hp=>nomatch hp),I4.ay,hlen⟩;have e1:(xs++ys)[i]? =some z:=e1;by_cases hi:i < xs.length
  ·rw[aaA (by rw[aa3];exact hi),abX,aay hi]at e2;cases e2
  ·obtain⟨j,rfl⟩:∃j,i=xs.length+j:=⟨i - xs.length,()⟩;have e1:ys[j]? =some z:=by rw[aaB (),abD]at e1;exact e1
   have e2:(pJ Μ σ)[j]? =some (some v):=by rw[aaB (by rw[aa3];omega),aa3,abD]at e2;exact e2
   unfold pJ at e2;rw[aap]at e2;cases hi:Μ[j]? with
   | none=>rw[hi]at e2;cases e2
   | some i=>
    rw[hi]at e2;have e2:(σ[i]?).join=some v:=aav e2;have e2:σ[i]? =some (some v):=by
     cases q:σ[i]? with
     | none=>rw[q]at e2;cases e2
     | some o=>rw[q]at e2;exact aaZ some e2
    have⟨c1,c2,c3⟩:=S.cap (z,i) (HS e1 hi);have c4:=yG (env:=X.env) I.ok.kind c2 c3;have c3:(z,NameKind.free)∈scope.names:=PySem.mem_of_lookup c3;have⟨m,hn,hl⟩:=I4.loc;have⟨u,r,lk⟩:=hl i z v c1 e2 (.inr (.inl c2));refine⟨u,r,.inr ⟨.inl c4,?_⟩⟩;rcases lk with ⟨k,_⟩| ⟨_,c,Bj,z'⟩
    ·exact aaK ((show X.env.scope.names.lookup z=some .local from k).symm.trans c2) @_
    ·have⟨d,hd⟩:=aa9.mp (rN (env:=X.env) scope.names [] (.inl c3));have:=vi z d hd;rw[Bj]at this;cases this;exact⟨c,hd,z'⟩
 have loop:codeAny (model X.prog X.w) X.A (.compLoop (.ListComp elt [⟨tg,iter,cs,0⟩] scope pos) 0 (.ref it) (.ref s2.heap.objs.size) (compEnvC scope (mi X.env scope.names []) s3.heap.objs.size X.env)) (PQ (.ref s2.heap.objs.size) s3.heap.objs.size) s4:=by
  have Za:∀{H':Hp},(∀b∈fp,H' b=none)->∀b∈fp,tO (Cx.comp X (xs++ys) scope s3.heap.objs.size s3 H3 fp) [] H' b:=λhn b hb=>
   ⟨hn b hb,(ok.Si b hb).1,ok.Bh b hb,.inl hb,(ok.Si b hb).2,(λp hp=>nomatch hp)⟩
  refine codeAny_loop rfl (λn s'=>∃(i:Nat) (zs:List V) (os:St) (H':Hp),os.length=xs.length/\Inv (Cx.comp X (xs++ys) scope s3.heap.objs.size s3 H3 fp) [] (os++pJ Μ σ) H' s'/\tn i s'.heap/\(∀b∈fp,H' b=none)/\W i n zs H') (λn s5 z=>?_) m0 ⟨0,[],List.replicate xs.length none,H3,by rw[aa3],Ic,T.keep _ _ _ t3 (λb hb o e=>by rw[e4];exact kp b o e),X8,w0⟩;have⟨i,zs,os,H5,l5,I5,t5,WW,w5⟩:=z;show wpAny _ _ ((compTurn _ 0 (.ref it) _ _).onRaise _) _ _ s5;refine wpAny_noted ?_;rw[uK (ht s3.heap.objs.size s3 H3 fp).1];refine aaj (wpAny_standAt (aaj ?_));obtain⟨Hf,stop| go⟩:=step i n zs H5 w5
  ·have⟨stop,q⟩:=stop;refine bc (T.done (Cx.comp X (xs++ys) scope s3.heap.objs.size s3 H3 fp) rfl rfl rfl hc i [] s5 _ H5 _ I5 (Za WW) t5 stop) λr s6 xz=>?_;have⟨hr,I6⟩:=xz;subst hr;refine aaI (hPQ _ _ s6 H5 ?_ q ?_ I6.free ?_ Lne KZ λp hp z=>?_)
   ·refine I3.Ou I6.os I6.base I6.ay I6.bare λb hb=>?_;have⟨_,g1,_,g3,g4,g5⟩:=f2 b hb;exact⟨g3,g1,g4,g5⟩
   ·have⟨m,hn,_⟩:=I6.loc;exact⟨m,hn⟩
   ·exact I3.sz
   ·exact aaM (aaq (I3.pin p hp).1) z
  ·have⟨go,turn⟩:=go;refine bc (T.item (Cx.comp X (xs++ys) scope s3.heap.objs.size s3 H3 fp) rfl rfl rfl hc i [] s5 _ H5 _ I5 (Za WW) t5 go) λr s6 xz=>?_;have⟨u,hr,h6⟩:=xz;subst hr;refine aaj (bc h6 λ_ s7 xz=>?_);have⟨y,H7,I7,r7,y7,t7,fr7⟩:=xz;have I7':=I7.pinned (Za fr7) (T.obj _ _ t7);refine aaj (abd (hg _ _ _ _ _ s7 _ H7 y u _ I7' r7 (hk y os _ H7 _ l5 (turn y _ y7 os l5))) (λ_ s8 z8=>?_) λ_ _ f=>f.elim);have⟨σ8,H8,I8,⟨os8,l8,e8⟩,q8⟩:=z8;subst e8;refine aaj (abd ((ht _ _ _ _).2 _ s8 _ _ _ I8 q8) (λb s9 z9=>?_) λ_ _ f=>f.elim);have⟨H9,I9,q9⟩:=z9;cases b with
   | false=>
    have⟨m9,hm9,w9⟩:=q9;refine aaI ⟨rfl,m9,hm9,i+1,zs,os8,_,l8,I9.jO,T.keep _ _ _ t7 λb hb o e=>(I9.pin (b,o) (aaH _ (aaH _ (eV hb e)))).1,λb hb=>?_,w9⟩;have⟨o,e,_⟩:=T.obj _ _ t7 b hb;exact(I9.pin (b,o) (aaH _ (aaH _ (eV hb e)))).2.1
   | true=>
    refine aaj (aaj (abd (he _ _ _ _ _ s9 _ _ _ I9 q9) (λu10 s10 z10=>?_) λ_ _ f=>f.elim));have⟨v10,H10,I10,r10,Y',l10,m10,XQ,w10⟩:=z10;refine aaj (abd (uZ (X:=Cx.comp X (xs++ys) scope s3.heap.objs.size s3 H3 fp) _ s10 _ H10 (.ref s2.heap.objs.size) [v10] _ [u10] (λ_ H'=>H'=upd H10 s2.heap.objs.size (.lst (zs++[v10]))) I10 rfl (.cons r10 .nil) ⟨_,zs,v10,rfl,rfl,Y',l10,rfl⟩) (λ_ Wq z11=>?_) λ_ _ f=>f.elim);have⟨_,H11,YH,_,e11⟩:=z11;subst e11;refine aaI (aaI ⟨rfl,m10,XQ,i+1,zs++[v10],os8,_,l8,YH.jO,T.keep _ _ _ t7 λb hb o e=>(YH.pin (b,o) (aaH _ (aaH _ (eV hb e)))).1,λb hb=>?_,w10⟩);have⟨o,e,_⟩:=T.obj _ _ t7 b hb;exact(YH.pin (b,o) (aaH _ (aaH _ (eV hb e)))).2.1
 exact codeAny_compStart_list loop (T.self X.A 0 _ _ _ (T.keep _ _ _ t3 (λb hb o e=>by rw[e4];exact kp b o e)) loop)
def LP(S:ai X scope xs ys Μ)(hc:X.calm=true)(hi:PI X tg iter wi)(hg:∀C s H fp,PG (Cx.comp X (xs++ys) scope C s H fp) tg gg)(hk:vO xs.length gg)(ht:∀C s H fp,WE (Cx.comp X (xs++ys) scope C s H fp) cs tc)(he:∀C s H fp,PE (Cx.comp X (xs++ys) scope C s H fp) elt te)(hs:∀x,foldedSetIterable iter X.env x=pure x:=by intro _;rfl):
  PE X (.ListComp elt [⟨tg,iter,cs,0⟩] scope pos) (KH wi xs.length gg tc te Μ):=by
 intro δ s σ H Q I h;rw[eval_ListComp];refine wpAny_comprehension_free (use:=none) rfl hs (sR (S.has I.ok)) S.kind S.names (bc (hi δ s σ H _ I h) λv s1 h1=>bc h1 λWI s2 h2=>?_);have⟨it,fp,tn,J,H2,rfl,I2,T,t0,f2,q⟩:=h2;refine u7 S hc hg hk ht he (Q:=Q) I2 T t0 f2 q λD C s' H' I' q' n' hC hz hL R1 hp=>?_;have⟨m,n'⟩:=n';exact⟨m,n',λh' sb=>⟨.ref D,H',I'.turned (it:=C) (t':=s'.toks) (λb o hb e=>(sb.2 b hb).trans e) hC hL (.inr hz) R1 hp,rfl,q'⟩⟩
def yY{i:Nat}{y:Str}{py j4:Pos}(hN:X.N.Nodup)(Lb:X.N[i]? =some y)(hy:Loc X.env.scope y)(S:ai X scope xs ys Μ)(hc:X.calm=true)(hi:PI X tg iter wi)(hg:∀C s H fp,PG (Cx.comp X (xs++ys) scope C s H fp) tg gg)(hk:vO xs.length gg)(ht:∀C s H fp,WE (Cx.comp X (xs++ys) scope C s H fp) cs tc)(he:∀C s H fp,PE (Cx.comp X (xs++ys) scope C s H fp) elt te)
  (Hq:swapsWith (.ListComp elt [⟨tg,iter,cs,0⟩] scope pos) (some (.Name y py)) j4.line X.env=pure true) (hs:∀x,foldedSetIterable iter X.env x=pure x)
  (hf:X.fn y=true\/X.env.scope.names.lookup y=some .local):
  PS X (.Assign [.Name y py] (.ListComp elt [⟨tg,iter,cs,0⟩] scope pos) j4) (λD σ H=>KH wi xs.length gg tc te Μ σ H λv H1=>D.nx (σ.set i (some v)) H1):=by
 intro δ s σ H D I h;rw[exec_Assign_Name_used _ _ _ _ Hq];refine aaj (wpAny_standAt (aaj ?_));show wpAny _ _ (do let _<-comprehension (.ListComp elt [⟨tg,iter,cs,0⟩] scope pos) scope X.env _ (newList []) false (eval iter X.env) (some (assign (.Name y py) X.env))) _ _ s;refine aaj (abd (wpAny_comprehension_free (use:=some (assign (.Name y py) X.env)) (Q:=λ_ s'=>SP X δ D .next s') rfl hs (sR (S.has I.ok)) S.kind S.names (bc (hi δ s σ H _ I h) λv s1 h1=>bc h1 λWI s2 h2=>?_)) (λ_ s' hq=>aaI (aaI hq)) λ_ _ e=>e);have⟨it,fp,tn,J,H2,rfl,I2,T,t0,f2,q⟩:=h2;refine u7 S hc hg hk ht he (Q:=λv H1=>D.nx (σ.set i (some v)) H1) I2 T t0 f2 q λDl C s' H' I' q' n' hC hz hL R1 hp=>?_;have⟨m,n'⟩:=n';show wpAny _ _ (assign (.Name y py) X.env (.ref Dl)) _ _ s';refine wpAny_assign_Name (vj I' hN Lb hy (v:=.ref Dl) rfl (λs3 I3 ZY=>?_) hf);have⟨a,ZY,ha⟩:=ZY;have hCa:C≠a:=by
  rcases ha with rfl| ha
  ·exact hL
  ·exact(R1 _ _ ha).symm
 exact⟨m,n'.sameBut ZY hCa,λh' sb=>⟨_,H',I3.turned (it:=C) (t':=s3.toks) (λb o hb e=>(sb.2 b hb).trans e) hC hL (.inr hz) R1 hp,q'⟩⟩
end
section
variable{K:tf}
def cQ.okX{x:Str}{st:Stmt}{k:Nat}{sp:Sp}(F:cQ K x qual st f fd)(S:Ε N ps (ν st))(len:∀vs H Q E,sp vs H Q E->vs.length=ps.length)
  (tD:∀(aY:Value) (A:Around) (outer:List Env) (s:Shared) (H:Hp) (vs:List V) (Q:VK) (E:XK),bD k (A.deeper (envOfC qual (ν st) s.heap.objs.size f aY))->sp vs H Q E->
   ∃t,yC (lB (bM P w) P w K mg base N qual (ν st) f aY A outer s H E) (fH st) t/\t {nx:=λ_ H'=>Q .aE H',rt:=Q} (start N vs) H):ah P w K mg base (bM P w) (k+1) f fd ps sp:=by
 have⟨oc,od,kV,doc,pm,an,aY,ct,BF,rfl,lk,B1⟩:=F.ex;exact TV lk B1 S len λA outer s H vs Q E hr GU=>tD aY A outer s H vs Q E hr GU
end
def cL:cR (bM P w) X (λ_=>E0):=by intro δ σ H s e s' _ hx;have⟨_,_,_,_,_,_,_,_,hE⟩:=hx;exact hE.elim
def log2_lt{n:Nat}{k:Nat}(h:n < 2 ^ k)(hk:0 < k):n.log2 < k:=by
 by_cases h0:n=0
 ·rw[h0,show Nat.log2 0=0 from rfl];exact hk
 ·exact(Nat.log2_lt h0).mpr h
def jL(i:Int):Prop:=i.natAbs < 2 ^ 8000
def Gr{i j:Int}(hi:jL i)(hj:jL j):IntMulOk i j:=by
 have b:∀{i:Int},jL i->Builtin.Int.intBits i<=8000:=λ{i} h=>by
  unfold Builtin.Int.intBits;split
  ·exact abW _
  ·have:=log2_lt (k:=8000) h @_;omega
 have b1:=b hi;have b2:=b hj;have h3:Builtin.Int.intTooBig (Builtin.Int.intBits i+Builtin.Int.intBits j)=false:=by
  unfold Builtin.Int.intTooBig;refine aat ?_;have:(bitsLine:Int)=134217728:=@_
  omega
 unfold IntMulOk;rw[h3,Bool.and_false];exact aaD
section
def MV:iC X (binaryOp .Mult) (rI (λi j=>jL i/\jL j) λi j=>.int (i * j)):=W2 λ_ _ _ _ _ _ _ hc q=>mul_int q (Gr hc.1 hc.2)
def yO:iC X (binaryOp .FloorDiv) (rI (λ_ j=>j≠0/\jL j) λi j=>.int (i.fdiv j)):=W2 λ_ _ _ _ _ _ _ hc q=>
 floordiv_int hc.1 q (.inl (PyProof.noPylong_of_log2 (aas (log2_lt (k:=8000) hc.2 @_) @_)))
end
def B_:V->Option Value
 | .ty T=>some (.type T)
 | .ref C=>some (.ref C)
 | _=>none
def Fc{c:V}{u t:Value}(r:ax c u)(h:B_ c=some t):u=t:=by
 cases c with
 | ty T=>cases r;exact aav h
 | ref C=>cases r;exact aav h
 | _=>cases h
section
def pR:dG X (.builtin "isinstance") (λxs H Q=>∃x c t t' b,xs=[x,c]/\jI X.K H x t/\B_ c=some t'/\PySem.W.kitOne X.K t t'=some b/\Q (.bl b) H):=by intro δ s σ H xs us Q I r h;have⟨x,c,t,t',b,rfl,ty,hc,hk,q⟩:=h;have⟨u,u',rfl,r1,r2⟩:=Pb r;cases Fc r2 hc;exact G9 I r1 ty hk λtk=>⟨.bl b,H,I.tok tk,rfl,q⟩
end
def nB:List V->List V->Bool
 | [],[]=>true
 | x::xs,y::ys=>ue x y&&nB xs ys
 | _,_=>false
def mF:∀(xs ys:List V) (e:Nat->Bool),(∀j x y,xs[j]? =some x->ys[j]? =some y->e j=ue x y)->((List.range (min xs.length ys.length)).all e&&xs.length==ys.length)=nB xs ys
 | [],[],e,_=>rfl
 | [],_::_,e,_=>by simp[nB]
 | _::_,[],e,_=>by simp[nB]
 | x::xs,y::ys,e,h=>by
  have ih:=mF xs ys (λj=>e (j+1)) λj x y h1 h2=>h (j+1) x y h1 h2;have h0:e 0=ue x y:=h 0 x y rfl rfl;show _=(ue x y&&nB xs ys);rw[<-ih,<-h0];have e1:min (x::xs).length (y::ys).length=min xs.length ys.length+1:=by simp only[List.length_cons];omega
  rw[e1,abJ,abO,List.all_map];have e2:((x::xs).length==(y::ys).length)=(xs.length==ys.length):=by simp only[List.length_cons];rw[Bool.eq_iff_iff];simp
  rw[e2,Bool.and_assoc];rfl
def U6(K:tf):R2:=λx y H Q=>∃a b xs ys,x= .ref a/\y= .ref b/\mZ K H a xs/\mZ K H b ys/\xs.all d9=true/\ys.all d9=true/\Q (.bl (nB xs ys)) H
def UT(K:tf):R2:=λx y H Q=>∃a b xs ys,x= .ref a/\y= .ref b/\mZ K H a xs/\mZ K H b ys/\xs.all d9=true/\ys.all d9=true/\Q (.bl (!nB xs ys)) H
def nK:∀{xs:List V} {j:Nat} {x:V},xs.all d9=true->xs[j]? =some x->d9 x=true
 | _::_,0,_,h,e=>by rw[abO,aam]at h;cases e;exact h.1
 | _::_,j+1,_,h,e=>by rw[abO,aam]at h;exact nK h.2 e
section
def QA(hu:X.A.units < cLine):iC X (compareOp .NotEq) (UT X.K):=by
 intro δ s σ H x y v u Q I rx ry h;have⟨a,b,xs,ys,rfl,rfl,h1,h2,f1,f2,q⟩:=h;cases rx;cases ry;have⟨i1,v1,t1,_⟩:=I.tuple h1;have⟨i2,v2,t2,_⟩:=I.tuple h2;have l1:=v1.length;have l2:=v2.length;refine SeqAt.RcNeAt.tuples (e:=λj=>match xs[j]?,ys[j]? with| some x,some y=>ue x y| _,_=>true) (show s.heap.IsTuple a i1.toArray from t1) (show s.heap.IsTuple b i2.toArray from t2) hu (λj h1 h2=>?_) _ _ _ _ ?_
 ·have b1:j < i1.length:=by simpa using h1
  have b2:j < i2.length:=by simpa using h2
  have e1:xs[j]? =some (xs[j]'()):=aac _;have e2:ys[j]? =some (ys[j]'()):=aac _;have⟨u1,g1,r1⟩:=v1.get e1;have⟨u2,g2,r2⟩:=v2.get e2;rw[aac b1]at g1;rw[aac b2]at g2;have w1:i1.toArray[j]=u1:=by simpa using Option.some.inj g1
  have w2:i2.toArray[j]=u2:=by simpa using Option.some.inj g2
  rw[w1,w2];simp only[e1,e2];exact xP r1 r2 (nK f1 e1) (nK f2 e2)
 ·rw[List.size_toArray,List.size_toArray,<-l1,<-l2,mF xs ys _ (λj x y h1 h2=>by simp only[h1,h2])];exact⟨.bl (!nB xs ys),H,I,rfl,q⟩
def Ib(hu:X.A.units < cLine):iC X (compareOp .Eq) (U6 X.K):=by
 intro δ s σ H x y v u Q I rx ry h;have⟨a,b,xs,ys,rfl,rfl,h1,h2,f1,f2,q⟩:=h;cases rx;cases ry;have⟨i1,v1,t1,_⟩:=I.tuple h1;have⟨i2,v2,t2,_⟩:=I.tuple h2;have l1:=v1.length;have l2:=v2.length;refine SeqAt.eq_tupleAt (e:=λj=>match xs[j]?,ys[j]? with| some x,some y=>ue x y| _,_=>true) (show s.heap.IsTuple a i1.toArray from t1) (show s.heap.IsTuple b i2.toArray from t2) hu (λj h1 h2=>?_) ?_
 ·have b1:j < i1.length:=by simpa using h1
  have b2:j < i2.length:=by simpa using h2
  have e1:xs[j]? =some (xs[j]'()):=aac _;have e2:ys[j]? =some (ys[j]'()):=aac _;have⟨u1,g1,r1⟩:=v1.get e1;have⟨u2,g2,r2⟩:=v2.get e2;rw[aac b1]at g1;rw[aac b2]at g2;have w1:i1.toArray[j]=u1:=by simpa using Option.some.inj g1
  have w2:i2.toArray[j]=u2:=by simpa using Option.some.inj g2
  rw[w1,w2];simp only[e1,e2];exact xP r1 r2 (nK f1 e1) (nK f2 e2)
 ·rw[List.size_toArray,List.size_toArray,<-l1,<-l2,mF xs ys _ (λj x y h1 h2=>by simp only[h1,h2])];exact⟨.bl (nB xs ys),H,I,rfl,q⟩
end
section
variable{K:tf}{D:Addr}{od:Option Obj}
def rR{Q:Option Value->Shared->Prop}(X:K.In s.heap)(I:PySem.W.InstAt s.heap x ox D od)(XM:PySem.W.findIn K (.ref D) "__getattribute__"=some (some (.builtin "BaseException.__getattribute__")))
  (hgt:PySem.W.findIn K (.ref D) "__getattr__"=some none) (ha:PySem.W.findIn K (.ref D) "__class__"=some (some (.builtin "object.__class__"))) (hm:PySem.W.mroIn K D (.type "object")=some true) (hsb:PySem.W.subIn K (.ref D) (.type "BaseException")=some true)
  (h:Q (some (.ref D)) {s with toks:=s.toks+1}):wpAny (model prog w) A (getAttr? (.ref x) "__class__") Q E s:=by
 have⟨hh,g,d,t,os⟩:=s;have L0:=I.type (M:=model prog w);have L1:=PySem.W.looks_findIn (M:=model prog w) X XM;have L2:=PySem.W.looks_findIn (M:=model prog w) X hgt;have L4:=PySem.W.looks_subIn (M:=model prog w) X hsb;have f3:=F.excAttr_ValueError.ga.bind (.ref x);have L6:(Value.builtin "BaseException.__getattribute__"==Value.builtin "object.__getattribute__")=false:=by decide+kernel
 have Sg:(onTheHeap (Value.ref D)&&Value.builtin "BaseException.__getattribute__"==Value.builtin "object.__getattribute__")=false:=by rw[L6];rfl
 have XU:(false&&onTheHeap (Value.builtin "BaseException.__getattribute__"))=false:=rfl;unfold getAttr? getAttrBy? getAttrBy
 repeat (any_goals (first| assumption| with_reducible refine L0.at ?_| with_reducible refine L1.at ?_| with_reducible refine L2.at ?_| wp_step))
 refine codeAny_call_builtin F.excAttr_ValueError.ga.plain F.entry_bexc_ga ?_;have hk:builtinKind "BaseException.__getattribute__"=some .slot:=by decide+kernel
 have GU:splitId "BaseException.__getattribute__"=some ("BaseException","__getattribute__"):=by decide+kernel
 have har:=F.args_bexc_ga (.ref x) (.str "__class__" t);simp only[checkBuiltinCall,hk,GU];refine aaj ?_;unfold isInstance;have L3:=PySem.W.looks_findIn (M:=model prog w) X ha;have f5:=F.typeOf_object_class;have f6:=F.slot_gs_get.lookup;have f7:=F.slot_gs_set.lookup;have hg:∀{R:Result->Shared->Prop} {A:Around},R (.ok (.ret (.ref D))) ⟨hh,g,d,t+1,os⟩->codeAny (model prog w) A (.call (.builtin "getset_descriptor.__get__") ⟨[.builtin "object.__class__",.ref x,.ref D],[]⟩) R ⟨hh,g,d,t+1,os⟩:=λhr=>PySem.W.class_get (s:=⟨hh,g,d,t+1,os⟩) X I hm hr
 repeat (any_goals (first| assumption| with_reducible refine L0.at ?_| with_reducible refine L4.at ?_| with_reducible refine L3.at ?_| wp_step))
 refine hg ?_
 repeat (any_goals (first| assumption| wp_step))
end
structure p_(K:tf)(C:Addr):Prop where
 cls:PySem.W.isClsIn K C=true
 ga:PySem.W.findIn K (.ref C) "__getattribute__"=some (some (.builtin "BaseException.__getattribute__"))
 gt:PySem.W.findIn K (.ref C) "__getattr__"=some none
 cl:PySem.W.findIn K (.ref C) "__class__"=some (some (.builtin "object.__class__"))
 ob:PySem.W.mroIn K C (.type "object")=some true
 be:PySem.W.subIn K (.ref C) (.type "BaseException")=some true
def p_.data{K:tf}(c:p_ K C):∃cl dd cd sl,K.lookup C=some ⟨cl,dd,.cls cd,sl⟩:=by
 have q:=c.cls;unfold PySem.W.isClsIn PySem.W.clsIn at q;split at q
 ·rename_i cl dd cd sl ho;exact⟨cl,dd,cd,sl,ho⟩
 ·cases q
def Iy{K:tf}(c:p_ K C):PySem.W.KitX K (.ref x) (.ref C) (λh=>∃od,PySem.W.InstAt h x ox C od) where
 ty:=λ_ _ _ ⟨_,I⟩=>I.type
 it:=λM h X _=>by have⟨cl,dd,cd,sl,ho⟩:=c.data;intro A' Q' E' s' k q;unfold isType loadHead;exact aaj (wpAny_loadPart (k _ _ (X _ _ ho)) (aaI q))
 ne:=λh tp dd its n sl X htp=>by have⟨cl,ON,cd,sl',ho⟩:=c.data;refine Bool.eq_false_iff.mpr λq=>?_;have e:C=tp:=Value.ref.inj (abp.mp q);rw[<-e,X _ _ ho]at htp;cases htp
 ca:=λX ⟨_,I⟩ k=>rR X I c.ga c.gt c.cl c.ob c.be k
section
variable{H:Hp}{i:Nat}{n:Str}
def Hg{v:V}(I:Inv X δ σ H s)(hN:X.N.Nodup)(hi:X.N[i]? =some n)(hk:X.env.scope.names.lookup n=some .local)(hv:σ[i]? =some (some v))(h:∀s',Inv X δ (σ.set i none) H s'->Q Unit.unit s'):wpAny M A (unbindName X.env n) Q E s:=by
 have⟨m,hn,hl⟩:=id I.loc;have⟨u,r,lk⟩:=hl i n v hi hv (.inl hk);have hm:m n=some u:=by
  rcases lk with ⟨_,e⟩| ⟨k,_⟩
  ·exact e
  ·rcases k with k| k
   ·exact aaK ((show X.env.scope.names.lookup n=some .cell from k).symm.trans hk) @_
   ·exact aaK ((show X.env.scope.names.lookup n=some .free from k).symm.trans hk) @_
 have JX:(X.env.scope.kind== .class|| (X.env.scope.kind== .module&&X.env.locals != X.env.globals))=false:=by rw[I.ok.kind];rfl
 have⟨oL,_,_,hoL,_⟩:=id hn;refine wpAny_unbindName_local hk hn hm JX λh' u' Fp hs=>h _ ⟨I.ok,I.os,I.bare,⟨λb o e n hb hx=>?_,λb o e n hb hx=>?_,I.base.free,λb o e hx=>?_,I.base.lG,I.base.kf,I.base.lF⟩,⟨_,Fp,λj y v' e1 e2 e3=>?_⟩,λy c e=>?_,I.free,I.fe,λp hp=>?_,λb ob e=>?_,by simpa using I.len⟩
 ·exact(hs.2 b (aaM (aas (aaq e) I.ok.above))).trans (I.base.keep b o e n hb hx)
 ·have⟨sl,e1⟩:=I.base.slot b o e n hb hx;exact⟨sl,(hs.2 b (aaM (aas (aaq e) I.ok.above))).trans e1⟩
 ·have⟨o',e1⟩:=I.base.there b o e hx;exact⟨o',(hs.2 b (aaM (aas (aaq e) I.ok.above))).trans e1⟩
 ·by_cases hj:j=i
  ·subst hj;have IV:j < σ.length:=(aai.mp hv).1;rw[aaU IV]at e2;cases e2
  ·rw[aa2 (Ne.symm hj)]at e2;have⟨u2,r2,q⟩:=hl j y v' e1 e2 e3;refine⟨u2,r2,?_⟩;rcases q with ⟨k,e⟩| ⟨k,c,e,z⟩
   ·refine .inl ⟨k,?_⟩;have:y≠n:=λe=>hj (sX hN e1 (e▸hi));simp[this,e]
   ·exact .inr ⟨k,c,e,z.sameBut hs (I.KZ y c e)⟩
 ·have⟨w',z⟩:=I.cell y c e;exact⟨w',z.sameBut hs (I.KZ y c e)⟩
 ·have⟨e,n,ne,nf,d⟩:=I.pin p hp;exact⟨(hs.2 p.1 ne).trans e,n,ne,nf,d⟩
 ·refine(I.ay b ob e).qf (λc w' hc q=>(hs.2 c ?_).trans q) (λ_ q=>q) λ_ _ q=>q;rintro rfl;have fr:=I.free;rcases hc with hc| hc
  ·rw[hc,e]at fr;cases fr
  ·rw[hc]at fr;cases fr
def Hs(I:Inv X δ σ H s)(hN:X.N.Nodup)(hi:X.N[i]? =some n)(hk:X.env.scope.names.lookup n=some .local)(h:∀s',Inv X δ (σ.set i none) H s'->Q Unit.unit s'):
  wpAny M A (do bindName X.env n .none;unbindBehindTheSuite X.env n pos) Q E s:=by
 have IV:i < σ.length:=by rw[I.len];exact(aai.mp hi).1
 refine aaj (wpAny_bindName (nW I hN hi (.inl hk) (v:=.aE) rfl (λs1 I1=>?_) (.inr hk)));unfold unbindBehindTheSuite;refine wpAny_onRaise (Hg I1 hN hi hk (v:=.aE) (by rw[aaU IV]) λs2 I2=>h s2 ?_);rw[List.set_set]at I2;exact I2
end
def Ht(bs:List Bool):(List.range bs.length).any (λi=>bs.getD i false)=bs.any id:=by
 induction bs with
 | nil=>rfl
 | cons b bs ih=>
  rw[aaL,abJ,abY,List.any_map,abY,<-ih];rfl
def xh:∀{bs:List Bool} {us:List Value},aj (bs.map V.bl) us->us=bs.map Value.bool
 | [],_,r=>by cases r;rfl
 | b::bs,_,r=>by
  cases r with
  | cons h t=>
   cases h;rw[xh t];rfl
def yV{bs:List Bool}:TruthOf prog w A (λi v=>(bs.map Value.bool).toArray[i]? =some v) (λi=>bs.getD i false):=by
 intro i v s Q E h q;have h':(bs.map Value.bool)[i]? =some v:=by simpa using h
 rw[aap]at h';cases e:bs[i]? with
 | none=>rw[e]at h';cases h'
 | some b=>
  rw[e]at h';cases h';have q':Q b s:=by
   have eb:bs.getD i false=b:=by rw[aad,e];rfl
   exact eb▸q
  exact wpAny_truthy_bool q'
def Tp(K:tf):List V->Hp->VK->Prop:=λxs H Q=>∃(p:Addr) (bs:List Bool),xs=[.ref p]/\fU K H p (bs.map V.bl)/\Q (.bl (bs.any id)) H
section
def Kh (hc : X.calm = true) : dG X (.builtin "any") (Tp X.K) :=by
  intro δ s σ H xs us Q I r h;obtain⟨p,bs,rfl,hq,q⟩ :=h;obtain⟨u,rfl,r1⟩ :=lN r;cases r1;obtain⟨its,rv,pl,hz⟩ :=I.list hq;have PF :=xh rv;subst PF;refine call_any_walk (wpAny_pyIter_list pl.isList ?_);have lp : p < s.heap.objs.size :=by obtain⟨o,e,_⟩ :=pl.isList;exact aaq e
  refine⟨s.heap.objs.size,_,_,_,_,_,λi =>bs.getD i false,rfl,Walks.list (show X.A.in1.handled = none from I.ok.hd hc) s.heap.objs.size p (aaM lp) (bs.map Value.bool).toArray,⟨⟨_,aaP _ rfl,rfl,rfl⟩,pl.isList.at λo e =>aal _ e⟩,yV,λh' tk hk =>?_⟩;refine⟨.bl (bs.any id),H,I.kept λb o e =>hk b o (λz =>by have : b = s.heap.objs.size :=(by simpa using z);exact Nat.lt_irrefl _ (this ▸ Heap.lt_size e)) (Heap.get?_push_of_some _ e),?_,q⟩;rw[aaz,aah,Ht];rfl
end
end L2
namespace PySem
open Sem (wp)
section
variable{prog:Program}{w:World}{A:Around}{E:Value->Shared->Prop}{h:Heap}{g:Array GenState}{d:Drawn}{t:Nat}{os:OsState}
variable{nm q:Str}{C N:Addr}{bs bm i9:List Value}{hdct:Bool}{sn:List Str}{sub:List Value}{ab:Bool}{col:Option Bool}{dd:Option Addr}{k0 k1 k2 k3 k5:Option Value}{B newId bC:String}
def qd(F:ExcBaseFacts B newId bC i9)(T:OwnTail h i9 bm){mN:Str->Option Value}{rest:List Value}{fI:Addr}{oI:Obj}{Q:Fin->Shared->Prop}
  (hC:h.get? C=some (excClassObj nm q C N bs bm hdct sn sub ab col dd k0 k1 k2 k3 k5 newId)) (hn:h.Ns N mN) (hi:mN "__init__"=some (.ref fI))
  (S_:h.get? fI=some oI) (VA:oI.cls= .type "function")
  (hq:∀h' e,Heap.MadeExcOf h h' e (.ref C) rest->
   wpAny (model prog w) A (call (.ref fI) (.ref e::rest)) (λr s'=>r= .none/\Q (.done (.ret (.ref e))) s') E ⟨h',g,d,t,os⟩) (hrest:rest.length<=sizeLine:=by size_fits):
  wpAny (model prog w) A (Builtin.«type.__call__» ⟨.ref C::rest,[]⟩) Q E ⟨h,g,d,t,os⟩:=by
 repeat (first| with_reducible refine wpAny_loadPart_at hC ?_| with_reducible refine wpAny_madeBy_exc hC ?_| wp_step)
 refine codeAny_call_builtin_code (Code.quiet_builtin _ F.quiet) (wpAny_check_new_subT F T hC ?_);refine codeAny_exc_new_subT F T hC ?_ hrest;show wpAny _ _ _ _ _ _
 have OA:=aal {cls:=.ref C,data:=.fields #[.ref h.objs.size,.none,.none,.none,.bool false,.none]}
  (aal {cls:=.type "tuple",data:=.seq rest.toArray} hC)
 have Qs:=aal {cls:=.ref C,data:=.fields #[.ref h.objs.size,.none,.none,.none,.bool false,.none]}
  (aal {cls:=.type "tuple",data:=.seq rest.toArray} S_)
 have VS:((h.push {cls:=.type "tuple",data:=.seq rest.toArray}).push {cls:=.ref C,data:=.fields #[.ref h.objs.size,.none,.none,.none,.bool false,.none]}).Ns N mN:=
  let ⟨o,es,ep,e,r⟩:=hn;⟨o,es,ep,aal _ (aal _ e),r⟩
 have Nz:((h.push {cls:=.type "tuple",data:=.seq rest.toArray}).push
   {cls:=.ref C,data:=.fields #[.ref h.objs.size,.none,.none,.none,.bool false,.none]}).get? (h.objs.size+1)=some
   {cls:=.ref C,data:=.fields #[.ref h.objs.size,.none,.none,.none,.bool false,.none]}:=by heap_get
 have Z4:(Value.ref C::bm).contains (.ref C)=true:=by simp
 have T₁:=T.keeps (h':=(h.push {cls:=.type "tuple",data:=.seq rest.toArray}).push {cls:=.ref C,data:=.fields #[.ref h.objs.size,.none,.none,.none,.bool false,.none]})
  λb o e=>aal _ (aal _ e)
 unfold isInstance
 repeat (first| with_reducible refine wpAny_loadPart_at Nz ?_| (with_reducible refine wpAny_isSubtype_exc OA ?_;rw[Z4])| wp_step)
 show wpAny _ _ (typeLookup (.ref C) _) _ _ _;refine wpAny_typeLookup_tail OA VS T₁ F.mroIs F.init.lookup ?_;rw[hi];refine wpAny_holding (aaj ?_);unfold bindSpecial;refine aaj (wpAny_typeOf (T:="function") ⟨_,Qs,VA⟩ ?_);rw[aay @_];refine aaI (aaj (abd (hq _ (h.objs.size+1) ⟨λb o hb=>aal _ (aal _ hb),Heap.get?_none_of_le (Nat.le_succ _),h.objs.size,Nz,Heap.get?_none_of_le (aao _),?_⟩) (λr s' hr=>?_) λ_ _ x=>x))
 ·exact aal _ (Heap.get?_push_at rfl rfl)
 ·have⟨rfl,hQ⟩:=hr
  wp_walk
  exact hQ
def CK(F:ExcBaseFacts B newId bC i9)(T:OwnTail h i9 bm){mN:Str->Option Value}{rest:List Value}{fI:Addr}{oI:Obj}{Q:Value->Shared->Prop}
  (hC:h.get? C=some (excClassObj nm q C N bs bm hdct sn sub ab col dd k0 k1 k2 k3 k5 newId)) (hn:h.Ns N mN) (hi:mN "__init__"=some (.ref fI))
  (S_:h.get? fI=some oI) (VA:oI.cls= .type "function")
  (hq:∀h' e,Heap.MadeExcOf h h' e (.ref C) rest->
   wpAny (model prog w) (A.under (.builtin "type.__call__" ⟨.ref C::rest,[]⟩)) (call (.ref fI) (.ref e::rest)) (λr s'=>r= .none/\Q (.ref e) s') E ⟨h',g,d,t,os⟩) (hrest:rest.length<=sizeLine:=by size_fits):
  wpAny (model prog w) A (call (.ref C) rest) Q E ⟨h,g,d,t,os⟩:=by
 have f1:=tc_lookup;have f2:=tc_bind (.ref C);have hT:(⟨h,g,d,t,os⟩:Shared).TypeIs (.ref C) "type":=⟨_,hC,rfl⟩;refine wpAny_call (codeAny_of_tree ?_);show wpAny _ _ (callAny (.ref C) _) _ _ _
 repeat (any_goals (first| assumption| with_reducible refine wpAny_loadPart_at hC ?_| wp_step))
 refine⟨rfl,?_⟩;refine codeAny_call_builtin_at (Code.quiet_builtin _ (by decide+kernel)) entry_typeCall (wpAny_check_type_call_sub hC (qd (hrest:=hrest) F T hC hn hi S_ VA λh' e hm=>?_));exact hq h' e hm
def BK(F:ExcBaseFacts B newId bC i9)(T:OwnTail h i9 bm){rest:List Value}{e t0:Addr}{oe:Obj}{vs:Array Value}{Q:Value->Shared->Prop}
  (hC:h.get? C=some (excClassObj nm q C N bs bm hdct sn sub ab col dd k0 k1 k2 k3 k5 newId)) (he:h.get? e=some oe) (JX:oe.cls= .ref C) (P2:oe.data= .fields vs) (h0:vs[0]? =some (.ref t0))
  (hq:∀h',(∀b o,b≠e->h.get? b=some o->h'.get? b=some o)->h'.get? e=some (Obj.mapFields (·.setIfInBounds 0 (.ref h.objs.size)) oe)->Q .none ⟨h',g,d,t,os⟩) (hrest:rest.length<=sizeLine:=by size_fits):
  wpAny (model prog w) A (call (.builtin bC) (.ref e::rest)) Q E ⟨h,g,d,t,os⟩:=by
 refine wpAny_call (codeAny_call_builtin F.init.plain F.initEntry (wpAny_check_init_subT F T hC he JX ?_));unfold Builtin.«BaseException.__init__»;dsimp only;rw[if_neg (by simp)];unfold newTuple Builtin.BaseException.bexcPut;have hsz:0 < vs.size:=(abi.mp h0).1;have Ly:=aal (h:=h) {cls:=.type "tuple",data:=.seq rest.toArray} he;refine aaj (wpAny_newObj_type (aaj (aaj (wpAny_field Ly P2 h0 (aaj (wpAny_setField Ly P2 hsz ?_))))) (by show rest.toArray.size<=sizeLine;rw[aaz];exact hrest));refine wpAny_letGo (aaI (hq _ (λb o nb hb=>?_) ?_))
 ·rw[Heap.get?_update_other _ _ (Ne.symm nb)];exact aal _ hb
 ·rw[Heap.get?_update_self _ Ly (Obj.isFreed_of_fields (Obj.data_mapFields P2 _))]
end
end PySem
namespace PySem.W
open PySem PySem.Builtin PySem.Builtin.ObjectAttr
variable{prog:Program}{E:Value->Shared->Prop}{od:Option Obj}{vs:Array Value}{Q:Unit->Shared->Prop}
def zL:Slot "BaseException" "__getattribute__" "BaseException.__getattribute__":=
 .of (owner:="BaseException") (n:="__getattribute__") (by rw[typeLookup_type,builtinLookup_eq_fast];kernel_rfl) (by decide+kernel) (by decide+kernel) (by decide+kernel)
  (by first| exact .inl (by decide+kernel)| exact .inr (by decide+kernel)) (by rw[isSubtype_type];kernel_rfl)
def G_:entryFor table "BaseException.__getattribute__"=some Builtin.«object.__getattribute__»:=entryFor_alias (id':="object.__getattribute__") (by rw[fastTable_eq_tree];kernel_rfl) (by decide+kernel) (by decide+kernel) (by rw[fastTable_eq_tree];kernel_rfl)
def KO(a b:Value):argsOk "BaseException.__getattribute__" ⟨[a,b],[]⟩:=by unfold argsOk;kernel_rfl
def qv(l:List Value):Bool:=l==[.type "ValueError",.type "Exception",.type "BaseException",.type "object"]
def xK:List Value->Bool
 | .ref c::r=>qv (.ref c::r)|| xK r
 | l=>qv l
def pX(self:Value){l:List Value}(e:qv l=true):refuseLoop self "__setattr__" l=pure Unit.unit:=by rw[abp.mp e];exact PySem.F.store_ValueError.passes self
def tN(self:Value):∀(l:List Value),xK l=true->refuseLoop self "__setattr__" l=pure Unit.unit
 | [],e=>pX self e
 | v::r,e=>by
  cases v with
  | ref c=>
   rw[refuseLoop_ref];rcases(Bool.or_eq_true _ _).mp e with z| z
   ·exact absurd z (by unfold qv;simp)
   ·exact tN self r z
  | _=>exact pX self e
section
variable{w:World}{A:Around}{s:Shared}{K:Frag}{x C:Addr}{ox:Obj}{name:Str}{v:Value}
def Xb{expr:Bool}{Q:Value->Shared->Prop}(X:K.In s.heap)(I:InstAt s.heap x ox C od)(XM:findIn K (.ref C) "__getattribute__"=some (some (.builtin "BaseException.__getattribute__")))(hk:findIn K (.ref C) "__getattr__"=some none)
  (hi:subIn K (.ref C) (.type "BaseException")=some true) (hf:findObj K C od name=some (.value v)) (hh:handedIn v=true) (h:Q v {s with toks:=s.toks+1}):wpAny (model prog w) A (getAttr (.ref x) name expr) Q E s:=by
 have L0:=I.type (M:=model prog w);refine aaj (wpAny_mkText (wpAny_holding (aaj (L0 _ _ _ _ (λ_ _ e=>e) (aaj (looks_findIn X XM _ _ _ _ (λ_ _ e=>e) ?_))))));dsimp only;rw[show(onTheHeap (Value.ref C)&&Value.builtin "BaseException.__getattribute__"==Value.builtin "object.__getattribute__")=false from by rw[show(Value.builtin "BaseException.__getattribute__"==Value.builtin "object.__getattribute__")=false from by decide+kernel,Bool.and_false],aaF @_];have hb:Looks (model prog w) s.heap (hookBefore (.ref C)) none:=looks_hook X (mc:=.ref C) hk;refine aaj (hb _ _ _ _ (λ_ _ e=>e) (aaj (wpAny_attempt (wpAny_holding ?_))));unfold callGetattribute;rw[show(expr&&onTheHeap (Value.builtin "BaseException.__getattribute__"))=false from Bool.and_false _,aaF @_];unfold boundAndCalled;rw[zL.bind];refine aaj (aaI ?_);show wpAny _ _ (call (.builtin "BaseException.__getattribute__") [.ref x,.str name s.toks]) _ _ _;refine wpAny_call ?_;refine codeAny_call_builtin zL.plain G_ ?_;refine@check_slot (model prog w) _ _ {s with toks:=s.toks+1} "BaseException.__getattribute__" "BaseException" "__getattribute__" (.ref x) [.str name s.toks] [] _ (by decide+kernel) (by decide+kernel) (L0.andThen (looks_subIn X hi)) (KO (.ref x) (.str name s.toks)) ?_;have L1:=looks_find (M:=model prog w) X I hf;unfold Builtin.«object.__getattribute__»;refine aaj (aaI ?_);refine aaj (aaI (aaj (L0.here (s:={s with toks:=s.toks+1}) (aaj (L1.here (s:={s with toks:=s.toks+1}) ?_)))));refine aaI ?_;show wpAny _ _ (handedOut v) _ _ _;rw[handedOut_of hh];exact aaI h
end
section
variable{w:World}{A:Around}{s:Shared}{K:Frag}{x C:Addr}{ox:Obj}{name:Str}{v:Value}{R:Result->Shared->Prop}
def nY(K:Frag)(C:Addr):Bool:=(clsIn K C).any λcd=>xK cd.mro&&cd.mro.contains (.type "object")&& !cd.mro.isEmpty&&cd.hasDict
def Ts{tk:Tok}(X:K.In s.heap)(I:InstAt s.heap x ox C od)(hp:nY K C=true)(ht:takerIn K C name=some none)
  (h:∀b cd,clsIn K C=some cd->cd.hasDict=true->wpAny (model prog w) A.in1 (storeInOwnDict (.ref x) (.ref C) (.str name tk) name v b)
   (λfin s'=>match fin with| .done f=>R (.ok f) s'| .again c'=>c'.quiet=true/\codeAny (model prog w) A c' R s') (λe s'=>R (.error e) s') s):
  codeAny (model prog w) A (.call (.builtin "object.__setattr__") ⟨[.ref x,.str name tk,v],[]⟩) R s:=by
 have SF:=PySem.F.store_object;have⟨cd,hc,ho⟩:=any_some hp;rw[aam,aam,aam]at ho;have⟨⟨⟨ho,h2⟩,h3⟩,h4⟩:=ho;have ne:cd.mro.isEmpty=false:=by simpa using h3
 have sub:Looks (model prog w) s.heap (isInstance (.ref x) (.type "object")) true:=I.type.andThen (looks_mroIn X (by unfold mroIn;rw[hc,Option.bind_some,if_neg (by rw[ne];decide),h2]));refine codeAny_call_builtin SF.slot.plain SF.entry (@check_slot (model prog w) _ _ s "object.__setattr__" "object" "__setattr__" (.ref x) [.str name tk,v] [] _ SF.kind SF.split sub (SF.args (.ref x) (.str name tk) v) ?_);have⟨attr,ha,hr⟩:=Option.bind_eq_some_iff.mp ht;have hm:Looks (model prog w) s.heap (mroOf (.ref C)) cd.mro:=(looks_clsIn X hc).andThen .now;have L3:Looks (model prog w) s.heap (storeTaker? attr) none:=by
  cases attr with
  | none=>exact .now
  | some a=>
   have⟨b,hb,e⟩:=abm.mp hr;refine(looks_takesIn X hb).andThen ?_;cases b
   ·exact .now
   ·cases e
 rw[osa_eq,refuse_eq];refine aaj (aaj (I.type.here (aaj (hm.here ?_))));rw[tN _ _ ho];refine aaI (aaj (I.type.here (aaj ((looks_findIn X ha).here (aaj (L3.here ?_))))));exact h _ cd hc h4
abbrev eL(C:Addr)(od:Option Addr)(vs:Array Value):Obj:={cls:=.ref C,dict:=od,data:=.fields vs}
def SS(X:K.In s.heap)(hx:s.heap.get? x=some (eL C none vs))
  (hs:findIn K (.ref C) "__setattr__"=some (some (.builtin "object.__setattr__"))) (hp:nY K C=true) (ht:takerIn K C name=some none)
  (h:∀h' dx,s.heap.get? dx=none->dx≠x->(∀b o,b≠x->s.heap.get? b=some o->h'.get? b=some o)->h'.get? x=some (eL C (some dx) vs)->h'.Ns1 dx (λy=>if y=name then some v else none)->Q Unit.unit {s with heap:=h',toks:=s.toks+2}):
  wpAny (model prog w) A (setAttr (.ref x) name v) Q E s:=by
 have I:InstAt s.heap x (eL C none vs) C none:=⟨hx,rfl,rfl,trivial⟩;refine set_plain X I hs (Ts (s:={s with toks:=s.toks+1}) X I hp ht λb cd hc NJ=>?_);refine aaj (aaI (aaj ?_));show wpAny _ _ (instanceDict x true) _ _ _;unfold instanceDict;refine aaj (wpAny_loadPart hx ?_);dsimp only;refine aaj (Looks.here (s:={s with toks:=s.toks+1}) (looks_clsIn X hc) ?_);rw[NJ,if_neg @_,if_neg (by simp[typeHasDict])];have O_:(s.heap.push {cls:=.type "dict",data:=.dict #[]}).get? x=some (eL C none vs):=aal _ hx;have ZV:x≠s.heap.objs.size:=aaM (aaq hx);refine aaj (wpAny_alloc' ?_);refine aaj (wpAny_update' O_ ?_);refine aaI ?_
 have hgd:((s.heap.push {cls:=.type "dict",data:=.dict #[]}).update x λo=>{cls:=o.cls,dict:=some s.heap.objs.size,data:=o.data,slots:=o.slots}).get? s.heap.objs.size
   =some {cls:=.type "dict",data:=.dict #[]}:=
  (Heap.get?_update_ne _ _ _ _ ZV.symm).trans (Heap.get?_push_at rfl rfl)
 have Vo:((s.heap.push {cls:=.type "dict",data:=.dict #[]}).update x λo=>{cls:=o.cls,dict:=some s.heap.objs.size,data:=o.data,slots:=o.slots}).Ns s.heap.objs.size (λ_=>none):=
  ⟨_,#[],_,hgd,rfl,λe he=>absurd he (by simp),λ_=>rfl⟩
 show wpAny _ _ (storeInDict s.heap.objs.size (.str name s.toks) name v) _ _ _;unfold storeInDict newKeyGuard;refine aaj (aaI (aaj (wpAny_nsSet1 (Heap.Ns1.of_empty Vo) λh' Fp hs=>?_)));have⟨oD,esD,epD,UR,SW,Pd⟩:=Fp.count (Within.cons name v Within.nil);refine aaj (wpAny_lookBehind UR (by rw[SW];exact pastItsLine_dict (aax Pd (by rw[aaL,List.length_nil,sizeLine_eq];omega))) ?_);refine aaI (h h' s.heap.objs.size (Heap.get?_none_of_le (aao _)) ZV.symm (λb ob hbx hb=>?_) ?_ Fp)
 ·exact(hs.2 b (aaM (aaq hb))).trans ((Heap.get?_update_ne _ _ _ _ hbx).trans (aal _ hb))
 ·exact(hs.2 x ZV).trans (Heap.get?_update_self _ O_ rfl)
def SX{dx:Addr}{mA:Str->Option Value}{ns:List Str}(X:K.In s.heap)(hx:s.heap.get? x=some (eL C (some dx) vs))(jz:dx≠x)(JQ:s.heap.Ns1 dx mA)(hw:Within mA ns)(hsz:ns.length<=1000)
  (hs:findIn K (.ref C) "__setattr__"=some (some (.builtin "object.__setattr__"))) (hp:nY K C=true) (ht:takerIn K C name=some none)
  (h:∀h',(∀b o,b≠dx->s.heap.get? b=some o->h'.get? b=some o)->h'.Ns1 dx (λy=>if y=name then some v else mA y)->Q Unit.unit {s with heap:=h',toks:=s.toks+2}):
  wpAny (model prog w) A (setAttr (.ref x) name v) Q E s:=by
 have⟨o0,_,_,ho0,_⟩:=id JQ;have I:InstAt s.heap x (eL C (some dx) vs) C (some o0):=⟨hx,rfl,rfl,ho0⟩;refine set_plain X I hs (Ts (s:={s with toks:=s.toks+1}) X I hp ht λb cd hc NJ=>?_);refine aaj (aaI (aaj ?_));show wpAny _ _ (instanceDict x true) _ _ _;unfold instanceDict;refine aaj (wpAny_loadPart hx ?_);dsimp only;refine aaj (Looks.here (s:={s with toks:=s.toks+1}) (looks_clsIn X hc) ?_);rw[NJ,aaF @_];refine aaI ?_;show wpAny _ _ (storeInDict dx (.str name s.toks) name v) _ _ _;unfold storeInDict newKeyGuard;refine aaj (aaI (aaj (wpAny_nsSet1 (s:={s with toks:=s.toks+1}) JQ λh' Fp hs=>?_)));have⟨oD,esD,epD,UR,SW,Pd⟩:=Fp.count (Within.cons name v hw);refine aaj (wpAny_lookBehind UR (by rw[SW];exact pastItsLine_dict (aax Pd (by rw[aaL,sizeLine_eq];omega))) ?_);exact aaI (h h' (λb ob hb e=>(hs.2 b hb).trans e) Fp)
end
end PySem.W
namespace PySem
open Sem (wp)
section
variable{M:Model}{A:Around}{E:Value->Shared->Prop}{env:Env}
variable{nm q:Str}{C N:Addr}{bs bm:List Value}{hdct:Bool}{sn:List Str}{sub:List Value}{ab:Bool}{col:Option Bool}{dd:Option Addr}{k0 k1 k2 k3 k5:Option Value}{newId:String}
def l'{s:Shared}{x:Sem Value}{Q:Flow->Shared->Prop}(j9:bm.contains (.type "BaseException")=true)(hh:A.handled=none)
  (h:wpAny M A x (λv s₁=>∃e od vs,v= .ref e/\s₁.heap.get? C=some (excClassObj nm q C N bs bm hdct sn sub ab col dd k0 k1 k2 k3 k5 newId)/\
   s₁.heap.get? e=some (PySem.W.eL C od vs)/\vs[1]? =some .none/\E (.ref e) s₁) E s):
  wpAny M A (raiseStmt env (some x) none) Q E s:=by
 have hcB:(Value.ref C::bm).contains (.type "BaseException")=true:=by rw[List.contains_cons,j9,Bool.or_true]
 unfold raiseStmt;refine aaj (abd h (λv s₁ h₁=>?_) λ_ _ x=>x);have⟨e,od,vs,rfl,hC,he,h1,hE⟩:=h₁;have⟨hp,g,d,tk,os⟩:=s₁
 repeat (first| with_reducible refine wpAny_field he rfl h1 ?_| with_reducible refine wpAny_loadPart_at he ?_| with_reducible refine wpAny_loadPart_at hC ?_| (with_reducible refine wpAny_isSubtype_exc hC ?_;rw[hcB])| wp_step)
 exact wpAny_raiseNew_none hh hE
end
section
variable{prog:Program}{w:World}{A:Around}{E:Value->Shared->Prop}{s:Shared}{env:Env}
variable{nm q:Str}{C N fI:Addr}{bs bm i9:List Value}{hdct:Bool}{sn:List Str}{sub:List Value}{ab:Bool}{col:Option Bool}{dd:Option Addr}{k0 k1 k2 k3 k5:Option Value}{B newId bC:String}
def Ac(F:ExcBaseFacts B newId bC i9){mN:Str->Option Value}{x:Str}{np aV pos:Pos}{args:List Expr}{Q:Flow->Shared->Prop}
  (j9:bm.contains (.type "BaseException")=true) (hh:A.handled=none) (mC:(backTo aV (starEach args env)).any (·.1)=false) (hi:mN "__init__"=some (.ref fI))
  (h :wpAny (model prog w) A (eval (.Name x np) env) (λf s₁=>f= .ref C/\wpAny (model prog w) A (evalArgs (.ref C) true (backTo aV (starEach args env)) [])
   (λa s₂=>a.kw=[]/\a.pos.length<=sizeLine/\s₂.heap.get? C=some (excClassObj nm q C N bs bm hdct sn sub ab col dd k0 k1 k2 k3 k5 newId)/\s₂.heap.Ns N mN/\OwnTail s₂.heap i9 bm/\(∃oI,s₂.heap.get? fI=some oI/\oI.cls= .type "function")/\
    ∀h' e,Heap.MadeExcOf s₂.heap h' e (.ref C) a.pos->wpAny (model prog w) (A.under (.builtin "type.__call__" ⟨.ref C::a.pos,[]⟩)) (call (.ref fI) (.ref e::a.pos))
     (λr s'=>r= .none/\s'.heap.get? C=some (excClassObj nm q C N bs bm hdct sn sub ab col dd k0 k1 k2 k3 k5 newId)/\∃od vs,s'.heap.get? e=some (PySem.W.eL C od vs)/\vs[1]? =some .none/\E (.ref e) s') E {s₂ with heap:=h'}) E s₁) E s):
  wpAny (model prog w) A (exec (.Raise (some (.Call (.Name x np) args [] aV)) none pos) env) Q E s:=by
 rw[arm_exec_Raise]
 first
  | refine aaj (wpAny_standAt (l' (C:=C) (nm:=nm) (q:=q) (N:=N) (bs:=bs) (bm:=bm) (hdct:=hdct) (sn:=sn) (sub:=sub) (ab:=ab) (col:=col) (dd:=dd) (k0:=k0) (k1:=k1) (k2:=k2) (k3:=k3) (k5:=k5) (newId:=newId) j9 hh (aaj (abd (wpAny_Call_ofName (abd h (λf s₁ h₁=>?_) λ_ _ x=>x)) (λv s₃ h₃=>aaj (wpAny_standAt (aaI h₃))) λ_ _ x=>x))))
  | (simp only[evalOpt,Option.map];refine wpAny_bind (wpAny_standAt (l' (C:=C) (nm:=nm) (q:=q) (N:=N) (bs:=bs) (bm:=bm) (hdct:=hdct) (sn:=sn) (sub:=sub) (ab:=ab) (col:=col) (dd:=dd) (k0:=k0) (k1:=k1) (k2:=k2) (k3:=k3) (k5:=k5) (newId:=newId) j9 hh (wpAny_bind (wpAny_mono (wpAny_Call_ofName (wpAny_mono h (λf s₁ h₁=>?_) λ_ _ x=>x)) (λv s₃ h₃=>wpAny_bind (wpAny_standAt (wpAny_pure h₃))) λ_ _ x=>x)))))
  | (refine aaj (wpAny_standAt (l' (C:=C) (nm:=nm) (q:=q) (N:=N) (bs:=bs) (bm:=bm) (hdct:=hdct) (sn:=sn) (sub:=sub) (ab:=ab) (col:=col) (dd:=dd) (k0:=k0) (k1:=k1) (k2:=k2) (k3:=k3) (k5:=k5) (newId:=newId) j9 hh ?_));refine aaj (abd (wpAny_Call_ofName (abd h (λf s₁ h₁=>?_) λ_ _ x=>x)) (λv s₃ h₃=>aaj (wpAny_standAt (aaI h₃))) λ_ _ x=>x))
 have⟨rfl,h₁⟩:=h₁;unfold callWith;refine aaj (wpAny_holding (abd h₁ (λa s₂ h₂=>aaj (wpAny_standAt ?_)) λ_ _ x=>x));have⟨apos,akw⟩:=a;have⟨hkw,hlen,hC,hn,T,⟨oI,S_,VA⟩,h₂⟩:=h₂;obtain rfl:akw=[]:=hkw;have⟨hp,g,d,tk,os⟩:=s₂;simp only[mC];refine aaj (wpAny_keeperOf_exc hC ?_);refine aaj (CK (hrest:=hlen) F T hC hn hi S_ VA λh' e hm=>abd (h₂ h' e hm) (λr s' hr=>?_) λ_ _ x=>x);have⟨rfl,hC',od,vs,he,h1,hE⟩:=hr;exact⟨rfl,aaj (wpAny_holding (wpAny_point (aaI ⟨e,od,vs,rfl,hC',he,h1,hE⟩)))⟩
end
end PySem
namespace L2
open PySem PySem.Spec PyProof.Rows
variable{h:Heap}{vs:Array Value}{x:Addr}{X:Cx}{δ:List (Addr×Obj)}{s:Shared}{i9:List Value}{newId:String}{pos:Pos}
def xO(a C:Addr)(od:Option Addr):HO:=.ext λh=>∃ob vs,h.get? a=some ob/\ob.cls= .ref C/\ob.dict=od/\ob.data= .fields vs
def xN(a C:Addr)(od:Option Addr):HO:=.ext λh=>∃(vs:Array Value) (t0:Addr),h.get? a=some (PySem.W.eL C od vs)/\vs[0]? =some (.ref t0)/\vs[1]? =some .none/\vs[2]? =some .none
section
variable{P:Program}{w:World}{H:Hp}{a C:Addr}{od:Option Addr}
def US{ob:Obj}(e:h.get? a=some ob)(h1:ob.cls= .ref C)(h2:ob.dict=od)(h3:ob.data= .fields vs):aM P w H h a (xO a C od):=
 ⟨⟨ob,vs,e,h1,h2,h3⟩,⟨_,e⟩,λg1 g2 ⟨ob,vs,e,h1,h2,h3⟩ k=>⟨ob,vs,k _ e,h1,h2,h3⟩⟩
def K'{t0:Addr}(e:h.get? a=some (PySem.W.eL C od vs))(h0:vs[0]? =some (.ref t0))(h1:vs[1]? =some .none)(h2:vs[2]? =some .none):aM P w H h a (xN a C od):=
 ⟨⟨vs,t0,e,h0,h1,h2⟩,⟨_,e⟩,λg1 g2 ⟨vs,t0,e,h0,h1,h2⟩ k=>⟨vs,t0,k _ e,h0,h1,h2⟩⟩
def OP(x:jD P w H h)(e:H a=some (xO a C od)):∃ob vs,h.get? a=some ob/\ob.cls= .ref C/\ob.dict=od/\ob.data= .fields vs:=(x a _ e).1
def EG(x:jD P w H h)(e:H a=some (xN a C od)):∃(vs:Array Value) (t0:Addr),h.get? a=some (PySem.W.eL C od vs)/\vs[0]? =some (.ref t0)/\vs[1]? =some .none/\vs[2]? =some .none:=(x a _ e).1
def jD.aE{P:Program}{w:World}{H:Hp}{a:Addr}(x:jD P w H h)(e:h.get? a=none):H a=none:=by
 cases q:H a with
 | none=>rfl
 | some u=>
  have⟨ob,z⟩:=aM.here (x a u q);rw[e]at z;cases z
end
def L7(x:Addr)(H:Hp):Hp:=λb=>if b=x then none else H b
def tI{H:Hp}:L7 x H x=none:=by unfold L7;rw[if_pos rfl]
def dz{b:Addr}{H:Hp}(h:b≠x):L7 x H b=H b:=by unfold L7;rw[if_neg h]
section
variable{σ:St}{H:Hp}{a dx:Addr}{o:HO}{h':Heap}
def Inv.VG(I:Inv X δ σ H s)(hn:H a=none)(h0:X.s₀.heap.get? a=none)(hl:X.env.locals≠a)(hc:∀z c,X.env.cells.lookup z=some c->c≠a)(hp:∀p∈X.pn++δ,p.1≠a)(new:aM X.prog X.w (upd H a o) s.heap a o):Inv X δ σ (upd H a o) s:=by
 refine⟨I.ok,I.os,I.bare,⟨I.base.keep,I.base.slot,λb u q n hx=>?_,I.base.there,λb xs q=>?_,λb u xs q=>?_,λb ps q=>?_⟩,I.loc,I.cell,?_,λz c q=>?_,λp q=>?_,λb u e=>?_,I.len⟩
 ·rw[ω (λz=>by rw[z,h0]at q;cases q)];exact I.base.free b u q n hx
 ·have:=I.base.lG b xs q;rw[ω (aH this hn)];exact this
 ·have:=I.base.kf b u xs q;rw[ω (aH this hn)];exact this
 ·have⟨m,e⟩:=I.base.lF b ps q;exact⟨m,by rw[ω (aH e hn)];exact e⟩
 ·rw[ω hl];exact I.free
 ·rw[ω (hc z c q)];exact I.fe z c q
 ·have⟨e,n,r⟩:=I.pin p q;exact⟨e,by rw[ω (hp p q)];exact n,r⟩
 ·by_cases hb:b=a
  ·subst hb;rw[Ι]at e;cases e;exact new
  ·rw[ω hb]at e;exact(I.ay b u e).qf (λc v _ q=>q) (λc q=>by rw[ω (aH q hn)];exact q) λc xs q=>by rw[ω (aH q hn)];exact q
def Inv.BW{s1:Shared}{H1:Hp}{σ1:St}(I1:Inv X δ σ1 H1 s1)(hex:X.ex=[])(hg:s1.heap.get? a=none)(I:Inv X δ σ H s)(hn:H a=none)(new:aM X.prog X.w (upd H a o) s.heap a o):Inv X δ σ (upd H a o) s:=by
 have no:∀b u,s1.heap.get? b=some u->b≠a:=λb u q z=>by rw[z,hg]at q;cases q
 refine I.VG hn ?_ ?_ (λz c q=>?_) (λp q=>?_) new
 ·cases q:X.s₀.heap.get? a with
  | none=>rfl
  | some u=>
   have⟨u',e1⟩:=I1.base.there a u q (by rw[hex];simp);rw[hg]at e1;cases e1
 ·have⟨m,⟨ob,_,_,e,_⟩,_⟩:=I1.loc;exact no _ _ e
 ·have⟨v,ob,e,_⟩:=I1.cell z c q;exact no _ _ e
 ·exact no _ _ (I1.pin p q).1
def Inv.drop{φ:Heap->Prop}(I:Inv X δ σ H s)(e:H x=some (.ext φ)):Inv X δ σ (L7 x H) s:=by
 have nx:∀b u,H b=some u->(∀ψ,u≠ .ext ψ)->b≠x:=λb u q nu z=>by rw[z,e]at q;cases q;exact nu _ rfl
 refine⟨I.ok,I.os,I.bare,⟨I.base.keep,I.base.slot,λb u q n hx=>?_,I.base.there,λb xs q=>?_,λb u xs q=>?_,λb ps q=>?_⟩,I.loc,I.cell,?_,λz c q=>?_,λp q=>?_,λb u q=>?_,I.len⟩
 ·by_cases hb:b=x
  ·rw[hb,tI]
  ·rw[dz hb];exact I.base.free b u q n hx
 ·have:=I.base.lG b xs q;rw[dz (nx b _ this λ_ z=>nomatch z)];exact this
 ·have:=I.base.kf b u xs q;rw[dz (nx b _ this λ_ z=>nomatch z)];exact this
 ·have⟨m,z⟩:=I.base.lF b ps q;exact⟨m,by rw[dz (nx b _ z λ_ y=>nomatch y)];exact z⟩
 ·rw[dz λz=>by have:=I.free;rw[z,e]at this;cases this];exact I.free
 ·have:=I.fe z c q;rw[dz λy=>by rw[y,e]at this;cases this];exact this
 ·have⟨e1,n,r⟩:=I.pin p q;exact⟨e1,by rw[dz λy=>by rw[y,e]at n;cases n];exact n,r⟩
 ·by_cases hb:b=x
  ·rw[hb,tI]at q;cases q
  ·rw[dz hb]at q;exact(I.ay b u q).qf (λc v _ z=>z) (λc z=>by rw[dz (nx c _ z λ_ y=>nomatch y)];exact z) λc xs z=>by rw[dz (nx c _ z λ_ y=>nomatch y)];exact z
end
def BE (K:tf) (C:Addr) (i9:List Value) (newId:String) (fI:Addr):Bool:=
 match List.lookup C K with
 | some {cls:=Value.type "type",dict:=_,data:=Data.cls cd,slots:=sl}=>
  match cd.mro,sl.toList with
  | Value.ref C'::bm,[_,_,_,_,some (Value.builtin n),_]=>
   C'==C&&n==newId&& !cd.hasDel&&PySem.W.tailIn K i9 bm&&PySem.W.nsOkIn K cd.ns&&
    PySem.W.nsIn K cd.ns "__init__"==some (some (.ref fI))
  | _,_=>false
 | _=>false
def Br{K:tf}{N:Addr}{mg:Str->Option Value}{n:Str}{v:Value}(X:K.In h)(G:h.Ns N mg)(e:PySem.W.nsIn K N n=some (some v)):mg n=some v:=by
 have⟨o,es,ep,ho,hd,_,hf⟩:=G;unfold PySem.W.nsIn at e;split at e
 ·rename_i c d WA n' sl q;have:=X _ _ q;rw[ho]at this;cases this;cases hd;split at e
  ·rename_i he;cases e;rw[<-hf];unfold nsFind findBy;rw[<-Array.find?_toList,he];rfl
  ·split at e <;> cases e
 ·cases e
structure fK(K:tf)(C:Addr)(i9:List Value)(newId:String)(fI:Addr):Prop where
 ok:BE K C i9 newId fI=true
 fn:PySem.W.isFn K (.ref fI)=true
 sa:PySem.W.findIn K (.ref C) "__setattr__"=some (some (.builtin "object.__setattr__"))
 over:PySem.W.nY K C=true
def fK.obj{K:tf}{C fI:Addr}{h0:Heap}(c:fK K C i9 newId fI)(X0:K.In h0):
  ∃bm N nm q bs hdct sn sub ab col dd k0 k1 k2 k3 k5 mN,mN ("__init__":Str)=some (.ref fI)/\
   ∀h:Heap,K.In h->h.get? C=some (excClassObj nm q C N bs bm hdct sn sub ab col dd k0 k1 k2 k3 k5 newId)/\h.Ns N mN/\OwnTail h i9 bm:=by
 have q:=c.ok;unfold BE at q;split at q
 ·rename_i dd cd sl ho;split at q
  ·rename_i C' bm k0 k1 k2 k3 n k5 hm hs;rw[aam,aam,aam,aam,aam]at q;have⟨⟨⟨⟨⟨q1,q2⟩,q3⟩,q4⟩,q5⟩,q6⟩:=q;cases abp.mp q1;cases abp.mp q2;have q3:cd.hasDel=false:=by simpa using q3
   have QX:sl= #[k0,k1,k2,k3,some (.builtin newId),k5]:=by cases sl with| mk l=>exact aaZ Array.mk hs
   have⟨c1,c2,c3,c4,c5,c6,c7,c8,c9,XI,Zh⟩:=cd;cases(show c3=_ from hm);cases(show Zh=_ from q3);subst QX;refine⟨bm,c4,c1,c5,c2,c6,c7,c8,c9,XI,dd,k0,k1,k2,k3,k5,h0.nsMap c4,Br X0 (.of_isNs (PySem.W.isNs_of_in X0 q5)) (abp.mp q6),λh X=>⟨X _ _ ho,?_,PySem.W.tail_of_in X q4⟩⟩;exact E9 q5 X0 X (.of_isNs (PySem.W.isNs_of_in X0 q5))
  ·cases q
 ·cases q
structure DN(K:tf)(D:Addr)(bC:String):Prop where
 sp:PySem.W.specialIn K (.ref D) "__getattribute__"=some (some (.builtin "type.__getattribute__"))
 rd:PySem.W.readsIn K D (.type "type")=true
 fd:PySem.W.findCls K (.ref D) (.type "type") "__init__"=some (.val (.builtin bC))
 hi:PySem.W.handedIn (.builtin bC)=true
def tBI(C:Addr)(t:TA):TE:=λσ H Q=>t σ H λvs H1=>∃x y od,vs=[.ref x,y]/\H1 x=some (xN x C od)/\Q .aE H1
section
variable{C D fI:Addr}{t:TA}{te ta:TE}{Bn bC:String}{dn:Str}{p apos pos':Pos}{e1 e2 o value:Expr}{f:Str}
def Ls{pl:Sem Bool}(F:ExcBaseFacts Bn newId bC i9)(c:fK X.K C i9 newId fI)(d:DN X.K D bC)(hg:Gl X dn)(hm:X.mg dn=some (.ref D))(ha:PA X [e1,e2] t)(pB:(dn==("__debug__":Str))=false:=by decide)
  (vh:starEach [e1,e2] X.env=(false,eval e1 X.env)::starEach [e2] X.env:=by rfl) (dN:(backTo pos (starEach [e2] X.env)).any (·.1)=false:=by rfl)
  (ht:eval (.Call (.Attribute (.Name dn p) "__init__" apos) [e1,e2] [] pos) X.env=(do
   let ov<-eval (.Name dn p) X.env
   standAt apos.atName
   let (f,first)<-holding [ov] (getMethod ov "__init__" pl)
   callWith pos f first (backTo pos (starEach [e1,e2] X.env)) (backToKw pos (keywordEach [] X.env))):=by rfl):
  PE X (.Call (.Attribute (.Name dn p) "__init__" apos) [e1,e2] [] pos) (tBI C t):=by
 intro δ s σ H Q I h;refine PySem.W.methodCall_KW (pl:=pl) (kQ I hg hm ?_ pB) ht;refine PySem.W.method_cls I.iX d.sp (PySem.W.cls_value I.iX d.rd d.fd d.hi ?_);have I0:=I.tok (s.toks+1);have h2:=ha pos δ _ σ H _ I0 h;show wpAny _ _ (callWith pos (.builtin bC) [] (backTo pos (starEach [e1,e2] X.env)) []) _ _ _;rw[vh]at h2⊢;refine Calls.callWith_builtin (by show(false|| (backTo pos (starEach [e2] X.env)).any (·.1))=false;rw[dN] <;> rfl) (Calls.evalArgs_plain ?_);refine bc h2 λus s2 xz=>?_;have⟨vs,H2,I2,r2,x,y,od,ev,hx,q⟩:=xz;subst ev;have⟨u1,u2,rfl,X4,ru2⟩:=r2.two;cases X4;have⟨bm,N,nm,q',bs,hdct,sn,sub,ab,col,dd,k0,k1,k2,k3,k5,mN,hni,TC⟩:=c.obj I2.iX;have⟨g1,g2,g3⟩:=TC _ I2.iX;have⟨ws,t0,L6,w0,w1,w2⟩:=EG I2.ay hx;have⟨hp,gg,dr,tk,os⟩:=s2;refine BK (rest:=[u2]) F g3 g1 L6 rfl rfl w0 (λh' hk he=>?_) (by show 1<=sizeLine;decide);have I3:Inv X δ σ (upd H2 x (xN x C od)) {(⟨hp,gg,dr,tk,os⟩:Shared) with heap:=h',toks:=tk}:=by refine I2.write (x:=x) (e:=x) (by rw[hx];exact trivial) (.inl rfl) hk ⟨_,he⟩ ?_;have he':h'.get? x=some (PySem.W.eL C od (ws.setIfInBounds 0 (.ref hp.objs.size))):=he;have hz:0 < ws.size:=(abi.mp w0).1;exact K' he' (t0:=hp.objs.size) (by simp[hz]) (by rw[Array.getElem?_setIfInBounds_ne @_];exact w1) (by rw[Array.getElem?_setIfInBounds_ne @_];exact w2)
 have eH:upd H2 x (xN x C od)=H2:=by
  funext b
  by_cases hb:b=x
  ·rw[hb,Ι,hx]
  ·rw[ω hb]
 rw[eH]at I3;exact⟨.aE,H2,I3,rfl,q⟩
def Inv.QH{σ:St}{H:Hp}{dx:Addr}{fs gs:List (Str×V)}{h':Heap}{t':Nat}(I:Inv X δ σ H s)(e:H dx=some (.xd fs))(k:∀b u,b≠dx->s.heap.get? b=some u->h'.get? b=some u)(OG:∃u,h'.get? dx=some u)
  (new:aM X.prog X.w (upd H dx (.xd gs)) h' dx (.xd gs)):Inv X δ σ (upd H dx (.xd gs)) {s with heap:=h',toks:=t'}:=by
 have nd:∀b,H b=none->b≠dx:=λb n z=>by rw[z,e]at n;cases n
 have nx:∀b u,H b=some u->(∀l,u≠ .xd l)->b≠dx:=λb u q nu z=>by rw[z,e]at q;cases q;exact nu _ rfl
 refine I.un ⟨λb u q n _ _=>k b u (nd b n) q,λb u q n _ _=>⟨u.slots,k b u (nd b n) q⟩,λb u q n _=>by rw[ω (nd b n)];exact n,λb u q _=>?_,
  λb xs q=>by rw[ω (nx b _ q λ_ z=>nomatch z)];exact q,λb u xs q=>by rw[ω (nx b _ q λ_ z=>nomatch z)];exact q,λb ps q=>⟨#[],by rw[ω (nx b _ q λ_ z=>nomatch z),q];simp⟩⟩ λb u q=>?_
 ·by_cases hb:b=dx
  ·rw[hb];exact OG
  ·exact⟨u,k b u hb q⟩
 ·by_cases hb:b=dx
  ·subst hb;rw[Ι]at q;cases q;exact new
  ·rw[ω hb]at q;refine(I.ay b u q).qf (λc v hc z=>k c v ?_ z) (λc z=>by rw[ω (nx c _ z λ_ y=>nomatch y)];exact z) λc xs z=>by rw[ω (nx c _ z λ_ y=>nomatch y)];exact z
   rcases hc with hc| hc
   ·rw[hc];exact hb
   ·exact nx c _ hc λ_ y=>nomatch y
structure HF(K:tf)(C:Addr)(f:Str):Prop where
 at_:PySem.W.takerIn K C f=some none
def sXF(C:Addr)(f:Str)(to tv:TE):TS:=λD σ H=>tv σ H λy H1=>to σ H1 λu H2=>∃x,u= .ref x/\
 ((H2 x=some (xN x C none)/\∀dx,H2 dx=none->dx≠x->D.nx σ (upd (upd H2 x (xN x C (some dx))) dx (.xd [(f,y)])))\/
  (∃dx fs,H2 x=some (xN x C (some dx))/\dx≠x/\H2 dx=some (.xd fs)/\fs.length < 1000/\D.nx σ (upd H2 dx (.xd (h7 f y fs)))))
def MA(hex:X.ex=[])(c:fK X.K C i9 newId fI)(n:HF X.K C f)(ho:PE X o ta)(hv:PE X value te)(hs:swapsWith value (some (.Attribute o f pos')) pos.line X.env=pure false:=by rfl):PS X (.Assign [.Attribute o f pos'] value pos) (sXF C f ta te):=by
 intro δ s σ H D I h;refine plainObj_wpAny_Assign_Attribute (bc (hv δ s σ H _ I h) fun u s1 ⟨y,H1,I1,ry,q⟩=>bc (ho δ s1 σ H1 _ I1 q) λov s2 xz=>?_) hs;have⟨xv,H2,I2,rx,x,ex,q2⟩:=xz;subst ex;obtain rfl:ov=Value.ref x:=rx;rcases q2 with ⟨hx,q2⟩| ⟨dx,fs,hx,jz,Lh,hlen,q2⟩
 ·have⟨ws,t0,L6,w0,w1,w2⟩:=EG I2.ay hx;refine PySem.W.SS I2.iX L6 c.sa c.over n.at_ λh' dx hn jz hk he JQ=>?_;have V4:H2 dx=none:=I2.ay.aE hn;have I3:Inv X δ σ (upd H2 x (xN x C (some dx))) {s2 with heap:=h',toks:=s2.toks+2}:=I2.write (x:=x) (e:=x) (by rw[hx];exact trivial) (.inl rfl) hk ⟨_,he⟩ (K' he w0 w1 w2);have hn3:upd H2 x (xN x C (some dx)) dx=none:=by rw[ω jz];exact V4
  refine⟨σ,_,I2.BW (o:=.xd [(f,y)]) hex hn I3 hn3 (show∃mA,h'.Ns1 dx mA/\∀g,gL (List.lookup g [(f,y)]) (mA g) from⟨_,JQ,λg=>?_⟩),q2 dx V4 jz⟩;show gL (List.lookup g [(f,y)]) (if g=f then some u else none);by_cases hg:g=f
  ·subst hg;rw[aay rfl];have:List.lookup g [(g,y)]=some y:=by rw[abC,ab9]
   rw[this];exact ry
  ·rw[aaF hg];have:List.lookup g [(f,y)]=none:=by rw[List.lookup_cons,show(g==f)=false by simpa using hg];rfl
   rw[this];trivial
 ·have⟨ws,t0,L6,w0,w1,w2⟩:=EG I2.ay hx;have⟨mA,JQ,hr⟩:=(show aM X.prog X.w H2 s2.heap dx (.xd fs) from I2.ay dx _ Lh);have hw:PySem.Within mA (fs.map (·.1)):=λg hg=>by
   have:=hr g;cases hl:fs.lookup g with
   | none=>rw[hl]at this;cases hm:mA g with
    | none=>exact aaK hm hg
    | some z=>rw[hm]at this;exact this.elim
   | some v=>
    have:=PySem.mem_of_lookup hl;exact aau.mpr ⟨_,this,rfl⟩
  refine PySem.W.SX I2.iX L6 jz JQ hw (by rw[aah];omega) c.sa c.over n.at_ λh' hk SI=>?_;refine⟨σ,_,I2.QH Lh hk (let ⟨ob,_,_,e,_⟩:=SI;⟨ob,e⟩) (show∃mA,h'.Ns1 dx mA/\∀g,gL ((h7 f y fs).lookup g) (mA g) from⟨_,SI,λg=>?_⟩),q2⟩;show gL ((h7 f y fs).lookup g) (if g=f then some u else mA g);rw[jZ];by_cases q:g=f
  ·rw[aay q,aay q];exact ry
  ·rw[aaF q,aaF q];exact hr g
end
def N1(C:Addr)(sp:Sp)(R:St->XK)(t:TA):TS:=λ_ σ H=>t σ H λvs H1=>vs.length<=sizeLine/\∀x,H1 x=none->
 sp (.ref x::vs) (upd H1 x (xN x C none)) (λv H2=>v= .aE/\∃od,H2 x=some (xN x C od)/\R σ (.ref C) od (L7 x H2)) E0
section
variable{C fI:Addr}{R:St->XK}{t:TA}{Bn bC:String}{x:Str}{np aV:Pos}{e:Expr}{es:List Expr}{k:Nat}{fd:FuncData}{ps:List Str}{sp:Sp}
def GX(hR:DM X R)(hc:X.calm=true)(hex:X.ex=[])(F:ExcBaseFacts Bn newId bC i9)(c:fK X.K C i9 newId fI)(G:ah X.prog X.w X.K X.mg X.base (bM X.prog X.w) k fI fd ps sp)(hr:bD (k+1) X.A)(hb:hJ X.K fd ps [])(hg:Gl X x)(hm:X.mg x=some (.ref C))(ha:PA X (e::es) t)
  (pB:(x==("__debug__":Str))=false:=by decide) (he:starEach (e::es) X.env=(false,eval e X.env)::starEach es X.env:=by rfl) (dN:(backTo aV (starEach es X.env)).any (·.1)=false:=by rfl):
  PS X (.Raise (some (.Call (.Name x np) (e::es) [] aV)) none pos) (N1 C sp R t):=by
 intro δ s σ H D I h;have⟨bm,N,nm,q,bs,hdct,sn,sub,ab,col,dd,k0,k1,k2,k3,k5,mN,hni,TC⟩:=c.obj I.iX;refine Ac (nm:=nm) (q:=q) (C:=C) (N:=N) (bs:=bs) (bm:=bm) (hdct:=hdct) (sn:=sn) (sub:=sub) (ab:=ab) (col:=col) (dd:=dd) (k0:=k0) (k1:=k1) (k2:=k2) (k3:=k3) (k5:=k5) F ((TC _ I.iX).2.2.hasType F.hasBase) (I.ok.hd hc) (by rw[he];show(false|| (backTo aV (starEach es X.env)).any (·.1))=false;rw[dN];rfl) hni (kQ I hg hm ⟨rfl,?_⟩ pB);have h2:=ha aV δ s σ H _ I h;rw[he]at h2⊢;refine Calls.evalArgs_plain (abd h2 (λus s2 z=>?_) λ_ _ y=>y);have⟨vs,H1,I1,r,hz,hq⟩:=z;have⟨g1,g2,g3⟩:=TC _ I1.iX;have T7:∃oI,s2.heap.get? fI=some oI/\oI.cls= .type "function":=by have q:PySem.W.typeIn X.K (.ref fI)=some (.type "function"):=abp.mp c.fn;unfold PySem.W.typeIn at q;dsimp only at q;have⟨ob,ho,hcl⟩:=abm.mp q;exact⟨ob,I1.iX _ _ ho,hcl⟩
 refine⟨rfl,by rw[<-r.length];exact hz,g1,g2,g3,T7,λh' e M=>?_⟩;have⟨t0,hx,_,_⟩:=M.there;have hHe:H1 e=none:=I1.ay.aE M.new;have I2:Inv X δ σ (upd H1 e (xN e C none)) {s2 with heap:=h'}:=I1.BW (o:=xN e C none) hex M.new (I1.kept (t':=s2.toks) M.keeps) hHe (K' hx rfl rfl rfl);have GU:=hq e hHe;have r2:aj (V.ref e::vs) (Value.ref e::us):=.cons rfl r;have hl:(Value.ref e::us).length=ps.length:=by rw[<-r2.length];exact G.len _ _ _ _ GU
 refine wpAny_call (codeAny_mono (G.run _ X.stack _ _ ⟨Value.ref e::us,[]⟩ (Value.ref e::us) _ _ E0 (hr.make C us []) (I2.Ru.make C us []) (by have:=hb _ (Value.ref e::us) I2.iX (by rw[aaW];exact hl);rwa[aaW]at this) r2 GU) λrr s' jF=>?_);cases rr with
 | error er=>exact(cL (X:=X) δ σ _ _ er s' I2 jF:X.xe er s')
 | ok fl=>
  cases fl with
  | ret u=>
   have⟨v,H',I3,rv,ev,od,Wd,hRq⟩:=I2.after jF;subst ev;have⟨ws,t1,hx3,w0,w1,w2⟩:=EG I3.ay Wd;refine⟨rv,(TC _ I3.iX).1,od,ws,hx3,w1,?_⟩;refine hR δ σ (L7 e H') s' e (PySem.W.eL C od ws) ws (I3.drop Wd) hx3 w1 w2 ?_ tI hRq;cases q0:X.s₀.heap.get? e with
   | none=>rfl
   | some u0=>
    have⟨u',e1⟩:=I1.base.there e u0 q0 (by rw[hex];simp);rw[M.new]at e1;cases e1
  | next=>exact False.elim jF
  | brk=>exact False.elim jF
  | cont=>exact False.elim jF
end
def AA.fresh{H H1:Hp}{h1 B:Heap}{o:Obj}(F:AA X.prog X.w X.stack H H1 s.heap h1 B x o):s.heap.get? x=none:=by
 cases q:s.heap.get? x with
 | none=>rfl
 | some u=>
  by_cases hb:x∈lI X.stack
  ·have⟨vs,_,_,_,ZA,_⟩:=F.A0.2.2.2;have⟨_,o',ly,hd⟩:=F.A0.2.2.1.mem hb;rw[ZA]at ly;cases ly;exact aaK rfl (hd _)
  ·have⟨u2,e2⟩:=F.Nh x u q hb;rw[F.A0.2.1]at e2;cases e2
def OI(i:Nat)(x C:Addr)(od:Option Addr)(D:pO):pO:=⟨λσ H=>H x=none->D.nx (σ.set i none) (upd H x (xO x C od)),λ_ _=>False,λ_ _=>False,λ_ _=>False⟩
def VZ(K:tf)(D:Addr)(i:Nat)(tb:(St->XK)->TS)(ts:Addr->TS):TS:=λDn σ H=>∃R:St->XK,tb R Dn σ H/\
 ∀σ' cls od H',R σ' cls od H'->∃C,cls= .ref C/\PySem.W.subIn K (.ref C) (.ref D)=some true/\∀x,H' x=none->ts x (OI i x C od Dn) (σ'.set i (some (.ref x))) H'
section
variable{body:List Stmt}{D:Addr}{dn n:Str}{i:Nat}{b₀:Stmt}{cx:List Stmt}{AQ np:Pos}{tb:(St->XK)->TS}{ts:Addr->TS}{pI:List Value}{ie:String}
def MK(hN:X.N.Nodup)(hi:X.N[i]? =some n)(hk:X.env.scope.names.lookup n=some .local)(hc:X.calm=true)(hex:X.ex=[])(vh:X.stack=X.env::X.outer)(hf:X.env.frame=some X.env.locals)(d:gA X.K D pI ie)(JH:pI.contains (.type "BaseException")=true)(hg:Gl X dn)(hm:X.mg dn=some (.ref D))
  (hb:∀(R:St->XK) (δ:List (Addr×Obj)),yC (Cx.Py X R δ) body (tb R))
  (hs:∀(x:Addr) (pn:List (Addr×Obj)),yC (Cx.cx X x pn) (b₀::cx) (ts x)) (pB:(dn==("__debug__":Str))=false:=by decide):
  PS X (.Try body [.ExceptHandler (some (.Name dn np)) (some n) (b₀::cx) AQ] [] [] pos) (VZ X.K D i tb ts):=by
 intro δ s σ H Dn I h;have⟨R,h1,h2⟩:=h;refine wpAny_Try_except (abd (hb R δ [] s σ H Dn (Inv.W7 I _) h1) (λfl s1 z=>?_) λe s1 z=>?_)
 ·have z':SP X δ Dn fl s1:=SP.mq z;cases fl with
  | next=>exact wpAny_execs_nil z'
  | brk=>exact z'
  | cont=>exact z'
  | ret u=>exact z'
 ·have⟨sv,σ',H1,s0,I0,hx⟩:=z;have⟨x,o,H',B,rfl,os,bare,F,hE⟩:=hx;have I0:Inv X δ σ' H1 s0:=Inv.mq (E:=X.xe) I0;have⟨C,ec,hu,YG⟩:=h2 σ' _ _ H' hE;have PN:X.A.frames=some (X.env::X.outer):=by rw[<-vh];exact I0.ok.frames
  have XU:s0.heap.get? x=none:=F.fresh;refine OR (B:=B) PN hf (by rw[<-vh];exact F.A0) λh4 f4 u4=>?_;refine qp f4 λh5 f5 u5=>?_;have F5:=F.on (by rw[vh];exact f5) (u4.trans u5);have I5:Inv X δ σ' H' {s1 with heap:=h5}:=F5.back I0 os bare;have⟨v5,_,_,_,hx5,_⟩:=f5.2.2.2;refine wpAny_handleBy_cons (codeAny_handlers_test (kQ (X:=Cx.cx X x (X.pn++δ)) (Inv.Qg I5 x) hg hm ?_ pB)) (by intro q;cases q);refine Ao I5.iX d JH hu hx5 ec (codeAny_handlers_suite_as ?_);refine qp f5 λh6 f6 u6=>?_;have F6:=F5.on (by rw[vh];exact f6) u6;have I6:Inv X δ σ' H' {s1 with heap:=h6}:=F6.back I0 os bare;have⟨vs,hv2,J⟩:=Iu I6 vh hf F6;refine nW (X:=Cx.cx X x (X.pn++δ++[(x,{o with data:=.fields vs})])) J hN hi (.inl hk) (v:=.ref x) rfl (λs7 I7=>?_) (.inr hk);refine abd (hs x _ [] s7 _ H' (OI i x C o.dict Dn) I7 (YG x F6.nx)) (λfl s8 z=>?_) λ_ _ z=>z.elim;cases fl with
  | next=>
   have⟨a,b,I8,q⟩:=z;have⟨p1,p2,_⟩:=I8.pin (x,{o with data:=.fields vs}) (abu _ (aaH _ aaf));have I8':Inv X δ a b s8:=Inv.HX I8 I0.ok.hd;have I9:=I0.BW (o:=xO x C o.dict) hex XU I8' p2 (US p1 ec rfl rfl);exact Hs I9 hN hi hk λs9 I9=>⟨_,_,I9,q p2⟩
  | brk=>have⟨a,b,I8,q⟩:=z;exact q.elim
  | cont=>have⟨a,b,I8,q⟩:=z;exact q.elim
  | ret u=>have⟨v,a,b,I8,r,q⟩:=z;exact q.elim
end
structure Zf(K:tf)(C:Addr)(f:Str):Prop where
 no:PySem.W.findIn K (.ref C) f=some none
 hd:PySem.W.hasDictIn K C=true
def tXA(K:tf)(f:Str)(ta:TE):TE:=λσ H Q=>ta σ H λu H1=>∃a C dx fs v,u= .ref a/\H1 a=some (xO a C (some dx))/\H1 dx=some (.xd fs)/\p_ K C/\Zf K C f/\fs.lookup f=some v/\Q v H1
def QG(K:tf):List V->Hp->VK->Prop:=λxs H Q=>∃a C od c t' b,xs=[.ref a,c]/\H a=some (xO a C od)/\(∀dx,od=some dx->∃o,H dx=some o)/\p_ K C/\B_ c=some t'/\PySem.W.kitOne K (.ref C) t'=some b/\Q (.bl b) H
section
variable{e:Expr}{f:Str}{ta:TE}
def Ni(he:PE X e ta)(hb:attributeBase e f X.env (eval e X.env)=eval e X.env:=by rfl):PE X (.Attribute e f pos) (tXA X.K f ta):=by intro δ s σ H Q I h;refine D7 hb (bc (he δ s σ H _ I h) λu s1 xz=>?_);have⟨xv,H1,I1,rx,a,C,dx,fs,v,ex,ha,hd,ty,xa,hl,q⟩:=xz;subst ex;obtain rfl:u=Value.ref a:=rx;have⟨⟨oc,odd,odt,BF⟩,vs,h1,h2,h3,h4⟩:=OP I1.ay ha;have⟨mA,JQ,hr⟩:=(show aM X.prog X.w H1 s1.heap dx (.xd fs) from I1.ay dx _ hd);have⟨od,hod,XB⟩:=vt JQ;have⟨w,hw,D9⟩:=gL.some_of (v:=v) (o:=mA f) (by rw[<-hl];exact hr f);cases h2;cases h3;cases h4;have J:PySem.W.InstAt s1.heap a ⟨.ref C,some dx,.fields vs,BF⟩ C (some od):=⟨h1,rfl,rfl,hod⟩;exact PySem.W.Xb I1.iX J ty.ga ty.gt ty.be (PySem.W.findObj_own xa.hd xa.no rfl (by rw[XB,hw])) (vE D9) ⟨v,H1,I1.tok _,D9,q⟩
def J_:dG X (.builtin "isinstance") (QG X.K):=by
 intro δ s σ H xs us Q I r h;have⟨a,C,od,c,t',b,rfl,ha,Lh,ty,hc,hk,q⟩:=h;have⟨u,u',rfl,r1,r2⟩:=Pb r;cases Fc r2 hc;cases r1;have⟨⟨oc,odd,odt,BF⟩,vs,h1,h2,h3,h4⟩:=OP I.ay ha;cases h2;cases h3;cases h4;have J:∃od',PySem.W.InstAt s.heap a ⟨.ref C,odd,.fields vs,BF⟩ C od':=by
  cases odd with
  | none=>exact⟨none,h1,rfl,rfl,trivial⟩
  | some d=>
   have⟨ly,e1⟩:=Lh d rfl;have⟨ob,e2⟩:=aM.here (I.ay d ly e1);exact⟨some ob,h1,rfl,rfl,e2⟩
 exact PySem.W.kia_one (Iy ty) I.iX J hk nofun λtk=>⟨.bl b,H,I.tok tk,rfl,q⟩
end
inductive Dt where
 | aE
 | bl (b:Bool)
 | int (i:Int)
 | str (x:Str)
 | tup (xs:List Dt)
 | lst (xs:List Dt)
 | obj (C:Addr) (ns:List Str) (xs:List Dt)
 | loc (k:Nat)
 | ref (a:Addr)
 | ty (n:String)
 | ji (ns:List Int)
 | kt (xs:List Dt)
 | exc (C:Addr) (ns:List Str) (xs:List Dt)
 | Su (x C:Addr) (od:Option Addr) (ns:List Str) (xs:List Dt)
inductive MO where
 | lst (xs:List Dt)
 | ins (C:Addr) (ns:List Str) (xs:List Dt)
 | lH (ks:List Key) (xs:List Dt)
 | raw (u:Addr->HO)
abbrev Ms:=List MO
abbrev En:=List (Option Dt)
mutual
def Den(K:tf)(G:Hp)(L:List Addr):Dt->V->Prop
 | .aE,v=>v= .aE
 | .bl b,v=>v= .bl b
 | .int i,v=>v= .int i
 | .str x,v=>v= .str x
 | .tup ds,v=>∃a vs,v= .ref a/\G a=some (.tup vs)/\Ν K G L ds vs
 | .lst ds,v=>∃a vs,v= .ref a/\G a=some (.lst vs)/\Ν K G L ds vs
 | .obj C ns ds,v=>∃a dx vs,v= .ref a/\G a=some (.ins C dx (ns.zip vs))/\ns.length=ds.length/\Ν K G L ds vs
 | .loc k,v=>∃a,v= .ref a/\L[k]? =some a
 | .ref a,v=>v= .ref a
 | .ty n,v=>v= .ty n
 | .ji ns,v=>∃a,v= .ref a/\fU K G a (ns.map V.int)
 | .kt ds,v=>∃a vs,v= .ref a/\mZ K G a vs/\Ν K G L ds vs
 | .exc C ns ds,v=>∃a od vs,v= .ref a/\G a=some (xO a C od)/\((ns=[]/\od=none)\/∃dx,od=some dx/\G dx=some (.xd (ns.zip vs)))/\ns.length=ds.length/\Ν K G L ds vs
 | .Su x _ od ns ds,v=>∃vs,v= .ref x/\((ns=[]/\od=none)\/∃dx,od=some dx/\G dx=some (.xd (ns.zip vs)))/\ns.length=ds.length/\Ν K G L ds vs
def Ν(K:tf)(G:Hp)(L:List Addr):List Dt->List V->Prop
 | [],vs=>vs=[]
 | d::ds,vs=>∃v r,vs=v::r/\Den K G L d v/\Ν K G L ds r
end
def Pre(L L':List Addr):Prop:=∃t,L'=L++t
def Pre.refl(L:List Addr):Pre L L:=⟨[],by simp⟩
def Pre.trans{a b c:List Addr}(h:Pre a b)(h':Pre b c):Pre a c:=by have⟨t,rfl⟩:=h;have⟨u,rfl⟩:=h';exact⟨t++u,by simp⟩
def Pre.get{a b:List Addr}(h:Pre a b){k:Nat}{x:Addr}(e:a[k]? =some x):b[k]? =some x:=by have⟨t,rfl⟩:=h;have hk:k < a.length:=(aai.mp e).1;rw[aaA hk];exact e
def dj.rd{H H':Hp}{a:Addr}{u:HO}(e:dj H H')(h:Rd H a u):Rd H' a u:=by
 rcases h with h| ⟨o,h⟩
 ·exact .inl (e _ _ h)
 ·exact .inr ⟨o,e _ _ h⟩
def dj.S4{K:tf}{H H':Hp}{a:Addr}{xs:List V}(e:dj H H')(h:mZ K H a xs):mZ K H' a xs:=by
 rcases h with h| h
 ·exact .inl (e.rd h)
 ·exact .inr h
section
variable{K:tf}{G G':Hp}{L L':List Addr}
mutual
def Den.mono(g:dj G G')(l:Pre L L'):∀(d:Dt) (v:V),Den K G L d v->Den K G' L' d v
 | .aE,_,h=>h
 | .bl _,_,h=>h
 | .int _,_,h=>h
 | .str _,_,h=>h
 | .tup ds,_,⟨a,vs,e,h1,h2⟩=>⟨a,vs,e,g _ _ h1,Ν.mono g l ds vs h2⟩
 | .lst ds,_,⟨a,vs,e,h1,h2⟩=>⟨a,vs,e,g _ _ h1,Ν.mono g l ds vs h2⟩
 | .obj C ns ds,_,⟨a,dx,vs,e,h1,hn,h2⟩=>⟨a,dx,vs,e,g _ _ h1,hn,Ν.mono g l ds vs h2⟩
 | .loc k,_,⟨a,e,h1⟩=>⟨a,e,l.get h1⟩
 | .ref _,_,h=>h
 | .ty _,_,h=>h
 | .ji _,_,⟨a,e,h1⟩=>⟨a,e,g.seq h1⟩
 | .kt ds,_,⟨a,vs,e,h1,h2⟩=>⟨a,vs,e,g.S4 h1,Ν.mono g l ds vs h2⟩
 | .exc _ _ ds,_,⟨a,od,vs,e,h1,h2,h3,h4⟩=>⟨a,od,vs,e,g _ _ h1,h2.imp (λz=>z) (λ⟨dx,z1,z2⟩=>⟨dx,z1,g _ _ z2⟩),h3,Ν.mono g l ds vs h4⟩
 | .Su _ _ _ _ ds,_,⟨vs,e,h2,h3,h4⟩=>⟨vs,e,h2.imp (λz=>z) (λ⟨dx,z1,z2⟩=>⟨dx,z1,g _ _ z2⟩),h3,Ν.mono g l ds vs h4⟩
def Ν.mono(g:dj G G')(l:Pre L L'):∀(ds:List Dt) (vs:List V),Ν K G L ds vs->Ν K G' L' ds vs
 | [],_,h=>h
 | d::ds,_,⟨v,r,e,h1,h2⟩=>⟨v,r,e,Den.mono g l d v h1,Ν.mono g l ds r h2⟩
end
def Ν.pair:∀{ds:List Dt} {vs:List V},Ν K G L ds vs->Paired (Den K G L) ds vs
 | [],_,h=>by have h:_=_:=h;subst h;exact .nil
 | d::ds,_,⟨v,r,e,h1,h2⟩=>by subst e;exact .cons h1 (Ν.pair h2)
def Ν.of:∀{ds:List Dt} {vs:List V},Paired (Den K G L) ds vs->Ν K G L ds vs
 | _,_,.nil=>rfl
 | _,_,.cons h t=>⟨_,_,rfl,h,Ν.of t⟩
end
section
variable{α β:Type}{F:α->β->Prop}
def EA:∀{xs:List α} {us:List β} {i:Nat} {x:α},Paired F xs us->xs[i]? =some x->∃u,us[i]? =some u/\F x u
 | _,_,_,_,.nil,e=>by simp at e
 | _,_,0,_,.cons r _,e=>by simp at e;subst e;exact⟨_,rfl,r⟩
 | _,_,i+1,x,.cons _ t,e=>by have⟨u,h1,h2⟩:=EA (i:=i) (x:=x) t (by simpa using e);exact⟨u,by simpa using h1,h2⟩
def Fj{x:α}{u:β}(r:F x u):∀{xs:List α} {us:List β} (i:Nat),Paired F xs us->Paired F (xs.set i x) (us.set i u)
 | _,_,_,.nil=>.nil
 | _,_,0,.cons _ t=>.cons r t
 | _,_,i+1,.cons q t=>.cons q (Fj r i t)
def x3:∀{xs ys:List α} {us ws:List β},Paired F xs us->Paired F ys ws->Paired F (xs++ys) (us++ws)
 | _,_,_,_,.nil,s=>s
 | _,_,_,_,.cons r t,s=>.cons r (x3 t s)
def tL:∀{xs:List α} {us:List β} (n:Nat),Paired F xs us->Paired F (xs.take n) (us.take n)
 | _,_,0,_=>.nil
 | _,_,_+1,.nil=>.nil
 | _,_,n+1,.cons r t=>.cons r (tL n t)
def qZ:∀{xs:List α} {us:List β} (n:Nat),Paired F xs us->Paired F (xs.drop n) (us.drop n)
 | _,_,0,r=>r
 | _,_,_+1,.nil=>.nil
 | _,_,n+1,.cons _ t=>qZ n t
def xk{xs:List α}{us:List β}(h:Paired F xs us):∀k:Nat,Paired F (List.replicate k xs).flatten (List.replicate k us).flatten
 | 0=>.nil
 | k+1=>by rw[abe,abe,aby,aby];exact x3 h (xk h k)
end
section
variable{K:tf}{G:Hp}{L:List Addr}
def Ν.length{ds:List Dt}{vs:List V}(h:Ν K G L ds vs):ds.length=vs.length:=Paired.length h.pair
def Ν.get{ds:List Dt}{vs:List V}{i:Nat}{d:Dt}(h:Ν K G L ds vs)(e:ds[i]? =some d):∃v,vs[i]? =some v/\Den K G L d v:=EA h.pair e
def Ν.app{ds es:List Dt}{vs us:List V}(h:Ν K G L ds vs)(h':Ν K G L es us):Ν K G L (ds++es) (vs++us):=.of (x3 h.pair h'.pair)
def iU:∀{ns:List Int},Ν K G L (ns.map Dt.int) (ns.map V.int)
 | []=>rfl
 | n::ns=>⟨_,_,rfl,rfl,iU⟩
def bx{d:Dt}{vs:List V}(h:Ν K G L [d] vs):∃v,vs=[v]/\Den K G L d v:=by have⟨v,r,rfl,h1,h2⟩:=h;have h2:r=[]:=h2;subst h2;exact⟨v,rfl,h1⟩
def iF{d e:Dt}{vs:List V}(h:Ν K G L [d,e] vs):∃v u,vs=[v,u]/\Den K G L d v/\Den K G L e u:=by have⟨v,r,rfl,h1,h2⟩:=h;have⟨u,rfl,h3⟩:=bx h2;exact⟨v,u,rfl,h1,h3⟩
end
def Hz(K:tf)(G:Hp)(L:List Addr)(H:Hp)(a:Addr):MO->Prop
 | .lst ds=>∃vs,H a=some (.lst vs)/\Ν K G L ds vs
 | .ins C ns ds=>∃dx vs,H a=some (.ins C dx (ns.zip vs))/\ns.length=ds.length/\Ν K G L ds vs
 | .lH ks ds=>∃vs,H a=some (.dK (ks.zip vs))/\ks.length=ds.length/\Ν K G L ds vs
 | .raw u=>H a=some (u a)
structure Rl(K:tf)(G:Hp)(L:List Addr)(M:Ms)(H:Hp):Prop where
 sub:dj G H
 len:L.length=M.length
 nd:L.Nodup
 fm:∀(k:Nat) (a:Addr) (m:MO),L[k]? =some a->M[k]? =some m->G a=none/\Hz K G L H a m
structure Ex(G:Hp)(L:List Addr)(H:Hp)(G':Hp)(L':List Addr)(H':Hp):Prop where
 g:dj G G'
 l:Pre L L'
 fr:∀b,G b=none->H b≠none->G' b=none
 out:∀b o,H b=some o->b∉L->H' b=some o
 new:∀b∈L',b∈L\/H b=none
 zi:∀b,H b≠none->H' b≠none
def Ex.refl(G:Hp)(L:List Addr)(H:Hp):Ex G L H G L H:=⟨.refl _,.refl _,λ_ h _=>h,λ_ _ h _=>h,λ_ h=>.inl h,λ_ h=>h⟩
def Ex.trans{G:Hp}{L:List Addr}{H G1:Hp}{L1:List Addr}{H1 G2:Hp}{L2:List Addr}{H2:Hp}(a:Ex G L H G1 L1 H1)(b:Ex G1 L1 H1 G2 L2 H2):Ex G L H G2 L2 H2 where
 g:=a.g.trans b.g
 l:=a.l.trans b.l
 fr:=λx h1 h2=>b.fr x (a.fr x h1 h2) (a.zi x h2)
 out:=λx o h1 h2=>b.out x o (a.out x o h1 h2) λz=>(a.new x z).elim h2 λq=>by rw[h1]at q;cases q
 new:=λx h=>by
  rcases b.new x h with z| z
  ·exact a.new x z
  ·right;cases q:H x with
   | none=>rfl
   | some o=>exact absurd z (a.zi x (by rw[q];simp))
 zi:=λx h=>b.zi x (a.zi x h)
def Hz.there{K:tf}{G:Hp}{L:List Addr}{H:Hp}{a:Addr}{m:MO}(h:Hz K G L H a m):H a≠none:=by
 cases m with
 | lst ds=>have⟨vs,e,_⟩:=h;rw[e];simp
 | ins C ns ds=>have⟨dx,vs,e,_⟩:=h;rw[e];simp
 | lH ks ds=>have⟨vs,e,_⟩:=h;rw[e];simp
 | raw u=>have h:H a=some (u a):=h;rw[h];simp
def Hz.mono{K:tf}{G G':Hp}{L L':List Addr}{H H':Hp}{a:Addr}{m:MO}(g:dj G G')(l:Pre L L')(e:H' a=H a)(h:Hz K G L H a m):Hz K G' L' H' a m:=by
 cases m with
 | lst ds=>have⟨vs,e1,h⟩:=h;exact⟨vs,e.trans e1,Ν.mono g l _ _ h⟩
 | ins C ns ds=>have⟨dx,vs,e1,h0,h⟩:=h;exact⟨dx,vs,e.trans e1,h0,Ν.mono g l _ _ h⟩
 | lH ks ds=>have⟨vs,e1,h0,h⟩:=h;exact⟨vs,e.trans e1,h0,Ν.mono g l _ _ h⟩
 | raw u=>exact e.trans h
section
variable{K:tf}{G:Hp}{L:List Addr}{M:Ms}{H:Hp}{p:Addr}{o:HO}
def Rl.yu(r:Rl K G L M H){a:Addr}(h:a∈L):∃(k:Nat) (m:MO),L[k]? =some a/\M[k]? =some m/\G a=none/\Hz K G L H a m:=by
 have⟨k,hk,e⟩:=abf h;have e1:L[k]? =some a:=by rw[aac hk,e]
 have e2:M[k]? =some (M[k]'(by rw[<-r.len];exact hk)):=aac _;exact⟨k,_,e1,e2,r.fm k a _ e1 e2⟩
def Rl.Mb(r:Rl K G L M H)(hp:H p=none):p∉L:=λz=>by have⟨k,m,_,_,_,h⟩:=r.yu z;exact h.there hp
def Rl.Lm(r:Rl K G L M H)(hp:H p=none):Rl K (upd G p o) L M (upd H p o) where
 sub:=λb u e=>by
  by_cases hb:b=p
  ·subst hb;rw[Ι]at e⊢;exact e
  ·rw[ω hb]at e⊢;exact r.sub b u e
 len:=r.len
 nd:=r.nd
 fm:=λk a m h1 h2=>by have⟨q1,q2⟩:=r.fm k a m h1 h2;have hb:a≠p:=λz=>q2.there (by rw[z];exact hp);exact⟨by rw[ω hb];exact q1,q2.mono (λb u e=>by rw[ω (λz=>by rw[z,r.sub.free hp]at e;cases e)];exact e) (.refl _) (ω hb)⟩
def Rl.RL(r:Rl K G L M H)(hp:H p=none):Ex G L H (upd G p o) L (upd H p o) where
 g:=λb u e=>by rw[ω (λz=>by rw[z,r.sub.free hp]at e;cases e)];exact e
 l:=.refl _
 fr:=λb h1 h2=>by rw[ω (λz=>h2 (by rw[z];exact hp))];exact h1
 out:=λb u h1 _=>by rw[ω (λz=>by rw[z,hp]at h1;cases h1)];exact h1
 new:=λb h=>.inl h
 zi:=λb h=>by rw[ω (λz=>h (by rw[z];exact hp))];exact h
def Rl.Mj{m:MO}(r:Rl K G L M H)(hp:H p=none)(hm:Hz K G (L++[p]) (upd H p o) p m):Rl K G (L++[p]) (M++[m]) (upd H p o) where
 sub:=λb u e=>by rw[ω (λz=>by rw[z,r.sub.free hp]at e;cases e)];exact r.sub b u e
 len:=by rw[aan,aan,r.len];rfl
 nd:=List.nodup_append.mpr ⟨r.nd,by simp,λa ha b hb=>by
  have e:b=p:=by simpa using hb
  rw[e];exactλz=>r.Mb hp (z▸ha)⟩
 fm:=λk a m' h1 h2=>by
  by_cases hk:k < L.length
  ·rw[aaA hk]at h1;rw[aaA (by rw[<-r.len];exact hk)]at h2;have⟨q1,q2⟩:=r.fm k a m' h1 h2;exact⟨q1,q2.mono (.refl _) ⟨[p],rfl⟩ (ω λz=>q2.there (by rw[z];exact hp))⟩
  ·have e:k=L.length:=by have:=(aai.mp h1).1;rw[aan]at this;simp at this;omega
   rw[e,aaB (aao _)]at h1;rw[e,r.len,aaB (aao _)]at h2;simp at h1 h2;subst h1 h2;exact⟨r.sub.free hp,hm⟩
def Rl.Wb(r:Rl K G L M H)(hp:H p=none):Ex G L H G (L++[p]) (upd H p o) where
 g:=.refl _
 l:=⟨[p],rfl⟩
 fr:=λb h1 _=>h1
 out:=λb u h1 _=>by rw[ω (λz=>by rw[z,hp]at h1;cases h1)];exact h1
 new:=λb h=>by
  rcases aa8.mp h with z| z
  ·exact .inl z
  ·have e:b=p:=by simpa using z
   right;rw[e];exact hp
 zi:=λb h=>by rw[ω (λz=>h (by rw[z];exact hp))];exact h
def Rl.setM{k:Nat}{a:Addr}{m:MO}(r:Rl K G L M H)(hk:L[k]? =some a)(hm:Hz K G L (upd H a o) a m):Rl K G L (M.set k m) (upd H a o) where
 sub:=λb u e=>by have⟨k',m',e1,e2,q1,_⟩:=r.yu (aar hk);rw[ω (λz=>by rw[z,q1]at e;cases e)];exact r.sub b u e
 len:=by rw[aaX];exact r.len
 nd:=r.nd
 fm:=λk' a' m' h1 h2=>by
  by_cases e:k'=k
  ·subst e;rw[hk]at h1;cases h1;have hl:k' < M.length:=by rw[<-r.len];exact(aai.mp hk).1
   rw[aaU hl]at h2;cases h2;have⟨_,_,_,_,q1,_⟩:=r.yu (aar hk);exact⟨q1,hm⟩
  ·rw[aa2 (λz=>e z.symm)]at h2;have⟨q1,q2⟩:=r.fm k' a' m' h1 h2;have ne:a'≠a:=λz=>by subst z;exact e ((List.getElem?_inj (aai.mp h1).1 r.nd).mp (h1.trans hk.symm))
   exact⟨q1,q2.mono (.refl _) (.refl _) (ω ne)⟩
def Rl.JP{k:Nat}{a:Addr}(r:Rl K G L M H)(hk:L[k]? =some a):Ex G L H G L (upd H a o) where
 g:=.refl _
 l:=.refl _
 fr:=λb h1 _=>h1
 out:=λb u h1 h2=>by rw[ω (λz=>h2 (by rw[z];exact aar hk))];exact h1
 new:=λb h=>.inl h
 zi:=λb h=>by
  by_cases e:b=a
  ·rw[e,Ι];simp
  ·rw[ω e];exact h
end
structure gJ(K:tf)(G:Hp)(L:List Addr)(ρ:En)(σ:St):Prop where
 len:ρ.length=σ.length
 fm:∀(i:Nat) (d:Dt),ρ[i]? =some (some d)->∃v,σ[i]? =some (some v)/\Den K G L d v
section
variable{K:tf}{G G':Hp}{L L':List Addr}{H H':Hp}{ρ:En}{σ:St}
def gJ.mono(h:gJ K G L ρ σ)(e:Ex G L H G' L' H'):gJ K G' L' ρ σ:=⟨h.len,λi d q=>let ⟨v,a,b⟩:=h.fm i d q;⟨v,a,Den.mono e.g e.l d v b⟩⟩
def gJ.set(h:gJ K G L ρ σ)(i:Nat){d:Dt}{v:V}(q:Den K G L d v):gJ K G L (ρ.set i (some d)) (σ.set i (some v)):=by
 refine⟨by rw[aaX,aaX];exact h.len,λj d' e=>?_⟩;by_cases hj:i=j
 ·subst hj;have hl:i < ρ.length:=by have:=(aai.mp e).1;rwa[aaX]at this
  rw[aaU hl]at e;cases e;exact⟨v,aaU (by rw[<-h.len];exact hl),q⟩
 ·rw[aa2 hj]at e;have⟨u,a,b⟩:=h.fm j d' e;exact⟨u,by rw[aa2 hj];exact a,b⟩
end
abbrev DQ:=Dt->Ms->Prop
abbrev DX:=En->Addr->List (Str×Dt)->Ms->Prop
def Qe(K:tf)(G:Hp)(L:List Addr)(H:Hp)(fs:List (Str×Dt))(od:Option Addr):Prop:=
 (fs=[]/\od=none)\/fs≠[]/\∃dx vs,od=some dx/\G dx=some (.xd ((fs.map (·.1)).zip vs))/\Ν K G L (fs.map (·.2)) vs
def tU(K:tf)(G:Hp)(L:List Addr)(H:Hp)(R:St->XK)(x:DX):Prop:=
 ∀σ ρ C fs M' G' L' H' od,x ρ C fs M'->Ex G L H G' L' H'->Rl K G' L' M' H'->gJ K G' L' ρ σ->Qe K G' L' H' fs od->R σ (.ref C) od H'
def tU.on{K:tf}{G:Hp}{L:List Addr}{H G1:Hp}{L1:List Addr}{H1:Hp}{R:St->XK}{x:DX}(h:tU K G L H R x)(e:Ex G L H G1 L1 H1):tU K G1 L1 H1 R x:=
 λσ ρ C fs M' G' L' H' od q e' r n y=>h σ ρ C fs M' G' L' H' od q (e.trans e') r n y
def iL:DX:=λ_ _ _ _=>False
def rK{K:tf}{G:Hp}{L:List Addr}{H:Hp}{R:St->XK}:tU K G L H R iL:=λ_ _ _ _ _ _ _ _ _ q=>q.elim
abbrev DE:=En->Ms->DQ->DX->Prop
abbrev DT:=En->Ms->(Bool->Ms->Prop)->DX->Prop
abbrev DA:=En->Ms->(List Dt->Ms->Prop)->DX->Prop
structure iM where
 nx:En->Ms->Prop
 rt:DQ
 bk:En->Ms->Prop:=λ_ _=>False
 ct:En->Ms->Prop:=λ_ _=>False
 x:DX:=iL
abbrev DS:=iM->En->Ms->Prop
inductive Fin(K:tf)(G0:Hp)(L0:List Addr)(H0:Hp)(q:DQ)(v:V)(H:Hp):Prop
 | mk (d:Dt) (G:Hp) (L:List Addr) (M:Ms) (e:Ex G0 L0 H0 G L H) (r:Rl K G L M H) (n:Den K G L d v) (h:q d M)
inductive uo(K:tf)(G0:Hp)(L0:List Addr)(H0:Hp)(q:Bool->Ms->Prop)(b:Bool)(H:Hp):Prop
 | mk (G:Hp) (L:List Addr) (M:Ms) (e:Ex G0 L0 H0 G L H) (r:Rl K G L M H) (h:q b M)
inductive N9(K:tf)(G0:Hp)(L0:List Addr)(H0:Hp)(q:List Dt->Ms->Prop)(vs:List V)(H:Hp):Prop
 | mk (ds:List Dt) (G:Hp) (L:List Addr) (M:Ms) (e:Ex G0 L0 H0 G L H) (r:Rl K G L M H) (n:Ν K G L ds vs) (h:q ds M)
inductive eD(K:tf)(G0:Hp)(L0:List Addr)(H0:Hp)(q:En->Ms->Prop)(σ:St)(H:Hp):Prop
 | mk (ρ:En) (G:Hp) (L:List Addr) (M:Ms) (e:Ex G0 L0 H0 G L H) (r:Rl K G L M H) (n:gJ K G L ρ σ) (h:q ρ M)
def uw(K:tf)(G0:Hp)(L0:List Addr)(H0:Hp)(Dn:iM):pO:=⟨eD K G0 L0 H0 Dn.nx,Fin K G0 L0 H0 Dn.rt,eD K G0 L0 H0 Dn.bk,eD K G0 L0 H0 Dn.ct⟩
inductive rP(K:tf)(R:St->XK)(t:DE)(σ:St)(H:Hp)(Q:VK):Prop
 | mk (G:Hp) (L:List Addr) (ρ:En) (M:Ms) (q:DQ) (x:DX) (r:Rl K G L M H) (n:gJ K G L ρ σ) (h:t ρ M q x) (hx:tU K G L H R x) (hQ:∀v H1,Fin K G L H q v H1->Q v H1)
inductive GP(K:tf)(R:St->XK)(t:DT)(σ:St)(H:Hp)(Q:Bool->Hp->Prop):Prop
 | mk (G:Hp) (L:List Addr) (ρ:En) (M:Ms) (q:Bool->Ms->Prop) (x:DX) (r:Rl K G L M H) (n:gJ K G L ρ σ) (h:t ρ M q x) (hx:tU K G L H R x) (hQ:∀b H1,uo K G L H q b H1->Q b H1)
inductive Ux(K:tf)(R:St->XK)(t:DA)(σ:St)(H:Hp)(Q:List V->Hp->Prop):Prop
 | mk (G:Hp) (L:List Addr) (ρ:En) (M:Ms) (q:List Dt->Ms->Prop) (x:DX) (r:Rl K G L M H) (n:gJ K G L ρ σ) (h:t ρ M q x) (hx:tU K G L H R x) (hQ:∀vs H1,N9 K G L H q vs H1->Q vs H1)
structure Pp(A B:pO):Prop where
 nx:∀σ H,A.nx σ H->B.nx σ H
 rt:∀v H,A.rt v H->B.rt v H
 bk:∀σ H,A.bk σ H->B.bk σ H
 ct:∀σ H,A.ct σ H->B.ct σ H
inductive NO(K:tf)(R:St->XK)(t:DS)(De:pO)(σ:St)(H:Hp):Prop
 | mk (G:Hp) (L:List Addr) (ρ:En) (M:Ms) (Dn:iM) (r:Rl K G L M H) (n:gJ K G L ρ σ) (h:t Dn ρ M) (hx:tU K G L H R Dn.x) (hQ:Pp (uw K G L H Dn) De)
def JE(X:Cx)(R:St->XK)(e:Expr)(t:DE):Prop:=PE X e (rP X.K R t)
def JT(X:Cx)(R:St->XK)(e:Expr)(t:DT):Prop:=PT X e (GP X.K R t)
def JW(X:Cx)(R:St->XK)(e:Expr)(t:DT):Prop:=PW X e (GP X.K R t)
def JA(X:Cx)(R:St->XK)(es:List Expr)(t:DA):Prop:=PA X es (Ux X.K R t)
def JS(X:Cx)(R:St->XK)(st:Stmt)(t:DS):Prop:=PS X st (NO X.K R t)
def AX(X:Cx)(R:St->XK)(st:List Stmt)(t:DS):Prop:=yC X st (NO X.K R t)
section
variable{K:tf}{G0:Hp}{L0:List Addr}{H0 G1:Hp}{L1:List Addr}{H1:Hp}
def Fin.back{q:DQ}(e:Ex G0 L0 H0 G1 L1 H1){v:V}{H:Hp}(h:Fin K G1 L1 H1 q v H):Fin K G0 L0 H0 q v H:=let ⟨d,G,L,M,a,b,c,f⟩:=h;⟨d,G,L,M,e.trans a,b,c,f⟩
def eD.back{q:En->Ms->Prop}(e:Ex G0 L0 H0 G1 L1 H1){v:St}{H:Hp}(h:eD K G1 L1 H1 q v H):eD K G0 L0 H0 q v H:=let ⟨d,G,L,M,a,b,c,f⟩:=h;⟨d,G,L,M,e.trans a,b,c,f⟩
def uo.back{q:Bool->Ms->Prop}(e:Ex G0 L0 H0 G1 L1 H1){v:Bool}{H:Hp}(h:uo K G1 L1 H1 q v H):uo K G0 L0 H0 q v H:=let ⟨G,L,M,a,b,f⟩:=h;⟨G,L,M,e.trans a,b,f⟩
def uw.back{Dn:iM}(e:Ex G0 L0 H0 G1 L1 H1):Pp (uw K G1 L1 H1 Dn) (uw K G0 L0 H0 Dn):=⟨λ_ _ h=>eD.back e h,λ_ _ h=>Fin.back e h,λ_ _ h=>eD.back e h,λ_ _ h=>eD.back e h⟩
def SP.imp{X:Cx}{δ:List (Addr×Obj)}{A B:pO}(e:Pp A B){f:Flow}{s:Shared}(h:SP X δ A f s):SP X δ B f s:=by
 cases f with
 | next=>have⟨a,b,I,q⟩:=h;exact⟨a,b,I,e.nx _ _ q⟩
 | brk=>have⟨a,b,I,q⟩:=h;exact⟨a,b,I,e.bk _ _ q⟩
 | cont=>have⟨a,b,I,q⟩:=h;exact⟨a,b,I,e.ct _ _ q⟩
 | ret u=>have⟨v,a,b,I,r,q⟩:=h;exact⟨v,a,b,I,r,e.rt _ _ q⟩
end
section
variable{X:Cx}{R:St->XK}{e:Expr}
def JE.of{te:TE}{t:DE}(h:PE X e te)(hw:∀σ H G L ρ M q x,Rl X.K G L M H->gJ X.K G L ρ σ->t ρ M q x->tU X.K G L H R x->te σ H (Fin X.K G L H q)):JE X R e t:=by intro δ s σ H Q I ⟨G,L,ρ,M,q,x,r,n,ht,hx,hQ⟩;refine bc (h δ s σ H _ I (hw σ H G L ρ M q x r n ht hx)) λu s1 ⟨v,H1,I1,rv,f⟩=>⟨v,H1,I1,rv,hQ v H1 f⟩
def JT.of{te:TT}{t:DT}(h:PT X e te)(hw:∀σ H G L ρ M q x,Rl X.K G L M H->gJ X.K G L ρ σ->t ρ M q x->tU X.K G L H R x->te σ H (uo X.K G L H q)):JT X R e t:=by intro δ s σ H Q I ⟨G,L,ρ,M,q,x,r,n,ht,hx,hQ⟩;refine bc (h δ s σ H _ I (hw σ H G L ρ M q x r n ht hx)) λu s1 ⟨H1,I1,f⟩=>⟨H1,I1,hQ u H1 f⟩
def JW.of{te:TT}{t:DT}(h:PW X e te)(hw:∀σ H G L ρ M q x,Rl X.K G L M H->gJ X.K G L ρ σ->t ρ M q x->tU X.K G L H R x->te σ H (uo X.K G L H q)):JW X R e t:=by intro wh δ s σ H Q I ⟨G,L,ρ,M,q,x,r,n,ht,hx,hQ⟩;refine bc (h wh δ s σ H _ I (hw σ H G L ρ M q x r n ht hx)) λu s1 ⟨H1,I1,f⟩=>⟨H1,I1,hQ u H1 f⟩
def JA.of{es:List Expr}{te:TA}{t:DA}(h:PA X es te)(hw:∀σ H G L ρ M q x,Rl X.K G L M H->gJ X.K G L ρ σ->t ρ M q x->tU X.K G L H R x->te σ H (N9 X.K G L H q)):JA X R es t:=by intro pos δ s σ H Q I ⟨G,L,ρ,M,q,x,r,n,ht,hx,hQ⟩;refine bc (h pos δ s σ H _ I (hw σ H G L ρ M q x r n ht hx)) λu s1 ⟨v,H1,I1,rv,f⟩=>⟨v,H1,I1,rv,hQ v H1 f⟩
def JS.of{st:Stmt}{te:TS}{t:DS}(h:PS X st te)(hw:∀σ H G L ρ M Dn,Rl X.K G L M H->gJ X.K G L ρ σ->t Dn ρ M->tU X.K G L H R Dn.x->te (uw X.K G L H Dn) σ H):JS X R st t:=by intro δ s σ H De I ⟨G,L,ρ,M,Dn,r,n,ht,hx,hQ⟩;exact bc (h δ s σ H _ I (hw σ H G L ρ M Dn r n ht hx)) λu s1 f=>SP.imp hQ f
def AX.of{st:List Stmt}{te:TS}{t:DS}(h:yC X st te)(hw:∀σ H G L ρ M Dn,Rl X.K G L M H->gJ X.K G L ρ σ->t Dn ρ M->tU X.K G L H R Dn.x->te (uw X.K G L H Dn) σ H):AX X R st t:=by intro δ s σ H De I ⟨G,L,ρ,M,Dn,r,n,ht,hx,hQ⟩;exact bc (h δ s σ H _ I (hw σ H G L ρ M Dn r n ht hx)) λu s1 f=>SP.imp hQ f
end
def j0(i:Nat):DE:=λρ M q _=>match ρ[i]? with
 | some (some d)=>q d M
 | _=>False
def dC(d:Dt):DE:=λ_ M q _=>q d M
def iW(f:Dt->Dt->Ms->DQ->Prop)(a b:DE):DE:=λρ M q x=>a ρ M (λd1 M1=>b ρ M1 (λd2 M2=>f d1 d2 M2 q) x) x
def Ws(f:Dt->Ms->DQ->Prop)(a:DE):DE:=λρ M q x=>a ρ M (λd1 M1=>f d1 M1 q) x
def BG:DA:=λ_ M q _=>q [] M
def pS(a:DE)(r:DA):DA:=λρ M q x=>a ρ M (λd M1=>r ρ M1 (λds M2=>q (d::ds) M2) x) x
def CI(f:List Dt->Ms->DQ->Prop)(a:DA):DE:=λρ M q x=>a ρ M (λds M1=>f ds M1 q) x
def ou(K:tf)(r:R2)(f:Dt->Dt->Ms->DQ->Prop):Prop:=
 ∀G0 L0 H0 G L M H v1 v2 d1 d2 q,Ex G0 L0 H0 G L H->Rl K G L M H->Den K G L d1 v1->Den K G L d2 v2->f d1 d2 M q->r v1 v2 H (Fin K G0 L0 H0 q)
def XJ(K:tf)(r:V->Hp->VK->Prop)(f:Dt->Ms->DQ->Prop):Prop:=
 ∀G0 L0 H0 G L M H v1 d1 q,Ex G0 L0 H0 G L H->Rl K G L M H->Den K G L d1 v1->f d1 M q->r v1 H (Fin K G0 L0 H0 q)
def FX(K:tf)(r:List V->Hp->VK->Prop)(f:List Dt->Ms->DQ->Prop):Prop:=
 ∀G0 L0 H0 G L M H vs ds q,Ex G0 L0 H0 G L H->Rl K G L M H->Ν K G L ds vs->f ds M q->r vs H (Fin K G0 L0 H0 q)
section
variable{K:tf}{R:St->XK}{ta tb:DE}{tc:DA}{σ:St}{H G:Hp}{L:List Addr}{ρ:En}{M:Ms}{q:DQ}{x:DX}
def DH{r:R2}{f:Dt->Dt->Ms->DQ->Prop}(od:ou K r f)(rl:Rl K G L M H)(n:gJ K G L ρ σ)(h:iW f ta tb ρ M q x)(hx:tU K G L H R x):Vh r (rP K R ta) (rP K R tb) σ H (Fin K G L H q):=by refine⟨G,L,ρ,M,_,x,rl,n,h,hx,λv H1 xz=>?_⟩;have⟨d1,G1,L1,M1,e1,r1,n1,h1⟩:=xz;refine⟨G1,L1,ρ,M1,_,x,r1,n.mono e1,h1,hx.on e1,λv2 H2 xz=>?_⟩;have⟨d2,G2,L2,M2,e2,r2,n2,h2⟩:=xz;exact od G L H G2 L2 M2 H2 v v2 d1 d2 q (e1.trans e2) r2 (Den.mono e2.g e2.l _ _ n1) n2 h2
def Vd{r:V->Hp->VK->Prop}{f:Dt->Ms->DQ->Prop}(od:XJ K r f)(rl:Rl K G L M H)(n:gJ K G L ρ σ)(h:Ws f ta ρ M q x)(hx:tU K G L H R x):tUn r (rP K R ta) σ H (Fin K G L H q):=by refine⟨G,L,ρ,M,_,x,rl,n,h,hx,λv H1 xz=>?_⟩;have⟨d1,G1,L1,M1,e1,r1,n1,h1⟩:=xz;exact od G L H G1 L1 M1 H1 v d1 q e1 r1 n1 h1
def Oe{r:List V->Hp->VK->Prop}{f:List Dt->Ms->DQ->Prop}(od:FX K r f)(rl:Rl K G L M H)(n:gJ K G L ρ σ)(h:CI f tc ρ M q x)(hx:tU K G L H R x):ZI r (Ux K R tc) σ H (Fin K G L H q):=by refine⟨G,L,ρ,M,_,x,rl,n,h,hx,λv H1 xz=>?_⟩;have⟨d1,G1,L1,M1,e1,r1,n1,h1⟩:=xz;exact od G L H G1 L1 M1 H1 v d1 q e1 r1 n1 h1
end
section
variable{X:Cx}{R:St->XK}{a b c:Expr}{ta tb:DE}{pos:Pos}
def jv(i:Nat){x:Str}{pos:Pos}(hN:X.N[i]? =some x:=by rfl)(hv:VC X.env.scope x:=by first| exact Or.inl rfl| exact Or.inr (Or.inl rfl)| exact Or.inr (Or.inr rfl))(hd:(x==("__debug__":Str))=false:=by decide)
  (B1:(x==("__classdict__":Str))=false:=by decide):JE X R (.Name x pos) (j0 i):=.of (Dh hN hv hd B1) λσ H G L ρ M q x r n h hx=>by
 unfold j0 at h;split at h
 ·rename_i d e;have⟨v,e1,h1⟩:=n.fm i d e;exact⟨v,e1,d,G,L,M,.refl _ _ _,r,h1,h⟩
 ·exact h.elim
def OO{d:Dt}{v:V}{e:Expr}(h:PE X e (tC v))(hd:∀G L,Den X.K G L d v):JE X R e (dC d):=.of h λσ H G L ρ M q x r n h hx=>⟨d,G,L,M,.refl _ _ _,r,hd G L,h⟩
def χ{i j pos}:JE X R (.Constant (.int i) j pos) (dC (.int i)):=OO PM λ_ _=>rfl
def AZ{b j pos}:JE X R (.Constant (.bool b) j pos) (dC (.bl b)):=OO TJ λ_ _=>rfl
def kj{j pos}:JE X R (.Constant .none j pos) (dC .aE):=OO Qo λ_ _=>rfl
def jH{x j pos}:JE X R (.Constant (.str x) j pos) (dC (.str x)):=OO PH λ_ _=>rfl
def yz{op:Operator}{r:R2}{f:Dt->Dt->Ms->DQ->Prop}(ho:iC X (binaryOp op) r)(od:ou X.K r f)(ja:JE X R a ta)(jb:JE X R b tb):JE X R (.BinOp a op b pos) (iW f ta tb):=
 .of (Uy ho ja jb) λσ H G L ρ M q x r n h hx=>DH od r n h hx
def W6{op:UnaryOp}{r:V->Hp->VK->Prop}{f:Dt->Ms->DQ->Prop}(ho:Ww X (unaryOp op) r)(od:XJ X.K r f)(ja:JE X R a ta):JE X R (.UnaryOp op a pos) (Ws f ta):=
 .of (U_ ho ja) λσ H G L ρ M q x r n h hx=>Vd od r n h hx
def vq{op:CmpOp}{r:R2}{f:Dt->Dt->Ms->DQ->Prop}(ho:iC X (compareOp op) r)(od:ou X.K r f)(ja:JE X R a ta)(jb:JE X R b tb)(hm:behindInMarks op b=false):JE X R (.Compare a [op] [b] pos) (iW f ta tb):=
 .of (Mp ho ja jb hm) λσ H G L ρ M q x r n h hx=>DH od r n h hx
def V1{r:R2}{f:Dt->Dt->Ms->DQ->Prop}(hr:LX X r)(od:ou X.K r f)(ja:JE X R a ta)(jb:JE X R b tb)(hs:vT b):JE X R (.Subscript a b pos) (iW f ta tb):=
 .of (Ta hr ja jb hs) λσ H G L ρ M q x r n h hx=>DH od r n h hx
def bB{env:Env}{es:List Expr}{c j p}:starEach (.Constant c j p::es) env=(false,eval (.Constant c j p) env)::starEach es env:=rfl
def OX{env:Env}{es:List Expr}{c p}:starEach (.Name c p::es) env=(false,eval (.Name c p) env)::starEach es env:=rfl
def dE{env:Env}{es:List Expr}{a o b p}:starEach (.BinOp a o b p::es) env=(false,eval (.BinOp a o b p) env)::starEach es env:=rfl
def cw{env:Env}{es:List Expr}{a b c p}:starEach (.Call a b c p::es) env=(false,eval (.Call a b c p) env)::starEach es env:=rfl
def cE{env:Env}{es:List Expr}{a b p}:starEach (.Subscript a b p::es) env=(false,eval (.Subscript a b p) env)::starEach es env:=rfl
def gz{env:Env}{es:List Expr}{a b p}:starEach (.Tuple a b p::es) env=(false,eval (.Tuple a b p) env)::starEach es env:=rfl
def η:JA X R [] BG:=.of Jq λσ H G L ρ M q x r n h hx=>⟨[],G,L,M,.refl _ _ _,r,rfl,h⟩
def μ{e:Expr}{es:List Expr}{te:DE}{t:DA}(ha:JE X R e te)(hr:JA X R es t)(hs:starEach (e::es) X.env=(false,eval e X.env)::starEach es X.env:=by first| exact bB| exact OX| exact dE| exact cw| exact cE| exact gz| exact abt| exact aab| rfl):JA X R (e::es) (pS te t):=
 .of (xD ha hr hs) λσ H G L ρ M q x rl n h hx=>by refine⟨G,L,ρ,M,_,x,rl,n,h,hx,λv H1 xz=>?_⟩;have⟨d1,G1,L1,M1,e1,r1,n1,h1⟩:=xz;refine⟨G1,L1,ρ,M1,_,x,r1,n.mono e1,h1,hx.on e1,λv2 H2 xz=>?_⟩;have⟨d2,G2,L2,M2,e2,r2,n2,h2⟩:=xz;exact⟨d1::d2,G2,L2,M2,e1.trans e2,r2,⟨_,_,rfl,Den.mono e2.g e2.l _ _ n1,n2⟩,h2⟩
def Θ{c:Str}{p:Pos}{es:List Expr}{te:DE}{t:DA}(ha:JE X R (.Name c p) te)(hr:JA X R es t):JA X R (.Name c p::es) (pS te t):=μ ha hr OX
def QS(t:DA):DE:=λρ M q x=>t ρ M (λds M1=>ds.length<=sizeLine/\q (.tup ds) M1) x
def Vg(t:DA):DE:=λρ M q x=>t ρ M (λds M1=>ds.length<=sizeLine/\q (.lst ds) M1) x
def UL(t:DA):DE:=λρ M q x=>t ρ M (λds M1=>ds.length<=sizeLine/\q (.loc M1.length) (M1++[.lst ds])) x
def kM{K:tf}{G0:Hp}{L0:List Addr}{H0 G:Hp}{L:List Addr}{M:Ms}{H:Hp}{p:Addr}{o:HO}{d:Dt}{q:DQ}(e:Ex G0 L0 H0 G L H)(r:Rl K G L M H)(hp:H p=none)(hd:Den K (upd G p o) L d (.ref p))(h:q d M):Fin K G0 L0 H0 q (.ref p) (upd H p o):=
 ⟨d,upd G p o,L,M,e.trans (r.RL hp),r.Lm hp,hd,h⟩
def qC{K:tf}{G:Hp}{L:List Addr}{M:Ms}{H:Hp}{p:Addr}{ds:List Dt}{vs:List V}(r:Rl K G L M H)(hp:H p=none)(h:Ν K G L ds vs):Den K (upd G p (.tup vs)) L (.tup ds) (.ref p):=
 ⟨p,vs,rfl,Ι,Ν.mono (r.RL hp).g (.refl _) _ _ h⟩
def qm{K:tf}{G:Hp}{L:List Addr}{M:Ms}{H:Hp}{p:Addr}{ds:List Dt}{vs:List V}(r:Rl K G L M H)(hp:H p=none)(h:Ν K G L ds vs):Den K (upd G p (.lst vs)) L (.lst ds) (.ref p):=
 ⟨p,vs,rfl,Ι,Ν.mono (r.RL hp).g (.refl _) _ _ h⟩
def kX{K:tf}{G0:Hp}{L0:List Addr}{H0 G:Hp}{L:List Addr}{M:Ms}{H:Hp}{p:Addr}{q:DQ}{ds:List Dt}{vs:List V}(e:Ex G0 L0 H0 G L H)(r:Rl K G L M H)(hp:H p=none)(hd:Ν K G L ds vs)(h:q (.loc M.length) (M++[.lst ds])):Fin K G0 L0 H0 q (.ref p) (upd H p (.lst vs)):=
 ⟨.loc M.length,G,L++[p],M++[.lst ds],e.trans (r.Wb hp),r.Mj (m:=.lst ds) hp ⟨vs,Ι,Ν.mono (.refl _) ⟨[p],rfl⟩ _ _ hd⟩,⟨p,rfl,by rw[<-r.len,List.getElem?_append_right (Nat.le_refl _)];simp⟩,h⟩
variable{es:List Expr}{t:DA}
def bQ{x1}(h:JA X R es t):JE X R (.Tuple es x1 pos) (QS t):=.of (QV h) λσ H G L ρ M q x rl n h hx=>by refine⟨G,L,ρ,M,_,x,rl,n,h,hx,fun v H1 ⟨d1,G1,L1,M1,e1,r1,n1,h1⟩=>⟨by rw[<-n1.length];exact h1.1,λp hp=>?_⟩⟩;exact kM e1 r1 hp (qC r1 hp n1) h1.2
def iI(h:JA X R es t):JE X R (.List es pos) (Vg t):=.of (HY h) λσ H G L ρ M q x rl n h hx=>by refine⟨G,L,ρ,M,_,x,rl,n,h,hx,fun v H1 ⟨d1,G1,L1,M1,e1,r1,n1,h1⟩=>⟨by rw[<-n1.length];exact h1.1,λp hp=>?_⟩⟩;exact kM e1 r1 hp (qm r1 hp n1) h1.2
def oV(h:JA X R es t):JE X R (.List es pos) (UL t):=.of (HY h) λσ H G L ρ M q x rl n h hx=>by refine⟨G,L,ρ,M,_,x,rl,n,h,hx,fun v H1 ⟨d1,G1,L1,M1,e1,r1,n1,h1⟩=>⟨by rw[<-n1.length];exact h1.1,λp hp=>?_⟩⟩;exact kX e1 r1 hp n1 h1.2
def lE(t:DE):DT:=λρ M q x=>t ρ M (λd M1=>match d with
 | .bl b=>q b M1
 | _=>False) x
def Vv(t u:DT):DT:=λρ M q x=>t ρ M (λc M1=>(c=true->u ρ M1 q x)/\(c=false->q false M1)) x
def orT(t u:DT):DT:=λρ M q x=>t ρ M (λc M1=>(c=true->q true M1)/\(c=false->u ρ M1 q x)) x
def Vn(t:DT):DT:=λρ M q x=>t ρ M (λc M1=>q (!c) M1) x
def Rv{K:tf}{t:DE}{σ:St}{H G:Hp}{L:List Addr}{ρ:En}{M:Ms}{q:Bool->Ms->Prop}{x:DX}(rl:Rl K G L M H)(n:gJ K G L ρ σ)(h:lE t ρ M q x)(hx:tU K G L H R x):tB (rP K R t) σ H (uo K G L H q):=by
 refine⟨G,L,ρ,M,_,x,rl,n,h,hx,λv H1 xz=>?_⟩;have⟨d1,G1,L1,M1,e1,r1,n1,h1⟩:=xz
 (try dsimp only at h1)
 split at h1
 ·rename_i b;exact⟨b,n1,G1,L1,M1,e1,r1,h1⟩
 ·exact h1.elim
def ba{e:Expr}{t:DE}(h:JE X R e t)(he:∀whole,isTrue e X.env whole=(do let v<-whole;standAt e.pos;holding [v] (truthy v)):=by intro _;rfl):JT X R e (lE t):=
 .of (Rp h he) λσ H G L ρ M q x rl n h hx=>Rv rl n h hx
def fB{op:CmpOp}{r:R2}{f:Dt->Dt->Ms->DQ->Prop}(ho:iC X (compareOp op) r)(od:ou X.K r f)(ja:JE X R a ta)(jb:JE X R b tb)(hm:behindInMarks op b=false):JT X R (.Compare a [op] [b] pos) (lE (iW f ta tb)):=
 .of (MS ho ja jb hm) λσ H G L ρ M q x rl n h hx=>by
  have h:iW f ta tb ρ M (λd M1=>match d with| .bl b=>q b M1| _=>False) x:=h;refine⟨G,L,ρ,M,_,x,rl,n,h,hx,λv H1 xz=>?_⟩;have⟨d1,G1,L1,M1,e1,r1,n1,h1⟩:=xz;refine⟨G1,L1,ρ,M1,_,x,r1,n.mono e1,h1,hx.on e1,λv2 H2 xz=>?_⟩;have⟨d2,G2,L2,M2,e2,r2,n2,h2⟩:=xz;have:=od G L H G2 L2 M2 H2 v v2 d1 d2 _ (e1.trans e2) r2 (Den.mono e2.g e2.l _ _ n1) n2 h2;have e:(λx H'=>∃k,x=V.bl k/\uo X.K G L H q k H')=Fin X.K G L H (λd M1=>match d with| .bl b=>q b M1| _=>False):=by
   funext y H'
   apply propext;constructor
   ·rintro⟨k,rfl,G3,L3,M3,e3,r3,h3⟩;exact⟨.bl k,G3,L3,M3,e3,r3,rfl,h3⟩
   ·rintro⟨d,G3,L3,M3,e3,r3,n3,h3⟩;split at h3
    ·rename_i k;exact⟨k,n3,G3,L3,M3,e3,r3,h3⟩
    ·exact h3.elim
  rw[e];exact this
def JW.jt{e:Expr}{t:DT}(h:JW X R e t):JT X R e t:=h _
variable{t1 t2:DT}{rest:List Expr}
def xT(ha:JT X R a t1):JW X R (.BoolOp .And [a] pos) t1:=pw_and1 ha
def h8(ha:JT X R a t1):JW X R (.BoolOp .Or [a] pos) t1:=pw_or1 ha
def DB(ha:JT X R a t1)(hb:JW X R (.BoolOp .And (b::rest) pos) t2):JW X R (.BoolOp .And (a::b::rest) pos) (Vv t1 t2):=.of (pw_and ha hb) λσ H G L ρ M q x rl n h hx=>by
 refine⟨G,L,ρ,M,_,x,rl,n,h,hx,λc H1 xz=>?_⟩;have⟨G1,L1,M1,e1,r1,h1⟩:=xz;cases c with
 | true=>exact Fz ⟨G1,L1,ρ,M1,_,x,r1,n.mono e1,h1.1 rfl,hx.on e1,λb H2 f=>uo.back e1 f⟩
 | false=>exact Gk ⟨G1,L1,M1,e1,r1,h1.2 rfl⟩
def gY(ha:JT X R a t1)(hb:JW X R (.BoolOp .Or (b::rest) pos) t2):JW X R (.BoolOp .Or (a::b::rest) pos) (orT t1 t2):=.of (pw_or ha hb) λσ H G L ρ M q x rl n h hx=>by
 refine⟨G,L,ρ,M,_,x,rl,n,h,hx,λc H1 xz=>?_⟩;have⟨G1,L1,M1,e1,r1,h1⟩:=xz;cases c with
 | true=>exact Fz ⟨G1,L1,M1,e1,r1,h1.1 rfl⟩
 | false=>exact Gk ⟨G1,L1,ρ,M1,_,x,r1,n.mono e1,h1.2 rfl,hx.on e1,λb H2 f=>uo.back e1 f⟩
def km(ha:JT X R a t1):JT X R (.UnaryOp .Not a pos) (Vn t1):=.of (Rb ha) λσ H G L ρ M q x rl n h hx=>
 ⟨G,L,ρ,M,_,x,rl,n,h,hx,λ_ _ ⟨G,L,M,e,r,h⟩=>⟨G,L,M,e,r,h⟩⟩
def M9(t u:DE):DE:=λρ M q x=>t ρ M (λd M1=>match d with
 | .bl c=>(c=true->u ρ M1 q x)/\(c=false->q (.bl false) M1)
 | _=>False) x
def UG(t:DE):DE:=λρ M q x=>t ρ M (λd M1=>match d with
 | .bl c=>q (.bl (!c)) M1
 | _=>False) x
def dIf(t:DT)(u v:DE):DE:=λρ M q x=>t ρ M (λc M1=>(c=true->u ρ M1 q x)/\(c=false->v ρ M1 q x)) x
def jx{op}{t:DE}(h:JE X R a t):JE X R (.BoolOp op [a] pos) t:=Rf h
def fA(ha:JE X R a ta)(hb:JE X R (.BoolOp .And (b::rest) pos) tb):JE X R (.BoolOp .And (a::b::rest) pos) (M9 ta tb):=.of (Qi ha hb) λσ H G L ρ M q x rl n h hx=>by
 refine⟨G,L,ρ,M,_,x,rl,n,h,hx,λv H1 xz=>?_⟩;have⟨d1,G1,L1,M1,e1,r1,n1,h1⟩:=xz
 (try dsimp only at h1)
 split at h1
 ·rename_i c;refine⟨c,n1,?_⟩;cases c with
  | true=>exact Fz ⟨G1,L1,ρ,M1,_,x,r1,n.mono e1,h1.1 rfl,hx.on e1,λb H2 f=>Fin.back e1 f⟩
  | false=>exact Gk ⟨.bl false,G1,L1,M1,e1,r1,rfl,h1.2 rfl⟩
 ·exact h1.elim
def RE(ha:JE X R a ta):JE X R (.UnaryOp .Not a pos) (UG ta):=.of (R8 ha) λσ H G L ρ M q x rl n h hx=>by
 refine⟨G,L,ρ,M,_,x,rl,n,h,hx,λv H1 xz=>?_⟩;have⟨d1,G1,L1,M1,e1,r1,n1,h1⟩:=xz
 (try dsimp only at h1)
 split at h1
 ·rename_i c;exact⟨c,n1,.bl (!c),G1,L1,M1,e1,r1,rfl,h1⟩
 ·exact h1.elim
def JV{c:Expr}(hc:JT X R c t1)(ha:JE X R a ta)(hb:JE X R b tb):JE X R (.IfExp c a b pos) (dIf t1 ta tb):=.of (Ih hc ha hb) λσ H G L ρ M q x rl n h hx=>by
 refine⟨G,L,ρ,M,_,x,rl,n,h,hx,λc H1 xz=>?_⟩;have⟨G1,L1,M1,e1,r1,h1⟩:=xz;cases c with
 | true=>exact Fz ⟨G1,L1,ρ,M1,_,x,r1,n.mono e1,h1.1 rfl,hx.on e1,λb H2 f=>Fin.back e1 f⟩
 | false=>exact Gk ⟨G1,L1,ρ,M1,_,x,r1,n.mono e1,h1.2 rfl,hx.on e1,λb H2 f=>Fin.back e1 f⟩
end
def OU:DS:=λDn ρ M=>Dn.nx ρ M
def Dx(t u:DS):DS:=λDn ρ M=>t {Dn with nx:=u Dn} ρ M
def sIf(c:DT)(t u:DS):DS:=λDn ρ M=>c ρ M (λb M1=>(b=true->t Dn ρ M1)/\(b=false->u Dn ρ M1)) Dn.x
def Tg(t:DE):DS:=λDn ρ M=>t ρ M Dn.rt Dn.x
def rD(i:Nat)(t:DE):DS:=λDn ρ M=>t ρ M (λd M1=>Dn.nx (ρ.set i (some d)) M1) Dn.x
def AG(t:DE):DS:=λDn ρ M=>t ρ M (λ_ M1=>Dn.nx ρ M1) Dn.x
def Y4(t:DS):DS:=λDn ρ M=>∃J:En->Ms->Prop,t {Dn with nx:=J} ρ M/\∀ρ' M',J ρ' M'->Dn.nx ρ' M'
section
variable{X:Cx}{R:St->XK}{st:Stmt}{rest:List Stmt}{t u:DS}{e:Expr}{te:DE}{pos:Pos}
def Η:AX X R [] OU:=.of MD λσ H G L ρ M Dn rl n h hx=>⟨ρ,G,L,M,.refl _ _ _,rl,n,h⟩
def θ(h1:JS X R st t):AX X R [st] t:=DY h1
def ζ(h1:JS X R st t)(h2:AX X R rest u):AX X R (st::rest) (Dx t u):=.of (zZ h1 h2) λσ H G L ρ M Dn rl n h hx=>by refine⟨G,L,ρ,M,_,rl,n,h,hx,⟨λσ1 H1 xz=>?_,λ_ _ f=>f,λ_ _ f=>f,λ_ _ f=>f⟩⟩;have⟨ρ1,G1,L1,M1,e1,r1,n1,h1⟩:=xz;exact⟨G1,L1,ρ1,M1,Dn,r1,n1,h1,hx.on e1,uw.back e1⟩
def z5:JS X R (.Continue pos) (λDn ρ M=>Dn.ct ρ M):=.of zx λσ H G L ρ M Dn rl n h hx=>⟨ρ,G,L,M,.refl _ _ _,rl,n,h⟩
def Β(he:JE X R e te):JS X R (.Return (some e) pos) (Tg te):=.of (RQ he) λσ H G L ρ M Dn rl n h hx=>⟨G,L,ρ,M,_,_,rl,n,h,hx,λ_ _ f=>f⟩
def dX(he:JE X R e te)(hs:swapsWith e none pos.line X.env=pure false:=by rfl):JS X R (.Expr e pos) (AG te):=.of (DR he hs) λσ H G L ρ M Dn rl n h hx=>by refine⟨G,L,ρ,M,_,_,rl,n,h,hx,λv H1 ⟨d1,G1,L1,M1,e1,r1,n1,h1⟩=>⟨ρ,G1,L1,M1,e1,r1,n.mono e1,h1⟩⟩
def aw{c:Expr}{a b:List Stmt}{tc:DT}(hc:JT X R c tc)(ha:AX X R a t)(hb:AX X R b u):JS X R (.If c a b pos) (sIf tc t u):=.of (VR hc ha hb) λσ H G L ρ M Dn rl n h hx=>by
 refine⟨G,L,ρ,M,_,_,rl,n,h,hx,λc H1 xz=>?_⟩;have⟨G1,L1,M1,e1,r1,h1⟩:=xz;cases c with
 | true=>exact Fz ⟨G1,L1,ρ,M1,Dn,r1,n.mono e1,h1.1 rfl,hx.on e1,uw.back e1⟩
 | false=>exact Gk ⟨G1,L1,ρ,M1,Dn,r1,n.mono e1,h1.2 rfl,hx.on e1,uw.back e1⟩
def Δ(i:Nat){x:Str}{pos':Pos}(hN:X.N.Nodup)(he:JE X R e te)(hi:X.N[i]? =some x:=by rfl)(hx:Loc X.env.scope x:=by first| exact .inl rfl| exact .inr rfl)(hs:swapsWith e (some (.Name x pos')) pos.line X.env=pure false:=by rfl)(hf:X.fn x=true\/X.env.scope.names.lookup x=some .local:=by first| exact .inl rfl| exact .inr rfl| assumption):
  JS X R (.Assign [.Name x pos'] e pos) (rD i te):=.of (QY hN hi hx he hs hf) λσ H G L ρ M Dn rl n h hx=>by
 refine⟨G,L,ρ,M,_,_,rl,n,h,hx,λv H1 ⟨d1,G1,L1,M1,e1,r1,n1,h1⟩=>⟨_,G1,L1,M1,e1,r1,(n.mono e1).set i n1,h1⟩⟩
def sT(h:JS X R st t):JS X R st (Y4 t):=.of h λσ H G L ρ M Dn rl n h hx=>by have⟨J,h1,h2⟩:=h;refine⟨G,L,ρ,M,_,rl,n,h1,hx,⟨λσ1 H1 ⟨ρ1,G1,L1,M1,e1,r1,n1,h1⟩=>⟨ρ1,G1,L1,M1,e1,r1,n1,h2 _ _ h1⟩,λ_ _ f=>f,λ_ _ f=>f,λ_ _ f=>f⟩⟩
end
abbrev DXF:=Addr->List (Str×Dt)->Ms->Prop
abbrev DF:=List Dt->Ms->DQ->DXF->Prop
inductive cZ(K:tf)(T:DF)(vs:List V)(H:Hp)(Q:VK)(E:XK):Prop
 | mk (G:Hp) (L:List Addr) (ds:List Dt) (M:Ms) (q:DQ) (x:DXF) (r:Rl K G L M H) (n:Ν K G L ds vs) (h:T ds M q x) (hQ:∀v H1,Fin K G L H q v H1->Q v H1) (hE:∀C fs M1 G1 L1 H1 od,x C fs M1->Ex G L H G1 L1 H1->Rl K G1 L1 M1 H1->Qe K G1 L1 H1 fs od->E (.ref C) od H1)
def lX(N:List Str)(ds:List Dt):En:=ds.map some++List.replicate (N.length - ds.length) none
def Ae{K:tf}{G:Hp}{L:List Addr}{N:List Str}{ds:List Dt}{vs:List V}(h:Ν K G L ds vs):gJ K G L (lX N ds) (start N vs):=by
 have hl:=h.length;refine⟨by unfold lX start;simp[hl],λi d e=>?_⟩;unfold lX at e;unfold start;by_cases hi:i < ds.length
 ·rw[List.getElem?_append_left (by simpa using hi),List.getElem?_map]at e;rw[List.getElem?_append_left (by simpa [<-hl] using hi),List.getElem?_map];cases q:ds[i]? with
  | none=>rw[q]at e;cases e
  | some d'=>
   rw[q]at e;cases e;have⟨v,e1,h1⟩:=h.get q;exact⟨v,by rw[e1];rfl,h1⟩
 ·rw[List.getElem?_append_right (by simpa using Nat.le_of_not_lt hi),List.getElem?_replicate]at e;split at e <;> cases e
section
variable{P:Program}{w:World}{K:tf}{mg:Str->Option Value}{base:Heap}
def cQ.eB{x qual:Str}{st:Stmt}{f:Addr}{fd:FuncData}{N ps:List Str}{k:Nat}{T:DF}(F:cQ K x qual st f fd)(S:Ε N ps (ν st))(len:∀ds M q x,T ds M q x->ds.length=ps.length)
  (tD:∀(aY:Value) (A:Around) (outer:List Env) (s:Shared) (H:Hp) (E:XK),bD k (A.deeper (envOfC qual (ν st) s.heap.objs.size f aY))->
   ∃t,AX (lB (bM P w) P w K mg base N qual (ν st) f aY A outer s H E) (λ_=>E) (fH st) t/\∀ds M q x,T ds M q x->t {nx:=λ_ M'=>q .aE M',rt:=q,x:=λ_=>x} (lX N ds) M):
  ah P w K mg base (bM P w) (k+1) f fd ps (cZ K T):=by
 refine F.okX S (λvs H Q E h=>?_) (λaY A outer s H vs Q E hr h=>?_)
 ·have⟨G,L,ds,M,q,x,rl,n,hT,_⟩:=h;rw[<-n.length];exact len _ _ _ _ hT
 ·have⟨t,j,ht⟩:=tD aY A outer s H E hr;have⟨G,L,ds,M,q,x,rl,n,hT,hQ,hE⟩:=h;refine⟨_,j,G,L,lX N ds,M,_,rl,Ae n,ht ds M q x hT,λσ ρ C fs M' G' L' H' od hx e r _ y=>hE C fs M' G' L' H' od hx e r y,⟨λσ' H' ⟨ρ',G',L',M',e,r,_,h⟩=>hQ _ _ ⟨.aE,G',L',M',e,r,rfl,h⟩,λv H' f=>hQ v H' f,λ_ _ ⟨_,_,_,_,_,_,_,h⟩=>h.elim,λ_ _ ⟨_,_,_,_,_,_,_,h⟩=>h.elim⟩⟩
structure aB(P:Program)(w:World)(K:tf)(mg:Str->Option Value)(base:Heap)(k:Nat)(x:Str)(ps:List Str)(T:DF)(f:Addr)(fd:FuncData):Prop where
 ok:ah P w K mg base (bM P w) k f fd ps (cZ K T)
 b:hJ K fd ps []
 m:mg x=some (.ref f)
 kp:PySem.W.keepIn K (.ref f)=true
end
def OL(T:DF)(t:DA):DE:=λρ M q x=>t ρ M (λds M1=>T ds M1 q (λC fs M'=>x ρ C fs M')) x
section
variable{X:Cx}{R:St->XK}{T:DF}{k k':Nat}{f:Addr}{fd:FuncData}{ps:List Str}{x:Str}{p pos:Pos}{e:Expr}{es:List Expr}{t:DA}
def ar(C:aB X.prog X.w X.K X.mg X.base k x ps T f fd)(hr:bD k' X.A)(hx:cR (bM X.prog X.w) X R)(ha:JA X R (e::es) t)(hk:k<=k':=by decide)(hg:Gl X x:=by rfl)(pB:(x==("__debug__":Str))=false:=by decide)
  (he:starEach (e::es) X.env=(false,eval e X.env)::starEach es X.env:=by rfl) (dN:(backTo pos (starEach es X.env)).any (·.1)=false:=by rfl):JE X R (.Call (.Name x p) (e::es) [] pos) (OL T t):=
 .of (Lp C.ok (hr.mono hk) hg C.m C.kp C.b .nil hx ha pB he dN) λσ H G L ρ M q x rl n h hx=>by refine⟨G,L,ρ,M,_,x,rl,n,h,hx,λvs H1 xz=>?_⟩;have⟨ds,G1,L1,M1,e1,r1,n1,h1⟩:=xz;show cZ X.K T (vs++[]) H1 _ _;rw[aaW];exact⟨G1,L1,ds,M1,q,_,r1,n1,h1,λv H' f=>Fin.back e1 f,λC fs M' G' L' H' od hq e' r' y=>hx σ ρ C fs M' G' L' H' od hq (e1.trans e') r' (n.mono (e1.trans e')) y⟩
end
structure Yl(K:tf)(J:It)(xs:List Dt)(G0:Hp)(L0:List Addr):Prop where
 go:∀(i:Nat) G L M H (d:Dt),dj G0 G->Pre L0 L->Rl K G L M H->xs[i]? =some d->J.go i H/\∀v H',J.T' i H v H'->∃G',Ex G L H G' L H'/\Rl K G' L M H'/\Den K G' L d v
 stop:∀(i:Nat) G L M H,dj G0 G->Pre L0 L->Rl K G L M H->xs.length<=i->J.stop i H
inductive SN(K:tf)(G0:Hp)(L0:List Addr)(H0:Hp)(q:List Dt->Ms->Prop)(J:It)(H:Hp):Prop
 | mk (xs:List Dt) (G:Hp) (L:List Addr) (M:Ms) (e:Ex G0 L0 H0 G L H) (r:Rl K G L M H) (y:Yl K J xs G L) (h:q xs M)
inductive Z6(K:tf)(R:St->XK)(t:DA)(σ:St)(H:Hp)(Q:It->Hp->Prop):Prop
 | mk (G:Hp) (L:List Addr) (ρ:En) (M:Ms) (q:List Dt->Ms->Prop) (x:DX) (r:Rl K G L M H) (n:gJ K G L ρ σ) (h:t ρ M q x) (hx:tU K G L H R x) (hQ:∀J H1,SN K G L H q J H1->Q J H1)
def JI(X:Cx)(R:St->XK)(tg iter:Expr)(t:DA):Prop:=PI X tg iter (Z6 X.K R t)
def LU.imp{X:Cx}{δ:List (Addr×Obj)}{σ:St}{tg:Expr}{R R':It->Hp->Prop}(hR:∀J H,R J H->R' J H){v:Value}{s:Shared}(h:LU X δ σ tg R v s):LU X δ σ tg R' v s:=by have⟨it,fp,tn,J,H',a,b,c,d,e,f⟩:=h;exact⟨it,fp,tn,J,H',a,b,c,d,e,hR J H' f⟩
def Eo{K:tf}{G:Hp}{L:List Addr}{a:Addr}{ds:List Dt}{vs:List V}(h:∀G':Hp,dj G G'->fU K G' a vs)(n:Ν K G L ds vs):Yl K (WG K a) ds G L where
 go:=λi G1 L1 M1 H1 d g l r e=>by
  have⟨v,e1,n1⟩:=n.get e;have hs:=h H1 (g.trans r.sub)
  exact⟨⟨vs,v,hs,e1⟩,fun v' H' ⟨eH,y⟩=>by
   subst eH;have e2:=y vs hs;rw[e1]at e2;cases e2
   exact⟨G1,.refl _ _ _,r,Den.mono g l _ _ n1⟩⟩
 stop:=λi G1 L1 M1 H1 g l r e=>⟨vs,h H1 (g.trans r.sub),by rw[<-n.length];exact e⟩
def LG{K:tf}{G:Hp}{L:List Addr}{a:Addr}{ds:List Dt}{vs:List V}(h:∀G':Hp,dj G G'->mZ K G' a vs)(n:Ν K G L ds vs):Yl K (Xp K a) ds G L where
 go:=λi G1 L1 M1 H1 d g l r e=>by
  have⟨v,e1,n1⟩:=n.get e;have hs:=h H1 (g.trans r.sub)
  exact⟨⟨vs,v,hs,e1⟩,fun v' H' ⟨eH,y⟩=>by
   subst eH;have e2:=y vs hs;rw[e1]at e2;cases e2
   exact⟨G1,.refl _ _ _,r,Den.mono g l _ _ n1⟩⟩
 stop:=λi G1 L1 M1 H1 g l r e=>⟨vs,h H1 (g.trans r.sub),by rw[<-n.length];exact e⟩
def eC(lo:Int)(n:Nat):List Dt:=(List.range n).map λk:Nat=>Dt.int (lo+(k:Int))
def Ji{K:tf}{G:Hp}{L:List Addr}{lo:Int}{n:Nat}:Yl K (Ut lo n) (eC lo n) G L where
 go :=λi G1 L1 M1 H1 d g l r e=>by
  unfold eC at e;rw[aap]at e;have hi:i < n:=by
   cases q:(List.range n)[i]? with
   | none=>rw[q]at e;cases e
   | some j=>
    have:=(aai.mp q).1;rwa[aba]at this
  rw[aaQ hi]at e;cases e;exact⟨hi,λv' H' ⟨eH,y⟩=>by subst eH y;exact⟨G1,.refl _ _ _,r,rfl⟩⟩
 stop:=λi G1 L1 M1 H1 g l r e=>by show n<=i;unfold eC at e;simpa using e
section
variable{X:Cx}{R:St->XK}{tg iter:Expr}
def JI.of{wi:TI}{t:DA}(h:PI X tg iter wi)(hw:∀σ H G L ρ M q x,Rl X.K G L M H->gJ X.K G L ρ σ->t ρ M q x->tU X.K G L H R x->wi σ H (SN X.K G L H q)):JI X R tg iter t:=by intro δ s σ H Q I ⟨G,L,ρ,M,q,x,r,n,ht,hx,hQ⟩;exact bc (h δ s σ H _ I (hw σ H G L ρ M q x r n ht hx)) λu s1 f=>bc f λu2 s2 f2=>LU.imp hQ f2
def T9(t:DA):DA:=λρ M q x=>t ρ M (λds M1=>match ds with
 | [.int j]=>(-(2 ^ 62)<=j/\j < 2 ^ 62)/\q (eC 0 j.toNat) M1
 | _=>False) x
def d8{a:Expr}{t:DA}{p pos:Pos}(hm:X.mg "range"=none)(ha:JA X R [a] t)(hg:Gl X "range":=by rfl)(hs:starEach [a] X.env=[(false,eval a X.env)]:=by rfl):JI X R tg (.Call (.Name "range" p) [a] [] pos) (T9 t):=
 .of (Fv hg hm ha hs) λσ H G L ρ M q x rl n h hx=>by
  refine⟨G,L,ρ,M,_,x,rl,n,h,hx,λvs H1 xz=>?_⟩;have⟨ds,G1,L1,M1,e1,r1,n1,h1⟩:=xz
  (try dsimp only at h1)
  split at h1
  ·rename_i j;have⟨v,rfl,n2⟩:=bx n1;have n2:v= .int j:=n2;subst n2;exact⟨j,rfl,h1.1.1,h1.1.2,_,G1,L1,M1,e1,r1,Ji,h1.2⟩
  ·exact h1.elim
def Lo(t:DA):DA:=λρ M q x=>t ρ M (λds M1=>match ds with
 | [.int i,.int j]=>(-(2 ^ 62)<=i/\i < 2 ^ 62/\ -(2 ^ 62)<=j/\j < 2 ^ 62)/\q (eC i (j - i).toNat) M1
 | _=>False) x
def Ho{a b:Expr}{t:DA}{p pos:Pos}(hm:X.mg "range"=none)(ha:JA X R [a,b] t)(hg:Gl X "range":=by rfl)(hs:starEach [a,b] X.env=[(false,eval a X.env),(false,eval b X.env)]:=by rfl)(R7:starEach [b] X.env=[(false,eval b X.env)]:=by rfl):
  JI X R tg (.Call (.Name "range" p) [a,b] [] pos) (Lo t):=
 .of (FW hg hm ha hs R7) λσ H G L ρ M q x rl n h hx=>by
  refine⟨G,L,ρ,M,_,x,rl,n,h,hx,λvs H1 xz=>?_⟩;have⟨ds,G1,L1,M1,e1,r1,n1,h1⟩:=xz
  (try dsimp only at h1)
  split at h1
  ·rename_i i j;have⟨v,u,rfl,n3,n2⟩:=iF n1;have n3:v= .int i:=n3;have n2:u= .int j:=n2;subst n3 n2;exact⟨i,j,rfl,h1.1,_,G1,L1,M1,e1,r1,Ji,h1.2⟩
  ·exact h1.elim
end
def GD(K:tf)(gg:TG)(g:Dt->En->(En->Prop)->Prop):Prop:=
 ∀G L M H d v ρ σ (k:En->Prop) (Q:St->Hp->Prop),Rl K G L M H->Den K G L d v->gJ K G L ρ σ->g d ρ k->(∀ρ' σ',gJ K G L ρ' σ'->k ρ'->Q σ' H)->gg v σ H Q
def gN(i:Nat):Dt->En->(En->Prop)->Prop:=λd ρ k=>k (ρ.set i (some d))
def aK{K:tf}{i:Nat}:GD K (iD i) (gN i):=λG L M H d v ρ σ k Q rl n en h hQ=>hQ _ _ (en.set i n) h
def g2(i j:Nat):Dt->En->(En->Prop)->Prop:=λd ρ k=>match d with
 | .tup [a,b]=>k ((ρ.set i (some a)).set j (some b))
 | _=>False
def mE{K:tf}{i j:Nat}:GD K (KA K 2 (nM (iD i) (nM (iD j) Lw))) (g2 i j):=λG L M H d v ρ σ k Q rl n en h hQ=>by
 unfold g2 at h;split at h
 ·rename_i a b;have⟨p,vs,rfl,e,n⟩:=n;have⟨v1,v2,rfl,n1,n2⟩:=iF n;exact⟨p,_,rfl,.inl (.inl (rl.sub _ _ e)),rfl,v1,_,rfl,v2,_,rfl,rfl,hQ _ _ ((en.set i n1).set j n2) h⟩
 ·exact h.elim
def wD(g:Dt->En->(En->Prop)->Prop)(tb:DS)(Dn:iM):List Dt->En->Ms->Prop
 | [],ρ,M=>Dn.nx ρ M
 | x::xs,ρ,M=>g x ρ λρ'=>tb {Dn with nx:=wD g tb Dn xs,ct:=wD g tb Dn xs,bk:=Dn.nx} ρ' M
def Tc(ti:DA)(g:Dt->En->(En->Prop)->Prop)(tb:DS):DS:=λDn ρ M=>ti ρ M (λxs M1=>wD g tb Dn xs ρ M1) Dn.x
section
variable{X:Cx}{R:St->XK}{tg iter:Expr}{body:List Stmt}{ti:DA}{gg:TG}{g:Dt->En->(En->Prop)->Prop}{tb:DS}{pos:Pos}
def ye(hi:JI X R tg iter ti)(hg:PG X tg gg)(gd:GD X.K gg g)(hb:AX X R body tb)(hp:PassesOwn (model X.prog X.w) X.A X.env X.xe:=by first| exact PassesOwn.never| exact PassesOwn.leaving)(hc:X.calm=true:=by rfl)(hs:∀x,foldedSetIterable iter X.env x=pure x:=by intro _;rfl):
  JS X R (.For tg iter body [] pos) (Tc ti g tb):=.of (BI hp hc hi hg hb hs) λσ H G L ρ M Dn rl n h hx=>by
 refine⟨G,L,ρ,M,_,_,rl,n,h,hx,λJ H1 xz=>?_⟩;have⟨xs,G1,L1,M1,e1,r1,y,h1⟩:=xz;refine⟨λi m σ' H'=>m+i=xs.length/\eD X.K G1 L1 H1 (λρ' M'=>wD g tb Dn (xs.drop i) ρ' M') σ' H',⟨xs.length,rfl,ρ,G1,L1,M1,.refl _ _ _,r1,n.mono e1,by rw[aci];exact h1⟩,?_⟩;rintro i m σ' H' ⟨hm,ρ',G',L',M',e',r',n',h'⟩;by_cases hi:i < xs.length
 ·right;have hd:xs[i]? =some xs[i]:=aac hi;have⟨go,yl⟩:=y.go i G' L' M' H' _ e'.g e'.l r' hd;rw[abn hi]at h';refine⟨go,eD X.K G1 L1 H1 (λρ' M'=>wD g tb Dn (xs.drop (i+1)) ρ' M'),λσ2 H2 f=>⟨m - 1,(),(),f⟩,λv H2 hy=>?_⟩;have⟨G2,e2,r2,n2⟩:=yl v H2 hy;refine gd G2 L' M' H2 _ v ρ' σ' _ _ r2 n2 (n'.mono e2) h' λρ3 σ3 n3 h3=>?_;refine⟨G2,L',ρ3,M',_,r2,n3,h3,hx.on (e1.trans (e'.trans e2)),⟨λ_ _ f=>eD.back (e'.trans e2) f,λ_ _ f=>Fin.back (e1.trans (e'.trans e2)) f,λ_ _ f=>eD.back (e1.trans (e'.trans e2)) f,λ_ _ f=>eD.back (e'.trans e2) f⟩⟩
 ·left;refine⟨y.stop i G' L' M' H' e'.g e'.l r' (),ρ',G',L',M',e1.trans e',r',n',?_⟩;rw[abZ ()]at h';exact h'
end
abbrev DK:=En->Ms->(List Dt->(Ms->Prop)->Ms->Prop)->DX->Prop
structure Q3(K:tf)(J:It)(xs:List Dt)(ok:Ms->Prop)(G0:Hp)(L0:List Addr):Prop where
 go:∀(i:Nat) G L M H (d:Dt),dj G0 G->Pre L0 L->Rl K G L M H->ok M->xs[i]? =some d->J.go i H/\∀v H',J.T' i H v H'->∃G',Ex G L H G' L H'/\Rl K G' L M H'/\Den K G' L d v
 stop:∀(i:Nat) G L M H,dj G0 G->Pre L0 L->Rl K G L M H->ok M->xs.length<=i->J.stop i H
inductive Y9(K:tf)(G0:Hp)(L0:List Addr)(H0:Hp)(q:List Dt->(Ms->Prop)->Ms->Prop)(J:It)(H:Hp):Prop
 | mk (xs:List Dt) (ok:Ms->Prop) (G:Hp) (L:List Addr) (M:Ms) (e:Ex G0 L0 H0 G L H) (r:Rl K G L M H) (y:Q3 K J xs ok G L) (h:q xs ok M)
inductive Yk(K:tf)(R:St->XK)(t:DK)(σ:St)(H:Hp)(Q:It->Hp->Prop):Prop
 | mk (G:Hp) (L:List Addr) (ρ:En) (M:Ms) (q:List Dt->(Ms->Prop)->Ms->Prop) (x:DX) (r:Rl K G L M H) (n:gJ K G L ρ σ) (h:t ρ M q x) (hx:tU K G L H R x) (hQ:∀J H1,Y9 K G L H q J H1->Q J H1)
def JK(X:Cx)(R:St->XK)(tg iter:Expr)(t:DK):Prop:=PI X tg iter (Yk X.K R t)
def kOf(t:DA):DK:=λρ M q x=>t ρ M (λxs M1=>q xs (λ_=>True) M1) x
def Fh{X:Cx}{R:St->XK}{tg iter:Expr}{t:DA}(h:JI X R tg iter t):JK X R tg iter (kOf t):=by intro δ s σ H Q I ⟨G,L,ρ,M,q,x,r,n,ht,hx,hQ⟩;refine h δ s σ H Q I ⟨G,L,ρ,M,_,x,r,n,ht,hx,λJ H1 ⟨xs,G1,L1,M1,e1,r1,y,hq⟩=>hQ J H1 ⟨xs,_,G1,L1,M1,e1,r1,⟨λi G L M H d g l r _ e=>y.go i G L M H d g l r e,λi G L M H g l r _ e=>y.stop i G L M H g l r e⟩,hq⟩⟩
def nh(Μ:List Nat)(ρ:En):En:=Μ.map λi=>(ρ[i]?).join
def gP(g:Dt->En->(En->Prop)->Prop)(tc:DT)(te:DE)(ρ0:En)(ok:Ms->Prop):List Dt->List Dt->Ms->(List Dt->Ms->Prop)->Prop
 | [],acc,M,k=>ok M/\k acc M
 | x::xs,acc,M,k=>ok M/\g x ρ0 λρ'=>tc ρ' M (λb M1=>match b with
  | true=>te ρ' M1 (λd M2=>gP g tc te ρ0 ok xs (acc++[d]) M2 k) iL
  | false=>gP g tc te ρ0 ok xs acc M1 k) iL
def Kj(n:Nat)(ti:DK)(g:Dt->En->(En->Prop)->Prop)(tc:DT)(te:DE)(Μ:List Nat):DE:=λρ M q x=>ti ρ M (λxs ok M1=>xs.length<=sizeLine/\gP g tc te (List.replicate n none++nh Μ ρ) ok xs [] M1 (λys M2=>q (.lst ys) M2)) x
def MJ(n:Nat)(ti:DK)(g:Dt->En->(En->Prop)->Prop)(tc:DT)(te:DE)(Μ:List Nat):DE:=λρ M q x=>ti ρ M (λxs ok M1=>xs.length<=sizeLine/\gP g tc te (List.replicate n none++nh Μ ρ) ok xs [] M1 (λys M2=>q (.loc M2.length) (M2++[.lst ys]))) x
def MT{K:tf}{G:Hp}{L:List Addr}{ρ:En}{σ os:St}{n:Nat}(h:gJ K G L ρ σ)(Μ:List Nat)(hl:os.length=n):gJ K G L (List.replicate n none++nh Μ ρ) (os++pJ Μ σ):=by
 have lc:(nh Μ ρ).length=(pJ Μ σ).length:=by unfold nh pJ;simp
 refine⟨by rw[aan,aan,aa3,hl,lc],λi d' e=>?_⟩;by_cases hi:i < n
 ·rw[aaA (by rw[aa3];exact hi),abX,aay hi]at e;cases e
 ·rw[aaB (by rw[aa3];omega),aa3]at e;rw[aaB (),hl];unfold nh at e;unfold pJ;rw[aap]at e⊢;cases q:Μ[i - n]? with
  | none=>rw[q]at e;cases e
  | some j=>
   rw[q]at e;have e:(ρ[j]?).join=some d':=aav e;have e:ρ[j]? =some (some d'):=by
    cases z:ρ[j]? with
    | none=>rw[z]at e;cases e
    | some o=>rw[z]at e;exact aaZ some e
   have⟨v,hv,dn⟩:=h.fm j d' e;exact⟨v,by show some ((σ[j]?).join)=_;rw[hv];rfl,dn⟩
def zC{K:tf}{J:It}{gg:TG}{g:Dt->En->(En->Prop)->Prop}{tc:DT}{te:DE}{Μ:List Nat}{nn:Nat}{ρ:En}{σ:St}{G1:Hp}{L1:List Addr}{M1:Ms}{H1:Hp}{xs:List Dt}{ok:Ms->Prop}{Dl:Addr}{Q:VK}{k:List Dt->Ms->Prop}(gd:GD K gg g)(r1:Rl K G1 L1 M1 H1)(n:gJ K G1 L1 ρ σ)(y:Q3 K J xs ok G1 L1)(hD:H1 Dl=none)(hz:xs.length<=sizeLine)
  (h:gP g tc te (List.replicate nn none++nh Μ ρ) ok xs [] M1 k)
  (fin:∀G2 L2 M2 H2 ds vs,Ex G1 L1 H1 G2 L2 H2->Rl K G2 L2 M2 H2->G2 Dl=none->Dl∉L2->H2 Dl=some (.lst vs)->Ν K G2 L2 ds vs->k ds M2->Q (.ref Dl) H2):
  Ba J nn gg (GP K (λ_=>E0) tc) (rP K (λ_=>E0) te) (pJ Μ σ) Q H1 Dl:=by
 refine⟨λi m ys H2=>m+i=xs.length/\H2 Dl=some (.lst ys)/\∃acc G2 L2 M2,Ex G1 L1 H1 G2 L2 H2/\Rl K G2 L2 M2 H2/\G2 Dl=none/\Dl∉L2/\Ν K G2 L2 acc ys/\acc.length<=i/\gP g tc te (List.replicate nn none++nh Μ ρ) ok (xs.drop i) acc M2 k,⟨xs.length,rfl,Ι,[],G1,L1,M1,?_⟩,?_⟩
 ·have gn:G1 Dl=none:=r1.sub.free hD;refine⟨⟨.refl _,.refl _,λ_ h _=>h,λb u h1 _=>by rw[ω (λz=>by rw[z,hD]at h1;cases h1)];exact h1,λ_ h=>.inl h,λb h=>by rw[ω (λz=>h (by rw[z];exact hD))];exact h⟩,⟨λb u e=>by rw[ω (λz=>by rw[z,gn]at e;cases e)];exact r1.sub b u e,r1.len,r1.nd,λi a m h1 h2=>?_⟩,gn,r1.Mb hD,rfl,aao _,by rw[aci];exact h⟩;have⟨q1,q2⟩:=r1.fm i a m h1 h2;exact⟨q1,q2.mono (.refl _) (.refl _) (ω λz=>q2.there (by rw[z];exact hD))⟩
 ·rintro i m ys H2 ⟨hm,Hf,acc,G2,L2,M2,e2,r2,g2,l2,n2,la,h2⟩;refine⟨Hf,?_⟩;have ne1:∀{b:Addr} {u:HO},H1 b=some u->b≠Dl:=λe z=>by rw[z,hD]at e;cases e
  by_cases hi:i < xs.length
  ·right;have hd:xs[i]? =some xs[i]:=aac hi;rw[abn hi]at h2;have⟨ay,h2⟩:=h2;have⟨go,yl⟩:=y.go i G2 L2 M2 H2 _ e2.g e2.l r2 ay hd;refine⟨go,λv H3 hy os hos=>?_⟩;have⟨G3,e3,r3,n3⟩:=yl v H3 hy;have h3:H3 Dl=some (.lst ys):=e3.out _ _ Hf l2;have g3:G3 Dl=none:=e3.fr _ g2 (by rw[Hf];simp);refine gd G3 L2 M2 H3 _ v _ _ _ _ r3 n3 (MT ((n.mono e2).mono e3) Μ hos) h2 λρ' σ' n' h'=>?_;refine⟨G3,L2,ρ',M2,_,iL,r3,n',h',rK,λb H4 xz=>?_⟩;have⟨G4,L4,M4,e4,r4,h4⟩:=xz;have We:H4 Dl=some (.lst ys):=e4.out _ _ h3 l2;have g4:G4 Dl=none:=e4.fr _ g3 (by rw[h3];simp);have l4:Dl∉L4:=λz=>(e4.new _ z).elim l2 λq=>by rw[h3]at q;cases q
   have WR:=e3.trans e4;cases b with
   | false=>
    exact⟨m - 1,(),(),We,acc,G4,L4,M4,e2.trans WR,r4,g4,l4,Ν.mono WR.g WR.l _ _ n2,(),h4⟩
   | true=>
    refine⟨G4,L4,ρ',M4,_,iL,r4,n'.mono e4,h4,rK,λv5 H5 xz=>?_⟩;have⟨d5,G5,L5,M5,e5,r5,n5,h5⟩:=xz;have h5':H5 Dl=some (.lst ys):=e5.out _ _ We l4;have g5:G5 Dl=none:=e5.fr _ g4 (by rw[We];simp);have l5:Dl∉L5:=λz=>(e5.new _ z).elim l4 λq=>by rw[We]at q;cases q
    have YR:=WR.trans e5;have aak:ys.length=acc.length:=by rw[<-n2.length]
    refine⟨h5',(),m - 1,(),(),Ι,acc++[d5],G5,L5,M5,?_,?_,g5,l5,(Ν.mono YR.g YR.l _ _ n2).app ⟨_,_,rfl,n5,rfl⟩,by rw[aan];show acc.length+1<=i+1;omega,h5⟩
    ·have Sv:=e2.trans YR
     exact⟨Sv.g,Sv.l,Sv.fr,λb u h1 h2=>by rw[ω (ne1 h1)];exact Sv.out b u h1 h2,Sv.new,λb h=>by
      by_cases hb:b=Dl
      ·rw[hb,Ι];simp
      ·rw[ω hb];exact Sv.zi b h⟩
    ·refine⟨λb u e=>by rw[ω (λz=>by rw[z,g5]at e;cases e)];exact r5.sub b u e,r5.len,r5.nd,λi a m h1 h2=>?_⟩;have⟨q1,q2⟩:=r5.fm i a m h1 h2;exact⟨q1,q2.mono (.refl _) (.refl _) (ω λz=>l5 (by rw[<-z];exact aar h1))⟩
  ·left;rw[abZ ()]at h2;exact⟨y.stop i G2 L2 M2 H2 e2.g e2.l r2 h2.1 (),fin G2 L2 M2 H2 acc ys e2 r2 g2 l2 Hf n2 h2.2⟩
section
variable{K:tf}{G1:Hp}{L1:List Addr}{H1 G:Hp}{L:List Addr}{M:Ms}{H:Hp}{p:Addr}{ds:List Dt}{vs:List V}{q:DQ}
def MR(e:Ex G1 L1 H1 G L H)(r:Rl K G L M H)(Sk:H1 p=none)(hg:G p=none)(hl:p∉L)(h:H p=some (.lst vs))(n:Ν K G L ds vs)(k:q (.lst ds) M):Fin K G1 L1 H1 q (.ref p) H:=by
 have g1:dj G (upd G p (.lst vs)):=λb u e=>by rw[ω (λz=>by rw[z,hg]at e;cases e)];exact e
 refine⟨.lst ds,upd G p (.lst vs),L,M,⟨e.g.trans g1,e.l,λb h1 h2=>?_,e.out,e.new,e.zi⟩,⟨λb u e=>?_,r.len,r.nd,λk a m h1 h2=>?_⟩,⟨p,vs,rfl,Ι,Ν.mono g1 (.refl _) _ _ n⟩,k⟩
 ·rw[ω (λz=>h2 (by rw[z];exact Sk))];exact e.fr b h1 h2
 ·by_cases hb:b=p
  ·rw[hb,Ι]at e;rw[hb];cases e;exact h
  ·rw[ω hb]at e;exact r.sub b u e
 ·have⟨q1,q2⟩:=r.fm k a m h1 h2;have hb:a≠p:=λz=>hl (by rw[<-z];exact aar h1);exact⟨by rw[ω hb];exact q1,q2.mono g1 (.refl _) rfl⟩
def Mn(e:Ex G1 L1 H1 G L H)(r:Rl K G L M H)(Sk:H1 p=none)(hg:G p=none)(hl:p∉L)(h:H p=some (.lst vs))(n:Ν K G L ds vs)(k:q (.loc M.length) (M++[.lst ds])):Fin K G1 L1 H1 q (.ref p) H:=by
 refine⟨.loc M.length,G,L++[p],M++[.lst ds],⟨e.g,e.l.trans ⟨[p],rfl⟩,e.fr,e.out,λb hb=>?_,e.zi⟩,⟨r.sub,by rw[List.length_append,List.length_append,r.len];rfl,List.nodup_append.mpr ⟨r.nd,by simp,λa ha b hb=>?_⟩,λk a m h1 h2=>?_⟩,⟨p,rfl,by rw[<-r.len,List.getElem?_append_right (Nat.le_refl _)];simp⟩,k⟩
 ·rcases aa8.mp hb with z| z
  ·exact e.new b z
  ·have e:b=p:=by simpa using z
   right;rw[e];exact Sk
 ·have e:b=p:=by simpa using hb
  rw[e];exactλz=>hl (z▸ha)
 ·by_cases hk:k < L.length
  ·rw[aaA hk]at h1;rw[aaA (by rw[<-r.len];exact hk)]at h2;have⟨q1,q2⟩:=r.fm k a m h1 h2;exact⟨q1,q2.mono (.refl _) ⟨[p],rfl⟩ rfl⟩
  ·have e:k=L.length:=by have:=(aai.mp h1).1;rw[aan]at this;simp at this;omega
   rw[e,aaB (aao _)]at h1;rw[e,r.len,aaB (aao _)]at h2;simp at h1 h2;subst h1 h2;exact⟨hg,vs,h,Ν.mono (.refl _) ⟨[p],rfl⟩ _ _ n⟩
def V6(b:Bool)(q:DQ)(ys:List Dt)(M:Ms):Prop:=match b with
 | false=>q (.lst ys) M
 | true=>q (.loc M.length) (M++[.lst ys])
def Ea{b:Bool}(e:Ex G1 L1 H1 G L H)(r:Rl K G L M H)(Sk:H1 p=none)(hg:G p=none)(hl:p∉L)(h:H p=some (.lst vs))(n:Ν K G L ds vs)(k:V6 b q ds M):Fin K G1 L1 H1 q (.ref p) H:=by
 cases b
 ·exact MR e r Sk hg hl h n k
 ·exact Mn e r Sk hg hl h n k
end
def eS{n i:Nat}(h:i < n):vO n (iD i):=λv os cs H Q hl hq=>⟨⟨os.set i (some v),by rw[aaX];exact hl,abP _ _ ()⟩,hq⟩
def oO{K:tf}{n i j:Nat}(h:i < n)(h':j < n):vO n (KA K 2 (nM (iD i) (nM (iD j) Lw))):=
 fun v os cs H Q hl ⟨a,xs,e,s,l,v1,r,e1,v2,r2,e2,e3,q⟩=>⟨a,xs,e,s,l,v1,r,e1,v2,r2,e2,e3,⟨(os.set i (some v1)).set j (some v2),by simp[hl],by
  rw[abP _ _ (),abP _ _ (by rw[aaX];omega)]⟩,q⟩
section
variable{X:Cx}{elt iter tg:Expr}{xs:List Str}{scope:Scope}{pos:Pos}{ys:List Str}{Μ:List Nat}
def fg{i:Nat}{x:Str}{px:Pos}(S:ai X scope xs ys Μ)(h:xs[i]? =some x)(C:Addr)(s:Shared)(H:Hp)(fp:List Addr):PG (Cx.comp X (xs++ys) scope C s H fp) (.Name x px) (iD i):=by
 have hm:x∈xs:=aar h;have hi:(xs++ys)[i]? =some x:=by rw[aaA (aai.mp h).1];exact h
 exact au S.nd hi (.inl (lookup_relabel_local (S.own x hm))) (.inr (lookup_relabel_local (S.own x hm)))
def v_{x y:Str}{px py:Pos}{k:Nat}(hc:X.calm=true)(S:ai X scope [x,y] ys Μ)(C:Addr)(s:Shared)(H:Hp)(fp:List Addr):PG (Cx.comp X ([x,y]++ys) scope C s H fp) (.Tuple [.Name x px,.Name y py] k pos) (KA X.K 2 (nM (iD 0) (nM (iD 1) Lw))):=
 oE (X:=Cx.comp X ([x,y]++ys) scope C s H fp) hc (b8 (fg S (i:=0) rfl C s H fp) (b8 (fg S (i:=1) rfl C s H fp) kO))
end
def sV:DT:=λ_ M q _=>q true M
def Y6(X:Cx)(cs:List Expr)(t:DT):Prop:=WE X cs (GP X.K (λ_=>E0) t)
def jq{X:Cx}:Y6 X [] sV:=⟨.inl rfl,λδ s σ H Q I ⟨G,L,ρ,M,q,x,r,n,h,hx,hQ⟩=>aaI ⟨H,I,hQ true H ⟨G,L,M,.refl _ _ _,r,h⟩⟩⟩
def EN{X:Cx}{c:Expr}{t:DT}(h:JT X (λ_=>E0) c t):Y6 X [c] t:=⟨.inr ⟨c,rfl⟩,h⟩
def Ov(b:Bool)(g:Dt->En->(En->Prop)->Prop)(tc:DT)(te:DE)(cs:En)(q:DQ):List Dt->(Ms->Prop)->Ms->Prop:=λzs ok M1=>zs.length<=sizeLine/\gP g tc te cs ok zs [] M1 (V6 b q)
section
variable{X:Cx}{R:St->XK}{elt iter tg:Expr}{cs:List Expr}{xs:List Str}{scope:Scope}{pos:Pos}{gg:TG}{g:Dt->En->(En->Prop)->Prop}{ti:DK}{tc:DT}{te:DE}{ys:List Str}{Μ:List Nat}(b:Bool)(S:ai X scope xs ys Μ)(hi:JK X R tg iter ti)(hg:∀C s H fp,PG (Cx.comp X (xs++ys) scope C s H fp) tg gg)(gd:GD X.K gg g)(hk:vO xs.length gg)(ht:∀C s H fp,Y6 (Cx.comp X (xs++ys) scope C s H fp) cs tc)(he:∀C s H fp,JE (Cx.comp X (xs++ys) scope C s H fp) (λ_=>E0) elt te)(hc:X.calm=true)(hs:∀x,foldedSetIterable iter X.env x=pure x)
include S hi hg gd hk ht he hc hs
def Vt{t:DE}(e:∀ρ M q x,t ρ M q x->ti ρ M (Ov b g tc te (List.replicate xs.length none++nh Μ ρ) q) x):JE X R (.ListComp elt [⟨tg,iter,cs,0⟩] scope pos) t:=
 .of (LP (tc:=GP X.K (λ_=>E0) tc) (te:=rP X.K (λ_=>E0) te) S hc hi hg hk ht he hs) λσ H G L ρ M q x rl n h hx=>⟨G,L,ρ,M,_,x,rl,n,e _ _ _ _ h,hx,λJ H1 ⟨xs,ok,G1,L1,M1,e1,r1,y,hz,h1⟩ D hD=>zC gd r1 (n.mono e1) y hD hz h1 λG2 L2 M2 H2 ds vs e2 r2 g2 l2 h2 n2 k=>Fin.back e1 (Ea e2 r2 hD g2 l2 h2 n2 k)⟩
def Wx{i:Nat}{y:Str}{py j4:Pos}(hN:X.N.Nodup)(Lb:X.N[i]? =some y)(hy:Loc X.env.scope y)(Hq:swapsWith (.ListComp elt [⟨tg,iter,cs,0⟩] scope pos) (some (.Name y py)) j4.line X.env=pure true)(hf:X.fn y=true\/X.env.scope.names.lookup y=some .local){t:DE}(e:∀ρ M q x,t ρ M q x->ti ρ M (Ov b g tc te (List.replicate xs.length none++nh Μ ρ) q) x):
  JS X R (.Assign [.Name y py] (.ListComp elt [⟨tg,iter,cs,0⟩] scope pos) j4) (rD i t):=.of (yY (tc:=GP X.K (λ_=>E0) tc) (te:=rP X.K (λ_=>E0) te) hN Lb hy S hc hi hg hk ht he Hq hs hf) λσ H G L ρ M Dn rl n h hx=>by
 refine⟨G,L,ρ,M,_,_,rl,n,e _ _ _ _ h,hx,fun J H1 ⟨xs,ok,G1,L1,M1,e1,r1,y,hz,h1⟩ D hD=>zC gd r1 (n.mono e1) y hD hz h1 λG2 L2 M2 H2 ds vs e2 r2 g2 l2 h2 n2 k=>?_⟩;have⟨d,G3,L3,M3,e3,r3,n3,h3⟩:=Ea (q:=λd M=>Dn.nx (ρ.set i (some d)) M) e2 r2 hD g2 l2 h2 n2 k;exact⟨_,G3,L3,M3,e1.trans e3,r3,((n.mono e1).mono e3).set i n3,h3⟩
end
def vH(te:DE)(cs:En):List Dt->List Dt->Ms->(List Dt->Ms->Prop)->Prop
 | [],acc,M,k=>k acc M
 | x::xs,acc,M,k=>te (some x::cs) M (λd M1=>vH te cs xs (acc++[d]) M1 k) iL
def Jo(ti:DA)(te:DE)(Μ:List Nat):DE:=λρ M q x=>ti ρ M (λxs M1=>xs.length<=sizeLine/\vH te (nh Μ ρ) xs [] M1 (λys M2=>q (.lst ys) M2)) x
def DV{te:DE}{cs:En}:∀xs,vH te cs xs=gP (gN 0) sV te (none::cs) (λ_=>True) xs
 | []=>funext λacc=>funext λM=>funext λk=>(true_and _).symm
 | x::xs=>funext λacc=>funext λM=>funext λk=>by show te (some x::cs) M (λd M1=>vH te cs xs (acc++[d]) M1 k) iL=(True/\te (some x::cs) M (λd M1=>gP (gN 0) sV te (none::cs) (λ_=>True) xs (acc++[d]) M1 k) iL);rw[DV xs,true_and]
section
variable{X:Cx}{R:St->XK}{elt iter:Expr}{x:Str}{px:Pos}{scope:Scope}{pos:Pos}{ti:DA}{te:DE}{ys:List Str}{Μ:List Nat}
def CY(S:ai X scope [x] ys Μ)(hi:JI X R (.Name x px) iter ti)(he:∀C s H fp,JE (Cx.comp X (x::ys) scope C s H fp) (λ_=>E0) elt te)(hc:X.calm=true:=by rfl)(hs:∀x,foldedSetIterable iter X.env x=pure x:=by intro _;rfl):JE X R (.ListComp elt [⟨.Name x px,iter,[],0⟩] scope pos) (Jo ti te Μ):=Vt false S (Fh hi) (fg S (i:=0) rfl) aK (eS (Nat.zero_lt_succ 0)) (λ_ _ _ _=>jq) he hc hs λρ M q x h=>by unfold Jo at h;simp only[DV]at h;exact h
end
def fin_same{K:tf}{G0:Hp}{L0:List Addr}{H0 G:Hp}{L:List Addr}{M:Ms}{H:Hp}{d:Dt}{v:V}{q:DQ}(e:Ex G0 L0 H0 G L H)(r:Rl K G L M H)(n:Den K G L d v)(h:q d M):Fin K G0 L0 H0 q v H:=⟨d,G,L,M,e,r,n,h⟩
def bR{K:tf}{G0:Hp}{L0:List Addr}{H0 G:Hp}{L:List Addr}{M:Ms}{H:Hp}{d:Dt}{v:V}{q:DQ}(e:Ex G0 L0 H0 G L H)(r:Rl K G L M H)(h:q d M)(n:Den K G L d v:=by rfl):Fin K G0 L0 H0 q v H:=⟨d,G,L,M,e,r,n,h⟩
def IL:Dt->Dt->Ms->DQ->Prop
 | .int i,.int j,M,q=>q (.int (i+j)) M
 | .str a,.str b,M,q=>a.length+b.length<=sizeLine/\q (.str (a++b)) M
 | .lst a,.lst b,M,q=>a.length+b.length<=sizeLine/\q (.lst (a++b)) M
 | .tup a,.tup b,M,q=>(a≠[]/\a.length+b.length<=sizeLine)/\q (.tup (a++b)) M
 | _,_,_,_=>False
def yy:Dt->Dt->Ms->DQ->Prop
 | .int i,.int j,M,q=>q (.int (i - j)) M
 | _,_,_,_=>False
def Jc:Dt->Dt->Ms->DQ->Prop
 | .int i,.int j,M,q=>(jL i/\jL j)/\q (.int (i * j)) M
 | .lst a,.int k,M,q=>(-(2 ^ 63)<=k/\k < 2 ^ 63/\a.length * k.toNat<=sizeLine)/\q (.lst (List.replicate k.toNat a).flatten) M
 | _,_,_,_=>False
def Rq:Dt->Dt->Ms->DQ->Prop
 | .int i,.int j,M,q=>(0 < j/\jL j)/\q (.int (i / j)) M
 | _,_,_,_=>False
def Fl:Dt->Dt->Ms->DQ->Prop
 | .int i,.int j,M,q=>(j≠0/\jL j)/\q (.int (i.fdiv j)) M
 | _,_,_,_=>False
def Px:Dt->Dt->Ms->DQ->Prop
 | .int i,.int j,M,q=>0 < j/\q (.int (i % j)) M
 | _,_,_,_=>False
def Pj:Dt->Dt->Ms->DQ->Prop
 | .int i,.int j,M,q=>CM i j/\q (.int (i ^ j.toNat)) M
 | _,_,_,_=>False
def Pm:Dt->Ms->DQ->Prop
 | .int i,M,q=>q (.int (-i)) M
 | _,_,_=>False
section
variable{K:tf}
def Z0:ou K (λx y H Q=>(∃i j,x=V.int i/\y= .int j/\Q (.int (i+j)) H)\/(∃i j,x=V.str i/\y= .str j/\i.length+j.length<=sizeLine/\Q (.str (i++j)) H)\/Qw x y H Q\/OY K x y H Q) IL:=by
 intro G0 L0 H0 G L M H v1 v2 d1 d2 q e r n1 n2 h;unfold IL at h;split at h
 ·rename_i i j;exact .inl ⟨i,j,n1,n2,bR e r h⟩
 ·rename_i a b;exact .inr (.inl ⟨a,b,n1,n2,h.1,bR e r h.2⟩)
 ·rename_i a b;have⟨p1,w1,rfl,e1,m1⟩:=n1;have⟨p2,w2,rfl,e2,m2⟩:=n2;refine .inr (.inr (.inl ⟨p1,p2,w1,w2,rfl,rfl,r.sub _ _ e1,r.sub _ _ e2,by rw[<-m1.length,<-m2.length];exact h.1,λp hp=>?_⟩));exact kM e r hp (qm r hp (m1.app m2)) h.2
 ·rename_i a b;have⟨p1,w1,rfl,e1,m1⟩:=n1;have⟨p2,w2,rfl,e2,m2⟩:=n2;have ne:w1≠[]:=λz=>h.1.1 (by have:=m1.length;rw[z]at this;exact List.eq_nil_of_length_eq_zero this);refine .inr (.inr (.inr ⟨p1,p2,w1,w2,rfl,rfl,.inl (.inl (r.sub _ _ e1)),.inl (.inl (r.sub _ _ e2)),ne,by rw[<-m1.length,<-m2.length];exact h.1.2,λz=>?_,λ_ p hp=>?_⟩))
  ·have hb:b=[]:=by have:=m2.length;rw[z]at this;exact List.eq_nil_of_length_eq_zero this
   subst hb;rw[aaW]at h;exact fin_same (d:=.tup a) e r ⟨p1,w1,rfl,e1,m1⟩ h.2
  ·exact kM e r hp (qC r hp (m1.app m2)) h.2
 ·exact h.elim
def ZL:ou K (zH λi j=>.int (i - j)) yy:=by
 intro G0 L0 H0 G L M H v1 v2 d1 d2 q e r n1 n2 h;unfold yy at h;split at h
 ·exact⟨_,_,n1,n2,bR e r h⟩
 ·exact h.elim
def YY:ou K (λx y H Q=>(rI (λi j=>jL i/\jL j) λi j=>.int (i * j)) x y H Q\/QN x y H Q) Jc:=by
 intro G0 L0 H0 G L M H v1 v2 d1 d2 q e r n1 n2 h;unfold Jc at h;split at h
 ·exact .inl ⟨_,_,n1,n2,h.1,bR e r h.2⟩
 ·rename_i a k;have⟨p1,w1,rfl,e1,m1⟩:=n1;refine .inr ⟨p1,k,w1,rfl,n2,r.sub _ _ e1,h.1.1,h.1.2.1,by rw[<-m1.length];exact h.1.2.2,λp hp=>?_⟩;exact kM e r hp (qm r hp (.of (xk m1.pair k.toNat))) h.2
 ·exact h.elim
def ZQ:ou K (rI (λ_ j=>j≠0/\jL j) λi j=>.int (i.fdiv j)) Rq:=by
 intro G0 L0 H0 G L M H v1 v2 d1 d2 q e r n1 n2 h;unfold Rq at h;split at h
 ·rename_i i j;have h0:=h.1.1;refine⟨_,_,n1,n2,⟨(),h.1.2⟩,fin_same (d:=.int (i.fdiv j)) e r rfl ?_⟩;rw[Int.fdiv_eq_ediv_of_nonneg i (aaE h0)];exact h.2
 ·exact h.elim
def S3:ou K (rI (λ_ j=>j≠0/\jL j) λi j=>.int (i.fdiv j)) Fl:=by
 intro G0 L0 H0 G L M H v1 v2 d1 d2 q e r n1 n2 h;unfold Fl at h;split at h
 ·exact⟨_,_,n1,n2,h.1,bR e r h.2⟩
 ·exact h.elim
def Y0:ou K (rI (λ_ j=>0 < j) λi j=>.int (i % j)) Px:=by
 intro G0 L0 H0 G L M H v1 v2 d1 d2 q e r n1 n2 h;unfold Px at h;split at h
 ·exact⟨_,_,n1,n2,h.1,bR e r h.2⟩
 ·exact h.elim
def YW:ou K (rI CM λi j=>.int (i ^ j.toNat)) Pj:=by
 intro G0 L0 H0 G L M H v1 v2 d1 d2 q e r n1 n2 h;unfold Pj at h;split at h
 ·exact⟨_,_,n1,n2,h.1,bR e r h.2⟩
 ·exact h.elim
def Y_:XJ K (rU λi=>.int (-i)) Pm:=by
 intro G0 L0 H0 G L M H v1 d1 q e r n1 h;unfold Pm at h;split at h
 ·exact⟨_,n1,bR e r h⟩
 ·exact h.elim
end
section
variable{X:Cx}{R:St->XK}{a b c:Expr}{ta tb:DE}{pos:Pos}
def eJ(ja:JE X R a ta)(jb:JE X R b tb):JE X R (.BinOp a .Add b pos) (iW IL ta tb):=yz (PV.or (DL.or (KD.or Nu))) Z0 ja jb
def nU(ja:JE X R a ta)(jb:JE X R b tb):JE X R (.BinOp a .Sub b pos) (iW yy ta tb):=yz Qk ZL ja jb
def eA(ja:JE X R a ta)(jb:JE X R b tb):JE X R (.BinOp a .Mult b pos) (iW Jc ta tb):=yz (MV.or K3) YY ja jb
def jC(ja:JE X R a ta)(jb:JE X R b tb):JE X R (.BinOp a .FloorDiv b pos) (iW Rq ta tb):=yz yO ZQ ja jb
def C2(ja:JE X R a ta)(jb:JE X R b tb):JE X R (.BinOp a .FloorDiv b pos) (iW Fl ta tb):=yz yO S3 ja jb
def dU(ja:JE X R a ta)(jb:JE X R b tb):JE X R (.BinOp a .Mod b pos) (iW Px ta tb):=yz Pt Y0 ja jb
def y8(ja:JE X R a ta)(jb:JE X R b tb):JE X R (.BinOp a .Pow b pos) (iW Pj ta tb):=yz Po YW ja jb
def O7(ja:JE X R a ta):JE X R (.UnaryOp .USub a pos) (Ws Pm ta):=W6 P5 Y_ ja
end
def WY:Dt->Dt->Ms->DQ->Prop
 | .int i,.int j,M,q=>q (.bl (decide (i < j))) M
 | _,_,_,_=>False
def Wf:Dt->Dt->Ms->DQ->Prop
 | .int i,.int j,M,q=>q (.bl (decide (i<=j))) M
 | _,_,_,_=>False
def Ye:Dt->Dt->Ms->DQ->Prop
 | .int i,.int j,M,q=>q (.bl (decide (j < i))) M
 | _,_,_,_=>False
def Zo:Dt->Dt->Ms->DQ->Prop
 | .int i,.int j,M,q=>q (.bl (decide (j<=i))) M
 | _,_,_,_=>False
def uP:Dt->Option V
 | .aE=>some .aE
 | .bl b=>some (.bl b)
 | .int i=>some (.int i)
 | .str x=>some (.str x)
 | _=>none
def iu:List Dt->Option (List V)
 | []=>some []
 | d::ds=>match uP d,iu ds with
  | some v,some vs=>some (v::vs)
  | _,_=>none
section
variable{K:tf}{G:Hp}{L:List Addr}
def nA{d:Dt}{v u:V}(h:uP d=some u)(n:Den K G L d v):v=u/\d9 u=true:=by cases d <;> first| (cases h;exact⟨n,rfl⟩)| cases h
def fV:∀{ds:List Dt} {vs us:List V},iu ds=some us->Ν K G L ds vs->vs=us/\us.all d9=true
 | [],vs,us,h,n=>by cases h;exact⟨n,rfl⟩
 | d::ds,_,us,h,⟨v,r,e,n1,n2⟩=>by
  subst e;unfold iu at h;split at h
  ·rename_i u1 u2 h1 h2;cases h;have⟨a1,a2⟩:=nA h1 n1;have⟨b1,b2⟩:=fV h2 n2;subst a1 b1;exact⟨rfl,by rw[abO,a2,b2];rfl⟩
  ·cases h
end
def Lv:Dt->Dt->Ms->DQ->Prop
 | .int i,.int j,M,q=>q (.bl (decide (i=j))) M
 | .str i,.str j,M,q=>q (.bl (decide (i=j))) M
 | .bl i,.bl j,M,q=>q (.bl (decide (i=j))) M
 | .tup a,.tup b,M,q=>match iu a,iu b with
  | some us,some vs=>q (.bl (nB us vs)) M
  | _,_=>False
 | _,_,_,_=>False
def Jn:Dt->Dt->Ms->DQ->Prop
 | .int i,.int j,M,q=>q (.bl (!decide (i=j))) M
 | .str i,.str j,M,q=>q (.bl (!decide (i=j))) M
 | .bl i,.bl j,M,q=>q (.bl (!decide (i=j))) M
 | .tup a,.tup b,M,q=>match iu a,iu b with
  | some us,some vs=>q (.bl (!nB us vs)) M
  | _,_=>False
 | _,_,_,_=>False
def M6:Dt->Dt->Ms->DQ->Prop
 | .aE,.aE,M,q=>q (.bl true) M
 | .bl _,.aE,M,q=>q (.bl false) M
 | .int _,.aE,M,q=>q (.bl false) M
 | .str _,.aE,M,q=>q (.bl false) M
 | .tup _,.aE,M,q=>q (.bl false) M
 | .lst _,.aE,M,q=>q (.bl false) M
 | _,_,_,_=>False
def uT:Dt->Dt->Ms->DQ->Prop
 | .aE,.aE,M,q=>q (.bl false) M
 | .bl _,.aE,M,q=>q (.bl true) M
 | .int _,.aE,M,q=>q (.bl true) M
 | .str _,.aE,M,q=>q (.bl true) M
 | .tup _,.aE,M,q=>q (.bl true) M
 | .lst _,.aE,M,q=>q (.bl true) M
 | _,_,_,_=>False
section
variable{K:tf}
def ltD:ou K (zH λi j=>.bl (decide (i < j))) WY:=by
 intro G0 L0 H0 G L M H v1 v2 d1 d2 q e r n1 n2 h;unfold WY at h;split at h
 ·exact⟨_,_,n1,n2,bR e r h⟩
 ·exact h.elim
def leD:ou K (zH λi j=>.bl (decide (i<=j))) Wf:=by
 intro G0 L0 H0 G L M H v1 v2 d1 d2 q e r n1 n2 h;unfold Wf at h;split at h
 ·exact⟨_,_,n1,n2,bR e r h⟩
 ·exact h.elim
def gtD:ou K (zH λi j=>.bl (decide (j < i))) Ye:=by
 intro G0 L0 H0 G L M H v1 v2 d1 d2 q e r n1 n2 h;unfold Ye at h;split at h
 ·exact⟨_,_,n1,n2,bR e r h⟩
 ·exact h.elim
def geD:ou K (zH λi j=>.bl (decide (j<=i))) Zo:=by
 intro G0 L0 H0 G L M H v1 v2 d1 d2 q e r n1 n2 h;unfold Zo at h;split at h
 ·exact⟨_,_,n1,n2,bR e r h⟩
 ·exact h.elim
def kT{p q:Prop} [Decidable p] [Decidable q](h:p↔q):decide p=decide q:=decide_eq_decide.mpr h
def Vb:ou K (λx y H Q=>rEq x y H Q\/U6 K x y H Q) Lv:=by
 intro G0 L0 H0 G L M H v1 v2 d1 d2 q e r n1 n2 h;unfold Lv at h;split at h
 ·rename_i i j;cases n1;cases n2;exact .inl ⟨rfl,fin_same (d:=.bl _) e r (by show V.bl _=V.bl _;rw[kT (p:=V.int i=V.int j) (q:=i=j) ⟨λz=>V.int.inj z,λz=>by rw[z]⟩]) h⟩
 ·rename_i i j;cases n1;cases n2;exact .inl ⟨rfl,fin_same (d:=.bl _) e r (by show V.bl _=V.bl _;rw[kT (p:=V.str i=V.str j) (q:=i=j) ⟨λz=>V.str.inj z,λz=>by rw[z]⟩]) h⟩
 ·rename_i i j;cases n1;cases n2;exact .inl ⟨rfl,fin_same (d:=.bl _) e r (by show V.bl _=V.bl _;rw[kT (p:=V.bl i=V.bl j) (q:=i=j) ⟨λz=>V.bl.inj z,λz=>by rw[z]⟩]) h⟩
 ·rename_i a b;have⟨p1,w1,rfl,e1,m1⟩:=n1;have⟨p2,w2,rfl,e2,m2⟩:=n2;split at h
  ·rename_i us vs h1 h2;have⟨rfl,a2⟩:=fV h1 m1;have⟨rfl,b2⟩:=fV h2 m2;exact .inr ⟨p1,p2,_,_,rfl,rfl,.inl (.inl (r.sub _ _ e1)),.inl (.inl (r.sub _ _ e2)),a2,b2,bR e r h⟩
  ·exact h.elim
 ·exact h.elim
def Y5:ou K (λx y H Q=>rNe x y H Q\/UT K x y H Q) Jn:=by
 intro G0 L0 H0 G L M H v1 v2 d1 d2 q e r n1 n2 h;unfold Jn at h;split at h
 ·rename_i i j;cases n1;cases n2;exact .inl ⟨rfl,fin_same (d:=.bl _) e r (by show V.bl _=V.bl _;rw[kT (p:=V.int i=V.int j) (q:=i=j) ⟨λz=>V.int.inj z,λz=>by rw[z]⟩]) h⟩
 ·rename_i i j;cases n1;cases n2;exact .inl ⟨rfl,fin_same (d:=.bl _) e r (by show V.bl _=V.bl _;rw[kT (p:=V.str i=V.str j) (q:=i=j) ⟨λz=>V.str.inj z,λz=>by rw[z]⟩]) h⟩
 ·rename_i i j;cases n1;cases n2;exact .inl ⟨rfl,fin_same (d:=.bl _) e r (by show V.bl _=V.bl _;rw[kT (p:=V.bl i=V.bl j) (q:=i=j) ⟨λz=>V.bl.inj z,λz=>by rw[z]⟩]) h⟩
 ·rename_i a b;have⟨p1,w1,rfl,e1,m1⟩:=n1;have⟨p2,w2,rfl,e2,m2⟩:=n2;split at h
  ·rename_i us vs h1 h2;have⟨rfl,a2⟩:=fV h1 m1;have⟨rfl,b2⟩:=fV h2 m2;exact .inr ⟨p1,p2,_,_,rfl,rfl,.inl (.inl (r.sub _ _ e1)),.inl (.inl (r.sub _ _ e2)),a2,b2,bR e r h⟩
  ·exact h.elim
 ·exact h.elim
def ZG:ou K (λx y H Q=>y= .aE/\Q (.bl (decide (x= .aE))) H) M6:=by
 intro G0 L0 H0 G L M H v1 v2 d1 d2 q e r n1 n2 h;unfold M6 at h;split at h
 ·cases n1;exact⟨n2,fin_same (d:=.bl true) e r (by show V.bl _=V.bl _;rw[aaO rfl]) h⟩
 ·cases n1;exact⟨n2,fin_same (d:=.bl false) e r (by show V.bl _=V.bl _;rw[aat nofun]) h⟩
 ·cases n1;exact⟨n2,fin_same (d:=.bl false) e r (by show V.bl _=V.bl _;rw[aat nofun]) h⟩
 ·cases n1;exact⟨n2,fin_same (d:=.bl false) e r (by show V.bl _=V.bl _;rw[aat nofun]) h⟩
 ·have⟨p1,w1,rfl,_⟩:=n1;exact⟨n2,fin_same (d:=.bl false) e r (by show V.bl _=V.bl _;rw[aat nofun]) h⟩
 ·have⟨p1,w1,rfl,_⟩:=n1;exact⟨n2,fin_same (d:=.bl false) e r (by show V.bl _=V.bl _;rw[aat nofun]) h⟩
 ·exact h.elim
def O2:ou K (λx y H Q=>y= .aE/\Q (.bl (!decide (x= .aE))) H) uT:=by
 intro G0 L0 H0 G L M H v1 v2 d1 d2 q e r n1 n2 h;unfold uT at h;split at h
 ·cases n1;exact⟨n2,fin_same (d:=.bl false) e r (by show V.bl _=V.bl _;rw[aaO rfl];rfl) h⟩
 ·cases n1;exact⟨n2,fin_same (d:=.bl true) e r (by show V.bl _=V.bl _;rw[aat nofun];rfl) h⟩
 ·cases n1;exact⟨n2,fin_same (d:=.bl true) e r (by show V.bl _=V.bl _;rw[aat nofun];rfl) h⟩
 ·cases n1;exact⟨n2,fin_same (d:=.bl true) e r (by show V.bl _=V.bl _;rw[aat nofun];rfl) h⟩
 ·have⟨p1,w1,rfl,_⟩:=n1;exact⟨n2,fin_same (d:=.bl true) e r (by show V.bl _=V.bl _;rw[aat nofun];rfl) h⟩
 ·have⟨p1,w1,rfl,_⟩:=n1;exact⟨n2,fin_same (d:=.bl true) e r (by show V.bl _=V.bl _;rw[aat nofun];rfl) h⟩
 ·exact h.elim
end
section
variable{X:Cx}{R:St->XK}{a b c:Expr}{ta tb:DE}{pos:Pos}
def Pc(ja:JE X R a ta)(jb:JE X R b tb):JE X R (.Compare a [.Lt] [b] pos) (iW WY ta tb):=vq Ig ltD ja jb (dZ _)
def CS(ja:JE X R a ta)(jb:JE X R b tb):JE X R (.Compare a [.LtE] [b] pos) (iW Wf ta tb):=vq KJ leD ja jb (dZ _)
def Qj{k:Nat}(hr:bD k X.A)(ja:JE X R a ta)(jb:JE X R b tb):JE X R (.Compare a [.Eq] [b] pos) (iW Lv ta tb):=vq (OC.or (Ib hr.C_)) Vb ja jb (dZ _)
def Qa(ja:JE X R a ta)(jb:JE X R b tb):JE X R (.Compare a [.IsNot] [b] pos) (iW uT ta tb):=vq E7 O2 ja jb (dZ _)
def sf(ja:JE X R a ta)(jb:JE X R b tb):JT X R (.Compare a [.Lt] [b] pos) (lE (iW WY ta tb)):=fB Ig ltD ja jb (dZ _)
def OM(ja:JE X R a ta)(jb:JE X R b tb):JT X R (.Compare a [.LtE] [b] pos) (lE (iW Wf ta tb)):=fB KJ leD ja jb (dZ _)
def zd(ja:JE X R a ta)(jb:JE X R b tb):JT X R (.Compare a [.Gt] [b] pos) (lE (iW Ye ta tb)):=fB VN gtD ja jb (dZ _)
def Ox(ja:JE X R a ta)(jb:JE X R b tb):JT X R (.Compare a [.GtE] [b] pos) (lE (iW Zo ta tb)):=fB Vx geD ja jb (dZ _)
def eI{k:Nat}(hr:bD k X.A)(ja:JE X R a ta)(jb:JE X R b tb):JT X R (.Compare a [.Eq] [b] pos) (lE (iW Lv ta tb)):=fB (OC.or (Ib hr.C_)) Vb ja jb (dZ _)
def s_{k:Nat}(hr:bD k X.A)(ja:JE X R a ta)(jb:JE X R b tb):JT X R (.Compare a [.NotEq] [b] pos) (lE (iW Jn ta tb)):=fB (Vf.or (QA hr.C_)) Y5 ja jb (dZ _)
def Bw(ja:JE X R a ta)(jb:JE X R b tb):JT X R (.Compare a [.Is] [b] pos) (lE (iW M6 ta tb)):=fB BV ZG ja jb (dZ _)
def xY(ja:JE X R a ta)(jb:JE X R b tb):JT X R (.Compare a [.IsNot] [b] pos) (lE (iW uT ta tb)):=fB E7 O2 ja jb (dZ _)
end
def fG(M:Ms):Dt->Option (List Dt)
 | .lst xs=>some xs
 | .tup xs=>some xs
 | .ji ns=>some (ns.map .int)
 | .kt xs=>some xs
 | .loc k=>match M[k]? with
  | some (.lst xs)=>some xs
  | _=>none
 | _=>none
def qD{K:tf}{G:Hp}{L:List Addr}{M:Ms}{H:Hp}{d:Dt}{v:V}{xs:List Dt}(r:Rl K G L M H)(n:Den K G L d v)(h:fG M d=some xs):∃a vs,v= .ref a/\(fU K H a vs\/mZ K H a vs)/\Ν K G L xs vs:=by
 cases d with
 | lst ds=>cases h;have⟨a,vs,rfl,e,m⟩:=n;exact⟨a,vs,rfl,.inl (.of (r.sub _ _ e)),m⟩
 | tup ds=>cases h;have⟨a,vs,rfl,e,m⟩:=n;exact⟨a,vs,rfl,.inr (.of (r.sub _ _ e)),m⟩
 | kt ds=>cases h;have⟨a,vs,rfl,e,m⟩:=n;exact⟨a,vs,rfl,.inr (r.sub.S4 e),m⟩
 | ji ns=>cases h;have⟨a,rfl,e⟩:=n;exact⟨a,_,rfl,.inl (r.sub.seq e),iU⟩
 | loc k=>
  have⟨a,rfl,e⟩:=n;have h:(match M[k]? with| some (.lst xs)=>some xs| _=>none)=some xs:=h;split at h
  ·rename_i ys hm;cases h;have⟨_,vs,e1,m1⟩:=r.fm k a _ e hm;exact⟨a,vs,rfl,.inl (.of e1),m1⟩
  ·cases h
 | _=>cases h
def Mx{K:tf}{G:Hp}{L:List Addr}{ds:List Dt}{vs:List V}{i:Int}{d:Dt}(n:Ν K G L ds vs)(h:ki ds i=some d):∃v,ki vs i=some v/\Den K G L d v:=by
 unfold ki at h⊢;rw[<-n.length];cases q:Jg ds.length i with
 | none=>rw[q]at h;cases h
 | some j=>
  rw[q]at h;have⟨v,e,m⟩:=n.get h;exact⟨v,e,m⟩
def fo:Dt->Dt->Ms->DQ->Prop
 | .str z,.int i,M,q=>z.length<=sizeLine/\match ki z.cps.toList i with
  | some c=>q (.str ⟨#[c]⟩) M
  | none=>False
 | d,.int i,M,q=>match fG M d with
  | some xs=>(match ki xs i with
   | some y=>q y M
   | none=>False)
  | none=>False
 | _,_,_,_=>False
def gK:List Dt->Ms->DQ->Prop
 | [.str z],M,q=>z.length<=sizeLine/\q (.int z.length) M
 | [d],M,q=>match fG M d with
  | some xs=>q (.int xs.length) M
  | none=>False
 | _,_,_=>False
section
variable{K:tf}
def ixD:ou K (rIx K) fo:=by
 intro G0 L0 H0 G L M H v1 v2 d1 d2 q e r n1 n2 h;unfold fo at h;split at h
 ·rename_i z i;split at h
  ·rename_i c hc;exact .inr (.inr ⟨z,i,c,n1,n2,h.1,hc,bR e r h.2⟩)
  ·exact h.2.elim
 ·rename_i d i _;split at h
  ·rename_i xs hx;split at h
   ·rename_i y hy;have⟨a,vs,rfl,hs,m⟩:=qD r n1 hx;have⟨v,e1,m1⟩:=Mx m hy;rcases hs with hs| hs
    ·exact .inl ⟨a,vs,i,v,rfl,n2,hs,e1,fin_same e r m1 h⟩
    ·exact .inr (.inl ⟨a,vs,i,v,rfl,n2,hs,e1,fin_same e r m1 h⟩)
   ·exact h.elim
  ·exact h.elim
 ·exact h.elim
def X6:FX K (λxs H Q=>(∃z,xs=[V.str z]/\z.length<=sizeLine/\Q (.int z.length) H)\/(∃p ys,xs=[V.ref p]/\(fU K H p ys\/mZ K H p ys)/\Q (.int ys.length) H)) gK:=by
 intro G0 L0 H0 G L M H vs ds q e r n h;unfold gK at h;split at h
 ·rename_i z;have⟨v,rfl,n1⟩:=bx n;cases n1;exact .inl ⟨z,rfl,h.1,bR e r h.2⟩
 ·rename_i d _;have⟨v,rfl,n1⟩:=bx n;split at h
  ·rename_i xs hx;have⟨a,ws,rfl,hs,m⟩:=qD r n1 hx;exact .inr ⟨a,ws,rfl,hs,fin_same (d:=.int xs.length) e r (by show V.int _=V.int _;rw[m.length]) h⟩
  ·exact h.elim
 ·exact h.elim
end
section
variable{X:Cx}{R:St->XK}{a b c:Expr}{ta tb:DE}{pos:Pos}
def Τ(ja:JE X R a ta)(jb:JE X R b tb)(hs:vT b:=by exactλ_ _=>rfl):JE X R (.Subscript a b pos) (iW fo ta tb):=V1 RG ixD ja jb hs
variable{x:Str}{p:Pos}{e:Expr}{es:List Expr}{t:DA}{id T:String}{r:List V->Hp->VK->Prop}{f:List Dt->Ms->DQ->Prop}
def gX(hc:dG X (.builtin id) r)(cd:FX X.K r f)(hm:X.mg x=none)(hv:bootBuiltins x=some (.builtin id))(ha:JA X R (e::es) t)(hg:Gl X x:=by rfl)(hn:x≠"__name__":=by decide)(pB:(x==("__debug__":Str))=false:=by decide)
  (he:starEach (e::es) X.env=(false,eval e X.env)::starEach es X.env:=by rfl) (dN:(backTo pos (starEach es X.env)).any (·.1)=false:=by rfl):JE X R (.Call (.Name x p) (e::es) [] pos) (CI f t):=
 .of (Ko hc hg hm hv ha hn pB he dN) λσ H G L ρ M q x r n h hx=>Oe cd r n h hx
def yZ(hc:dG X (.type T) r)(cd:FX X.K r f)(hm:X.mg x=none)(hv:bootBuiltins x=some (.type T))(ha:JA X R (e::es) t)(hg:Gl X x:=by rfl)(hn:x≠"__name__":=by decide)(pB:(x==("__debug__":Str))=false:=by decide)
  (he:starEach (e::es) X.env=(false,eval e X.env)::starEach es X.env:=by rfl) (dN:(backTo pos (starEach es X.env)).any (·.1)=false:=by rfl):JE X R (.Call (.Name x p) (e::es) [] pos) (CI f t):=
 .of (Gy hc hg hm hv ha hn pB he dN) λσ H G L ρ M q x r n h hx=>Oe cd r n h hx
def dc(hm:X.mg "len"=none)(ha:JA X R [e] t)(he:starEach [e] X.env=(false,eval e X.env)::starEach [] X.env:=by rfl)(dN:(backTo pos (starEach [] X.env)).any (·.1)=false:=by rfl)(hg:Gl X "len":=by rfl):JE X R (.Call (.Name "len" p) [e] [] pos) (CI gK t):=
 gX (x5.or wj) X6 hm PySem.boot_len ha hg @_ @_ he dN
end
def R0:List Dt->Ms->DQ->Prop
 | [.int i],M,q=>q (.int (if i < 0 then -i else i)) M
 | _,_,_=>False
def PL:List Dt->Ms->DQ->Prop
 | [d],M,q=>∃bs:List Bool,fG M d=some (bs.map Dt.bl)/\(∀k,d≠ .kt k)/\(∀k,d≠ .tup k)/\q (.bl (bs.any id)) M
 | _,_,_=>False
def Ot:Dt->Option Value
 | .aE=>some (.type "NoneType")
 | .bl _=>some (.type "bool")
 | .int _=>some (.type "int")
 | .str _=>some (.type "str")
 | .lst _=>some (.type "list")
 | .tup _=>some (.type "tuple")
 | _=>none
def QC:Dt->Option Value
 | .ty T=>some (.type T)
 | .ref C=>some (.ref C)
 | _=>none
section
variable{K:tf}
def u_{G:Hp}{L:List Addr}:∀{l:List Str},Ν K G L (l.map Dt.str) (l.map V.str)
 | []=>rfl
 | _::_=>⟨_,_,rfl,rfl,u_⟩
def nG{G:Hp}{L:List Addr}:∀{bs:List Bool} {vs:List V},Ν K G L (bs.map Dt.bl) vs->vs=bs.map V.bl
 | [],_,h=>h
 | b::bs,_,⟨v,r,e,h1,h2⟩=>by subst e;rw[nG h2,show v=V.bl b from h1];rfl
def ZZ:FX K (λxs H Q=>∃i,xs=[V.int i]/\Q (.int (if i < 0 then -i else i)) H) R0:=by
 intro G0 L0 H0 G L M H vs ds q e r n h;unfold R0 at h;split at h
 ·rename_i i;have⟨v,rfl,n1⟩:=bx n;cases n1;exact⟨i,rfl,bR e r h⟩
 ·exact h.elim
def Xj:FX K (Tp K) PL:=by
 intro G0 L0 H0 G L M H vs ds q e r n h;unfold PL at h;split at h
 ·rename_i d;have⟨bs,hs,nk,nt,h⟩:=h;have⟨v,rfl,n1⟩:=bx n;cases d with
  | lst xs=>
   cases hs;have⟨a,ws,rfl,e1,m⟩:=n1;exact⟨a,bs,rfl,by rw[<-nG m];exact .of (r.sub _ _ e1),bR e r h⟩
  | loc k=>
   have⟨a,rfl,e1⟩:=n1;have hs:(match M[k]? with| some (.lst xs)=>some xs| _=>none)=some (bs.map Dt.bl):=hs;split at hs
   ·rename_i ys hm;cases hs;have⟨_,ws,e2,m⟩:=r.fm k a _ e1 hm;exact⟨a,bs,rfl,by rw[<-nG m];exact .of e2,bR e r h⟩
   ·cases hs
  | tup xs=>exact aaK rfl (nt xs)
  | kt xs=>exact aaK rfl (nk xs)
  | ji ns=>
   have e0:ns.map Dt.int=bs.map Dt.bl:=aav hs;cases ns with
   | nil=>
    cases bs with
    | nil=>have⟨a,rfl,e1⟩:=n1;exact⟨a,[],rfl,r.sub.seq e1,bR e r h⟩
    | cons _ _=>cases e0
   | cons _ _=>
    cases bs with
    | nil=>cases e0
    | cons _ _=>cases e0
  | _=>cases hs
 ·exact h.elim
def Hi{G:Hp}{L:List Addr}{M:Ms}{H:Hp}{d:Dt}{v:V}{t:Value}(r:Rl K G L M H)(n:Den K G L d v)(h:Ot d=some t):jI K H v t:=by
 cases d with
 | aE=>cases h;cases n;exact .aE
 | bl b=>cases h;cases n;exact .bl _
 | int i=>cases h;cases n;exact .int _
 | str x=>cases h;cases n;exact .str _
 | lst xs=>cases h;have⟨a,ws,rfl,e,_⟩:=n;exact .lst (r.sub _ _ e)
 | tup xs=>cases h;have⟨a,ws,rfl,e,_⟩:=n;exact .tup (r.sub _ _ e)
 | _=>cases h
def Ec{G:Hp}{L:List Addr}{d:Dt}{v:V}{t:Value}(n:Den K G L d v)(h:QC d=some t):B_ v=some t:=by
 cases d with
 | ty T=>cases n;exact h
 | ref C=>cases n;exact h
 | _=>cases h
end
section
variable{X:Cx}{R:St->XK}{o a e e1 e2:Expr}{es:List Expr}{to ta te:DE}{t:DA}{name:Str}{apos aV pos p p2:Pos}{T id:String}
def Gw:bootBuiltins "int"=some (.type "int"):=by decide+kernel
def Gn:bootBuiltins "abs"=some (.builtin "abs"):=by decide+kernel
def G6:bootBuiltins "any"=some (.builtin "any"):=by decide+kernel
def Hl:bootBuiltins "max"=some (.builtin "max"):=by decide+kernel
def iV:bootBuiltins "isinstance"=some (.builtin "isinstance"):=by decide+kernel
def C5:bootBuiltins "bool"=some (.type "bool"):=by decide+kernel
def zg:bootBuiltins "tuple"=some (.type "tuple"):=by decide+kernel
def sF:bootBuiltins "list"=some (.type "list"):=by decide+kernel
def KS{x:Str}{T:String}(hm:X.mg x=none)(hv:bootBuiltins x=some (.type T))(hg:Gl X x:=by rfl)(hn:x≠"__name__":=by decide)(hd:(x==("__debug__":Str))=false:=by decide):JE X R (.Name x p) (dC (.ty T)):=OO (M_ (v:=.ty T) hg hm hv rfl hn hd) λ_ _=>rfl
def hX{x:Str}{C:Addr}(hm:X.mg x=some (.ref C))(hg:Gl X x:=by rfl)(hd:(x==("__debug__":Str))=false:=by decide):JE X R (.Name x p) (dC (.ref C)):=OO (yq (v:=.ref C) hg hm rfl hd) λ_ _=>rfl
def qH{x:Str}{z:Int}(hm:∃tk,X.mg x=some (.int z tk))(hg:Gl X x:=by rfl)(hd:(x==("__debug__":Str))=false:=by decide):JE X R (.Name x p) (dC (.int z)):=let ⟨tk,hm⟩:=hm;OO (yq (v:=.int z) hg hm ⟨tk,rfl⟩ hd) λ_ _=>rfl
end
def Wl(x:Str):It:=⟨λi _=>i < x.cps.size,λi H v H'=>H'=H/\∃c,x.cps[i]? =some c/\v= .str ⟨#[c]⟩,λi _=>x.cps.size<=i⟩
def GG{P:Program}{w:World}{K:tf}{tg:Expr}(x:Str)(t:Tok)(it:Addr):Turn P w K tg (Wl x) [it] it (λi h=>h.IsStrIter it "str_ascii_iterator" x t i) where
 mem:=by simp
 obj:=λi h st b hb=>by
  have e:b=it:=by simpa using hb
  subst e;have⟨o,e,c,d⟩:=st;exact⟨o,e,λv z=>by rw[d]at z;cases z⟩
 keep:=λi h h' st k=>let ⟨o,ho,r⟩:=st;⟨o,k it (by simp) o ho,r⟩
 item:=by intro X hP hw hK hc i δ s σ H E I hf st hg;subst hP hw hK;have⟨f0,f1,f2,f3,f4,f5⟩:=hf it (by simp);have hg:i < x.cps.size:=hg;refine wpAny_pyNext_ascii_item st (c:=x.cps[i]) (by simp[hg]) λh' sY sb=>?_;have I1:Inv X δ σ H {s with heap:=h',toks:=s.toks+1}:=I.turned (λb o hb e=>(sb.2 b hb).trans e) f0 f1 f3 f4 f5;have⟨o,e,c,d⟩:=id sY;exact⟨_,rfl,vw (s:={s with heap:=h',toks:=s.toks+1}) e c d @_ ⟨.str ⟨#[x.cps[i]]⟩,H,I1,⟨_,rfl⟩,⟨rfl,_,by simp[hg],rfl⟩,sY,λb hb=>(hf b hb).1⟩⟩
 done:=by intro X hP hw hK hc i δ s σ H E I hf st hg;subst hP hw hK;have⟨f0,f1,f2,f3,f4,f5⟩:=hf it (by simp);have hg:x.cps.size<=i:=hg;exact wpAny_pyNext_ascii_end (I.ok.hd hc) st (by simp;omega) λh' eb=>⟨rfl,I.turned (t':=s.toks) (λb o hb e=>eb b o hb e) f0 f1 f3 f4 f5⟩
 self:=λ_ _ _ _ _ st h=>wpAny_pyIter_striter_ascii st h
def FU{P:Program}{w:World}{K:tf}{tg:Expr}(x:Str)(t:Tok)(it:Addr):Turn P w K tg (Wl x) [it] it (λi h=>h.IsStrIter it "str_iterator" x t i) where
 mem:=by simp
 obj:=λi h st b hb=>by
  have e:b=it:=by simpa using hb
  subst e;have⟨o,e,c,d⟩:=st;exact⟨o,e,λv z=>by rw[d]at z;cases z⟩
 keep:=λi h h' st k=>let ⟨o,ho,r⟩:=st;⟨o,k it (by simp) o ho,r⟩
 item:=by intro X hP hw hK hc i δ s σ H E I hf st hg;subst hP hw hK;have⟨f0,f1,f2,f3,f4,f5⟩:=hf it (by simp);have hg:i < x.cps.size:=hg;refine wpAny_pyNext_wide_item st (c:=x.cps[i]) (by simp[hg]) λh' sY sb=>?_;have I1:Inv X δ σ H {s with heap:=h',toks:=s.toks+1}:=I.turned (λb o hb e=>(sb.2 b hb).trans e) f0 f1 f3 f4 f5;have⟨o,e,c,d⟩:=id sY;exact⟨_,rfl,vw (s:={s with heap:=h',toks:=s.toks+1}) e c d @_ ⟨.str ⟨#[x.cps[i]]⟩,H,I1,⟨_,rfl⟩,⟨rfl,_,by simp[hg],rfl⟩,sY,λb hb=>(hf b hb).1⟩⟩
 done:=by intro X hP hw hK hc i δ s σ H E I hf st hg;subst hP hw hK;have⟨f0,f1,f2,f3,f4,f5⟩:=hf it (by simp);have hg:x.cps.size<=i:=hg;exact wpAny_pyNext_wide_end (I.ok.hd hc) st (by simp;omega) λh' eb=>⟨rfl,I.turned (t':=s.toks) (λb o hb e=>eb b o hb e) f0 f1 f3 f4 f5⟩
 self:=λ_ _ _ _ _ st h=>wpAny_pyIter_striter_wide st h
def wt(z:Str):List Dt:=z.cps.toList.map λc=>Dt.str ⟨#[c]⟩
def R9{K:tf}{G:Hp}{L:List Addr}{z:Str}:Yl K (Wl z) (wt z) G L where
 go :=λi G1 L1 M1 H1 d g l r e=>by
  unfold wt at e;rw[aap]at e;cases q:z.cps.toList[i]? with
  | none=>rw[q]at e;cases e
  | some c=>
   rw[q]at e;cases e;have hi:i < z.cps.size:=by have:=(aai.mp q).1;simpa using this
   refine⟨hi,λv' H' xz=>?_⟩;have⟨eH,c',e',y⟩:=xz;subst eH y;have:c'=c:=by rw[<-Array.getElem?_toList,q]at e';exact(aav e').symm
   subst this;exact⟨G1,.refl _ _ _,r,rfl⟩
 stop:=λi G1 L1 M1 H1 g l r e=>by unfold wt at e;show z.cps.size<=i;simpa using e
def VD(M:Ms):Dt->Option (List Dt)
 | .lst xs=>some xs
 | .tup xs=>some xs
 | .ji ns=>some (ns.map .int)
 | .kt xs=>some xs
 | .str z=>some (wt z)
 | _=>none
section
variable{X:Cx}{R:St->XK}{tg e:Expr}{te:DE}
def xJ{δ:List (Addr×Obj)}{σ:St}{H:Hp}{s:Shared}{a:Addr}{vs:List V}{Q:It->Hp->Prop}{E:Value->Shared->Prop}(I:Inv X δ σ H s)(hq:fU X.K H a vs)(q:Q (WG X.K a) H):wpAny (model X.prog X.w) X.A (pyIter (.ref a)) (LU X δ σ tg Q) E s:=by
 have⟨its,rv,p,hz⟩:=I.list hq;refine wpAny_pyIter_list p.isList ?_;refine⟨s.heap.objs.size,[s.heap.objs.size],_,_,H,rfl,I.kept (t':=s.toks) λb o e=>aal _ e,FE a _,⟨_,aaP _ rfl,rfl,rfl⟩,λb hb=>?_,q⟩;have e:b=s.heap.objs.size:=by simpa using hb
 subst e;exact I.Cv (aao _) (I.ay.fresh (aao _))
def K5{δ:List (Addr×Obj)}{σ:St}{H:Hp}{s:Shared}{a:Addr}{vs:List V}{Q:It->Hp->Prop}{E:Value->Shared->Prop}(I:Inv X δ σ H s)(hq:mZ X.K H a vs)(q:Q (Xp X.K a) H):wpAny (model X.prog X.w) X.A (pyIter (.ref a)) (LU X δ σ tg Q) E s:=by
 have⟨its,rv,p,hz⟩:=I.tuple hq;refine wpAny_pyIter_tuple (show s.heap.IsTuple a its.toArray from p) ?_;refine⟨s.heap.objs.size,[s.heap.objs.size],_,_,H,rfl,I.kept (t':=s.toks) λb o e=>aal _ e,Bv a _,⟨_,aaP _ rfl,rfl,rfl⟩,λb hb=>?_,q⟩;have e:b=s.heap.objs.size:=by simpa using hb
 subst e;exact I.Cv (aao _) (I.ay.fresh (aao _))
def PU{δ:List (Addr×Obj)}{σ:St}{H:Hp}{s:Shared}{z:Str}{t:Tok}{Q:It->Hp->Prop}{E:Value->Shared->Prop}(I:Inv X δ σ H s)(q:Q (Wl z) H):wpAny (model X.prog X.w) X.A (pyIter (.str z t)) (LU X δ σ tg Q) E s:=by
 have fp:∀b∈[s.heap.objs.size],tO X δ H b:=λb hb=>by
  have e:b=s.heap.objs.size:=by simpa using hb
  subst e;exact I.Cv (aao _) (I.ay.fresh (aao _))
 cases ha:z.cps.all (· < 128)
 ·exact wpAny_pyIter_wide ha ⟨s.heap.objs.size,[s.heap.objs.size],_,_,H,rfl,I.kept (t':=s.toks) λb o e=>aal _ e,FU z t _,⟨_,aaP _ rfl,rfl,rfl⟩,fp,q⟩
 ·exact wpAny_pyIter_ascii ha ⟨s.heap.objs.size,[s.heap.objs.size],_,_,H,rfl,I.kept (t':=s.toks) λb o e=>aal _ e,GG z t _,⟨_,aaP _ rfl,rfl,rfl⟩,fp,q⟩
end
def RF:DF:=λds _ q _=>∃ns:List Int,ds=[.ji ns]/\ns.length<=63/\∀M',q (.bl true) M'
def y4(K:tf):Sp:=λvs H Q _=>∃(a:Addr) (ns:List Int),vs=[.ref a]/\fU K H a (ns.map V.int)/\ns.length<=63/\∀H',Q (.bl true) H'
def PC{P:Program}{w:World}{K:tf}{mg:Str->Option Value}{base:Heap}{k:Nat}{f:Addr}{fd:FuncData}{x:Str}(F:ah P w K mg base (bM P w) k f fd [x] (cZ K RF)):ah P w K mg base Wk k f fd [x] (y4 K):=by
 have sp:∀vs H Q E,y4 K vs H Q E->cZ K RF vs H Q E0:=by rintro vs H Q E ⟨a,ns,rfl,hS,hl,hQ⟩;refine⟨H,[],[.ji ns],[],λd _=>d= .bl true,λ_ _ _=>False,⟨.refl _,rfl,List.nodup_nil,λk a m h=>by simp at h⟩,⟨_,_,rfl,⟨a,rfl,hS⟩,rfl⟩,⟨ns,rfl,hl,λ_=>rfl⟩,fun v H' ⟨d,G',L',M',_,_,n,e⟩=>?_,λ_ _ _ _ _ _ _ h=>h.elim⟩;subst e;rw[show v=V.bl true from n];exact hQ H'
 refine⟨λvs H Q E h=>F.len vs H Q E0 (sp vs H Q E h),λA outer s H args us vs Q E hr he hb hv h=>codeAny_mono (F.run A outer s H args us vs Q E0 hr he hb hv (sp vs H Q E h)) λr s' hq=>?_⟩;cases r with
 | error e=>
  have⟨_,_,_,_,_,_,_,_,hE⟩:=hq;exact hE.elim
 | ok fl=>cases fl <;> exact hq
def RN(c:DT)(tb:DS):DS:=λDn ρ M=>∃W:Nat->En->Ms->Prop,(∃m,W m ρ M)/\∀m ρ M,W m ρ M->
 c ρ M (λb M1=>(b=true->∃N:En->Ms->Prop,(∀ρ' M',N ρ' M'->∃m',m' < m/\W m' ρ' M')/\tb {Dn with nx:=N,ct:=N,bk:=Dn.nx} ρ M1)/\(b=false->Dn.nx ρ M1)) Dn.x
section
variable{X:Cx}{R:St->XK}{c a b:Expr}{body:List Stmt}{tc:DT}{tb:DS}{pos:Pos}
def nI(hc:JT X R c tc)(hb:AX X R body tb)(hp:PassesOwn (model X.prog X.w) X.A X.env X.xe:=by first| exact PassesOwn.never| exact PassesOwn.leaving):JS X R (.While c body [] pos) (RN tc tb):=.of (H_ hp hc hb) λσ H G L ρ M Dn rl n h hx=>by
 have⟨W,⟨m0,w0⟩,turn⟩:=h;refine⟨λm σ' H'=>eD X.K G L H (W m) σ' H',⟨m0,ρ,G,L,M,.refl _ _ _,rl,n,w0⟩,λm σ' H' xz=>?_⟩;have⟨ρ',G',L',M',e',r',n',w'⟩:=xz;refine⟨G',L',ρ',M',_,_,r',n',turn m ρ' M' w',hx.on e',λv H1 xz=>?_⟩;have⟨G1,L1,M1,e1,r1,h1⟩:=xz;cases v with
 | true=>
  have⟨N,hN,hb⟩:=h1.1 rfl;refine Fz ⟨eD X.K G L H N,fun σ2 H2 ⟨ρ2,G2,L2,M2,e2,r2,n2,h2⟩=>?_,?_⟩
  ·have⟨m',hm,w2⟩:=hN ρ2 M2 h2;exact⟨m',hm,ρ2,G2,L2,M2,e2,r2,n2,w2⟩
  ·have N5:=e'.trans e1;exact⟨G1,L1,ρ',M1,_,r1,n'.mono e1,hb,hx.on N5,⟨λ_ _ f=>eD.back N5 f,λ_ _ f=>Fin.back N5 f,λ_ _ f=>eD.back N5 f,λ_ _ f=>eD.back N5 f⟩⟩
 | false=>exact Gk ⟨ρ',G1,L1,M1,e'.trans e1,r1,n'.mono e1,h1.2 rfl⟩
end
section
variable{X:Cx}{R:St->XK}{e e2 o:Expr}{es:List Expr}{t:DA}{to ta tb:DE}{a b:Expr}{p pos apos aV:Pos}
def Lz(hm:X.mg "abs"=none)(ha:JA X R [e] t)(he:starEach [e] X.env=(false,eval e X.env)::starEach [] X.env:=by rfl)(dN:(backTo pos (starEach [] X.env)).any (·.1)=false:=by rfl)(hg:Gl X "abs":=by rfl):JE X R (.Call (.Name "abs" p) [e] [] pos) (CI R0 t):=
 gX K0 ZZ hm Gn ha hg @_ @_ he dN
def OE(hm:X.mg "any"=none)(ha:JA X R [e] t)(hc:X.calm=true:=by rfl)(he:starEach [e] X.env=(false,eval e X.env)::starEach [] X.env:=by rfl)(dN:(backTo pos (starEach [] X.env)).any (·.1)=false:=by rfl)(hg:Gl X "any":=by rfl):JE X R (.Call (.Name "any" p) [e] [] pos) (CI PL t):=
 gX (Kh hc) Xj hm G6 ha hg @_ @_ he dN
end
def vg{te:DE}{cs:En}{f:Dt->Dt}{M:Ms}{k:List Dt->Ms->Prop}:∀(xs acc:List Dt),(∀x∈xs,∀q:DQ,q (f x) M->te (some x::cs) M q iL)->k (acc++xs.map f) M->vH te cs xs acc M k
 | [],acc,_,h=>by rw[List.map_nil,aaW]at h;exact h
 | x::xs,acc,ht,h=>ht x List.mem_cons_self _ (vg xs (acc++[f x]) (λy hy=>ht y (List.mem_cons_of_mem _ hy)) (by simpa using h))
def Ζ{d y:Dt}{xs:List Dt}{i:Int}{M:Ms}{q:DQ}(hs:fG M d=some xs)(h:ki xs i=some y)(k:q y M):fo d (.int i) M q:=by
 cases d with
 | str z=>cases hs
 | _=>
  unfold fo;simp only[hs,h];exact k
def aJ{d:Dt}{xs:List Dt}{M:Ms}{q:DQ}(hs:fG M d=some xs)(k:q (.int xs.length) M):gK [d] M q:=by
 cases d with
 | str z=>cases hs
 | _=>
  unfold gK;simp only[hs];exact k
def bJ{α:Type}{x:α}{xs:List α}:ki (x::xs) 0=some x:=ag (j:=0) rfl
def Hu(bs:List Bool):(List.range bs.length).all (λi=>bs.getD i false)=bs.all id:=by
 induction bs with
 | nil=>rfl
 | cons b bs ih=>
  rw[aaL,abJ,abO,List.all_map,abO,<-ih];rfl
def Vi(K:tf):List V->Hp->VK->Prop:=λxs H Q=>∃(p:Addr) (bs:List Bool),xs=[.ref p]/\fU K H p (bs.map V.bl)/\Q (.bl (bs.all id)) H
section
variable{X:Cx}
def Jb (hc : X.calm = true) : dG X (.builtin "all") (Vi X.K) :=by
  intro δ s σ H xs us Q I r h;obtain⟨p,bs,rfl,hq,q⟩ :=h;obtain⟨u,rfl,r1⟩ :=lN r;cases r1;obtain⟨its,rv,pl,hz⟩ :=I.list hq;have PF :=xh rv;subst PF;refine call_all_walk (wpAny_pyIter_list pl.isList ?_);have lp : p < s.heap.objs.size :=by obtain⟨o,e,_⟩ :=pl.isList;exact aaq e
  refine⟨s.heap.objs.size,_,_,_,_,_,λi =>bs.getD i false,rfl,Walks.list (show X.A.in1.handled = none from I.ok.hd hc) s.heap.objs.size p (aaM lp) (bs.map Value.bool).toArray,⟨⟨_,aaP _ rfl,rfl,rfl⟩,pl.isList.at λo e =>aal _ e⟩,yV,λh' tk hk =>?_⟩;refine⟨.bl (bs.all id),H,I.kept λb o e =>hk b o (λz =>by have : b = s.heap.objs.size :=(by simpa using z);exact Nat.lt_irrefl _ (this ▸ Heap.lt_size e)) (Heap.get?_push_of_some _ e),?_,q⟩;rw[aaz,aah,Hu];rfl
end
def Pn:List Dt->Ms->DQ->Prop
 | [.lst xs],M,q=>∃bs:List Bool,xs=bs.map Dt.bl/\q (.bl (bs.all id)) M
 | _,_,_=>False
def Zb{K:tf}:FX K (Vi K) Pn:=by
 intro G0 L0 H0 G L M H vs ds q e r n h;unfold Pn at h;split at h
 ·rename_i xs;have⟨bs,rfl,h⟩:=h;have⟨v,rfl,n1⟩:=bx n;have⟨a,ws,rfl,e1,m⟩:=n1;exact⟨a,bs,rfl,by rw[<-nG m];exact .of (r.sub _ _ e1),bR e r h⟩
 ·exact h.elim
def Up(i j:Nat)(t:DE):DS:=λDn ρ M=>t ρ M (λd M1=>match d with
 | .tup [a,b]=>Dn.nx ((ρ.set i (some a)).set j (some b)) M1
 | _=>False) Dn.x
section
variable{X:Cx}{R:St->XK}{e o:Expr}{es:List Expr}{t:DA}{to te:DE}{p pos apos aV:Pos}
def Hn:bootBuiltins "all"=some (.builtin "all"):=by decide+kernel
def Of(hm:X.mg "all"=none)(ha:JA X R [e] t)(hc:X.calm=true:=by rfl)(he:starEach [e] X.env=(false,eval e X.env)::starEach [] X.env:=by rfl)(dN:(backTo pos (starEach [] X.env)).any (·.1)=false:=by rfl)(hg:Gl X "all":=by rfl):JE X R (.Call (.Name "all" p) [e] [] pos) (CI Pn t):=
 gX (Jb hc) Zb hm Hn ha hg @_ @_ he dN
variable{i j k:Nat}{tg:Expr}
def M7(he:JE X R e te)(hg:PG X tg (KA X.K 2 (nM (iD i) (nM (iD j) Lw))))(hs:swapsWithSole [tg] e pos.line X.env=pure false:=by rfl)(hw:swappedStores [tg] e X.env=pure none:=by rfl)
  (h1:(assignEach [tg] X.env).map (·.2)=[assign tg X.env]:=by rfl):JS X R (.Assign [tg] e pos) (Up i j te):=.of (HH he hg hs hw h1) λσ H G L ρ M Dn rl n h hx=>by
 refine⟨G,L,ρ,M,_,_,rl,n,h,hx,λv H1 xz=>?_⟩;have⟨d1,G1,L1,M1,e1,r1,n1,h1⟩:=xz
 (try dsimp only at h1)
 split at h1
 ·rename_i a b;have⟨p,vs,rfl,e,m⟩:=n1;have⟨v1,v2,rfl,m1,m2⟩:=iF m;exact⟨p,_,rfl,.inl (.inl (r1.sub _ _ e)),rfl,v1,_,rfl,v2,_,rfl,rfl,_,G1,L1,M1,e1,r1,((n.mono e1).set i m1).set j m2,h1⟩
 ·exact h1.elim
end
def gJ.unset{K:tf}{G:Hp}{L:List Addr}{ρ:En}{σ:St}(h:gJ K G L ρ σ)(i:Nat):gJ K G L (ρ.set i none) (σ.set i none):=by
 refine⟨by rw[aaX,aaX];exact h.len,λj d' e=>?_⟩;by_cases hj:i=j
 ·subst hj;have hl:i < ρ.length:=by have:=(aai.mp e).1;rwa[aaX]at this
  rw[aaU hl]at e;cases e
 ·rw[aa2 hj]at e;have⟨u,a,b⟩:=h.fm j d' e;exact⟨u,by rw[aa2 hj];exact a,b⟩
mutual
def Dt.under(n:Nat):Dt->Prop
 | .aE=>True
 | .bl _=>True
 | .int _=>True
 | .str _=>True
 | .tup ds=>Dt.bq n ds
 | .lst ds=>Dt.bq n ds
 | .obj _ _ ds=>Dt.bq n ds
 | .loc k=>k < n
 | .ref _=>True
 | .ty _=>True
 | .ji _=>True
 | .kt ds=>Dt.bq n ds
 | .exc _ _ ds=>Dt.bq n ds
 | .Su _ _ _ _ ds=>Dt.bq n ds
def Dt.bq(n:Nat):List Dt->Prop
 | []=>True
 | d::ds=>Dt.under n d/\Dt.bq n ds
end
def MO.under(n:Nat):MO->Prop
 | .lst ds=>Dt.bq n ds
 | .ins _ _ ds=>Dt.bq n ds
 | .lH _ ds=>Dt.bq n ds
 | .raw _=>True
mutual
inductive HB(n:Nat)(E:Ms):Dt->Dt->Prop
 | old {d:Dt} (h:d.under n):HB n E d d
 | tup {ds es:List Dt} (h:fY n E ds es):HB n E (.tup ds) (.tup es)
 | lst {ds es:List Dt} (h:fY n E ds es):HB n E (.lst ds) (.lst es)
 | obj {C:Addr} {ns:List Str} {ds es:List Dt} (h:fY n E ds es):HB n E (.obj C ns ds) (.obj C ns es)
 | Aa {k:Nat} {ds es:List Dt} (hk:n<=k) (e:E[k - n]? =some (.lst ds)) (h:fY n E ds es):HB n E (.loc k) (.lst es)
 | UY {k:Nat} {C:Addr} {ns:List Str} {ds es:List Dt} (hk:n<=k) (e:E[k - n]? =some (.ins C ns ds)) (h:fY n E ds es):HB n E (.loc k) (.obj C ns es)
inductive fY(n:Nat)(E:Ms):List Dt->List Dt->Prop
 | nil:fY n E [] []
 | cons {d e:Dt} {ds es:List Dt} (h:HB n E d e) (t:fY n E ds es):fY n E (d::ds) (e::es)
end
def fY.length{n:Nat}{E:Ms}:∀{ds es:List Dt},fY n E ds es->ds.length=es.length
 | [],es,h=>by cases h;rfl
 | d::ds,es,h=>by
  cases h with
  | cons h t=>rw[aaL,aaL,fY.length t]
def fY.old{n:Nat}{E:Ms}:∀{ds:List Dt},Dt.bq n ds->fY n E ds ds
 | [],_=>.nil
 | _::_,h=>.cons (.old h.1) (fY.old h.2)
section
variable{K:tf}{G G':Hp}{L0 t:List Addr}{n:Nat}
mutual
def vd(hn:L0.length=n)(g:dj G G'):∀(d:Dt) (v:V),d.under n->Den K G (L0++t) d v->Den K G' L0 d v
 | .aE,_,_,h=>h
 | .bl _,_,_,h=>h
 | .int _,_,_,h=>h
 | .str _,_,_,h=>h
 | .tup ds,_,u,⟨a,vs,e,h1,h2⟩=>⟨a,vs,e,g _ _ h1,bL hn g ds vs u h2⟩
 | .lst ds,_,u,⟨a,vs,e,h1,h2⟩=>⟨a,vs,e,g _ _ h1,bL hn g ds vs u h2⟩
 | .obj C ns ds,_,u,⟨a,dx,vs,e,h1,hl,h2⟩=>⟨a,dx,vs,e,g _ _ h1,hl,bL hn g ds vs u h2⟩
 | .loc k,_,u,⟨a,e,h1⟩=>⟨a,e,by
   have u:k < n:=u
   rwa[aaA (by rw[hn];exact u)]at h1⟩
 | .ref _,_,_,h=>h
 | .ty _,_,_,h=>h
 | .ji _,_,_,⟨a,e,h1⟩=>⟨a,e,g.seq h1⟩
 | .kt ds,_,u,⟨a,vs,e,h1,h2⟩=>⟨a,vs,e,g.S4 h1,bL hn g ds vs u h2⟩
 | .exc _ _ ds,_,u,⟨a,od,vs,e,h1,h2,h3,h4⟩=>⟨a,od,vs,e,g _ _ h1,h2.imp (λz=>z) (λ⟨dx,z1,z2⟩=>⟨dx,z1,g _ _ z2⟩),h3,bL hn g ds vs u h4⟩
 | .Su _ _ _ _ ds,_,u,⟨vs,e,h2,h3,h4⟩=>⟨vs,e,h2.imp (λz=>z) (λ⟨dx,z1,z2⟩=>⟨dx,z1,g _ _ z2⟩),h3,bL hn g ds vs u h4⟩
def bL(hn:L0.length=n)(g:dj G G'):∀(ds:List Dt) (vs:List V),Dt.bq n ds->Ν K G (L0++t) ds vs->Ν K G' L0 ds vs
 | [],_,_,h=>h
 | d::ds,_,u,⟨v,r,e,h1,h2⟩=>⟨v,r,e,vd hn g d v u.1 h1,bL hn g ds r u.2 h2⟩
end
def Hj{H:Hp}{a:Addr}(hn:L0.length=n)(g:dj G G'){m:MO}(u:m.under n)(h:Hz K G (L0++t) H a m):Hz K G' L0 H a m:=by
 cases m with
 | lst ds=>have⟨vs,e,h⟩:=h;exact⟨vs,e,bL hn g _ _ u h⟩
 | ins C ns ds=>have⟨dx,vs,e,hl,h⟩:=h;exact⟨dx,vs,e,hl,bL hn g _ _ u h⟩
 | lH ks ds=>have⟨vs,e,hl,h⟩:=h;exact⟨vs,e,hl,bL hn g _ _ u h⟩
 | raw u=>exact h
end
open Classical in
noncomputable def over(G H:Hp)(t:List Addr):Hp:=λb=>if b∈t then H b else G b
def Eg{G H:Hp}{t:List Addr}{b:Addr}(h:b∈t):over G H t b=H b:=by unfold over;rw[if_pos h]
def n6{G H:Hp}{t:List Addr}{b:Addr}(h:b∉t):over G H t b=G b:=by unfold over;rw[if_neg h]
section
variable{K:tf}{G:Hp}{L0 t:List Addr}{M0 E:Ms}{H:Hp}
def iB(r:Rl K G (L0++t) (M0++E) H):dj G (over G H t):=λb u e=>by
 by_cases hb:b∈t
 ·have⟨_,_,_,_,g,_⟩:=r.yu (a:=b) (aaH _ hb);rw[g]at e;cases e
 ·rw[n6 hb];exact e
def IJ(r:Rl K G (L0++t) (M0++E) H)(hn:L0.length=M0.length){k:Nat}{a:Addr}{m:MO}(hk:M0.length<=k)(e:(L0++t)[k]? =some a)(em:E[k - M0.length]? =some m):over G H t a=H a/\Hz K G (L0++t) H a m:=by
 have e2:(M0++E)[k]? =some m:=by rw[aaB hk];exact em
 have⟨_,q⟩:=r.fm k a m e e2;rw[aaB (by rw[hn];exact hk)]at e;exact⟨Eg (aar e),q⟩
def Me(r:Rl K G (L0++t) (M0++E) H)(hn:L0.length=M0.length){d d':Dt}(f:HB M0.length E d d'):∀v,Den K G (L0++t) d v->Den K (over G H t) L0 d' v:=by
 refine HB.rec (motive_1:=λd d' _=>∀v,Den K G (L0++t) d v->Den K (over G H t) L0 d' v) (motive_2:=λds es _=>∀vs,Ν K G (L0++t) ds vs->Ν K (over G H t) L0 es vs) ?_ ?_ ?_ ?_ ?_ ?_ ?_ ?_ f
 ·exactλ{d} u v h=>vd hn (iB r) d v u h
 ·exactλ{ds es} f ih v ⟨a,vs,e,h1,h2⟩=>⟨a,vs,e,iB r _ _ h1,ih vs h2⟩
 ·exactλ{ds es} f ih v ⟨a,vs,e,h1,h2⟩=>⟨a,vs,e,iB r _ _ h1,ih vs h2⟩
 ·exactλ{C ns ds es} f ih v ⟨a,dx,vs,e,h1,hl,h2⟩=>⟨a,dx,vs,e,iB r _ _ h1,hl.trans f.length,ih vs h2⟩
 ·intro k ds es hk em f ih v ⟨a,e,h1⟩;have⟨o,vs,e1,h2⟩:=IJ r hn hk h1 em;exact⟨a,vs,e,o.trans e1,ih vs h2⟩
 ·intro k C ns ds es hk em f ih v ⟨a,e,h1⟩;have⟨o,dx,vs,e1,hl,h2⟩:=IJ r hn hk h1 em;exact⟨a,dx,vs,e,o.trans e1,hl.trans f.length,ih vs h2⟩
 ·exactλvs h=>h
 ·exactλ{d e ds es} f t ih1 ih2 vs ⟨v,r,e,h1,h2⟩=>⟨v,r,e,ih1 v h1,ih2 r h2⟩
end
def W8(n:Nat)(q:DQ):DQ:=λd M=>∃M' E d',M=M'++E/\M'.length=n/\(∀m∈M',MO.under n m)/\HB n E d d'/\q d' M'
def Fin.wG{K:tf}{G0:Hp}{L0:List Addr}{M0:Ms}{H0:Hp}{q:DQ}{v:V}{H:Hp}(r0:Rl K G0 L0 M0 H0)(f:Fin K G0 L0 H0 (W8 M0.length q) v H):Fin K G0 L0 H0 q v H:=by
 have⟨d,G,L,M,ex,r,dn,M',E,d',rfl,hl,hu,fz,hq⟩:=f;have⟨t,rfl⟩:=ex.l;have hn:L0.length=M'.length:=by rw[hl];exact r0.len
 have dis:∀b,b∈L0->b∉t:=λb h1 h2=>(ab5.mp r.nd).2.2 b h1 b h2 rfl;have sm:=iB r;refine⟨d',over G H t,L0,M',⟨ex.g.trans sm,.refl _,λb h1 h2=>?_,ex.out,λb h=>.inl h,ex.zi⟩,⟨λb u e=>?_,hn,(ab5.mp r.nd).1,λk a m h1 h2=>?_⟩,Me r hn (hl▸fz) v dn,hq⟩
 ·have hb:b∉t:=λz=>(ex.new b (aaH _ z)).elim (λy=>dis b y z) h2;rw[n6 hb];exact ex.fr b h1 h2
 ·by_cases hb:b∈t
  ·rw[Eg hb]at e;exact e
  ·rw[n6 hb]at e;exact r.sub b u e
 ·have k1:k < L0.length:=(aai.mp h1).1;have e1:(L0++t)[k]? =some a:=by rw[aaA k1];exact h1
  have e2:(M'++E)[k]? =some m:=by rw[aaA (by rw[<-hn];exact k1)];exact h2
  have⟨g,q⟩:=r.fm k a m e1 e2;exact⟨by rw[n6 (dis a (aar h1))];exact g,Hj (n:=M'.length) hn sm (by rw[hl];exact hu m (aar h2)) q⟩
section
variable{X:Cx}{R:St->XK}{e:Expr}{t:DE}
def iA{st:Stmt}:JS X R st (λ_ _ _=>False):=λ_ _ _ _ _ _ ⟨_,_,_,_,_,_,_,h,_,_⟩=>h.elim
end
def Jf(C:Addr)(m:Str)(sp:Sp)(ql:List V)(R:St->XK)(ta:TE)(t:TA):TE:=λσ H Q=>ta σ H λx H1=>∃a dx fs,x= .ref a/\H1 a=some (.ins C dx fs)/\fs.lookup m=none/\
 t σ H1 λvs H2=>sp (x::(vs++ql)) H2 Q (R σ)
def QF(C:Addr)(sp:Sp)(ql:List V)(R:St->XK)(t:TA):TE:=λσ H Q=>t σ H λvs H1=>∀x dx,H1 x=none->H1 dx=none->dx≠x->
 sp (.ref x::(vs++ql)) (upd (upd H1 dx (.own x)) x (.ins C dx [])) (λv H2=>v= .aE/\Q (.ref x) H2) (R σ)
section
variable{X:Cx}{CX:A1}{k:Nat}{f C:Addr}{fd:FuncData}{ps:List Str}{sp:Sp}{ql:List V}{ds:List Value}{R:St->XK}{x m:Str}{p pos apos:Pos}{e o:Expr}{es:List Expr}{ta:TE}{t:TA}
def Ka{pl:Sem Bool}(he:PE X o ta)(c:EF X.K C)(hm:N7 X.K C m f)(F:ah X.prog X.w X.K X.mg X.base CX k f fd ps sp)(hr:bD k X.A)(hb:hJ X.K fd ps ds)(hd:aj ql ds)(hx:cR CX X R)(ha:PA X (e::es) t)
  (vh:starEach (e::es) X.env=(false,eval e X.env)::starEach es X.env:=by rfl) (dN:(backTo pos (starEach es X.env)).any (·.1)=false:=by rfl)
  (ht:eval (.Call (.Attribute o m apos) (e::es) [] pos) X.env=(do
   let ov<-eval o X.env
   standAt apos.atName
   let (f,first)<-holding [ov] (getMethod ov m pl)
   callWith pos f first (backTo pos (starEach (e::es) X.env)) (backToKw pos (keywordEach [] X.env))):=by rfl):
  PE X (.Call (.Attribute o m apos) (e::es) [] pos) (Jf C m sp ql R ta t):=by
 intro δ s σ H Q I h;refine PySem.W.methodCall_KW (pl:=pl) (bc (he δ s σ H _ I h) λu s1 xz=>?_) ht;have⟨x,H1,I1,rx,a,dx,fs,ex,ea,l,q⟩:=xz;subst ex;obtain rfl:u=Value.ref a:=rx;refine rA I1 ea c hm l ?_;refine PySem.W.callWith_K (first:=[.ref a]) (h₀:=X.base) I.ok.mod.Vy hm.kp (bc (ha pos δ s1 σ H1 _ I1 q) fun us s2 ⟨vs,H2,I2,r,q2⟩=>⟨I2.iX,?_⟩) vh dN;exact vZ (us:=.ref a::us) (vs:=.ref a::vs) F hr hb hd hx I2 (.cons rfl r) q2
def FG{pl:Sem Bool}(he:PE X o ta)(c:EF X.K C)(hm:N7 X.K C m f)(F:ah X.prog X.w X.K X.mg X.base CX k f fd ps sp)(hr:bD k X.A)(hb:hJ X.K fd ps ds)(hd:aj ql ds)(hx:cR CX X R)
  (ht:eval (.Call (.Attribute o m apos) [] [] pos) X.env=(do
   let ov<-eval o X.env
   standAt apos.atName
   let (f,first)<-holding [ov] (getMethod ov m pl)
   callWith pos f first (backTo pos (starEach [] X.env)) (backToKw pos (keywordEach [] X.env))):=by rfl):
  PE X (.Call (.Attribute o m apos) [] [] pos) (Jf C m sp ql R ta Ph):=by
 intro δ s σ H Q I h;refine PySem.W.methodCall_KW (pl:=pl) (bc (he δ s σ H _ I h) λu s1 xz=>?_) ht;have⟨x,H1,I1,rx,a,dx,fs,ex,ea,l,q⟩:=xz;subst ex;obtain rfl:u=Value.ref a:=rx;refine rA I1 ea c hm l ?_;exact PySem.W.callWith_K0 (first:=[.ref a]) I1.iX hm.kp (vZ (us:=[.ref a]) (vs:=[.ref a]) F hr hb hd hx I1 (.cons rfl .nil) q)
def Hr{δ:List (Addr×Obj)}{σ:St}{H:Hp}{s:Shared}{Q:VK}{us:List Value}{vs:List V}(M:Mk X.K C f)(F:ah X.prog X.w X.K X.mg X.base CX k f fd ps sp)(hr:bD (k+1) X.A)(hb:hJ X.K fd ps ds)(hd:aj ql ds)
  (hx:cR CX X R) (I:Inv X δ σ H s) (r:aj vs us)
  (h:∀x dx,H x=none->H dx=none->dx≠x->sp (.ref x::(vs++ql)) (upd (upd H dx (.own x)) x (.ins C dx [])) (λv H2=>v= .aE/\Q (.ref x) H2) (R σ)):
  wpAny (model X.prog X.w) X.A (call (.ref C) us) (EP X δ σ Q) X.xe s:=by
 have hq:=h (s.heap.objs.size+1) s.heap.objs.size (I.ay.fresh (Nat.le_succ _)) (I.ay.fresh (aao _)) (aaM (abv _));have I2:=Inv.made (C:=C) I;have r2:aj (V.ref (s.heap.objs.size+1)::(vs++ql)) (Value.ref (s.heap.objs.size+1)::(us++ds)):=.cons rfl (r.append hd);have hl:(Value.ref (s.heap.objs.size+1)::us++ds).length=ps.length:=by have e:=r2.length;rw[F.len _ _ _ _ hq]at e;exact e.symm
 refine wpAny_call (KU (f:=f) I.iX M.makes M.init (abp.mp M.fn) (codeAny_mono (F.run _ X.stack _ _ ⟨Value.ref (s.heap.objs.size+1)::us,[]⟩ (Value.ref (s.heap.objs.size+1)::(us++ds)) _ _ (R σ) (hr.make C us [])
  (I2.Ru.make C us []) (hb _ (Value.ref (s.heap.objs.size+1)::us) I2.iX hl) r2 hq) λr s' jF=>?_))
 cases r with
 | error e=>exact hx δ σ _ _ e s' I2 jF
 | ok fl=>
  cases fl with
  | ret u=>
   have⟨v,H',I3,rv,ev,q3⟩:=I2.after jF;subst ev;exact⟨rv,⟨V.ref (s.heap.objs.size+1),H',I3,rfl,q3⟩⟩
  | next=>exact False.elim jF
  | brk=>exact False.elim jF
  | cont=>exact False.elim jF
def Lf(M:Mk X.K C f)(F:ah X.prog X.w X.K X.mg X.base CX k f fd ps sp)(hr:bD (k+1) X.A)(hg:Gl X x)(hm:X.mg x=some (.ref C))(hb:hJ X.K fd ps ds)(hd:aj ql ds)(hx:cR CX X R)
  (ha:PA X (e::es) t) (pB:(x==("__debug__":Str))=false:=by decide) (he:starEach (e::es) X.env=(false,eval e X.env)::starEach es X.env:=by rfl) (dN:(backTo pos (starEach es X.env)).any (·.1)=false:=by rfl):
  PE X (.Call (.Name x p) (e::es) [] pos) (QF C sp ql R t):=by
 intro δ s σ H Q I h;refine wpAny_Call_Name_kw (kQ I hg hm ?_ pB);refine PySem.W.callWith_K (h₀:=X.base) I.ok.mod.Vy M.kp (bc (ha pos δ s σ H _ I h) fun us s1 ⟨vs,H1,I1,r,q⟩=>⟨I1.iX,?_⟩) he dN;exact Hr M F hr hb hd hx I1 r q
end
def Nv(C:Addr)(M:Ms)(d:Dt)(ns:List Str)(ds:List Dt):Prop:=d= .obj C ns ds\/∃k,d= .loc k/\M[k]? =some (.ins C ns ds)
section
variable{K:tf}{G:Hp}{L:List Addr}{M:Ms}{H:Hp}{C:Addr}{d:Dt}{v:V}{ns:List Str}{ds:List Dt}
def JZ(r:Rl K G L M H)(n:Den K G L d v)(o:Nv C M d ns ds):∃a dx vs,v= .ref a/\H a=some (.ins C dx (ns.zip vs))/\ns.length=ds.length/\Ν K G L ds vs:=by
 rcases o with rfl| ⟨k,rfl,hm⟩
 ·have⟨a,dx,vs,e,h1,hl,h2⟩:=n;exact⟨a,dx,vs,e,r.sub _ _ h1,hl,h2⟩
 ·have⟨a,e,h1⟩:=n;have⟨_,dx,vs,h2,hl,h3⟩:=r.fm k a _ h1 hm;exact⟨a,dx,vs,e,h2,hl,h3⟩
def rX{f:Str}:∀{ns:List Str} {ds:List Dt} {vs:List V} {d:Dt},Ν K G L ds vs->(ns.zip ds).lookup f=some d->∃v,(ns.zip vs).lookup f=some v/\Den K G L d v
 | [],_,_,_,_,h=>by simp at h
 | _::_,[],_,_,_,h=>by simp at h
 | g::ns,d::ds,_,d',⟨v,r,rfl,h1,h2⟩,h=>by
  rw[abr,abC]at h;rw[abr,abC];cases q:f==g with
  | true=>rw[q]at h;cases h;exact⟨v,rfl,h1⟩
  | false=>rw[q]at h;exact rX h2 h
def sd{f:Str}:∀{ns:List Str} {ds:List Dt} {vs:List V},Ν K G L ds vs->(ns.zip ds).lookup f=none->(ns.zip vs).lookup f=none
 | [],_,_,_,_=>by simp
 | _::_,[],_,h,_=>by have h:_=_:=h;subst h;simp
 | g::ns,d::ds,_,⟨v,r,rfl,h1,h2⟩,h=>by
  rw[abr,abC]at h;rw[abr,abC];cases q:f==g with
  | true=>rw[q]at h;cases h
  | false=>rw[q]at h;exact sd h2 h
def rQ{f:Str}{v:V}:∀{ns:List Str} {vs:List V},ns.length=vs.length->f∉ns->h7 f v (ns.zip vs)=(ns++[f]).zip (vs++[v])
 | [],[],_,_=>rfl
 | g::ns,x::vs,hl,h=>by have hg:¬g=f:=λz=>h (by rw[z];exact aaf);show(if g=f then (g,v)::ns.zip vs else (g,x)::h7 f v (ns.zip vs))=(g,x)::(ns++[f]).zip (vs++[v]);rw[if_neg hg,rQ (by simpa using hl) λz=>h (List.mem_cons_of_mem _ z)]
 | [],_::_,hl,_=>by simp at hl
 | _::_,[],hl,_=>by simp at hl
end
def Rz(C:Addr)(f:Str)(t:DE):DE:=λρ M q x=>t ρ M (λd M1=>∃ns ds v,Nv C M1 d ns ds/\(ns.zip ds).lookup f=some v/\q v M1) x
def Pa(C:Addr)(m:Str)(T:DF)(to:DE)(ta:DA):DE:=λρ M q x=>to ρ M (λd M1=>(∃ns ds,Nv C M1 d ns ds/\(ns.zip ds).lookup m=none)/\ta ρ M1 (λds M2=>T (d::ds) M2 q (λC fs M'=>x ρ C fs M')) x) x
def Vm(C:Addr)(T:DF)(ta:DA):DE:=λρ M q x=>ta ρ M (λds M1=>T (.loc M1.length::ds) (M1++[.ins C [] []]) (λd M2=>d= .aE/\q (.loc M1.length) M2) (λC fs M'=>x ρ C fs M')) x
def OQ(C:Addr)(f:Str)(to tv:DE):DS:=λDn ρ M=>tv ρ M (λy M1=>to ρ M1 (λd M2=>∃k ns ds,d= .loc k/\M2[k]? =some (.ins C ns ds)/\f∉ns/\ns.length < 1000/\Dn.nx ρ (M2.set k (.ins C (ns++[f]) (ds++[y])))) Dn.x) Dn.x
structure fv(P:Program)(w:World)(K:tf)(mg:Str->Option Value)(base:Heap)(k:Nat)(C:Addr)(m:Str)(ps:List Str)(T:DF)(f:Addr)(fd:FuncData):Prop where
 ok:ah P w K mg base (bM P w) k f fd ps (cZ K T)
 b:hJ K fd ps []
 c:EF K C
 m:N7 K C m f
structure N0(P:Program)(w:World)(K:tf)(mg:Str->Option Value)(base:Heap)(k:Nat)(x:Str)(C:Addr)(ps:List Str)(T:DF)(f:Addr)(fd:FuncData):Prop where
 ok:ah P w K mg base (bM P w) k f fd ps (cZ K T)
 b:hJ K fd ps []
 k:Mk K C f
 m:mg x=some (.ref C)
section
variable{X:Cx}{R:St->XK}{C:Addr}{f m x:Str}{T:DF}{k k':Nat}{a:Addr}{fd:FuncData}{ps:List Str}{e o value:Expr}{es:List Expr}{pos pos' apos p:Pos}{to te tv:DE}{ta:DA}
def Ah(c:EF X.K C)(n:iy X.K C f)(he:JE X R e te)(hb:attributeBase e f X.env (eval e X.env)=eval e X.env:=by rfl):JE X R (.Attribute e f pos) (Rz C f te):=
 .of (Qv he hb) λσ H G L ρ M q x rl en h hx=>by refine⟨G,L,ρ,M,_,x,rl,en,h,hx,λv H1 xz=>?_⟩;have⟨d1,G1,L1,M1,e1,r1,n1,ns,ds,y,ob,hl,h1⟩:=xz;have⟨p,dx,vs,rfl,hp,_,dn⟩:=JZ r1 n1 ob;have⟨u,hu,du⟩:=rX dn hl;exact⟨p,C,dx,_,u,rfl,hp,c,n,hu,y,G1,L1,M1,e1,r1,du,h1⟩
def gm{pl:Sem Bool}(D:fv X.prog X.w X.K X.mg X.base k C m ps T a fd)(hr:bD k' X.A)(hx:cR (bM X.prog X.w) X R)(ho:JE X R o to)(ha:JA X R (e::es) ta)(hk:k<=k':=by decide)
  (vh:starEach (e::es) X.env=(false,eval e X.env)::starEach es X.env:=by rfl) (dN:(backTo pos (starEach es X.env)).any (·.1)=false:=by rfl)
  (ht:eval (.Call (.Attribute o m apos) (e::es) [] pos) X.env=(do
   let ov<-eval o X.env
   standAt apos.atName
   let (f,first)<-holding [ov] (getMethod ov m pl)
   callWith pos f first (backTo pos (starEach (e::es) X.env)) (backToKw pos (keywordEach [] X.env))):=by rfl):
  JE X R (.Call (.Attribute o m apos) (e::es) [] pos) (Pa C m T to ta):=
 .of (Ka (pl:=pl) ho D.c D.m D.ok (hr.mono hk) D.b .nil hx ha vh dN ht) λσ H G L ρ M q x rl en h hx=>by refine⟨G,L,ρ,M,_,x,rl,en,h,hx,λv H1 xz=>?_⟩;have⟨d1,G1,L1,M1,e1,r1,n1,⟨ns,ds,ob,hl⟩,h1⟩:=xz;have⟨p,dx,vs,rfl,hp,_,dn⟩:=JZ r1 n1 ob;refine⟨p,dx,_,rfl,hp,sd dn hl,G1,L1,ρ,M1,_,x,r1,en.mono e1,h1,hx.on e1,λus H2 xz=>?_⟩;have⟨Ak,G2,L2,M2,e2,r2,n2,h2⟩:=xz;show cZ X.K T (V.ref p::(us++[])) H2 _ _;rw[aaW];have HN:=e1.trans e2;exact⟨G2,L2,d1::Ak,M2,q,_,r2,⟨_,_,rfl,Den.mono e2.g e2.l _ _ n1,n2⟩,h2,λv H' f=>Fin.back HN f,λC fs M' G' L' H' od hq e' r' y=>hx σ ρ C fs M' G' L' H' od hq (HN.trans e') r' (en.mono (HN.trans e')) y⟩
def g_{pl:Sem Bool}(D:fv X.prog X.w X.K X.mg X.base k C m ps T a fd)(hr:bD k' X.A)(hx:cR (bM X.prog X.w) X R)(ho:JE X R o to)(hk:k<=k':=by decide)
  (ht:eval (.Call (.Attribute o m apos) [] [] pos) X.env=(do
   let ov<-eval o X.env
   standAt apos.atName
   let (f,first)<-holding [ov] (getMethod ov m pl)
   callWith pos f first (backTo pos (starEach [] X.env)) (backToKw pos (keywordEach [] X.env))):=by rfl):
  JE X R (.Call (.Attribute o m apos) [] [] pos) (Pa C m T to BG):=
 .of (FG (pl:=pl) ho D.c D.m D.ok (hr.mono hk) D.b .nil hx ht) λσ H G L ρ M q x rl en h hx=>by refine⟨G,L,ρ,M,_,x,rl,en,h,hx,λv H1 xz=>?_⟩;have⟨d1,G1,L1,M1,e1,r1,n1,⟨ns,ds,ob,hl⟩,h1⟩:=xz;have⟨p,dx,vs,rfl,hp,_,dn⟩:=JZ r1 n1 ob;refine⟨p,dx,_,rfl,hp,sd dn hl,?_⟩;show cZ X.K T (V.ref p::([]++[])) H1 _ _;exact⟨G1,L1,[d1],M1,q,_,r1,⟨_,_,rfl,n1,rfl⟩,h1,λv H' f=>Fin.back e1 f,λC fs M' G' L' H' od hq e' r' y=>hx σ ρ C fs M' G' L' H' od hq (e1.trans e') r' (en.mono (e1.trans e')) y⟩
def Iw(D:N0 X.prog X.w X.K X.mg X.base k x C ps T a fd)(hr:bD k' X.A)(hx:cR (bM X.prog X.w) X R)(ha:JA X R (e::es) ta)(hk:k+1<=k':=by decide)(hg:Gl X x:=by rfl)(pB:(x==("__debug__":Str))=false:=by decide)
  (he:starEach (e::es) X.env=(false,eval e X.env)::starEach es X.env:=by rfl) (dN:(backTo pos (starEach es X.env)).any (·.1)=false:=by rfl):JE X R (.Call (.Name x p) (e::es) [] pos) (Vm C T ta):=
 .of (Lf D.k D.ok (hr.mono hk) hg D.m D.b .nil hx ha pB he dN) λσ H G L ρ M q x rl en h hx=>by
  refine⟨G,L,ρ,M,_,x,rl,en,h,hx,λvs H1 xz y dx hy Lh jz=>?_⟩;have⟨ds,G1,L1,M1,e1,r1,n1,h1⟩:=xz;show cZ X.K T (V.ref y::(vs++[])) _ _ _;rw[aaW];have ra:=r1.Lm (o:=.own y) Lh;have ea:=r1.RL (o:=.own y) Lh;have hy2:upd H1 dx (HO.own y) y=none:=by rw[ω (Ne.symm jz)];exact hy
  have rb:=ra.Mj (p:=y) (o:=.ins C dx []) (m:=.ins C [] []) hy2 ⟨dx,[],Ι,rfl,rfl⟩;have eb:=ra.Wb (p:=y) (o:=.ins C dx []) hy2;have e2:=ea.trans eb;have HN:=e1.trans e2;refine⟨_,_,.loc M1.length::ds,_,_,_,rb,⟨_,_,rfl,⟨y,rfl,?_⟩,Ν.mono e2.g e2.l _ _ n1⟩,h1,fun v H' ⟨d,G',L',M',e',r',dn,hd,hq⟩=>?_,λC fs M' G' L' H' od hq e' r' z=>hx σ ρ C fs M' G' L' H' od hq (HN.trans e') r' (en.mono (HN.trans e')) z⟩
  ·rw[<-r1.len,List.getElem?_append_right (Nat.le_refl _)];simp
  ·subst hd;refine⟨dn,.loc M1.length,G',L',M',HN.trans e',r',⟨y,rfl,e'.l.get ?_⟩,hq⟩;rw[<-r1.len,List.getElem?_append_right (Nat.le_refl _)];simp
def EK(c:EF X.K C)(n:iy X.K C f)(ho:JE X R o to)(hv:JE X R value tv)(hs:swapsWith value (some (.Attribute o f pos')) pos.line X.env=pure false:=by rfl):JS X R (.Assign [.Attribute o f pos'] value pos) (OQ C f to tv):=
 .of (QO ho hv hs) λσ H G L ρ M Dn rl en h hx=>by refine⟨G,L,ρ,M,_,_,rl,en,h,hx,λy H1 xz=>?_⟩;have⟨dy,G1,L1,M1,e1,r1,n1,h1⟩:=xz;refine⟨G1,L1,ρ,M1,_,_,r1,en.mono e1,h1,hx.on e1,λu H2 xz=>?_⟩;have⟨du,G2,L2,M2,e2,r2,n2,k,ns,ds,ed,hm,hf,hz,h2⟩:=xz;subst ed;have⟨p,rfl,hp⟩:=n2;have⟨_,dx,vs,hH,hl,dn⟩:=r2.fm k p _ hp hm;have Te:ns.length=vs.length:=hl.trans dn.length;refine⟨p,C,dx,_,rfl,hH,c,n,by rw[abG,<-Te,Nat.min_self];exact hz,?_⟩;rw[rQ Te hf];exact⟨ρ,G2,L2,_,(e1.trans e2).trans (r2.JP hp),r2.setM (m:=.ins C (ns++[f]) (ds++[dy])) hp ⟨dx,_,Ι,by rw[aan,aan,hl];rfl,dn.app ⟨_,_,rfl,Den.mono e2.g e2.l _ _ n1,rfl⟩⟩,(en.mono (e1.trans e2)).mono (r2.JP (o:=.own p) hp),h2⟩
end
def Fe:List Dt->Ms->DQ->Prop
 | [d],M,q=>match fG M d with
  | some xs=>q (.loc M.length) (M++[.lst xs])
  | none=>False
 | _,_,_=>False
section
variable{K:tf}
def VJ:FX K (λxs H Q=>∃p ys,xs=[V.ref p]/\(fU K H p ys\/mZ K H p ys)/\∀l,H l=none->Q (.ref l) (upd H l (.lst ys))) Fe:=by
 intro G0 L0 H0 G L M H vs ds q e r n h;unfold Fe at h;split at h
 ·rename_i d;have⟨v,rfl,n1⟩:=bx n;split at h
  ·rename_i xs hs;have⟨a,us,rfl,hq,dn⟩:=qD r n1 hs;exact⟨a,us,rfl,hq,λl hl=>kX e r hl dn h⟩
  ·exact h.elim
 ·exact h.elim
end
section
variable{X:Cx}{R:St->XK}{e o i value:Expr}{t:DA}{to ti tv:DE}{p pos apos aV ur:Pos}
def xw(hm:X.mg "list"=none)(ha:JA X R [e] t)(hg:Gl X "list":=by rfl)(he:starEach [e] X.env=(false,eval e X.env)::starEach [] X.env:=by rfl)(dN:(backTo pos (starEach [] X.env)).any (·.1)=false:=by rfl):JE X R (.Call (.Name "list" p) [e] [] pos) (CI Fe t):=
 yZ wL VJ hm sF ha hg @_ @_ he dN
def Xm(to:DE)(t:DA):DE:=λρ M q x=>to ρ M (λd M1=>(∃k xs,d= .loc k/\M1[k]? =some (.lst xs))/\t ρ M1 (λds M2=>∃k xs y,d= .loc k/\ds=[y]/\M2[k]? =some (.lst xs)/\xs.length < sizeLine/\q .aE (M2.set k (.lst (xs++[y])))) x) x
def gG(ho:JE X R o to)(ha:JA X R [e] t)(j9:attributeBase o "append" X.env (eval o X.env)=eval o X.env:=by rfl)
  (Jr:((backTo aV (starEach [e] X.env)).all (λx=> !x.1)&&(backToKw aV (keywordEach [] X.env)).all (λx=>x.1.isSome)
   &&decide (([e]:List Expr).length+([]:List Keyword).length+(if ([]:List Keyword).isEmpty then 0 else 1) < 30))=true:=by rfl)
  (zQ:(apos.endLine==aV.line)=true:=by rfl) (hs:starEach [e] X.env=(false,eval e X.env)::starEach [] X.env:=by rfl) (mC:(backTo aV (starEach [] X.env)).any (·.1)=false:=by rfl):
  JE X R (.Call (.Attribute o "append" apos) [e] [] aV) (Xm to t):=
 .of (O3 PySem.F.plainAttrs_list PySem.F.slot_list_append PySem.F.type_list_append (r:=Eu) uZ ho ha j9 Jr zQ hs mC) λσ H G L ρ M q x rl n h hx=>by refine⟨G,L,ρ,M,_,x,rl,n,h,hx,λv H1 xz=>?_⟩;have⟨d1,G1,L1,M1,e1,r1,n1,⟨k,xs,ed,hm⟩,h1⟩:=xz;subst ed;have⟨a,rfl,hk⟩:=n1;have⟨_,vs,hH,_⟩:=r1.fm k a _ hk hm;refine⟨.inl ⟨rfl,vs,.of hH⟩,G1,L1,ρ,M1,_,x,r1,n.mono e1,h1,hx.on e1,λus H2 xz=>?_⟩;have⟨ds,G2,L2,M2,e2,r2,n2,k',xs',y,ek,ed,Ur,hz,h2⟩:=xz;cases ek;subst ed;have⟨u,rfl,n3⟩:=bx n2;have Pw:=e2.l.get hk;have⟨_,Hy,WJ,Sr⟩:=r2.fm k a _ Pw Ur;refine⟨a,Hy,u,rfl,rfl,WJ,by rw[<-Sr.length];exact hz,.aE,G2,L2,_,(e1.trans e2).trans (r2.JP Pw),r2.setM (m:=.lst (xs'++[y])) Pw ⟨_,Ι,Sr.app ⟨_,_,rfl,n3,rfl⟩⟩,rfl,h2⟩
def wO(to ti tv:DE):DS:=λDn ρ M=>tv ρ M (λy M1=>to ρ M1 (λd M2=>ti ρ M2 (λdi M3=>∃k i xs j,d= .loc k/\di= .int i/\M3[k]? =some (.lst xs)/\Jg xs.length i=some j/\Dn.nx ρ (M3.set k (.lst (xs.set j y)))) Dn.x) Dn.x) Dn.x
def kE(ho:JE X R o to)(hi:JE X R i ti)(hv:JE X R value tv)(hs:swapsWithSole [.Subscript o i ur] value pos.line X.env=pure false:=by rfl)(hw:swappedStores [.Subscript o i ur] value X.env=pure none:=by rfl)
  (h1:(assignEach [.Subscript o i ur] X.env).map (·.2)=[assign (.Subscript o i ur) X.env]:=by rfl)
  (ha:∀v,assign (.Subscript o i ur) X.env v=(do
   let ov<-holding [v] (eval o X.env)
   let iv<-holding [v,ov] (eval i X.env)
   standAt ur
   holding [v,ov,iv] (setItem ov iv v)
   release [v,ov,iv] []):=by intro _;rfl):JS X R (.Assign [.Subscript o i ur] value pos) (wO to ti tv):=
 .of (HH hv (Qh (t:=O4) ho hi LQ ha) hs hw h1) λσ H G L ρ M Dn rl n h hx=>by refine⟨G,L,ρ,M,_,_,rl,n,h,hx,λv H1 xz=>?_⟩;have⟨dv,G1,L1,M1,e1,r1,n1,h1⟩:=xz;refine⟨G1,L1,ρ,M1,_,_,r1,n.mono e1,h1,hx.on e1,λov H2 xz=>?_⟩;have⟨d,G2,L2,M2,e2,r2,n2,h2⟩:=xz;refine⟨G2,L2,ρ,M2,_,_,r2,(n.mono e1).mono e2,h2,(hx.on e1).on e2,λiv H3 xz=>?_⟩;have⟨di,G3,L3,M3,e3,r3,n3,k,i,xs,j,ed,ei,hm,hj,h3⟩:=xz;subst ed ei;have⟨a,rfl,hk⟩:=n2;have n3:iv= .int i:=n3;subst n3;have B9:=e3.l.get hk;have⟨_,vs,hH,dn⟩:=r3.fm k a _ B9 hm;have Nl:=e2.trans e3;have Wt:=Den.mono Nl.g Nl.l _ _ n1;refine⟨a,vs,i,j,rfl,rfl,hH,by rw[<-dn.length];exact hj,ρ,G3,L3,_,((e1.trans e2).trans e3).trans (r3.JP B9),r3.setM (m:=.lst (xs.set j dv)) B9 ⟨_,Ι,.of (Fj Wt j dn.pair)⟩,(((n.mono e1).mono e2).mono e3).mono (r3.JP (o:=.own a) B9),h3⟩
end
structure Src(K:tf)(a:Addr)(xs:List Dt)(ok:Ms->Prop)(G0:Hp)(L0:List Addr):Prop where
 at_:∀G L M H,dj G0 G->Pre L0 L->Rl K G L M H->ok M->∃vs,fU K H a vs/\Ν K G L xs vs
def iz(M:Ms):Dt->Option (List Dt×(Ms->Prop))
 | .lst xs=>some (xs,λ_=>True)
 | .ji ns=>some (ns.map .int,λ_=>True)
 | .loc k=>match M[k]? with
  | some (.lst xs)=>some (xs,λM'=>M'[k]? =some (.lst xs))
  | _=>none
 | _=>none
def sH{K:tf}{G:Hp}{L:List Addr}{M:Ms}{H:Hp}{d:Dt}{v:V}{xs:List Dt}{ok:Ms->Prop}(r:Rl K G L M H)(n:Den K G L d v)(h:iz M d=some (xs,ok)):∃a vs,v= .ref a/\fU K H a vs/\Src K a xs ok G L/\ok M:=by
 cases d with
 | lst ds=>
  cases h;have⟨a,vs,rfl,e,m⟩:=n;exact⟨a,vs,rfl,.of (r.sub _ _ e),⟨λG' L' M' H' g l r' _=>⟨vs,.of (r'.sub _ _ (g _ _ e)),Ν.mono g l _ _ m⟩⟩,trivial⟩
 | ji ns=>
  cases h;have⟨a,rfl,e⟩:=n;exact⟨a,_,rfl,r.sub.seq e,⟨λG' L' M' H' g l r' _=>⟨_,r'.sub.seq (g.seq e),iU⟩⟩,trivial⟩
 | loc k=>
  have⟨a,rfl,e⟩:=n;have h:(match M[k]? with| some (.lst xs)=>some (xs,λM':Ms=>M'[k]? =some (.lst xs))| _=>none)=some (xs,ok):=h;split at h
  ·rename_i ys hm;cases h;have⟨_,vs,e1,m1⟩:=r.fm k a _ e hm;refine⟨a,vs,rfl,.of e1,⟨λG' L' M' H' g l r' hk=>?_⟩,hm⟩;have⟨_,Hy,e2,m2⟩:=r'.fm k a _ (l.get e) hk;exact⟨Hy,.of e2,m2⟩
  ·cases h
 | _=>cases h
def HR{K:tf}{G:Hp}{L:List Addr}{a:Addr}{xs:List Dt}{ok:Ms->Prop}(s:Src K a xs ok G L):Q3 K (WG K a) xs ok G L where
 go:=λi G1 L1 M1 H1 d g l r k e=>by
  have⟨vs,hs,n⟩:=s.at_ G1 L1 M1 H1 g l r k;have⟨v,e1,n1⟩:=n.get e
  exact⟨⟨vs,v,hs,e1⟩,fun v' H' ⟨eH,y⟩=>by
   subst eH;have e2:=y vs hs;rw[e1]at e2;cases e2
   exact⟨G1,.refl _ _ _,r,n1⟩⟩
 stop:=λi G1 L1 M1 H1 g l r k e=>by have⟨vs,hs,n⟩:=s.at_ G1 L1 M1 H1 g l r k;exact⟨vs,hs,by rw[<-n.length];exact e⟩
def gu(M:Ms):Dt->Option (List Dt×(Ms->Prop))
 | .loc k=>iz M (.loc k)
 | d=>(VD M d).map λxs=>(xs,λ_=>True)
def da(t:DE):DK:=λρ M q x=>t ρ M (λd M1=>match gu M1 d with
 | some (xs,ok)=>q xs ok M1
 | none=>False) x
def aT{X:Cx}{R:St->XK}{tg e:Expr}{te:DE}(h:JE X R e te):JK X R tg e (da te):=by
 intro δ s σ H Q I ⟨G,L,ρ,M,q,x,rl,n,ht,hx,hQ⟩;refine bc (h δ s σ H (Fin X.K G L H _) I ⟨G,L,ρ,M,_,x,rl,n,ht,hx,λ_ _ f=>f⟩) λu s1 xz=>?_;have⟨v,H1,I1,rv,d,G1,L1,M1,e1,r1,n1,h1⟩:=xz
 (try dsimp only at h1)
 cases hi:gu M1 d with
 | none=>rw[hi]at h1;exact h1.elim
 | some p=>
  have⟨xs,ok⟩:=p;rw[hi]at h1;have fin:∀J,Q3 X.K J xs ok G1 L1->Q J H1:=λJ y=>hQ J H1 ⟨xs,ok,G1,L1,M1,e1,r1,y,h1⟩;have up:∀{J},ok=(λ_=>True)->Yl X.K J xs G1 L1->Q3 X.K J xs ok G1 L1:=λeo y=>by subst eo;exact⟨λi G L M H d g l r _ e=>y.go i G L M H d g l r e,λi G L M H g l r _ e=>y.stop i G L M H g l r e⟩
  cases d with
  | loc k=>
   have⟨a,vs,rfl,hs,sr,_⟩:=sH r1 n1 hi;cases rv;exact xJ I1 hs (fin _ (HR sr))
  | lst ds=>
   cases hi;have⟨a,vs,rfl,e,m⟩:=n1;cases rv;exact xJ I1 (vs:=vs) (.of (r1.sub _ _ e)) (fin _ (up rfl (Eo (λG' g=>.of (g _ _ e)) m)))
  | ji ns=>
   cases hi;have⟨a,rfl,e⟩:=n1;cases rv;exact xJ I1 (r1.sub.seq e) (fin _ (up rfl (Eo (λG' g=>g.seq e) iU)))
  | tup ds=>
   cases hi;have⟨a,vs,rfl,e,m⟩:=n1;cases rv;exact K5 I1 (vs:=vs) (.of (r1.sub _ _ e)) (fin _ (up rfl (LG (λG' g=>.of (g _ _ e)) m)))
  | kt ds=>
   cases hi;have⟨a,vs,rfl,e,m⟩:=n1;cases rv;exact K5 I1 (r1.sub.S4 e) (fin _ (up rfl (LG (λG' g=>g.S4 e) m)))
  | str z=>
   cases hi;cases n1;have⟨t,rfl⟩:=rv;exact PU I1 (fin _ (up rfl R9))
  | _=>cases hi
def wx(g:Dt->En->(En->Prop)->Prop)(tb:DS)(Dn:iM)(ok:Ms->Prop):List Dt->En->Ms->Prop
 | [],ρ,M=>ok M/\Dn.nx ρ M
 | x::xs,ρ,M=>ok M/\g x ρ λρ'=>tb {Dn with nx:=wx g tb Dn ok xs,ct:=wx g tb Dn ok xs,bk:=Dn.nx} ρ' M
def nD(ti:DK)(g:Dt->En->(En->Prop)->Prop)(tb:DS):DS:=λDn ρ M=>ti ρ M (λxs ok M1=>wx g tb Dn ok xs ρ M1) Dn.x
section
variable{X:Cx}{R:St->XK}{tg iter:Expr}{body:List Stmt}{ti:DK}{gg:TG}{g:Dt->En->(En->Prop)->Prop}{tb:DS}{pos:Pos}
def bK(hi:JK X R tg iter ti)(hg:PG X tg gg)(gd:GD X.K gg g)(hb:AX X R body tb)(hp:PassesOwn (model X.prog X.w) X.A X.env X.xe:=by first| exact PassesOwn.never| exact PassesOwn.leaving)(hc:X.calm=true:=by rfl)(hs:∀x,foldedSetIterable iter X.env x=pure x:=by intro _;rfl):
  JS X R (.For tg iter body [] pos) (nD ti g tb):=.of (BI hp hc hi hg hb hs) λσ H G L ρ M Dn rl n h hx=>by
 refine⟨G,L,ρ,M,_,_,rl,n,h,hx,λJ H1 xz=>?_⟩;have⟨xs,ok,G1,L1,M1,e1,r1,y,h1⟩:=xz;refine⟨λi m σ' H'=>m+i=xs.length/\eD X.K G1 L1 H1 (λρ' M'=>wx g tb Dn ok (xs.drop i) ρ' M') σ' H',⟨xs.length,rfl,ρ,G1,L1,M1,.refl _ _ _,r1,n.mono e1,by rw[aci];exact h1⟩,?_⟩;rintro i m σ' H' ⟨hm,ρ',G',L',M',e',r',n',h'⟩;by_cases hi:i < xs.length
 ·right;have hd:xs[i]? =some xs[i]:=aac hi;rw[abn hi]at h';have⟨ay,h'⟩:=h';have⟨go,yl⟩:=y.go i G' L' M' H' _ e'.g e'.l r' ay hd;refine⟨go,eD X.K G1 L1 H1 (λρ' M'=>wx g tb Dn ok (xs.drop (i+1)) ρ' M'),λσ2 H2 f=>⟨m - 1,(),(),f⟩,λv H2 hy=>?_⟩;have⟨G2,e2,r2,n2⟩:=yl v H2 hy;refine gd G2 L' M' H2 _ v ρ' σ' _ _ r2 n2 (n'.mono e2) h' λρ3 σ3 n3 h3=>?_;refine⟨G2,L',ρ3,M',_,r2,n3,h3,hx.on (e1.trans (e'.trans e2)),⟨λ_ _ f=>eD.back (e'.trans e2) f,λ_ _ f=>Fin.back (e1.trans (e'.trans e2)) f,λ_ _ f=>eD.back (e1.trans (e'.trans e2)) f,λ_ _ f=>eD.back (e'.trans e2) f⟩⟩
 ·left;rw[abZ ()]at h';exact⟨y.stop i G' L' M' H' e'.g e'.l r' h'.1 (),ρ',G',L',M',e1.trans e',r',n',h'.2⟩
end
def pU(te:DE)(cs:En)(ok:Ms->Prop):List Dt->List Dt->Ms->(List Dt->Ms->Prop)->Prop
 | [],acc,M,k=>ok M/\k acc M
 | x::xs,acc,M,k=>ok M/\te (some x::cs) M (λd M1=>pU te cs ok xs (acc++[d]) M1 k) iL
def ya(ti:DK)(te:DE)(Μ:List Nat):DE:=λρ M q x=>ti ρ M (λxs ok M1=>xs.length<=sizeLine/\pU te (nh Μ ρ) ok xs [] M1 (λys M2=>q (.lst ys) M2)) x
def qj(ti:DK)(te:DE)(Μ:List Nat):DE:=λρ M q x=>ti ρ M (λxs ok M1=>xs.length<=sizeLine/\pU te (nh Μ ρ) ok xs [] M1 (λys M2=>q (.loc M2.length) (M2++[.lst ys]))) x
def nZ{te:DE}{cs:En}{ok:Ms->Prop}:∀xs,pU te cs ok xs=gP (gN 0) sV te (none::cs) ok xs
 | []=>rfl
 | x::xs=>funext λacc=>funext λM=>funext λk=>by show(ok M/\te (some x::cs) M (λd M1=>pU te cs ok xs (acc++[d]) M1 k) iL)=(ok M/\te (some x::cs) M (λd M1=>gP (gN 0) sV te (none::cs) ok xs (acc++[d]) M1 k) iL);rw[nZ xs]
section
variable{X:Cx}{R:St->XK}{elt iter:Expr}{x:Str}{px:Pos}{scope:Scope}{pos:Pos}{ti:DK}{te:DE}{ys:List Str}{Μ:List Nat}
def g8(S:ai X scope [x] ys Μ)(hi:JK X R (.Name x px) iter ti)(he:∀C s H fp,JE (Cx.comp X (x::ys) scope C s H fp) (λ_=>E0) elt te)(hc:X.calm=true:=by rfl)(hs:∀x,foldedSetIterable iter X.env x=pure x:=by intro _;rfl):JE X R (.ListComp elt [⟨.Name x px,iter,[],0⟩] scope pos) (ya ti te Μ):=Vt false S hi (fg S (i:=0) rfl) aK (eS (Nat.zero_lt_succ 0)) (λ_ _ _ _=>jq) he hc hs λρ M q x h=>by unfold ya at h;simp only[nZ]at h;exact h
def LH(S:ai X scope [x] ys Μ)(hi:JK X R (.Name x px) iter ti)(he:∀C s H fp,JE (Cx.comp X (x::ys) scope C s H fp) (λ_=>E0) elt te)(hc:X.calm=true:=by rfl)(hs:∀x,foldedSetIterable iter X.env x=pure x:=by intro _;rfl):JE X R (.ListComp elt [⟨.Name x px,iter,[],0⟩] scope pos) (qj ti te Μ):=Vt true S hi (fg S (i:=0) rfl) aK (eS (Nat.zero_lt_succ 0)) (λ_ _ _ _=>jq) he hc hs λρ M q x h=>by unfold qj at h;simp only[nZ]at h;exact h
def hG{i:Nat}{y:Str}{py j4:Pos}(hN:X.N.Nodup)(Lb:X.N[i]? =some y)(hy:Loc X.env.scope y)(S:ai X scope [x] ys Μ)(hi:JK X R (.Name x px) iter ti)(he:∀C s H fp,JE (Cx.comp X (x::ys) scope C s H fp) (λ_=>E0) elt te)(hc:X.calm=true:=by rfl)(Hq:swapsWith (.ListComp elt [⟨.Name x px,iter,[],0⟩] scope pos) (some (.Name y py)) j4.line X.env=pure true:=by rfl)(hs:∀x,foldedSetIterable iter X.env x=pure x:=by intro _;rfl)(hf:X.fn y=true\/X.env.scope.names.lookup y=some .local:=by first| exact .inl rfl| exact .inr rfl| assumption):JS X R (.Assign [.Name y py] (.ListComp elt [⟨.Name x px,iter,[],0⟩] scope pos) j4) (rD i (ya ti te Μ)):=Wx false S hi (fg S (i:=0) rfl) aK (eS (Nat.zero_lt_succ 0)) (λ_ _ _ _=>jq) he hc hs hN Lb hy Hq hf λρ M q x h=>by unfold ya at h;simp only[nZ]at h;exact h
def v7{i:Nat}{y:Str}{py j4:Pos}(hN:X.N.Nodup)(Lb:X.N[i]? =some y)(hy:Loc X.env.scope y)(S:ai X scope [x] ys Μ)(hi:JK X R (.Name x px) iter ti)(he:∀C s H fp,JE (Cx.comp X (x::ys) scope C s H fp) (λ_=>E0) elt te)(hc:X.calm=true:=by rfl)(Hq:swapsWith (.ListComp elt [⟨.Name x px,iter,[],0⟩] scope pos) (some (.Name y py)) j4.line X.env=pure true:=by rfl)(hs:∀x,foldedSetIterable iter X.env x=pure x:=by intro _;rfl)(hf:X.fn y=true\/X.env.scope.names.lookup y=some .local:=by first| exact .inl rfl| exact .inr rfl| assumption):JS X R (.Assign [.Name y py] (.ListComp elt [⟨.Name x px,iter,[],0⟩] scope pos) j4) (rD i (qj ti te Μ)):=Wx true S hi (fg S (i:=0) rfl) aK (eS (Nat.zero_lt_succ 0)) (λ_ _ _ _=>jq) he hc hs hN Lb hy Hq hf λρ M q x h=>by unfold qj at h;simp only[nZ]at h;exact h
end
def oB:∀{ns:List Int} {us:List Value},aj (ns.map V.int) us->∃ts:List (Int×Tok),us=ts.map (λp=>Value.int p.1 p.2)/\ts.map (·.1)=ns
 | [],_,h=>by cases h;exact⟨[],rfl,rfl⟩
 | n::ns,_,h=>by
  cases h with
  | cons r t=>
   have⟨tk,rfl⟩:=r;have⟨ts,rfl,rfl⟩:=oB t;exact⟨(n,tk)::ts,rfl,rfl⟩
def V0(K:tf):List V->Hp->VK->Prop:=λxs H Q=>∃(p:Addr) (ns:List Int),xs=[.ref p]/\fU K H p (ns.map V.int)/\Q (.int ns.sum) H
def Kc{X:Cx}(hc:X.calm=true):dG X (.builtin "sum") (V0 X.K):=by
 intro δ s σ H xs us Q I r h;have⟨p,ns,rfl,hq,q⟩:=h;have⟨u,rfl,r1⟩:=lN r;cases r1;have⟨its,rv,pl,hz⟩:=I.list hq;have⟨ts,rfl,rfl⟩:=oB rv;have e:(ts.map λp=>Value.int p.1 p.2).toArray=intItems ts.toArray:=by simp[intItems]
 have hl:=pl.isList;rw[e]at hl;refine sum_intListG (I.ok.hd hc) hl λh' tk t' hk=>?_;refine⟨.int (ts.map (·.1)).sum,H,I.kept hk,⟨t',?_⟩,q⟩;rw[preSum_eq,List.take_of_length_le (by simp)]
def Q2:List Dt->Ms->DQ->Prop
 | [d],M,q=>∃ns:List Int,fG M d=some (ns.map .int)/\(∃xs ok,iz M d=some (xs,ok))/\q (.int ns.sum) M
 | _,_,_=>False
def lU{K:tf}{G:Hp}{L:List Addr}:∀{ns:List Int} {vs:List V},Ν K G L (ns.map Dt.int) vs->vs=ns.map V.int
 | [],_,h=>h
 | _::_,_,⟨v,r,e,h1,h2⟩=>by have h1:v=_:=h1;rw[e,h1,lU h2];rfl
def nR{M:Ms}{d:Dt}{xs:List Dt}{ok:Ms->Prop}(h:iz M d=some (xs,ok)):fG M d=some xs:=by
 cases d with
 | lst ds=>cases h;rfl
 | ji ns=>cases h;rfl
 | loc k=>
  have h:(match M[k]? with| some (.lst xs)=>some (xs,λM':Ms=>M'[k]? =some (.lst xs))| _=>none)=some (xs,ok):=h;show(match M[k]? with| some (.lst xs)=>some xs| _=>none)=some xs;split at h
  ·rename_i ys hm;cases h;rfl
  ·cases h
 | _=>cases h
def Xd{K:tf}:FX K (V0 K) Q2:=by
 intro G0 L0 H0 G L M H vs ds q e r n h;unfold Q2 at h;split at h
 ·rename_i d;have⟨v,rfl,n1⟩:=bx n;have⟨ns,hs,⟨xs,ok,hl⟩,hq⟩:=h;have⟨a,us,rfl,sq,sr,ay⟩:=sH r n1 hl;rw[nR hl]at hs;cases hs;have⟨ws,WN,dn⟩:=sr.at_ G L M H (.refl _) (.refl _) r ay;rw[lU dn]at WN;exact⟨a,ns,rfl,WN,.int ns.sum,G,L,M,e,r,rfl,hq⟩
 ·exact h.elim
def FH:bootBuiltins "sum"=some (.builtin "sum"):=by decide+kernel
def BD:bootBuiltins "enumerate"=some (.type "enumerate"):=by decide+kernel
section
variable{X:Cx}{R:St->XK}{e a b:Expr}{t:DA}{ta tb:DE}{p pos:Pos}
def UX(hm:X.mg "sum"=none)(ha:JA X R [e] t)(hc:X.calm=true:=by rfl)(hg:Gl X "sum":=by rfl)(he:starEach [e] X.env=(false,eval e X.env)::starEach [] X.env:=by rfl)(dN:(backTo pos (starEach [] X.env)).any (·.1)=false:=by rfl):JE X R (.Call (.Name "sum" p) [e] [] pos) (CI Q2 t):=
 gX (Kc hc) Xd hm FH ha hg @_ @_ he dN
def Uc:Dt->Dt->Ms->DQ->Prop:=λd e M q=>∃u xs us,uP d=some u/\fG M e=some xs/\iu xs=some us/\q (.bl (SD u us)) M
def Yt{K:tf}:ou K (rIn K false) Uc:=by intro G0 L0 H0 G L M H v1 v2 d1 d2 q e r n1 n2 ⟨u,xs,us,h1,h2,h3,hq⟩;have⟨rfl,fu⟩:=nA h1 n1;have⟨a,vs,rfl,sq,dn⟩:=qD r n2 h2;have⟨rfl,fs⟩:=fV h3 dn;exact⟨a,vs,rfl,sq,fu,fs,.bl _,G,L,M,e,r,rfl,hq⟩
def BZ(ja:JE X R a ta)(jb:JE X R b tb)(hm:behindInMarks .In b=false:=by rfl):JT X R (.Compare a [.In] [b] pos) (lE (iW Uc ta tb)):=fB GZ Yt ja jb hm
end
def Inv.vB{X:Cx}{δ:List (Addr×Obj)}{σ:St}{H:Hp}{s:Shared}{h':Heap}{its:List Addr}{T:Addr}{o:HO}{t':Nat}(I:Inv X δ σ H s)(k:∀b u,b∉its->s.heap.get? b=some u->h'.get? b=some u)(f:∀b∈its,tO X δ H b)(hT:s.heap.objs.size<=T)(new:aM X.prog X.w (upd H T o) h' T o):
  Inv X δ σ (upd H T o) {s with heap:=h',toks:=t'}:=by
 have hn:=I.ay.fresh hT;have Tv:∀b u,H b=some u->b∉its:=λb u e z=>by rw[(f b z).1]at e;cases e
 refine I.call (ch:=its) (g':=s.gens) (d':=s.drawn) (t':=t') ⟨λb u q _ _ hb=>k b u hb q,λb u q _ _ hb=>⟨u.slots,k b u hb q⟩,λb u q n _=>?_,λb u q hb=>⟨u,k b u hb q⟩,λb xs q=>?_,λb u xs q=>?_,λb ps q=>⟨#[],?_⟩⟩ (λb u e=>?_) I.bare λb hb=>?_
 ·rw[ω (aaM (aas (aaq q) hT))];exact n
 ·rw[ω (aH q hn)];exact q
 ·rw[ω (aH q hn)];exact q
 ·rw[ω (aH q hn),q];simp
 ·by_cases hb:b=T
  ·subst hb;rw[Ι]at e;cases e;exact new
  ·rw[ω hb]at e;refine(I.ay b u e).qf (λc v hc q=>k c v ?_ q) (λc q=>by rw[ω (aH q hn)];exact q) λc xs q=>by rw[ω (aH q hn)];exact q
   rcases hc with z| z
   ·rw[z];exact Tv b u e
   ·exact Tv c _ z
 ·have⟨f0,f1,f2,f3,f4,f5⟩:=f b hb;exact⟨f3,f1,f4,f5⟩
def Ite(K:tf)(l:Addr):It:=
 ⟨λi H=>∃xs x,fU K H l xs/\xs[i]? =some x,λi H v H'=>∃p x,H p=none/\v= .ref p/\H'=upd H p (.tup [.int i,x])/\∀xs,fU K H l xs->xs[i]? =some x,λi H=>∃xs,fU K H l xs/\xs.length<=i⟩
def Gv{P:Program}{w:World}{K:tf}{elts:List Expr}{x1:Nat}{tp:Pos}(l it e:Addr)(jz:e≠it):Turn P w K (.Tuple elts x1 tp) (Ite K l) [e,it] e (λi h=>(∃old,IsEnum h e it i old)/\h.IsListIter it l i) where
 mem:=by simp
 obj:=λi h st b hb=>by
  have⟨⟨old,he⟩,hi⟩:=st;rcases aaG.mp hb with rfl| hb
  ·exact⟨_,he,λv z=>by
    have z':Data.fields _=Data.cell v:=z
    cases z'⟩
  ·have e:b=it:=by simpa using hb
   subst e;have⟨o,e,c,d⟩:=hi;exact⟨o,e,λv z=>by rw[d]at z;cases z⟩
 keep:=λi h h' st k=>by have⟨⟨old,he⟩,hi⟩:=st;exact⟨⟨old,k e (by simp) _ he⟩,hi.at λo q=>k it (by simp) o q⟩
 item:=by
  intro X hP hw hK hc i δ s σ H E I hf st hg;subst hP hw hK;have⟨⟨old,he⟩,hi⟩:=st;have⟨xs,x,hq,hx⟩:=hg;have⟨its,rv,p,hz⟩:=I.list hq;have⟨u,hu,ru⟩:=rv.get hx;refine wpAny_pyNext_enum_item he hi p.isList (x:=u) (by simpa using hu) jz λh' ho Jk hT hsz hk=>?_;refine⟨_,rfl,wpAny_letOwnedTupleGo_enum (s:={s with heap:=h',toks:=s.toks+1}) ho λh2 he2 sb=>?_⟩;have sb:Heap.SameBut e h' h2:=sb;have elt:e < s.heap.objs.size:=aaq he;have ilt:it < s.heap.objs.size:=by have⟨o,q,_⟩:=hi;exact aaq q
  have neT:s.heap.objs.size≠e:=acj elt;have hT2:h2.get? s.heap.objs.size=some {cls:=.type "tuple",data:=.seq #[.int i s.toks,u]}:=(sb.2 _ neT).trans hT;have I2:Inv X δ σ (upd H s.heap.objs.size (.tup [.int i,x])) {s with heap:=h2,toks:=s.toks+1}:=by
   refine I.vB (its:=[e,it]) (λb o hb q=>?_) hf (aao _) ?_
   ·have h1:b≠e:=λz=>hb (by simp[z]);have h3:b≠it:=λz=>hb (by simp[z]);exact(sb.2 b h1).trans (hk b o h1 h3 q)
   ·refine⟨by simp[sizeLine_eq],[.int i s.toks,u],.cons ⟨_,rfl⟩ (.cons ru .nil),?_⟩;exact⟨_,hT2,rfl,0,rfl⟩
  have iter:h2.IsListIter it l (i+1):=Jk.at λo q=>(sb.2 it (Ne.symm jz)).trans q;refine⟨.ref s.heap.objs.size,_,I2,rfl,⟨s.heap.objs.size,x,I.ay.fresh (Nat.le_refl _),rfl,rfl,λys hy=>by rw[I.bP hy hq];exact hx⟩,⟨⟨u,by simpa using he2⟩,iter⟩,λb hb=>?_⟩;have nb:b≠s.heap.objs.size:=by
   rcases aaG.mp hb with rfl| hb
   ·exact aaM elt
   ·have:b=it:=by simpa using hb
    subst this;exact aaM ilt
  rw[ω nb];exact(hf b hb).1
 done:=by intro X hP hw hK hc i δ s σ H E I hf st hg;subst hP hw hK;have⟨⟨old,he⟩,hi⟩:=st;have⟨xs,hq,hx⟩:=hg;have⟨its,rv,p,hz⟩:=I.list hq;have hl:=rv.length;have⟨f0,f1,f2,f3,f4,f5⟩:=hf it (by simp);refine wpAny_pyNext_enum_end (I.ok.hd hc) he hi p.isList (by simp;omega) λh' ext=>⟨rfl,I.turned (t':=s.toks) (λb o hb q=>ext b o hb q) f0 f1 f3 f4 f5⟩
 self:=λ_ _ _ _ _ st h=>by have⟨⟨old,he⟩,_⟩:=st;exact wpAny_pyIter_enum he h
def g6:Nat->List Dt->List Dt
 | _,[]=>[]
 | n,x::xs=>.tup [.int n,x]::g6 (n+1) xs
def fN:∀(n:Nat) (xs:List Dt),(g6 n xs).length=xs.length
 | _,[]=>rfl
 | n,_::xs=>by unfold g6;rw[List.length_cons,List.length_cons,fN]
def oG:∀{n i:Nat} {xs:List Dt} {d:Dt},(g6 n xs)[i]? =some d->∃x,xs[i]? =some x/\d= .tup [.int ((n+i:Nat):Int),x]
 | n,i,[],d,h=>by simp[g6]at h
 | n,0,x::xs,d,h=>by unfold g6 at h;simp at h;exact⟨x,rfl,by rw[<-h];simp⟩
 | n,i+1,x::xs,d,h=>by unfold g6 at h;have⟨y,h1,h2⟩:=oG (n:=n+1) (i:=i) (xs:=xs) (d:=d) (by simpa using h);exact⟨y,by simpa using h1,by rw[h2,show n+1+i=n+(i+1) by omega]⟩
def Kf{K:tf}{G:Hp}{L:List Addr}{a:Addr}{xs:List Dt}{ok:Ms->Prop}(s:Src K a xs ok G L):Q3 K (Ite K a) (g6 0 xs) ok G L where
 go:=λi G1 L1 M1 H1 d g l r k e=>by have⟨vs,hs,n⟩:=s.at_ G1 L1 M1 H1 g l r k;have⟨y,ey,rfl⟩:=oG e;have⟨v,e1,n1⟩:=n.get ey;refine⟨⟨vs,v,hs,e1⟩,λv' H' xz=>?_⟩;have⟨p,x,hp,ev,eH,hx⟩:=xz;subst ev eH;have e2:=hx vs hs;rw[e1]at e2;cases e2;refine⟨_,r.RL hp,r.Lm hp,qC (ds:=[.int ((0+i:Nat):Int),y]) r hp ⟨_,_,rfl,?_,_,_,rfl,n1,rfl⟩⟩;show V.int i=V.int _;rw[ab1]
 stop:=λi G1 L1 M1 H1 g l r k e=>by have⟨vs,hs,n⟩:=s.at_ G1 L1 M1 H1 g l r k;exact⟨vs,hs,by rw[<-n.length,<-fN 0];exact e⟩
def VF(t:DA):DK:=λρ M q x=>t ρ M (λds M1=>∃d xs ok,ds=[d]/\iz M1 d=some (xs,ok)/\q (g6 0 xs) ok M1) x
def oq{X:Cx}{R:St->XK}{elts:List Expr}{x1:Nat}{tp:Pos}{a:Expr}{t:DA}{p pos:Pos}(hm:X.mg "enumerate"=none)(ha:JA X R [a] t)(hg:Gl X "enumerate":=by rfl)(hs:starEach [a] X.env=[(false,eval a X.env)]:=by rfl):JK X R (.Tuple elts x1 tp) (.Call (.Name "enumerate" p) [a] [] pos) (VF t):=by
 intro δ s σ H Q I ⟨G,L,ρ,M,q,x,rl,n,ht,hx,hQ⟩;refine Call_ (kG I hg hm BD (PyProof.Rows.callWith_type1 (bc (ha pos δ s σ H (N9 X.K G L H _) I ⟨G,L,ρ,M,_,x,rl,n,ht,hx,λ_ _ f=>f⟩) λus s1 xz=>?_) hs rfl));have⟨vs,H1,I1,rv,ds,G1,L1,M1,e1,r1,n1,d,xs,ok,ed,hl,h1⟩:=xz;subst ed;have⟨v,rfl,n2⟩:=bx n1;have⟨b,ws,rfl,sq,sr,_⟩:=sH r1 n2 hl;have⟨u,rfl,ru⟩:=aj.one rv;cases ru;have⟨its,_,pl,_⟩:=I1.list sq;refine call_enumerate_list pl.isList λh' he hi hz hk=>?_;have I2:Inv X δ σ H1 {s1 with heap:=h'}:=I1.kept (t':=s1.toks) hk;refine wpAny_pyIter_enum (s:={s1 with heap:=h'}) he ⟨s1.heap.objs.size+1,[s1.heap.objs.size+1,s1.heap.objs.size],_,_,H1,rfl,I2,Gv b s1.heap.objs.size (s1.heap.objs.size+1) (acj (abv _)),⟨⟨_,he⟩,hi⟩,λc hc=>?_,hQ _ _ ⟨_,ok,G1,L1,M1,e1,r1,Kf sr,h1⟩⟩;have hc:s1.heap.objs.size<=c:=by
  rcases aaG.mp hc with rfl| hc
  ·exact Nat.le_succ _
  ·have:c=s1.heap.objs.size:=by simpa using hc
   rw[this];exact aao _
 have f:=I1.Cv (H':=H1) hc (I1.ay.fresh hc);exact f
def ID(M:Ms):Dt->Option Value
 | .loc k=>match M[k]? with
  | some (.lst _)=>some (.type "list")
  | _=>none
 | d=>Ot d
def La(K:tf):List Dt->Ms->DQ->Prop:=λds M q=>∃d c t t' b,ds=[d,c]/\ID M d=some t/\QC c=some t'/\PySem.W.kitOne K t t'=some b/\q (.bl b) M
section
variable{K:tf}
def Bu{G:Hp}{L:List Addr}{M:Ms}{H:Hp}{d:Dt}{v:V}{t:Value}(r:Rl K G L M H)(n:Den K G L d v)(h:ID M d=some t):jI K H v t:=by
 by_cases hd:∃k,d= .loc k
 ·have⟨k,rfl⟩:=hd;have⟨a,rfl,e⟩:=n;have h:(match M[k]? with| some (.lst _)=>some (Value.type "list")| _=>none)=some t:=h;split at h
  ·rename_i xs hm;cases h;have⟨_,vs,e1,_⟩:=r.fm k a _ e hm;exact .lst e1
  ·cases h
 ·refine Hi r n ?_;cases d with
  | loc k=>exact aaK ⟨k,rfl⟩ hd
  | _=>exact h
def Oi:FX K (λxs H Q=>∃x c t t' b,xs=[x,c]/\jI K H x t/\B_ c=some t'/\PySem.W.kitOne K t t'=some b/\Q (.bl b) H) (La K):=by intro G0 L0 H0 G L M H vs ds q e r n ⟨d,c,t,t',b,ed,h1,h2,hb,h⟩;subst ed;have⟨v,u,rfl,n1,n2⟩:=iF n;exact⟨v,u,t,t',b,rfl,Bu r n1 h1,Ec n2 h2,hb,bR e r h⟩
end
section
variable{X:Cx}{R:St->XK}{e e2:Expr}{t:DA}{p pos:Pos}
def Lq(K:tf)(hm:X.mg "isinstance"=none)(ha:JA X R [e,e2] t)(he:starEach [e,e2] X.env=(false,eval e X.env)::starEach [e2] X.env:=by rfl)(dN:(backTo pos (starEach [e2] X.env)).any (·.1)=false:=by rfl)(hg:Gl X "isinstance":=by rfl)(hK:X.K=K:=by rfl):JE X R (.Call (.Name "isinstance" p) [e,e2] [] pos) (CI (La K) t):=by subst hK;exact gX pR Oi hm iV ha hg @_ @_ he dN
def vc:∀{zs:List Str} {us:List Value},Paired (λ(z:Str) (u:Value)=>∃tk,u= .str z tk) zs us->aj (zs.map V.str) us
 | _,_,.nil=>.nil
 | _,_,.cons h t=>.cons h (vc t)
def OB{x:Str}{zs:List Str}(hm:∃a o its n,X.mg x=some (.ref a)/\X.K.lookup a=some o/\o.cls= .type "tuple"/\o.data= .seq its n/\its.size<=sizeLine/\Paired (λ(z:Str) (u:Value)=>∃tk,u= .str z tk) zs its.toList)(hg:Gl X x:=by rfl)(hd:(x==("__debug__":Str))=false:=by decide):JE X R (.Name x pos) (dC (.kt (zs.map .str))):=by have⟨a,o,its,n,h1,h2,h3,h4,h5,h6⟩:=hm;exact OO (v:=.ref a) (yq hg h1 rfl hd) λG L=>⟨a,zs.map V.str,rfl,.inr ⟨o,its,n,h2,h3,h4,h5,vc h6⟩,u_⟩
end
def eU{te:DE}{cs:En}{ok:Ms->Prop}{f:Dt->Dt}:∀{xs acc:List Dt} {M:Ms} {k:List Dt->Ms->Prop},ok M->(∀x∈xs,∀q:DQ,q (f x) M->te (some x::cs) M q iL)->k (acc++xs.map f) M->pU te cs ok xs acc M k
 | [],acc,M,k,ho,_,h=>⟨ho,by simpa using h⟩
 | x::xs,acc,M,k,ho,hf,h=>⟨ho,hf x List.mem_cons_self _ (eU ho (λy hy=>hf y (List.mem_cons_of_mem _ hy)) (by simpa using h))⟩
def aO{g:Dt->En->(En->Prop)->Prop}{tb:DS}{Dn:iM}{ok:Ms->Prop}(J:List Dt->En->Ms->Prop)(ay:∀xs ρ M,J xs ρ M->ok M)
  (step:∀x xs ρ M,J (x::xs) ρ M->(∀ρ M,J xs ρ M->wx g tb Dn ok xs ρ M)->g x ρ λρ'=>tb {Dn with nx:=wx g tb Dn ok xs,ct:=wx g tb Dn ok xs,bk:=Dn.nx} ρ' M)
  (fin:∀ρ M,J [] ρ M->Dn.nx ρ M):∀(xs:List Dt) (ρ:En) (M:Ms),J xs ρ M->wx g tb Dn ok xs ρ M
 | [],ρ,M,h=>⟨ay _ _ _ h,fin _ _ h⟩
 | x::xs,ρ,M,h=>⟨ay _ _ _ h,step x xs ρ M h λρ' M' h'=>aO J ay step fin xs ρ' M' h'⟩
section
variable{K:tf}{G:Hp}{L:List Addr}
mutual
def Pf:∀(d:Dt) (v:V),Den K G L d v->d.under L.length
 | .aE,_,_=>trivial
 | .bl _,_,_=>trivial
 | .int _,_,_=>trivial
 | .str _,_,_=>trivial
 | .tup ds,_,⟨a,vs,e,h1,h2⟩=>eZ ds vs h2
 | .lst ds,_,⟨a,vs,e,h1,h2⟩=>eZ ds vs h2
 | .obj C ns ds,_,⟨a,dx,vs,e,h1,hl,h2⟩=>eZ ds vs h2
 | .loc k,_,⟨a,e,h1⟩=>(aai.mp h1).1
 | .ref _,_,_=>trivial
 | .ty _,_,_=>trivial
 | .ji _,_,_=>trivial
 | .kt ds,_,⟨a,vs,e,h1,h2⟩=>eZ ds vs h2
 | .exc _ _ ds,_,⟨a,od,vs,e,h1,h2,h3,h4⟩=>eZ ds vs h4
 | .Su _ _ _ _ ds,_,⟨vs,e,h2,h3,h4⟩=>eZ ds vs h4
def eZ:∀(ds:List Dt) (vs:List V),Ν K G L ds vs->Dt.bq L.length ds
 | [],_,_=>trivial
 | d::ds,_,⟨v,r,e,h1,h2⟩=>⟨Pf d v h1,eZ ds r h2⟩
end
def Rl.un{M:Ms}{H:Hp}(r:Rl K G L M H):∀m∈M,MO.under M.length m:=λm hm=>by
 have⟨k,hk,e⟩:=abf hm;have em:M[k]? =some m:=by rw[aac hk,e]
 have el:L[k]? =some (L[k]'(by rw[r.len];exact hk)):=aac _;have⟨_,q⟩:=r.fm k _ m el em;rw[<-r.len];cases m with
 | lst ds=>have⟨vs,_,h⟩:=q;exact eZ _ _ h
 | ins C ns ds=>have⟨dx,vs,_,_,h⟩:=q;exact eZ _ _ h
 | lH ks ds=>have⟨vs,_,_,h⟩:=q;exact eZ _ _ h
 | raw u=>trivial
end
def tK(M0:Ms)(q:DQ):DQ:=λd M=>∃E d',M=M0++E/\HB M0.length E d d'/\q d' M0
def Fin.tK{K:tf}{G0:Hp}{L0:List Addr}{M0:Ms}{H0:Hp}{q:DQ}{v:V}{H:Hp}(r0:Rl K G0 L0 M0 H0)(f:Fin K G0 L0 H0 (tK M0 q) v H):Fin K G0 L0 H0 q v H:=by have⟨d,G,L,M,ex,r,dn,E,d',e,fz,hq⟩:=f;exact Fin.wG r0 ⟨d,G,L,M,ex,r,dn,M0,E,d',e,rfl,r0.un,fz,hq⟩
def XC(t:DE):DE:=λρ M q x=>t ρ M (tK M q) x
def cz{X:Cx}{R:St->XK}{e:Expr}{t:DE}(h:JE X R e t):JE X R e (XC t):=.of h λσ H G L ρ M q x rl n ht hx=>⟨G,L,ρ,M,_,x,rl,n,ht,hx,λv H1 f=>Fin.tK rl f⟩
def D_{M0:Ms}{q:DQ}{d:Dt}(hu:d.under M0.length)(h:q d M0):tK M0 q d M0:=⟨[],d,by simp,.old hu,h⟩
def hU{M0 E:Ms}{q:DQ}{d d':Dt}(f:HB M0.length E d d')(h:q d' M0):tK M0 q d (M0++E):=⟨E,d',rfl,f,h⟩
def fP(f:Expr->Option Dt):List Expr->Option (List Dt)
 | []=>some []
 | e::es=>match f e,fP f es with
  | some d,some ds=>some (d::ds)
  | _,_=>none
def gB:Nat->Expr->Option Dt
 | 0,e=>match e with
  | .Constant (.int i) _ _=>some (.int i)
  | .Constant (.str x) _ _=>some (.str x)
  | _=>none
 | n+1,e=>match e with
  | .Constant (.int i) _ _=>some (.int i)
  | .Constant (.str x) _ _=>some (.str x)
  | .Tuple es _ _=>if es.length<=100 then (fP (gB n) es).map .tup else none
  | .List es _=>if es.length<=100 then (fP (gB n) es).map .lst else none
  | _=>none
def Bp{n:Nat}{e:Expr}{d:Dt}{es:List Expr}{env:Env}(h:gB n e=some d):starEach (e::es) env=(false,eval e env)::starEach es env:=by cases n <;> (unfold gB at h;split at h <;> first| rfl| cases h)
def kg{f:Expr->Option Dt}:∀{es:List Expr} {ds:List Dt},fP f es=some ds->ds.length=es.length
 | [],ds,h=>by cases h;rfl
 | e::es,ds,h=>by
  unfold fP at h;split at h
  ·rename_i d NK h1 h2;cases h;rw[aaL,aaL,kg h2]
  ·cases h
section
variable{X:Cx}{R:St->XK}
def qS{n:Nat}(ih:∀(e:Expr) (d:Dt),gB n e=some d->JE X R e (dC d)):∀(es:List Expr) (ds:List Dt),fP (gB n) es=some ds->JA X R es (λ_ M q _=>q ds M)
 | [],ds,h=>by cases h;exact η
 | e::es,ds,h=>by
  unfold fP at h;split at h
  ·rename_i d NK h1 h2;cases h;exact μ (ih e d h1) (qS ih es NK h2) (hs:=Bp h1)
  ·cases h
def EC{n:Nat}(h:n<=100):n<=sizeLine:=aax h @_
def JE.imp{e:Expr}{t t':DE}(h:JE X R e t)(hi:∀ρ M q x,t' ρ M q x->t ρ M q x):JE X R e t':=.of h λσ H G L ρ M q x rl n ht hx=>⟨G,L,ρ,M,q,x,rl,n,hi _ _ _ _ ht,hx,λ_ _ f=>f⟩
def fM:∀(n:Nat) {e:Expr} {d:Dt},gB n e=some d->JE X R e (dC d)
 | 0,e,d,h=>by
  unfold gB at h;split at h
  ·cases h;exact χ
  ·cases h;exact jH
  ·cases h
 | n +1,e,d,h=>by
  unfold gB at h;split at h
  ·cases h;exact χ
  ·cases h;exact jH
  ·split at h
   ·rename_i es _ _ hl;cases hc:fP (gB n) es with
    | none=>rw[hc]at h;cases h
    | some ds=>
     rw[hc]at h;cases h;exact(bQ (qS (λe d=>fM n) es ds hc)).imp λρ M q x hq=>⟨EC (by rw[kg hc];exact hl),hq⟩
   ·cases h
  ·split at h
   ·rename_i es _ hl;cases hc:fP (gB n) es with
    | none=>rw[hc]at h;cases h
    | some ds=>
     rw[hc]at h;cases h;exact(iI (qS (λe d=>fM n) es ds hc)).imp λρ M q x hq=>⟨EC (by rw[kg hc];exact hl),hq⟩
   ·cases h
  ·cases h
end
def GJ:bootBuiltins "zip"=some (.type "zip"):=by decide+kernel
def Inv.MX{X:Cx}{δ:List (Addr×Obj)}{σ:St}{H:Hp}{s:Shared}{h':Heap}{its:List Addr}{t':Nat}(I:Inv X δ σ H s)(k:∀b u,b∉its->s.heap.get? b=some u->h'.get? b=some u)(f:∀b∈its,tO X δ H b):
  Inv X δ σ H {s with heap:=h',toks:=t'}:=by
 have Tv:∀b u,H b=some u->b∉its:=λb u e z=>by rw[(f b z).1]at e;cases e
 refine I.call (ch:=its) (g':=s.gens) (d':=s.drawn) (t':=t') ⟨λb u q _ _ hb=>k b u hb q,λb u q _ _ hb=>⟨u.slots,k b u hb q⟩,λb u q n _=>n,λb u q hb=>⟨u,k b u hb q⟩,λb xs q=>q,λb u xs q=>q,λb ps q=>⟨#[],by rw[q];simp⟩⟩ (λb u e=>?_) I.bare λb hb=>?_
 ·refine(I.ay b u e).qf (λc v hc q=>k c v ?_ q) (λc q=>q) λc xs q=>q;rcases hc with z| z
  ·rw[z];exact Tv b u e
  ·exact Tv c _ z
 ·have⟨f0,f1,f2,f3,f4,f5⟩:=f b hb;exact⟨f3,f1,f4,f5⟩
def Itz(K:tf)(l1 l2:Addr):It:=
 ⟨λi H=>∃xs ys x y,fU K H l1 xs/\fU K H l2 ys/\xs[i]? =some x/\ys[i]? =some y,
  λi H v H'=>∃p x y,H p=none/\v= .ref p/\H'=upd H p (.tup [x,y])/\(∀xs,fU K H l1 xs->xs[i]? =some x)/\∀ys,fU K H l2 ys->ys[i]? =some y,
  λi H=>∃xs ys,fU K H l1 xs/\fU K H l2 ys/\(xs.length<=i\/ys.length<=i)⟩
def Km{P:Program}{w:World}{K:tf}{elts:List Expr}{x1:Nat}{tp:Pos}{l1 l2 i1 i2 TI TO z:Addr}(D:ZipApart z TI TO i1 i2 l1 l2):Turn P w K (.Tuple elts x1 tp) (Itz K l1 l2) [z,TI,TO,i1,i2] z (λi h=>(∃a b,IsZip h z TI TO .none/\IsPair h TI (.ref i1) (.ref i2)/\IsPair h TO a b)/\h.IsListIter i1 l1 i/\h.IsListIter i2 l2 i) where
 mem:=by simp
 obj:=λi h st b hb=>by
  have⟨⟨a,c,hz,HM,LW⟩,h1,h2⟩:=st;simp only[List.mem_cons,List.not_mem_nil,or_false]at hb;rcases hb with rfl| rfl| rfl| rfl| rfl
  ·exact⟨_,hz,λv z=>by
    have z':Data.fields _=Data.cell v:=z
    cases z'⟩
  ·exact⟨_,HM,λv z=>by
    have z':Data.seq _=Data.cell v:=z
    cases z'⟩
  ·exact⟨_,LW,λv z=>by
    have z':Data.seq _=Data.cell v:=z
    cases z'⟩
  ·have⟨o,e,c,d⟩:=h1;exact⟨o,e,λv z=>by rw[d]at z;cases z⟩
  ·have⟨o,e,c,d⟩:=h2;exact⟨o,e,λv z=>by rw[d]at z;cases z⟩
 keep:=λi h h' st k=>by have⟨⟨a,c,hz,HM,LW⟩,h1,h2⟩:=st;exact⟨⟨a,c,k z (by simp) _ hz,k TI (by simp) _ HM,k TO (by simp) _ LW⟩,h1.at λo q=>k i1 (by simp) o q,h2.at λo q=>k i2 (by simp) o q⟩
 item:=by
  intro X hP hw hK hc i δ s σ H E I hf st hg;subst hP hw hK;have⟨⟨a,c,hz,HM,LW⟩,h1,h2⟩:=st;have⟨xs,ys,x,y,T4,Sf,hx,hy⟩:=hg;have⟨ZT,W9,p1,_⟩:=I.list T4;have⟨u1,hu1,X4⟩:=W9.get hx;have⟨JU,Ze,p2,_⟩:=I.list Sf;have⟨u2,hu2,ru2⟩:=Ze.get hy;refine wpAny_pyNext_zip_item D hz HM LW h1 h2 p1.isList p2.isList (x:=u1) (y:=u2) (by simpa using hu1) (by simpa using hu2) λh' WZ Xv tF NC hT hsz hk=>?_;refine⟨_,rfl,wpAny_letOwnedTupleGo_zip (s:={s with heap:=h'}) WZ λh3 hz3 sb=>?_⟩;have sb:Heap.SameBut z h' h3:=sb;have zlt:z < s.heap.objs.size:=aaq hz;have neT:s.heap.objs.size≠z:=acj zlt;have hT3:h3.get? s.heap.objs.size=some {cls:=.type "tuple",data:=.seq #[u1,u2]}:=(sb.2 _ neT).trans hT;have lt:∀b∈[z,TI,TO,i1,i2],b < s.heap.objs.size:=λb hb=>by
   simp only[List.mem_cons,List.not_mem_nil,or_false]at hb;rcases hb with rfl| rfl| rfl| rfl| rfl
   ·exact zlt
   ·exact aaq HM
   ·exact aaq LW
   ·have⟨o,q,_⟩:=h1;exact aaq q
   ·have⟨o,q,_⟩:=h2;exact aaq q
  have I2:Inv X δ σ (upd H s.heap.objs.size (.tup [x,y])) {s with heap:=h3,toks:=s.toks}:=by
   refine I.vB (its:=[z,TI,TO,i1,i2]) (λb o hb q=>?_) hf (aao _) ?_
   ·simp only[List.mem_cons,List.not_mem_nil,or_false,not_or]at hb;have⟨b1,b2,b3,b4,b5⟩:=hb;exact(sb.2 b b1).trans (hk b o b1 b3 b4 b5 q)
   ·refine⟨by simp[sizeLine_eq],[u1,u2],.cons X4 (.cons ru2 .nil),?_⟩;exact⟨_,hT3,rfl,0,rfl⟩
  refine⟨.ref s.heap.objs.size,_,I2,rfl,⟨s.heap.objs.size,x,y,I.ay.fresh (aao _),rfl,rfl,λzs ZX=>by rw[I.bP ZX T4];exact hx,λzs ZX=>by rw[I.bP ZX Sf];exact hy⟩,⟨⟨u1,u2,hz3,(sb.2 _ D.TIz).trans (hk _ _ D.TIz D.TITO D.TIi1 D.TIi2 HM),(sb.2 _ D.TOz).trans Xv⟩,tF.at λo q=>(sb.2 i1 D.i1z).trans q,NC.at λo q=>(sb.2 i2 D.i2z).trans q⟩,λb hb=>?_⟩;rw[ω (aaM (lt b hb))];exact(hf b hb).1
 done:=by intro X hP hw hK hc i δ s σ H E I hf st hg;subst hP hw hK;have⟨⟨a,c,hz,HM,LW⟩,h1,h2⟩:=st;have⟨xs,ys,T4,Sf,hx⟩:=hg;have⟨ZT,W9,p1,_⟩:=I.list T4;have⟨JU,Ze,p2,_⟩:=I.list Sf;have Zp:=W9.length;have FV:=Ze.length;refine wpAny_pyNext_zip_end (I.ok.hd hc) D hz HM LW h1 h2 p1.isList p2.isList (by rcases hx with hx| hx;(left;simp;omega);(right;simp;omega)) λh' ext=>⟨rfl,I.MX (t':=s.toks) (its:=[z,TI,TO,i1,i2]) (λb o hb q=>?_) hf⟩;simp only[List.mem_cons,List.not_mem_nil,or_false,not_or]at hb;have⟨b1,b2,b3,b4,b5⟩:=hb;exact ext b o b1 b3 b4 b5 q
 self:=λ_ _ _ _ _ st h=>by have⟨⟨a,c,hz,_,_⟩,_⟩:=st;exact wpAny_pyIter_zip hz h
def ux(xs ys:List Dt):List Dt:=(xs.zip ys).map λp=>.tup [p.1,p.2]
def JR{xs ys:List Dt}{i:Nat}{d:Dt}(h:(ux xs ys)[i]? =some d):∃x y,xs[i]? =some x/\ys[i]? =some y/\d= .tup [x,y]:=by
 unfold ux at h;rw[aap]at h;cases e:(xs.zip ys)[i]? with
 | none=>rw[e]at h;cases h
 | some p=>
  rw[e]at h;cases h;have⟨h1,h2⟩:=List.getElem?_zip_eq_some.mp e;exact⟨p.1,p.2,h1,h2,rfl⟩
def yN(xs ys:List Dt):(ux xs ys).length=min xs.length ys.length:=by unfold ux;rw[List.length_map,List.length_zip]
def NW{K:tf}{G:Hp}{L:List Addr}{a b:Addr}{xs ys:List Dt}{ok Sl:Ms->Prop}(s:Src K a xs ok G L)(s':Src K b ys Sl G L):Q3 K (Itz K a b) (ux xs ys) (λM=>ok M/\Sl M) G L where
 go:=λi G1 L1 M1 H1 d g l r k e=>by have⟨vs,hs,n⟩:=s.at_ G1 L1 M1 H1 g l r k.1;have⟨Wj,Sd,n'⟩:=s'.at_ G1 L1 M1 H1 g l r k.2;have⟨x,y,ex,ey,rfl⟩:=JR e;have⟨v,e1,n1⟩:=n.get ex;have⟨v',e1',n1'⟩:=n'.get ey;refine⟨⟨vs,Wj,v,v',hs,Sd,e1,e1'⟩,λw H' xz=>?_⟩;have⟨p,x2,y2,hp,ev,eH,hx,hy⟩:=xz;subst ev eH;have e2:=hx vs hs;rw[e1]at e2;cases e2;have e3:=hy Wj Sd;rw[e1']at e3;cases e3;exact⟨_,r.RL hp,r.Lm hp,qC (ds:=[x,y]) r hp ⟨_,_,rfl,n1,_,_,rfl,n1',rfl⟩⟩
 stop:=λi G1 L1 M1 H1 g l r k e=>by have⟨vs,hs,n⟩:=s.at_ G1 L1 M1 H1 g l r k.1;have⟨Wj,Sd,n'⟩:=s'.at_ G1 L1 M1 H1 g l r k.2;refine⟨vs,Wj,hs,Sd,?_⟩;rw[<-n.length,<-n'.length];rw[yN]at e;omega
def Zu(t:DA):DK:=λρ M q x=>t ρ M (λds M1=>∃d d' xs ys ok Sl,ds=[d,d']/\iz M1 d=some (xs,ok)/\iz M1 d'=some (ys,Sl)/\q (ux xs ys) (λM=>ok M/\Sl M) M1) x
def Jp{X:Cx}{R:St->XK}{elts:List Expr}{x1:Nat}{tp:Pos}{a a':Expr}{t:DA}{p pos:Pos}(hm:X.mg "zip"=none)(ha:JA X R [a,a'] t)(hg:Gl X "zip":=by rfl)(hs:starEach [a,a'] X.env=(false,eval a X.env)::starEach [a'] X.env:=by rfl)(dN:(backTo pos (starEach [a'] X.env)).any (·.1)=false:=by rfl):JK X R (.Tuple elts x1 tp) (.Call (.Name "zip" p) [a,a'] [] pos) (Zu t):=by
 intro δ s σ H Q I ⟨G,L,ρ,M,q,x,rl,n,ht,hx,hQ⟩;refine Call_ (kG I hg hm GJ (PyProof.Rows.callWith_type1 (bc (ha pos δ s σ H (N9 X.K G L H _) I ⟨G,L,ρ,M,_,x,rl,n,ht,hx,λ_ _ f=>f⟩) λus s1 xz=>?_) hs dN));have⟨vs,H1,I1,rv,ds,G1,L1,M1,e1,r1,n1,d,d',xs,ys,ok,Sl,ed,hl,EY,h1⟩:=xz;subst ed;have⟨v,v',rfl,n2,n2'⟩:=iF n1;have⟨b,ws,rfl,sq,sr,_⟩:=sH r1 n2 hl;have⟨b',ws',rfl,sq',sr',_⟩:=sH r1 n2' EY;cases rv with
 | cons ru rv=>
  cases rv with
  | cons ru' rv=>
   cases rv;cases ru;cases ru';have⟨its,_,pl,_⟩:=I1.list sq;have⟨its',_,pl',_⟩:=I1.list sq';have lt1:b < s1.heap.objs.size:=by have⟨o,q,_⟩:=pl.isList;exact aaq q
   have lt2:b' < s1.heap.objs.size:=by have⟨o,q,_⟩:=pl'.isList;exact aaq q
   refine call_zip_2 pl.isList pl'.isList λh' hz HM LW hi Jk hsz hk=>?_;have I2:Inv X δ σ H1 {s1 with heap:=h'}:=I1.kept (t':=s1.toks) hk;have D:ZipApart (s1.heap.objs.size+4) (s1.heap.objs.size+2) (s1.heap.objs.size+3) s1.heap.objs.size (s1.heap.objs.size+1) b b':=by have ne:∀i j:Nat,i≠j->s1.heap.objs.size+i≠s1.heap.objs.size+j:=λi j h z=>h (Nat.add_left_cancel z);have n1:∀i:Nat,b≠s1.heap.objs.size+i:=λi=>aaM (aas lt1 (abw _ _));have n2:∀i:Nat,b'≠s1.heap.objs.size+i:=λi=>aaM (aas lt2 (abw _ _));exact⟨ne 2 4 @_,ne 3 4 @_,ne 0 4 @_,ne 1 4 @_,ne 2 3 @_,ne 2 0 @_,ne 2 1 @_,ne 3 0 @_,ne 3 1 @_,ne 0 1 @_,n1 4,n1 3,n1 0,n1 1,n2 4,n2 3,n2 0,n2 1⟩
   refine wpAny_pyIter_zip (s:={s1 with heap:=h'}) hz ⟨s1.heap.objs.size+4,[s1.heap.objs.size+4,s1.heap.objs.size+2,s1.heap.objs.size+3,s1.heap.objs.size,s1.heap.objs.size+1],_,_,H1,rfl,I2,Km D,⟨⟨_,_,hz,HM,LW⟩,hi,Jk⟩,λc hc=>?_,hQ _ _ ⟨_,_,G1,L1,M1,e1,r1,NW sr sr',h1⟩⟩;have hc:s1.heap.objs.size<=c:=by
    simp only[List.mem_cons,List.not_mem_nil,or_false]at hc;rcases hc with rfl| rfl| rfl| rfl| rfl
    ·exact abw _ _
    ·exact abw _ _
    ·exact abw _ _
    ·exact aao _
    ·exact abw _ _
   have f:=I1.Cv (H':=H1) hc (I1.ay.fresh hc);exact f
section
variable{X:Cx}{R:St->XK}{elt iter c:Expr}{x y:Str}{px py tp:Pos}{scope:Scope}{pos:Pos}{ti:DK}{tc:DT}{te:DE}{ys:List Str}{Μ:List Nat}{kk:Nat}
def tS(S:ai X scope [x] ys Μ)(hi:JK X R (.Name x px) iter ti)(ht:∀C s H fp,JT (Cx.comp X (x::ys) scope C s H fp) (λ_=>E0) c tc)(he:∀C s H fp,JE (Cx.comp X (x::ys) scope C s H fp) (λ_=>E0) elt te)(hc:X.calm=true:=by rfl)(hs:∀x,foldedSetIterable iter X.env x=pure x:=by intro _;rfl):JE X R (.ListComp elt [⟨.Name x px,iter,[c],0⟩] scope pos) (Kj 1 ti (gN 0) tc te Μ):=Vt false S hi (fg S (i:=0) rfl) aK (eS (Nat.zero_lt_succ 0)) (λC s H fp=>EN (ht C s H fp)) he hc hs λ_ _ _ _ h=>h
end
def bX{g:Dt->En->(En->Prop)->Prop}{tc:DT}{te:DE}{ρ0:En}{ok:Ms->Prop}{M:Ms}{k:List Dt->Ms->Prop}(ho:ok M)(b:Dt->Bool)(f:Dt->Dt):∀(xs acc:List Dt),(∀x∈xs,∀(q:DQ) (p:Ms->Prop),(b x=true->q (f x) M)->(b x=false->p M)->g x ρ0 λρ'=>tc ρ' M (λb' M1=>match b' with| true=>te ρ' M1 q iL| false=>p M1) iL)->
  k (acc++(xs.filter b).map f) M->gP g tc te ρ0 ok xs acc M k
 | [],acc,_,h=>⟨ho,by simpa using h⟩
 | x::xs,acc,ht,h=>⟨ho,ht x List.mem_cons_self _ _ (λhb=>bX ho b f xs _ (λy hy=>ht y (List.mem_cons_of_mem _ hy)) (by simpa [hb] using h)) λhb=>bX ho b f xs _ (λy hy=>ht y (List.mem_cons_of_mem _ hy)) (by simpa [hb] using h)⟩
def GS(xs:List V)(k:Nat):ud xs (some (k:Int)) none=xs.drop k:=by
 unfold ud;rw[HT.qx,HT.zR];by_cases h:k<=xs.length
 ·rw[ace h,abK (by rw[abM];omega)]
 ·rw[Nat.min_eq_right (),List.drop_eq_nil_of_le (Nat.le_refl _),List.drop_eq_nil_of_le ()];simp
section
variable{κ:Type} [DecidableEq κ]
def oN(Κ:List (κ×V))(k:κ):Option V:=(Κ.find? λkv=>decide (kv.1=k)).map (·.2)
def jK(Κ:List (κ×V))(k:κ)(v:V):List (κ×V):=
 if (Κ.any λkv=>decide (kv.1=k))=true then Κ.map (λkv=>if kv.1=k then (kv.1,v) else kv) else Κ++[(k,v)]
def jS{p:κ×V}{r:List (κ×V)}{k:κ}(e:p.1=k):oN (p::r) k=some p.2:=by simp[oN,List.find?_cons,e]
def ko{p:κ×V}{r:List (κ×V)}{k:κ}(e:¬p.1=k):oN (p::r) k=oN r k:=by simp[oN,List.find?_cons,e]
def qV(k:κ):∀Κ:List (κ×V),(Κ.any λkv=>decide (kv.1=k))=(oN Κ k).isSome
 | []=>rfl
 | p::r=>by
  rw[abY];by_cases e:p.1=k
  ·simp only[jS e,decide_eq_true e,Bool.true_or,Option.isSome_some]
  ·rw[ko e,aat e,Bool.false_or];exact qV k r
def ky(Κ:List (κ×V))(k:κ)(v:V):(jK Κ k v).length<=Κ.length+1:=by
 unfold jK;split
 ·rw[aah];omega
 ·rw[aan,aaL,List.length_nil];omega
def gL.oQ{o:Option V}{u:Option Value}(r:gL o u):o.isSome=u.isSome:=by
 cases o with
 | none=>cases u with
  | none=>rfl
  | some _=>exact(show False from r).elim
 | some _=>cases u with
  | none=>exact(show False from r).elim
  | some _=>rfl
def KV.val{Κ:List (κ×V)}{vs:List (κ×Value)}(r:KV Κ vs)(k:κ):gL (oN Κ k) (valueAt vs k):=by
 unfold KV at r
 induction r with
 | nil=>exact True.intro
 | @cons p q ps qs h t ih=>
  have⟨h1,h2⟩:=h;by_cases e:p.1=k
  ·have e':q.1=k:=h1.symm.trans e;have b:valueAt (q::qs) k=some q.2:=by simp[valueAt,List.find?_cons,e']
   rw[jS e,b];exact h2
  ·have e':¬q.1=k:=λz=>e (h1.trans z);have b:valueAt (q::qs) k=valueAt qs k:=by simp[valueAt,List.find?_cons,e']
   rw[ko e,b];exact ih
def KV.any{Κ:List (κ×V)}{vs:List (κ×Value)}(r:KV Κ vs)(k:κ):(Κ.any λkv=>decide (kv.1=k))=vs.any λkv=>decide (kv.1=k):=by
 unfold KV at r
 induction r with
 | nil=>rfl
 | cons h t ih=>rw[abY,abY,ih,h.1]
def KV.PY{Κ:List (κ×V)}{vs:List (κ×Value)}(r:KV Κ vs)(k:κ){y:V}{u:Value}(ry:ax y u):
  KV (Κ.map λkv=>if kv.1=k then (kv.1,y) else kv) (vs.map λkv=>if kv.1=k then (kv.1,u) else kv):=by
 unfold KV at r⊢
 induction r with
 | nil=>exact .nil
 | @cons p q ps qs h t ih=>
  rw[aa0,aa0];refine .cons ?_ ih;have⟨h1,h2⟩:=h;by_cases e:p.1=k
  ·rw[aay e,aay (h1.symm.trans e)];exact⟨h1,ry⟩
  ·rw[aaF e,aaF (λz=>e (h1.trans z))];exact⟨h1,h2⟩
def KV.put{Κ:List (κ×V)}{vs:List (κ×Value)}(r:KV Κ vs)(k:κ){y:V}{u:Value}(ry:ax y u):KV (jK Κ k y) (stored vs k u):=by
 unfold jK stored;rw[r.any k];by_cases e:(vs.any λkv=>decide (kv.1=k))=true
 ·rw[aay e,aay e];exact r.PY k ry
 ·rw[aaF e,aaF e];exact Paired.snoc r ⟨rfl,ry⟩
def KV.length{Κ:List (κ×V)}{vs:List (κ×Value)}(r:KV Κ vs):Κ.length=vs.length:=Paired.length r
end
def zv{P:Program}{w:World}{k:Key}{u:Value}(r:ax (kV k) u):(bN P w).is k u=true:=by
 cases k with
 | inl i=>have⟨t,e⟩:=(show∃t,u=Value.int i t from r);subst e;exact Am P w i t
 | inr x=>have⟨t,e⟩:=(show∃t,u=Value.str x t from r);subst e;exact AI P w x t
def uQ{P:Program}{w:World}:∀{ks:List Key} {us:List Value},aj (ks.map kV) us->ItemsAre (bN P w) ks us
 | [],_,r=>by rw[List.map_nil]at r;cases r;exact .nil
 | k::ks,_,r=>by
  rw[aa0]at r;cases r with
  | cons h t=>exact .cons (zv h) (uQ t)
abbrev KT(H:Hp):List (List Key×V)->List (List Key×Addr×Value)->Prop:=Paired λp q=>p.1=q.1/\H q.2.1=some (.tup (p.1.map kV))/\ax p.2 q.2.2
def KT.val{H:Hp}{Κ:List (List Key×V)}{xs:List (List Key×Addr×Value)}(r:KT H Κ xs)(k:List Key):gL (oN Κ k) ((atKey xs k).map (·.2)):=by
 induction r with
 | nil=>exact True.intro
 | @cons p q ps qs h t ih=>
  have⟨h1,_,h2⟩:=h;by_cases e:p.1=k
  ·have e':q.1=k:=h1.symm.trans e;have b:atKey (q::qs) k=some q.2:=by simp[atKey,List.find?_cons,e']
   rw[jS e,b];exact h2
  ·have e':¬q.1=k:=λz=>e (h1.trans z);have b:atKey (q::qs) k=atKey qs k:=by simp[atKey,List.find?_cons,e']
   rw[ko e,b];exact ih
def KT.PY{H:Hp}{Κ:List (List Key×V)}{xs:List (List Key×Addr×Value)}(r:KT H Κ xs)(k:List Key){y:V}{u:Value}(ry:ax y u):
  KT H (Κ.map λkv=>if kv.1=k then (kv.1,y) else kv) (xs.map (putAt k u)):=by
 induction r with
 | nil=>exact .nil
 | @cons p q ps qs h t ih=>
  rw[aa0,aa0];refine .cons ?_ ih;have⟨h1,h2,h3⟩:=h;unfold putAt;by_cases e:p.1=k
  ·rw[aay e,aay (h1.symm.trans e)];exact⟨h1,h2,ry⟩
  ·rw[aaF e,aaF (λz=>e (h1.trans z))];exact⟨h1,h2,h3⟩
def KT.put{H:Hp}{Κ:List (List Key×V)}{xs:List (List Key×Addr×Value)}(r:KT H Κ xs)(k:List Key){b:Addr}{y:V}{u:Value}(hb:H b=some (.tup (k.map kV)))(ry:ax y u):
  KT H (jK Κ k y) (storedH xs k b u):=by
 have e:(Κ.any λkv=>decide (kv.1=k))=(atKey xs k).isSome:=by rw[qV,(r.val k).oQ,Option.isSome_map]
 unfold jK storedH;rw[e];by_cases q:(atKey xs k).isSome=true
 ·rw[aay q,aay q];exact r.PY k ry
 ·rw[aaF q,aaF q];exact Paired.snoc r ⟨rfl,hb,ry⟩
def KT.keeps{H H':Hp}{Κ:List (List Key×V)}{xs:List (List Key×Addr×Value)}(r:KT H Κ xs)(ht:∀b ys,H b=some (.tup ys)->H' b=some (.tup ys)):KT H' Κ xs:=
 Paired.Pe r λ_ _ z=>⟨z.1,ht _ _ z.2.1,z.2.2⟩
section
variable{P:Program}{w:World}{H:Hp}{h:Heap}{a:Addr}
def OD{u:HO}(ok:jD P w H h)(e:Rd H a u):aM P w H h a u:=e.ok ok
def pP{Κ:List (Key×V)}(ok:jD P w H h)(e:Rd H a (.dK Κ)):Κ.length<=sizeLine/\(a==sysModules)=false/\∃vs,KV Κ vs/\h.DictOf (bN P w) a vs:=
 show aM P w H h a (.dK Κ) from OD ok e
def Kz{Κ:List (Key×V)}(ok:jD P w H h)(e:H a=some (.dK Κ)):Κ.length<=sizeLine/\(a==sysModules)=false/\∃vs,KV Κ vs/\h.DictOf (bN P w) a vs:=pP ok (.inl e)
def yh{ks:List Key}(ok:jD P w H h)(e:H a=some (.tup (ks.map kV))):(tupleKind (bN P w)).is h ks a:=by have⟨_,its,r,o,h1,h2,n,h3⟩:=(show aM P w H h a (.tup (ks.map kV)) from ok a _ e);exact⟨o,its.toArray,n,h1,h2,h3,by simpa using uQ r⟩
def AM{Κ:List (List Key×V)}(ok:jD P w H h)(e:Rd H a (.dT Κ)):Κ.length<=sizeLine/\(a==sysModules)=false/\
  ∃xs,KT H Κ xs/\h.DictOfH (tupleKind (bN P w)) a xs:=by
 have⟨z,y,xs,r,o,es,ep,h1,h2,h3,h4,h5⟩:=(show aM P w H h a (.dT Κ) from OD ok e);refine⟨z,y,xs,r,o,es,ep,h1,h2,h3,h4,λx hx=>?_,h5⟩;have all:∀{l:List (List Key×V)} {m:List (List Key×Addr×Value)},KT H l m->∀x∈m,(tupleKind (bN P w)).is h x.1 x.2.1:=by
  intro l m q
  induction q with
  | nil=>intro x hx;exact nomatch hx
  | @cons p q ps qs hq t ih=>
   intro x hx;rcases aaG.mp hx with e| hx
   ·subst e;exact yh ok (by rw[<-hq.1];exact hq.2.1)
   ·exact ih x hx
 exact all r x hx
def Vp{Κ:List (List Key×V)}(ok:jD P w H h)(e:H a=some (.dT Κ)):Κ.length<=sizeLine/\(a==sysModules)=false/\
  ∃xs,KT H Κ xs/\h.DictOfH (tupleKind (bN P w)) a xs:=AM ok (.inl e)
end
def FZ(H:Hp)(a:Addr)(y:V)(r:Option V):Prop:=
 (∃Κ k,Rd H a (.dK Κ)/\y=kV k/\r=oN Κ k)\/∃Κ k b,Rd H a (.dT Κ)/\y= .ref b/\H b=some (.tup (k.map kV))/\r=oN Κ k
def JJ(H:Hp)(a:Addr)(y v:V)(H':Hp):Prop:=
 (∃Κ k,H a=some (.dK Κ)/\y=kV k/\Κ.length < sizeLine/\H'=upd H a (.dK (jK Κ k v)))\/
 ∃Κ k b,H a=some (.dT Κ)/\y= .ref b/\H b=some (.tup (k.map kV))/\Κ.length < sizeLine/\H'=upd H a (.dT (jK Κ k v))
def JJ.k{H:Hp}{a:Addr}{Κ:List (Key×V)}{k:Key}{v:V}(e:H a=some (.dK Κ))(hl:Κ.length < sizeLine):JJ H a (kV k) v (upd H a (.dK (jK Κ k v))):=.inl ⟨Κ,k,e,rfl,hl,rfl⟩
section
variable{X:Cx}{δ:List (Addr×Obj)}{σ:St}{H:Hp}{s:Shared}{a:Addr}{y v:V}{u r:Value}{o:Option V}{A:Around}{E:Value->Shared->Prop}
def Inv.big(I:Inv X δ σ H s):sysModules < s.heap.objs.size:=by have h:mainGlobals < s.heap.objs.size:=(I.mod.glob.keeps I.bk).lt;exact Nat.lt_trans @_ h
def FA{Q:Value->Shared->Prop}(hu:A.units+1 < cLine)(I:Inv X δ σ H s)(g:FZ H a y (some v))(ry:ax y u)(h:∀w' s',Inv X δ σ H s'->ax v w'->Q w' s'):
  wpAny (model X.prog X.w) A (getItem (.ref a) u) Q E s:=by
 rcases g with ⟨Κ,k,e,ey,l⟩| ⟨Κ,k,b,e,ey,eb,l⟩
 ·subst ey;have⟨z,hd,vs,rel,dd⟩:=pP I.ay e;have⟨w',hw,D9⟩:=gL.some_of (v:=v) (o:=valueAt vs k) (by rw[l];exact rel.val k);exact wpAny_getItem_of (zv ry) dd.mapOf hw (h w' _ (I.tok _) D9)
 ·subst ey;cases(show u=Value.ref b from ry);have⟨z,hd,xs,rel,dd⟩:=AM I.ay e;have⟨w',hw,D9⟩:=gL.some_of (v:=v) (o:=(atKey xs k).map (·.2)) (by rw[l];exact rel.val k);have⟨p,hp,ZF⟩:=abm.mp hw;refine wpAny_getItem_heap (tupleKind_room_in1 hu) (yh I.ay eb) dd hp ?_;rw[ZF];exact h w' _ (I.tok _) D9
def Yw{Q:Value->Shared->Prop}(hu:A.units+1 < cLine)(I:Inv X δ σ H s)(g:FZ H a y o)(ry:ax y u)(h:∀s',Inv X δ σ H s'->Q (.bool o.isSome) s'):
  wpAny (model X.prog X.w) A (compareOp .In u (.ref a)) Q E s:=by
 rcases g with ⟨Κ,k,e,ey,l⟩| ⟨Κ,k,b,e,ey,eb,l⟩
 ·subst ey;have⟨z,hd,vs,rel,dd⟩:=pP I.ay e;refine wpAny_in_of (zv ry) hd dd.mapOf ?_;rw[<-(rel.val k).oQ,<-l];exact h _ (I.tok _)
 ·subst ey;cases(show u=Value.ref b from ry);have⟨z,hd,xs,rel,dd⟩:=AM I.ay e;refine wpAny_in_heap (tupleKind_room_in1 hu) (yh I.ay eb) hd dd ?_;have q:=(rel.val k).oQ;rw[Option.isSome_map]at q;rw[<-q,<-l];exact h _ (I.tok _)
def yx{h':Heap}{t':Nat}{ob:HO}(I:Inv X δ σ H s)(mu:Se (H a))(hs:Heap.SameBut a s.heap h')(he:∃q,h'.get? a=some q)(new:aM X.prog X.w (upd H a ob) h' a ob):
  Inv X δ σ (upd H a ob) {s with heap:=h',toks:=t'}:=
 I.write (x:=a) (e:=a) mu (.inl rfl) (λb q hb z=>(hs.2 b hb).trans z) he new
def yb{P:Program}{w:World}{H':Hp}{h':Heap}{Κ:List (Key×V)}{vs:List (Key×Value)}(z:Κ.length<=sizeLine)(hd:(a==sysModules)=false)(rel:KV Κ vs)(dd:h'.DictOf (bN P w) a vs):
  aM P w H' h' a (.dK Κ):=⟨z,hd,vs,rel,dd⟩
def FC{H':Hp}{Q:Unit->Shared->Prop}(hu:A.units+1 < cLine)(I:Inv X δ σ H s)(g:JJ H a y v H')(ry:ax y u)(rv:ax v r)(h:∀s',Inv X δ σ H' s'->Q Unit.unit s'):
  wpAny (model X.prog X.w) A (setItem (.ref a) u r) Q E s:=by
 rcases g with ⟨Κ,k,e,ey,l,eH⟩| ⟨Κ,k,b,e,ey,eb,l,eH⟩
 ·subst ey eH;have⟨z,hd,vs,rel,dd⟩:=Kz I.ay e;have hz:vs.length<=sizeLine:=by rw[<-rel.length];exact z
  have hl:(jK Κ k v).length<=sizeLine:=by have:=ky Κ k v;omega
  refine wpAny_setItem_pairs (hsz:=hz) (zv ry) dd λh' ON hs=>h _ ?_;have he:∃q,h'.get? a=some q:=let ⟨q,_,_,hq,_⟩:=ON;⟨q,hq⟩
  exact yx I (by rw[e];exact True.intro) hs he (yb hl hd (rel.put k rv) ON)
 ·subst ey eH;cases(show u=Value.ref b from ry);have⟨z,hd,xs,rel,dd⟩:=Vp I.ay e;have hz:xs.length<=sizeLine:=by rw[<-Paired.length rel];exact z
  have hl:(jK Κ k v).length<=sizeLine:=by have:=ky Κ k v;omega
  refine wpAny_setItem_heap (hsz:=hz) (tupleKind_room_in1 hu) (yh I.ay eb) dd λh' ON hs=>h _ ?_;have⟨q,es,ep,hq,h2,h3,h4,_,h5⟩:=ON;refine yx I (by rw[e];exact True.intro) hs ⟨q,hq⟩ ⟨hl,hd,_,(rel.put k eb rv).keeps λc ys ec=>?_,q,es,ep,hq,h2,h3,h4,h5⟩;rw[ω (UM ec e nofun)];exact ec
end
section
variable{X:Cx}{δ:List (Addr×Obj)}{σ:St}{H:Hp}{s:Shared}{a:Addr}{Κ:List (Key×V)}{k:Key}{u:Value}{A:Around}{E:Value->Shared->Prop}
def Ug{Q:Value->Shared->Prop}(I:Inv X δ σ H s)(e:Rd H a (.dK Κ))(h:∀t s',Inv X δ σ H s'->Q (.int Κ.length t) s'):wpAny (model X.prog X.w) A (call (.builtin "len") [.ref a]) Q E s:=by have⟨z,hd,vs,rel,dd⟩:=pP I.ay e;refine call_len_dict hd dd (by rw[<-rel.length];rw[sizeLine_eq]at z;omega) ?_;rw[<-rel.length];exact h _ _ (I.tok _)
end
def IQ(i:Expr):Prop:=∀ov iv,subscripted i false ov iv=operate [ov,iv] (getItem ov iv)
def D5{prog:Program}{w:World}{A:Around}{E:Value->Shared->Prop}{s:Shared}{env:Env}{value slice:Expr}{pos:Pos}{T id:String}{Q:Value->Shared->Prop}
  (hl:typeLookup (.type T) "__getitem__"=pure (some (.builtin id))) (hs:IQ slice)
  (h:wpAny (model prog w) A (eval value env) (λo s₁=>wpAny (model prog w) A (eval slice env) (λi s₂=>s₂.TypeIs o T/\wpAny (model prog w) A (getItem o i) Q E s₂) E s₁) E s):
  wpAny (model prog w) A (eval (.Subscript value slice pos) env) Q E s:=by
 refine Subscript_ (abd h (λo s₁ h₁=>abd h₁ (λi s₂ h₂=>?_) λ_ _ x=>x) λ_ _ x=>x);have⟨hT,h₂⟩:=h₂;unfold subscriptTail;refine aaj ?_;rw[getitemInPython_of_ne hT.not_modules];refine aaj (wpAny_specialOf hT hl ?_);have fin:wpAny (model prog w) A (subscripted slice false o i) (λr s₃=>wpAny (model prog w) A (letTemporaryGo value o r >>= λ_=>pure r) Q E s₃) E s₂:=by rw[hs o i];exact wpAny_operating (abd h₂ (λr s₃ h₃=>aaj (wpAny_letTemporaryGo (aaI h₃))) λ_ _ x=>x)
 first
  | exact aaI (aaj fin)
  | exact aaj (aaI (aaj fin))
  | exact aaj fin
def Af{X:Cx}{δ:List (Addr×Obj)}{σ:St}{H:Hp}{s:Shared}{a:Addr}{y:V}{o:Option V}(I:Inv X δ σ H s)(g:FZ H a y o):s.TypeIs (.ref a) "dict":=by
 rcases g with ⟨Κ,k,e,_,_⟩| ⟨Κ,k,b,e,_,_,_⟩
 ·have⟨_,_,vs,_,dd⟩:=pP I.ay e;exact dd.typeIs
 ·have⟨_,_,xs,_,dd⟩:=AM I.ay e;exact dd.typeIs
def VV(td ty:TE):TE:=λσ H Q=>td σ H λx H1=>ty σ H1 λy H2=>∃a v,x= .ref a/\FZ H2 a y (some v)/\Q v H2
def VY(td ty tv:TE):TS:=λD σ H=>tv σ H λv H1=>td σ H1 λx H2=>ty σ H2 λy H3=>∃a H4,x= .ref a/\JJ H3 a y v H4/\D.nx σ H4
section
variable{X:Cx}{o i e value:Expr}{pos pos' ur:Pos}{td ty tv:TE}
def Mi(hu:X.A.units+1 < cLine)(ho:PE X o td)(hi:PE X i ty)(hs:IQ i):PE X (.Subscript o i pos) (VV td ty):=by intro δ s σ H Q I h;refine D5 PySem.F.slot_dict_getitem.lookup hs (bc (ho δ s σ H _ I h) fun u s1 ⟨x,H1,I1,rx,q1⟩=>bc (hi δ s1 σ H1 _ I1 q1) λiv s2 xz=>?_);have⟨y,H2,I2,ry,a,v,ex,g,q2⟩:=xz;subst ex;obtain rfl:u=Value.ref a:=rx;exact⟨Af I2 g,FA hu I2 g ry λw' s3 I3 D9=>⟨v,H2,I3,D9,q2⟩⟩
def NR(hu:X.A.units+1 < cLine)(ho:PE X o td)(hi:PE X i ty)(hv:PE X value tv)(hs:swapsWith value (some (.Subscript o i pos')) pos.line X.env=pure false):
  PS X (.Assign [.Subscript o i pos'] value pos) (VY td ty tv):=by
 intro δ s σ H D I h;refine wpAny_Assign_Subscript (bc (hv δ s σ H _ I h) fun r s1 ⟨v,H1,I1,rv,q1⟩=>bc (ho δ s1 σ H1 _ I1 q1) fun u s2 ⟨x,H2,I2,rx,q2⟩=>bc (hi δ s2 σ H2 _ I2 q2) λiv s3 xz=>?_) hs;have⟨y,H3,I3,ry,a,H4,ex,g,q3⟩:=xz;subst ex;obtain rfl:u=Value.ref a:=rx;exact FC hu I3 g ry rv λs4 I4=>⟨σ,H4,I4,q3⟩
end
def Lr{P:Program}{w:World}{H:Hp}(h:Heap)(hb:sysModules < h.objs.size):aM P w H (h.push {cls:=.type "dict",data:=.dict #[]}) h.objs.size (.dK []):=
 ⟨abW _,beq_eq_false_iff_ne.mpr (Ne.symm (aaM hb)),[],.nil,Heap.DictOf.new h⟩
def R4:TE:=λ_ H Q=>∀p,H p=none->Q (.ref p) (upd H p (.dK []))
section
variable{X:Cx}{pos:Pos}
def J3:PE X (.Dict [] [] pos) R4:=λδ s σ H Q I h=>
 wpAny_Dict_empty ⟨.ref s.heap.objs.size,_,I.laid (a:=s.heap.objs.size) (o:=.dK []) (t':=s.toks) (λ_ _ q=>aal _ q) (aao _) (Lr s.heap I.big),rfl,h _ (I.ay.fresh (aao _))⟩
end
def ow(Κ more:List (Key×V)):List (Key×V):=more.foldl (λacc kv=>jK acc kv.1 kv.2) Κ
def KV.merge:∀{more:List (Key×V)} {rs:List (Key×Value)} {Κ:List (Key×V)} {vs:List (Key×Value)},KV more rs->KV Κ vs->KV (ow Κ more) (merged vs rs):=by
 intro more rs Κ vs r;unfold KV at r
 induction r generalizing Κ vs with
 | nil=>intro q;exact q
 | @cons p q ps qs h t ih=>
  intro r0;have e:KV (jK Κ p.1 p.2) (stored vs q.1 q.2):=by have:=r0.put p.1 h.2;rw[<-h.1];exact this
  exact ih e
def lM:∀(more Κ:List (Key×V)),(ow Κ more).length<=Κ.length+more.length
 | [],Κ=>by show Κ.length<=Κ.length+0;omega
 | p::r,Κ=>by have h1:=lM r (jK Κ p.1 p.2);have h2:=ky Κ p.1 p.2;show(ow (jK Κ p.1 p.2) r).length<=_;rw[aaL];omega
structure M1(X:Cx)(o:Expr)(m:Str)(apos:Pos)(e:Expr)(aV:Pos):Prop where
 base:attributeBase o m X.env (eval o X.env)=eval o X.env
 few:((backTo aV (starEach [e] X.env)).all (λx=> !x.1)&&(backToKw aV (keywordEach [] X.env)).all (λx=>x.1.isSome)
  &&decide (([e]:List Expr).length+([]:List Keyword).length+(if ([]:List Keyword).isEmpty then 0 else 1) < 30))=true
 line:(apos.endLine==aV.line)=true
 trees:backTo aV (starEach [e] X.env)=[(false,eval e X.env)]
def IsD(H:Hp)(a:Addr):Prop:=(∃Κ,Rd H a (.dK Κ))\/∃Κ,Rd H a (.dT Κ)
def P9{X:Cx}{δ:List (Addr×Obj)}{σ:St}{H:Hp}{s:Shared}{a:Addr}(I:Inv X δ σ H s)(d:IsD H a):
  s.TypeIs (.ref a) "dict"/\(∀b,Value.ref a= .ref b->∃ob,s.heap.get? b=some ob/\ob.dict=none)/\(a==sysModules)=false:=by
 rcases d with ⟨Κ,e⟩| ⟨Κ,e⟩
 ·have⟨_,hd,vs,_,dd⟩:=pP I.ay e;refine⟨dd.typeIs,λb q=>?_,hd⟩;cases q;have⟨ob,_,_,h1,h2,_⟩:=dd;exact⟨ob,h1,h2.2.1⟩
 ·have⟨_,hd,xs,_,dd⟩:=AM I.ay e;refine⟨dd.typeIs,λb q=>?_,hd⟩;cases q;have⟨ob,_,_,h1,h2,_⟩:=dd;exact⟨ob,h1,h2.2.1⟩
section
variable{X:Cx}{δ:List (Addr×Obj)}{σ:St}{H:Hp}{s:Shared}{a:Addr}{Κ:List (Key×V)}{A:Around}{E:Value->Shared->Prop}
def Kq{Q:Value->Shared->Prop}(I:Inv X δ σ H s)(e:Rd H a (.dK Κ))(h:∀p s',H p=none->Inv X δ σ (upd H p (.dK Κ)) s'->Q (.ref p) s'):wpAny (model X.prog X.w) A (call (.type "dict") [.ref a]) Q E s:=by have⟨z,hd,vs,rel,dd⟩:=pP I.ay e;refine kt_call_dict hd dd (by rw[<-rel.length];exact z) λh' ON hs=>?_;refine h _ _ (I.ay.fresh (aao _)) (I.laid (a:=s.heap.objs.size) (o:=.dK Κ) (t':=s.toks) (λb q hq=>?_) (aao _) (yb z (beq_eq_false_iff_ne.mpr (Ne.symm (aaM I.big))) rel ON));exact(hs.2 b (aaM (aaq hq))).trans (aal _ hq)
end
end L2
namespace Att
open PySem PySem.W PySem.Calls PyProof.Rows
end Att
namespace L2
open PySem PySem.Spec PyProof.Rows
end L2
/- THE Xs Mf (shape;LID,My.* are Tj):
  My.Adr:a structure of Mq addresses Yc YF UC names (classes,GV);My.Txt K t:a structure (Prop) of Mq equations over K;
  My.BJ:{K} {implicit addresses ..} (e1:nsIn K mainGlobals "law"=some (some (.ref f))) (e2:K.lookup f=some ⟨oc,od,.func (fnOf "law" "law" params body scope dV kV doc pm an aY ct),sl⟩) (e3:codeIn K aY "law"=true) .. :∃t,My.Txt K t
set_option maxRecDepth 100000 in
set_option maxHeartbeats 0 in
def PySem.Challenge.cw_LID_holds : PySem.Challenge.rw_LID.Holds := by
 w_on;o_law;k_head;(case hw=>w_witness2)
 k_fill
 refine L2.wQ (l:=PySem.Challenge.rw_LID) (n:=63) (k:=40) (x:="script") (CX:=fun w=>..) (sp:=fun _=>My.Pr) rfl @_ rfl ⟨rfl,@_,@_⟩ (fun w h Y=>PySem.W.kIn_of Y) ?F ?S ?C
 case F=>
  intro w mg fa h KX G Mt;have T:∃t,My.Txt (L2.Zv KX) t:=by
   dsimp only[L2.Zv]
   refine' My.BJ ?e1 ?e2 ?e3 ..
   (case e1=>PySem.W.k_is)
   (case e2=>PySem.W.k_is)
   ..
  have⟨t,T⟩:=T;have e0:=Mt.symm.trans (PySem.W.mg_of KX G T.law);cases e0;exact⟨_,λs u=>.of_eq rfl,λbase kb nb=>My.C8 T kb nb⟩
 case S=>exactλw H a ns hl hO hS=>..
 case C=>exact ..
(Mq tactic k_is has no namespace:write k_is) -/
namespace L2
open PySem PySem.Spec PyProof.Rows
section
variable{X:Cx}
def GW:dG X (.builtin "len") (λxs H Q=>∃a Κ,xs=[V.ref a]/\H a=some (.dK Κ)/\Q (.int Κ.length) H):=by intro δ s σ H xs us Q I r h;have⟨a,Κ,rfl,ha,q⟩:=h;have⟨u,rfl,ru⟩:=lN r;cases ru;exact Ug I (.inl ha) λt s' I'=>⟨.int Κ.length,H,I',⟨t,rfl⟩,q⟩
end
variable{X:Cx}{G:Hp}{L:List Addr}{d:Dt}{v:V}{R:St->XK}{o e iter tg:Expr}{to te ta tb:DE}{pos p apos aV:Pos}{k' n i kk:Nat}{δ:List (Addr×Obj)}{σ:St}{s:Shared}{b:Bool}{M:Ms}{vs:List V}{a:Addr}{t:DA}{A:Around}{x:Str}{scope:Scope}{ti:DK}{ys:List Str}{Μ:List Nat}{i9:List Value}{P prog:Program}{w:World}{body:List Stmt}{ks:List Key}{Κ:List (Key×V)}{E:Value->Shared->Prop}
def Jm:Dt->Option Key
 | .int i=>some (.inl i)
 | .str z=>some (.inr z)
 | _=>none
def eP(ks:List Key)(ds:List Dt)(k:Key):Option Dt:=((ks.zip ds).find? λp=>decide (p.1=k)).map (·.2)
def qo{K:tf}{k:Key}(h:Jm d=some k)(n:Den K G L d v):v=kV k:=by
 cases d with
 | int i=>cases h;exact n
 | str z=>cases h;exact n
 | _=>cases h
def oz{K:tf}{G:Hp}{L:List Addr}{k:Key}:∀{ks:List Key} {ds:List Dt} {vs:List V} {d:Dt},Ν K G L ds vs->eP ks ds k=some d->∃v,oN (ks.zip vs) k=some v/\Den K G L d v
 | [],_,_,_,_,h=>by cases h
 | _::_,[],_,_,_,h=>by cases h
 | c::ks,d0::ds,_,d,⟨v0,vs,e,n0,n⟩,h=>by
  subst e;rw[abr];by_cases hc:c=k
  ·have h':eP (c::ks) (d0::ds) k=some d0:=by unfold eP;rw[List.zip_cons_cons,List.find?_cons_of_pos (by simpa using hc)];rfl
   rw[h']at h;cases h;exact⟨v0,jS hc,n0⟩
  ·have h':eP (c::ks) (d0::ds) k=eP ks ds k:=by unfold eP;rw[List.zip_cons_cons,List.find?_cons_of_neg (by simpa using hc)]
   rw[h']at h;have⟨v,h1,h2⟩:=oz n h;exact⟨v,by rw[ko hc];exact h1,h2⟩
def TB(to ti:DE):DE:=λρ M q x=>to ρ M (λd M1=>ti ρ M1 (λdi M2=>∃k ks ds key v,d= .loc k/\M2[k]? =some (.lH ks ds)/\Jm di=some key/\eP ks ds key=some v/\q v M2) x) x
section
variable{i:Expr}{ti:DE}
def LF(hr:bD k' X.A)(ho:JE X R o to)(hi:JE X R i ti)(hs:IQ i:=by intro _ _;rfl):JE X R (.Subscript o i pos) (TB to ti):=
 .of (Mi (HG hr) ho hi hs) λσ H G L ρ M q x rl n h hx=>by refine⟨G,L,ρ,M,_,x,rl,n,h,hx,λv H1 xz=>?_⟩;have⟨d1,G1,L1,M1,e1,r1,n1,h1⟩:=xz;refine⟨G1,L1,ρ,M1,_,x,r1,n.mono e1,h1,hx.on e1,λv2 H2 xz=>?_⟩;have⟨d2,G2,L2,M2,e2,r2,n2,k,ks,ds,key,y,ed,hm,hk,hg,h2⟩:=xz;subst ed;have⟨a,rfl,QE⟩:=n1;have Pw:=e2.l.get QE;have⟨_,vs,hH,hl,dn⟩:=r2.fm k a _ Pw hm;have⟨u,hu,du⟩:=oz dn hg;refine⟨a,u,rfl,.inl ⟨_,key,.inl hH,qo hk n2,hu.symm⟩,fin_same (e1.trans e2) r2 du h2⟩
end
inductive E6(K:tf)(H:Hp):Nat->V->V->Bool->Prop
 | flat {n:Nat} {x y:V} (h1:d9 x=true) (h2:d9 y=true):E6 K H n x y (ue x y)
 | tup {n:Nat} {a b:Addr} {xs ys:List V} {f:Nat->Bool} (h1:mZ K H a xs) (h2:mZ K H b ys) (h:∀j x y,xs[j]? =some x->ys[j]? =some y->E6 K H n x y (f j)):E6 K H (n+1) (.ref a) (.ref b) ((List.range (min xs.length ys.length)).all f&&xs.length==ys.length)
 | lst {n:Nat} {a b:Addr} {xs ys:List V} {f:Nat->Bool} (h1:fU K H a xs) (h2:fU K H b ys) (hl:xs.length=ys.length) (h:∀j x y,xs[j]? =some x->ys[j]? =some y->E6 K H n x y (f j)):E6 K H (n+1) (.ref a) (.ref b) ((List.range xs.length).all f)
 | len {n:Nat} {a b:Addr} {xs ys:List V} (h1:fU K H a xs) (h2:fU K H b ys) (hl:xs.length≠ys.length):E6 K H (n+1) (.ref a) (.ref b) false
def Kx{x:V}(h:d9 x=true):ue x x=true:=by cases x <;> first| rfl| (show(_==_)=true;simp)| cases h
section
variable{H:Hp}
def zz(I:Inv X δ σ H s){x y:V}(h:E6 X.K H n x y b):x=y->b=true:=by
 induction h with
 | flat h1 h2=>intro e;subst e;exact Kx h1
 | @tup n a b xs ys f h1 h2 h ih=>
  intro e;cases e;cases I.kR h1 h2;rw[Nat.min_self,ab9,Bool.and_true];refine aa5.mpr λj hj=>?_;have hj:=abg.mp hj;exact ih j _ _ (aac hj) (aac hj) rfl
 | @lst n a b xs ys f h1 h2 hl h ih=>
  intro e;cases e;cases I.bP h1 h2;refine aa5.mpr λj hj=>?_;have hj:=abg.mp hj;exact ih j _ _ (aac hj) (aac hj) rfl
 | len h1 h2 hl=>
  intro e;cases e;cases I.bP h1 h2;exact aaK rfl hl
def bI{xs:List V}{its:List Value}(r:aj xs its){j:Nat}(h:j < its.toArray.size):∃x,xs[j]? =some x/\ax x its.toArray[j]:=by
 have hj:j < its.length:=by simpa using h
 have hx:j < xs.length:=by rw[r.length];exact hj
 have⟨u,g,ru⟩:=r.get (aac hx);rw[aac hj]at g;cases g;exact⟨_,List.getElem?_eq_getElem hx,by simpa using ru⟩
def sS(I:Inv X δ σ H s){x y:V}(h:E6 X.K H n x y b):∀{A:Around} {u v:Value},ax x u->ax y v->A.units+n < cLine->SeqAt.EqAt A s u v b:=by
 induction h with
 | flat h1 h2=>exactλru rv _=>xP ru rv h1 h2
 | @tup n a b xs ys f h1 h2 h ih=>
  intro A u v ru rv hu;cases ru;cases rv;by_cases e:a=b
  ·have:=zz I (.tup h1 h2 h) (aaZ V.ref e);rw[this,e];exact SeqAt.EqAt.same _
  ·have⟨i1,v1,t1,_⟩:=I.tuple h1;have⟨i2,v2,t2,_⟩:=I.tuple h2
   have:=SeqAt.RcAt.tuples (A:=A) (e:=f) (show s.heap.IsTuple a i1.toArray from t1) (show s.heap.IsTuple b i2.toArray from t2) () (λj g1 g2=>by
    have⟨x,hx,rx⟩:=bI v1 g1;have⟨y,hy,ry⟩:=bI v2 g2
    exact ih j x y hx hy rx ry (by show A.units+1+n < cLine;omega))
   rw[aaz,aaz,<-v1.length,<-v2.length]at this;exact SeqAt.EqAt.of_refs e this
 | @lst n a b xs ys f h1 h2 hl h ih=>
  intro A u v ru rv hu;cases ru;cases rv;by_cases e:a=b
  ·have:=zz I (.lst h1 h2 hl h) (aaZ V.ref e);rw[this,e];exact SeqAt.EqAt.same _
  ·have⟨i1,v1,t1,_⟩:=I.list h1;have⟨i2,v2,t2,_⟩:=I.list h2
   have:=SeqAt.RcAt.lists (A:=A) (e:=f) t1.isList t2.isList (by rw[aaz,aaz,<-v1.length,<-v2.length];exact hl) () (λj g1 g2=>by
    have⟨x,hx,rx⟩:=bI v1 g1;have⟨y,hy,ry⟩:=bI v2 g2
    exact ih j x y hx hy rx ry (by show A.units+1+n < cLine;omega))
   rw[aaz,<-v1.length]at this;exact SeqAt.EqAt.of_refs e this
 | @len n a b xs ys h1 h2 hl=>
  intro A u v ru rv hu;cases ru;cases rv;have e:a≠b:=λe=>by subst e;cases I.bP h1 h2;exact hl rfl
  have⟨i1,v1,t1,_⟩:=I.list h1;have⟨i2,v2,t2,_⟩:=I.list h2;exact SeqAt.EqAt.of_refs e (SeqAt.RcAt.lists_lengths t1.isList t2.isList (by rw[List.size_toArray,List.size_toArray,<-v1.length,<-v2.length];simpa using hl) ())
end
def TH(K:tf)(n:Nat):R2:=λx y H Q=>∃a b c,x= .ref a/\y= .ref b/\E6 K H n x y c/\Q (.bl c) H
def Vr(K:tf)(n:Nat):R2:=λx y H Q=>∃a b c,x= .ref a/\y= .ref b/\E6 K H n x y c/\Q (.bl (!c)) H
section
def Qd(hu:X.A.units+n < cLine):iC X (compareOp .Eq) (TH X.K n):=by
 intro δ s σ H x y v u Q I rx ry h;have⟨a,b,c,rfl,rfl,h,q⟩:=h;cases rx;cases ry;cases h with
 | flat h1 h2=>cases h1
 | @tup n _ _ xs ys f h1 h2 h=>
  have⟨i1,v1,t1,_⟩:=I.tuple h1;have⟨i2,v2,t2,_⟩:=I.tuple h2;refine SeqAt.eq_tupleAt (e:=f) (show s.heap.IsTuple a i1.toArray from t1) (show s.heap.IsTuple b i2.toArray from t2) () (λj g1 g2=>?_) ?_
  ·have⟨x,hx,rx⟩:=bI v1 g1;have⟨y,hy,ry⟩:=bI v2 g2;exact sS I (h j x y hx hy) rx ry (by show X.A.units+1+n < cLine;omega)
  ·rw[aaz,aaz,<-v1.length,<-v2.length];exact⟨.bl _,H,I,rfl,q⟩
 | @lst n _ _ xs ys f h1 h2 hl h=>
  have⟨i1,v1,t1,_⟩:=I.list h1;have⟨i2,v2,t2,_⟩:=I.list h2;refine SeqAt.eq_listAt (e:=f) t1.isList t2.isList (by rw[aaz,aaz,<-v1.length,<-v2.length];exact hl) () (λj g1 g2=>?_) ?_
  ·have⟨x,hx,rx⟩:=bI v1 g1;have⟨y,hy,ry⟩:=bI v2 g2;exact sS I (h j x y hx hy) rx ry (by show X.A.units+1+n < cLine;omega)
  ·rw[aaz,<-v1.length];exact⟨.bl _,H,I,rfl,q⟩
 | @len n _ _ xs ys h1 h2 hl=>
  have⟨i1,v1,t1,_⟩:=I.list h1;have⟨i2,v2,t2,_⟩:=I.list h2;exact SeqAt.eq_list_lengthsAt t1.isList t2.isList (by rw[List.size_toArray,List.size_toArray,<-v1.length,<-v2.length];simpa using hl) () ⟨.bl _,H,I,rfl,q⟩
def Q9(hu:X.A.units+n < cLine):iC X (compareOp .NotEq) (Vr X.K n):=by
 intro δ s σ H x y v u Q I rx ry h;have⟨a,b,c,rfl,rfl,h,q⟩:=h;cases rx;cases ry;cases h with
 | flat h1 h2=>cases h1
 | @tup n _ _ xs ys f h1 h2 h=>
  have⟨i1,v1,t1,_⟩:=I.tuple h1;have⟨i2,v2,t2,_⟩:=I.tuple h2;refine SeqAt.RcNeAt.tuples (e:=f) (show s.heap.IsTuple a i1.toArray from t1) (show s.heap.IsTuple b i2.toArray from t2) () (λj g1 g2=>?_) _ _ _ _ ?_
  ·have⟨x,hx,rx⟩:=bI v1 g1;have⟨y,hy,ry⟩:=bI v2 g2;exact sS I (h j x y hx hy) rx ry (by show X.A.units+1+n < cLine;omega)
  ·rw[aaz,aaz,<-v1.length,<-v2.length];exact⟨.bl _,H,I,rfl,q⟩
 | @lst n _ _ xs ys f h1 h2 hl h=>
  have⟨i1,v1,t1,_⟩:=I.list h1;have⟨i2,v2,t2,_⟩:=I.list h2;refine SeqAt.RcNeAt.lists (e:=f) t1.isList t2.isList (by rw[aaz,aaz,<-v1.length,<-v2.length];exact hl) () (λj g1 g2=>?_) _ _ _ _ ?_
  ·have⟨x,hx,rx⟩:=bI v1 g1;have⟨y,hy,ry⟩:=bI v2 g2;exact sS I (h j x y hx hy) rx ry (by show X.A.units+1+n < cLine;omega)
  ·rw[aaz,<-v1.length];exact⟨.bl _,H,I,rfl,q⟩
 | @len n _ _ xs ys h1 h2 hl=>
  have⟨i1,v1,t1,_⟩:=I.list h1;have⟨i2,v2,t2,_⟩:=I.list h2;exact SeqAt.RcNeAt.lists_lengths t1.isList t2.isList (by rw[List.size_toArray,List.size_toArray,<-v1.length,<-v2.length];simpa using hl) () _ _ _ _ ⟨.bl _,H,I,rfl,q⟩
end
def gH(M:Ms):Dt->Option (List Dt)
 | .lst xs=>some xs
 | .ji ns=>some (ns.map .int)
 | .loc k=>match M[k]? with
  | some (.lst xs)=>some xs
  | _=>none
 | _=>none
inductive ui(M:Ms):Nat->Dt->Dt->Bool->Prop
 | flat {n:Nat} {d e:Dt} {x y:V} (h1:uP d=some x) (h2:uP e=some y):ui M n d e (ue x y)
 | tup {n:Nat} {ds es:List Dt} {f:Nat->Bool} (h:∀j d e,ds[j]? =some d->es[j]? =some e->ui M n d e (f j)):ui M (n+1) (.tup ds) (.tup es) ((List.range (min ds.length es.length)).all f&&ds.length==es.length)
 | lst {n:Nat} {d e:Dt} {ds es:List Dt} {f:Nat->Bool} (h1:gH M d=some ds) (h2:gH M e=some es) (hl:ds.length=es.length) (h:∀j d e,ds[j]? =some d->es[j]? =some e->ui M n d e (f j)):ui M (n+1) d e ((List.range ds.length).all f)
 | len {n:Nat} {d e:Dt} {ds es:List Dt} (h1:gH M d=some ds) (h2:gH M e=some es) (hl:ds.length≠es.length):ui M (n+1) d e false
def dW{K:tf}{H:Hp}{xs:List Dt}(r:Rl K G L M H)(n:Den K G L d v)(h:gH M d=some xs):∃a vs,v= .ref a/\fU K H a vs/\Ν K G L xs vs:=by
 cases d with
 | lst ds=>cases h;have⟨a,vs,rfl,e,m⟩:=n;exact⟨a,vs,rfl,.of (r.sub _ _ e),m⟩
 | ji ns=>cases h;have⟨a,rfl,e⟩:=n;exact⟨a,_,rfl,r.sub.seq e,iU⟩
 | loc k=>
  have⟨a,rfl,e⟩:=n;have h:(match M[k]? with| some (.lst xs)=>some xs| _=>none)=some xs:=h;split at h
  ·rename_i ys hm;cases h;have⟨_,vs,e1,m1⟩:=r.fm k a _ e hm;exact⟨a,vs,rfl,.of e1,m1⟩
  ·cases h
 | _=>cases h
def Ν.back{K:tf}{ds:List Dt}(h:Ν K G L ds vs)(e:vs[i]? =some v):∃d,ds[i]? =some d/\Den K G L d v:=by
 have hi:i < ds.length:=by rw[h.length];exact(aai.mp e).1
 have⟨v',e',n⟩:=h.get (aac hi);rw[e]at e';cases e';exact⟨_,aac hi,n⟩
def K7{K:tf}{H:Hp}(r:Rl K G L M H){e:Dt}(h:ui M n d e b):∀{v u:V},Den K G L d v->Den K G L e u->E6 K H n v u b:=by
 induction h with
 | flat h1 h2=>
  intro v u n1 n2;have⟨rfl,f1⟩:=nA h1 n1;have⟨rfl,f2⟩:=nA h2 n2;exact .flat f1 f2
 | @tup n ds es f h ih=>
  intro v u n1 n2;have⟨a,vs,rfl,e1,m1⟩:=n1;have⟨b,us,rfl,e2,m2⟩:=n2;rw[m1.length,m2.length];refine .tup (.of (r.sub _ _ e1)) (.of (r.sub _ _ e2)) λj x y hx hy=>?_;have⟨d,hd,dn⟩:=m1.back hx;have⟨e,he,en⟩:=m2.back hy;exact ih j d e hd he dn en
 | @lst n d e ds es f h1 h2 hl h ih=>
  intro v u n1 n2;have⟨a,vs,rfl,s1,m1⟩:=dW r n1 h1;have⟨b,us,rfl,s2,m2⟩:=dW r n2 h2;rw[m1.length];refine .lst s1 s2 (by rw[<-m1.length,<-m2.length];exact hl) λj x y hx hy=>?_;have⟨d,hd,dn⟩:=m1.back hx;have⟨e,he,en⟩:=m2.back hy;exact ih j d e hd he dn en
 | @len n d e ds es h1 h2 hl=>
  intro v u n1 n2;have⟨a,vs,rfl,s1,m1⟩:=dW r n1 h1;have⟨b,us,rfl,s2,m2⟩:=dW r n2 h2;exact .len s1 s2 (by rw[<-m1.length,<-m2.length];exact hl)
def IK(M:Ms)(d:Dt):Prop:=(∃ds,d= .tup ds)\/∃xs,gH M d=some xs
def qk{K:tf}{H:Hp}(r:Rl K G L M H)(n:Den K G L d v)(h:IK M d):∃a,v= .ref a:=by
 rcases h with ⟨ds,rfl⟩| ⟨xs,h⟩
 ·have⟨a,vs,rfl,_⟩:=n;exact⟨a,rfl⟩
 ·have⟨a,vs,rfl,_⟩:=dW r n h;exact⟨a,rfl⟩
def Q4(n:Nat):Dt->Dt->Ms->DQ->Prop:=λd e M q=>∃b,IK M d/\IK M e/\ui M n d e b/\q (.bl b) M
def Uw(n:Nat):Dt->Dt->Ms->DQ->Prop:=λd e M q=>∃b,IK M d/\IK M e/\ui M n d e b/\q (.bl (!b)) M
def Zx{K:tf}:ou K (TH K n) (Q4 n):=by intro G0 L0 H0 G L M H v1 v2 d1 d2 q e r n1 n2 ⟨b,h1,h2,h,hq⟩;have⟨a,rfl⟩:=qk r n1 h1;have⟨a',rfl⟩:=qk r n2 h2;exact⟨a,a',b,rfl,rfl,K7 r h n1 n2,bR e r hq⟩
def Yq{K:tf}:ou K (Vr K n) (Uw n):=by intro G0 L0 H0 G L M H v1 v2 d1 d2 q e r n1 n2 ⟨b,h1,h2,h,hq⟩;have⟨a,rfl⟩:=qk r n1 h1;have⟨a',rfl⟩:=qk r n2 h2;exact⟨a,a',b,rfl,rfl,K7 r h n1 n2,bR e r hq⟩
section
variable{a b l u:Expr}{tl tu:DE}{p2:Pos}
def PZ{k:Nat}(hr:bD k A)(hn:n<=64):A.units+n < cLine:=abc (Nat.add_le_add_left hn _) hr.units
def VE(n:Nat)(hr:bD k' X.A)(ja:JE X R a ta)(jb:JE X R b tb)(hn:n<=64:=by decide)(hm:behindInMarks .Eq b=false:=by rfl):JE X R (.Compare a [.Eq] [b] pos) (iW (Q4 n) ta tb):=vq (Qd (PZ hr hn)) Zx ja jb hm
def Qn(n:Nat)(hr:bD k' X.A)(ja:JE X R a ta)(jb:JE X R b tb)(hn:n<=64:=by decide)(hm:behindInMarks .NotEq b=false:=by rfl):JT X R (.Compare a [.NotEq] [b] pos) (lE (iW (Uw n) ta tb)):=fB (Q9 (PZ hr hn)) Yq ja jb hm
def FF(xs:List V)(k:Nat):ud xs none (some (k:Int))=xs.take k:=by
 unfold ud;rw[HT.qx,HT.zR,aci,Nat.sub_zero];by_cases h:k<=xs.length
 ·rw[ace h]
 ·rw[Nat.min_eq_right (),abK (aao _),abK ()]
def UQ(te tl:DE):DE:=λρ M q x=>te ρ M (λd M1=>tl ρ M1 (λdi M2=>∃ds n,gH M2 d=some ds/\di= .int (n:Nat)/\q (.loc M2.length) (M2++[.lst (ds.drop n)])) x) x
def k8(he:JE X R e te)(hl:JE X R l tl):JE X R (.Subscript e (.Slice (some l) none none p2) pos) (UQ te tl):=
 .of (qJ xH he (qz hl) Ef) λσ H G L ρ M q x rl n h hx=>by refine⟨G,L,ρ,M,_,x,rl,n,h,hx,λv H1 xz=>?_⟩;have⟨d1,G1,L1,M1,e1,r1,n1,h1⟩:=xz;refine⟨G1,L1,ρ,M1,_,x,r1,n.mono e1,h1,hx.on e1,λv2 H2 xz=>?_⟩;have⟨d2,G2,L2,M2,e2,r2,n2,ds,k,ed,ei,h2⟩:=xz;subst ei;have⟨a,vs,rfl,sq,m⟩:=dW r2 (Den.mono e2.g e2.l _ _ n1) ed;have n2:v2= .int k:=n2;subst n2;refine⟨k,rfl,a,vs,rfl,sq,λp hp=>?_⟩;rw[GS];exact kX (e1.trans e2) r2 hp (Ν.of (qZ k m.pair)) h2
end
open PySem PySem.SeqAt
section
variable{elt c:Expr}{z:Str}{px pz tp:Pos}{tc:DT}
def uH{y:Str}{py j4:Pos}(hN:X.N.Nodup)(Lb:X.N[i]? =some y)(hy:Loc X.env.scope y)(S:ai X scope [x,z] ys Μ)(hi:JK X R (.Tuple [.Name x px,.Name z pz] kk tp) iter ti)(ht:∀C s H fp,JT (Cx.comp X (x::z::ys) scope C s H fp) (λ_=>E0) c tc)(he:∀C s H fp,JE (Cx.comp X (x::z::ys) scope C s H fp) (λ_=>E0) elt te)(hc:X.calm=true:=by rfl)(Hq:swapsWith (.ListComp elt [⟨.Tuple [.Name x px,.Name z pz] kk tp,iter,[c],0⟩] scope pos) (some (.Name y py)) j4.line X.env=pure true:=by rfl)(hs:∀x,foldedSetIterable iter X.env x=pure x:=by intro _;rfl)(hf:X.fn y=true\/X.env.scope.names.lookup y=some .local:=by first| exact .inl rfl| exact .inr rfl| assumption):JS X R (.Assign [.Name y py] (.ListComp elt [⟨.Tuple [.Name x px,.Name z pz] kk tp,iter,[c],0⟩] scope pos) j4) (rD i (MJ 2 ti (g2 0 1) tc te Μ)):=Wx true S hi (v_ hc S) mE (oO (Nat.zero_lt_succ 1) (abv 1)) (λC s H fp=>EN (ht C s H fp)) he hc hs hN Lb hy Hq hf λ_ _ _ _ h=>h
end
def Bf(M:Ms):Dt->Option (List Dt)
 | .lst xs=>some xs
 | .loc k=>match M[k]? with
  | some (.lst xs)=>some xs
  | _=>none
 | _=>none
def wV{K:tf}{H:Hp}{xs:List Dt}(r:Rl K G L M H)(n:Den K G L d v)(h:Bf M d=some xs):∃a vs,v= .ref a/\H a=some (.lst vs)/\Ν K G L xs vs:=by
 cases d with
 | lst ds=>cases h;have⟨a,vs,rfl,e,m⟩:=n;exact⟨a,vs,rfl,r.sub _ _ e,m⟩
 | loc k=>
  have⟨a,rfl,e⟩:=n;have h:(match M[k]? with| some (.lst xs)=>some xs| _=>none)=some xs:=h;split at h
  ·rename_i ys hm;cases h;have⟨_,vs,e1,m1⟩:=r.fm k a _ e hm;exact⟨a,vs,rfl,e1,m1⟩
  ·cases h
 | _=>cases h
def O5:Dt->Dt->Ms->DQ->Prop:=λd e M q=>∃xs ys,Bf M d=some xs/\Bf M e=some ys/\xs.length+ys.length<=sizeLine/\q (.lst (xs++ys)) M
def Tw{K:tf}:ou K Qw O5:=by intro G0 L0 H0 G L M H v1 v2 d1 d2 q e r n1 n2 ⟨xs,ys,h1,h2,hz,hq⟩;have⟨p1,w1,rfl,e1,m1⟩:=wV r n1 h1;have⟨p2,w2,rfl,e2,m2⟩:=wV r n2 h2;refine⟨p1,p2,w1,w2,rfl,rfl,e1,e2,by rw[<-m1.length,<-m2.length];exact hz,λp hp=>?_⟩;exact kM e r hp (qm r hp (m1.app m2)) hq
section
variable{a b:Expr}
def jf(ja:JE X R a ta)(jb:JE X R b tb):JE X R (.BinOp a .Add b pos) (iW O5 ta tb):=yz KD Tw ja jb
end
section
variable{l:Expr}{tl:DE}{p2:Pos}
def RV(te tl:DE):DE:=λρ M q x=>te ρ M (λd M1=>tl ρ M1 (λdi M2=>∃ds n,gH M2 d=some ds/\di= .int (n:Nat)/\q (.loc M2.length) (M2++[.lst (ds.take n)])) x) x
def x_(he:JE X R e te)(hl:JE X R l tl):JE X R (.Subscript e (.Slice none (some l) none p2) pos) (RV te tl):=
 .of (qJ xH he Ef (qz hl)) λσ H G L ρ M q x rl n h hx=>by refine⟨G,L,ρ,M,_,x,rl,n,h,hx,λv H1 xz=>?_⟩;have⟨d1,G1,L1,M1,e1,r1,n1,h1⟩:=xz;refine⟨G1,L1,ρ,M1,_,x,r1,n.mono e1,h1,hx.on e1,λv2 H2 xz=>?_⟩;have⟨d2,G2,L2,M2,e2,r2,n2,ds,k,ed,ei,h2⟩:=xz;subst ei;have⟨a,vs,rfl,sq,m⟩:=dW r2 (Den.mono e2.g e2.l _ _ n1) ed;have n2:v2= .int k:=n2;subst n2;refine⟨k,rfl,a,vs,rfl,sq,λp hp=>?_⟩;rw[FF];exact kX (e1.trans e2) r2 hp (Ν.of (tL k m.pair)) h2
end
def vf(g:Dt->En->(En->Prop)->Prop)(te:DE)(ρ0:En)(ok:Ms->Prop):List Dt->List Dt->Ms->(List Dt->Ms->Prop)->Prop
 | [],acc,M,k=>ok M/\k acc M
 | x::xs,acc,M,k=>ok M/\g x ρ0 λρ'=>te ρ' M (λd M2=>vf g te ρ0 ok xs (acc++[d]) M2 k) iL
def xq(n:Nat)(ti:DK)(g:Dt->En->(En->Prop)->Prop)(te:DE)(Μ:List Nat):DE:=λρ M q x=>ti ρ M (λxs ok M1=>xs.length<=sizeLine/\vf g te (List.replicate n none++nh Μ ρ) ok xs [] M1 (λys M2=>q (.lst ys) M2)) x
def wC{g:Dt->En->(En->Prop)->Prop}{te:DE}{cs:En}{ok:Ms->Prop}:∀xs,vf g te cs ok xs=gP g sV te cs ok xs
 | []=>rfl
 | x::xs=>funext λacc=>funext λM=>funext λk=>by show(ok M/\g x cs λρ'=>te ρ' M (λd M1=>vf g te cs ok xs (acc++[d]) M1 k) iL)=(ok M/\g x cs λρ'=>te ρ' M (λd M1=>gP g sV te cs ok xs (acc++[d]) M1 k) iL);rw[wC xs]
section
variable{elt:Expr}{y:Str}{px py tp:Pos}
def Mo(S:ai X scope [x,y] ys Μ)(hi:JK X R (.Tuple [.Name x px,.Name y py] kk tp) iter ti)(he:∀C s H fp,JE (Cx.comp X (x::y::ys) scope C s H fp) (λ_=>E0) elt te)(hc:X.calm=true:=by rfl)(hs:∀x,foldedSetIterable iter X.env x=pure x:=by intro _;rfl):JE X R (.ListComp elt [⟨.Tuple [.Name x px,.Name y py] kk tp,iter,[],0⟩] scope pos) (xq 2 ti (g2 0 1) te Μ):=Vt false S hi (v_ hc S) mE (oO (Nat.zero_lt_succ 1) (Nat.lt_succ_self 1)) (λ_ _ _ _=>jq) he hc hs λρ M q x h=>by unfold xq at h;simp only[wC]at h;exact h
end
def vJ{g:Dt->En->(En->Prop)->Prop}{te:DE}{ρ0:En}{ok:Ms->Prop}{M:Ms}{k:List Dt->Ms->Prop}(ho:ok M)(f:Dt->Dt):∀(xs acc:List Dt),(∀x∈xs,∀q:DQ,q (f x) M->g x ρ0 λρ'=>te ρ' M q iL)->k (acc++xs.map f) M->vf g te ρ0 ok xs acc M k
 | [],acc,_,h=>⟨ho,by simpa using h⟩
 | x::xs,acc,ht,h=>⟨ho,ht x List.mem_cons_self _ (vJ ho f xs _ (λy hy=>ht y (List.mem_cons_of_mem _ hy)) (by simpa using h))⟩
def GH(xs:List V)(a b:Nat):ud xs (some (a:Int)) (some (b:Int))=(xs.drop a).take (b - a):=by
 unfold ud;rw[HT.qx,HT.qx];by_cases ha:a<=xs.length
 ·rw[ace ha];by_cases hb:b<=xs.length
  ·rw[ace hb]
  ·rw[Nat.min_eq_right (),abK (by rw[abM];omega),abK (by rw[abM];omega)]
 ·have h1:min a xs.length=xs.length:=Nat.min_eq_right ();rw[h1,List.drop_of_length_le (aao xs.length),List.drop_of_length_le (show xs.length<=a by omega)];simp
section
variable{l u a b:Expr}{tl tu:DE}{p2:Pos}
def Uq(te tl tu:DE):DE:=λρ M q x=>te ρ M (λd M1=>tl ρ M1 (λdi M2=>∃n:Nat,di= .int n/\tu ρ M2 (λdu M3=>∃ds m,gH M3 d=some ds/\du= .int (m:Nat)/\q (.loc M3.length) (M3++[.lst ((ds.drop n).take (m - n))])) x) x) x
def F_(he:JE X R e te)(hl:JE X R l tl)(hu:JE X R u tu):JE X R (.Subscript e (.Slice (some l) (some u) none p2) pos) (Uq te tl tu):=
 .of (qJ xH he (qz hl) (qz hu)) λσ H G L ρ M q x rl n h hx=>by refine⟨G,L,ρ,M,_,x,rl,n,h,hx,λv H1 xz=>?_⟩;have⟨d1,G1,L1,M1,e1,r1,n1,h1⟩:=xz;refine⟨G1,L1,ρ,M1,_,x,r1,n.mono e1,h1,hx.on e1,λv2 H2 xz=>?_⟩;have⟨d2,G2,L2,M2,e2,r2,n2,k,ek,h2⟩:=xz;subst ek;have n2:v2= .int k:=n2;subst n2;refine⟨k,rfl,G2,L2,ρ,M2,_,x,r2,(n.mono e1).mono e2,h2,(hx.on e1).on e2,λv3 H3 xz=>?_⟩;have⟨d3,G3,L3,M3,e3,r3,n3,ds,m,ed,em,h3⟩:=xz;subst em;have Nl:=e2.trans e3;have⟨a,vs,rfl,sq,dn⟩:=dW r3 (Den.mono Nl.g Nl.l _ _ n1) ed;have n3:v3= .int m:=n3;subst n3;refine⟨m,rfl,a,vs,rfl,sq,λp hp=>?_⟩;rw[GH];exact kX (e1.trans Nl) r3 hp (Ν.of (tL (m - k) (qZ k dn.pair))) h3
def Om:Dt->Dt->Ms->DQ->Prop:=λd e M q=>∃xs k,Bf M d=some xs/\e= .int k/\ -(2 ^ 63)<=k/\k < 2 ^ 63/\xs.length * k.toNat<=sizeLine/\q (.loc M.length) (M++[.lst (List.replicate k.toNat xs).flatten])
def UO{K:tf}:ou K QN Om:=by intro G0 L0 H0 G L M H v1 v2 d1 d2 q e r n1 n2 ⟨xs,k,h1,h2,a,b,hz,hq⟩;have⟨p1,w1,rfl,e1,m1⟩:=wV r n1 h1;subst h2;have n2:v2= .int k:=n2;subst n2;refine⟨p1,k,w1,rfl,rfl,e1,a,b,by rw[<-m1.length];exact hz,λp hp=>?_⟩;exact kX e r hp (Ν.of (xk m1.pair k.toNat)) hq
def Be(ja:JE X R a ta)(jb:JE X R b tb):JE X R (.BinOp a .Mult b pos) (iW Om ta tb):=yz K3 UO ja jb
end
inductive Ss(K:tf)(x C:Addr)(H0:Hp)(G:Hp)(L:List Addr)(M:Ms)(H:Hp)(fs:List (Str×Dt)):Prop
 | mk (r:Rl K G L M H) (gx:G x=none) (lx:x∉L) (od:Option Addr) (hx:H x=some (xN x C od))
   (hd:(fs=[]/\od=none)\/∃dx vs,od=some dx/\dx≠x/\H0 dx=none/\G dx=none/\dx∉L/\H dx=some (.xd ((fs.map (·.1)).zip vs))/\Ν K G L (fs.map (·.2)) vs)
section
variable{K:tf}{x C:Addr}{H0 G' H H':Hp}{L':List Addr}{M':Ms}{fs:List (Str×Dt)}
def Ex.off(e:Ex G L H G' L' H'){b:Addr}{o:HO}(h:H b=some o)(g:G b=none)(l:b∉L):H' b=some o/\G' b=none/\b∉L':=
 ⟨e.out b o h l,e.fr b g (by rw[h];simp),λz=>(e.new b z).elim l λq=>by rw[h]at q;cases q⟩
def Ss.on(i:Ss K x C H0 G L M H fs)(e:Ex G L H G' L' H')(r':Rl K G' L' M' H'):Ss K x C H0 G' L' M' H' fs:=by
 have⟨r,gx,lx,od,hx,hd⟩:=i;have⟨a1,a2,a3⟩:=e.off hx gx lx;refine⟨r',a2,a3,od,a1,?_⟩;rcases hd with hd| ⟨dx,vs,d1,d2,d3,d4,d5,d6,d7⟩
 ·exact .inl hd
 ·have⟨b1,b2,b3⟩:=e.off d6 d4 d5;exact .inr ⟨dx,vs,d1,d2,d3,b2,b3,b1,Ν.mono e.g e.l _ _ d7⟩
def Rl.n8{o:HO}(r:Rl K G L M H)(g:G a=none)(l:a∉L):Rl K G L M (upd H a o) where
 sub:=λb u e=>by rw[ω (λz=>by rw[z,g]at e;cases e)];exact r.sub b u e
 len:=r.len
 nd:=r.nd
 fm:=λk b m h1 h2=>by have⟨q1,q2⟩:=r.fm k b m h1 h2;exact⟨q1,q2.mono (.refl _) (.refl _) (ω λz=>l (z▸aar h1))⟩
def Ex.n8{G0 Xh:Hp}{L0:List Addr}{o:HO}(e:Ex G0 L0 Xh G L H)(h:Xh a=none):Ex G0 L0 Xh G L (upd H a o) where
 g:=e.g
 l:=e.l
 fr:=e.fr
 out:=λb u h1 h2=>by rw[ω (λz=>by rw[z,h]at h1;cases h1)];exact e.out b u h1 h2
 new:=e.new
 zi:=λb h1=>by
  by_cases z:b=a
  ·rw[z,Ι];simp
  ·rw[ω z];exact e.zi b h1
end
abbrev DI:=En->Ms->List (Str×Dt)->(En->Ms->List (Str×Dt)->Prop)->Prop
inductive UD(K:tf)(x C:Addr)(G0:Hp)(L0:List Addr)(H0:Hp)(t:DI)(De:pO)(σ:St)(H:Hp):Prop
 | mk (G:Hp) (L:List Addr) (ρ:En) (M:Ms) (fs:List (Str×Dt)) (k:En->Ms->List (Str×Dt)->Prop) (e:Ex G0 L0 H0 G L H) (h0:H0 x=none) (i:Ss K x C H0 G L M H fs) (n:gJ K G L ρ σ) (hs:σ[0]? =some (some (.ref x))) (h:t ρ M fs k)
   (hQ:∀σ' H' G' L' ρ' M' HA,Ex G0 L0 H0 G' L' H'->Ss K x C H0 G' L' M' H' HA->gJ K G' L' ρ' σ'->σ'[0]? =some (some (.ref x))->k ρ' M' HA->De.nx σ' H')
def Vq(X:Cx)(C:Addr)(st:Stmt)(t:DI):Prop:=∀x G0 L0 H0,PS X st (UD X.K x C G0 L0 H0 t)
def Vs(X:Cx)(C:Addr)(st:List Stmt)(t:DI):Prop:=∀x G0 L0 H0,yC X st (UD X.K x C G0 L0 H0 t)
def Zc(t u:DI):DI:=λρ M fs k=>t ρ M fs λρ' M' HA=>u ρ' M' HA k
def TR(te:DE):DI:=λρ M fs k=>te ρ M (λ_ M'=>k ρ M' fs) iL
def Yu(f:Str)(te:DE):DI:=λρ M fs k=>f∉fs.map (·.1)/\fs.length < 900/\te ρ M (λd M'=>k ρ M' (fs++[(f,d)])) iL
section
variable{C D fI:Addr}{Bn newId bC:String}{dn sn f:Str}{p1 pos':Pos}{e2 value:Expr}{st:Stmt}{rest:List Stmt}{t u:DI}
def PS.imp{st:Stmt}{t u:TS}(h:PS X st t)(hi:∀D σ H,u D σ H->t D σ H):PS X st u:=λδ s σ H D I q=>h δ s σ H D I (hi D σ H q)
def yC.imp{st:List Stmt}{t u:TS}(h:yC X st t)(hi:∀D σ H,u D σ H->t D σ H):yC X st u:=λδ s σ H D I q=>h δ s σ H D I (hi D σ H q)
def RU(h:Vq X C st t):Vs X C [st] t:=λx G0 L0 H0=>DY (h x G0 L0 H0)
def Mv(h:Vq X C st t)(h2:Vs X C rest u):Vs X C (st::rest) (Zc t u):=λx G0 L0 H0=>(zZ (h x G0 L0 H0) (h2 x G0 L0 H0)).imp λDe σ H ⟨G,L,ρ,M,fs,k,e,h0,i,n,hs,ht,hQ⟩=>
 ⟨G,L,ρ,M,fs,_,e,h0,i,n,hs,ht,λσ' H' G' L' ρ' M' HA e' i' n' Sd hk=>⟨G',L',ρ',M',HA,k,e',h0,i',n',Sd,hk,hQ⟩⟩
def NT{pl:Sem Bool}(F:ExcBaseFacts Bn newId bC i9)(c:fK X.K C i9 newId fI)(d:DN X.K D bC)(hm:X.mg dn=some (.ref D))(he:JE X (λ_=>E0) e2 te)(hN:X.N[0]? =some sn:=by rfl)(hv:VC X.env.scope sn:=by first| exact Or.inl rfl| exact Or.inr (Or.inl rfl)| exact Or.inr (Or.inr rfl))(hg:Gl X dn:=by rfl)
  (hd:(sn==("__debug__":Str))=false:=by decide) (B1:(sn==("__classdict__":Str))=false:=by decide) (pB:(dn==("__debug__":Str))=false:=by decide)
  (h1:starEach [.Name sn p1,e2] X.env=(false,eval (.Name sn p1) X.env)::starEach [e2] X.env:=by rfl) (h2:starEach [e2] X.env=(false,eval e2 X.env)::starEach [] X.env:=by rfl) (dN:(backTo pos (starEach [e2] X.env)).any (·.1)=false:=by rfl)
  (ht:eval (.Call (.Attribute (.Name dn p) "__init__" apos) [.Name sn p1,e2] [] pos) X.env=(do
   let ov<-eval (.Name dn p) X.env
   standAt apos.atName
   let (f,first)<-holding [ov] (getMethod ov "__init__" pl)
   callWith pos f first (backTo pos (starEach [.Name sn p1,e2] X.env)) (backToKw pos (keywordEach [] X.env))):=by rfl)
  (Hq:swapsWith (.Call (.Attribute (.Name dn p) "__init__" apos) [.Name sn p1,e2] [] pos) none pos'.line X.env=pure false:=by rfl):
  Vq X C (.Expr (.Call (.Attribute (.Name dn p) "__init__" apos) [.Name sn p1,e2] [] pos) pos') (TR te):=λx G0 L0 H0=>
 (DR (Ls (pl:=pl) F c d hg hm (xD (Dh hN hv hd B1) (xD he Jq h2) h1) pB h1 dN ht) Hq).imp fun De σ H ⟨G,L,ρ,M,fs,k,e,h0,i,n,hs,h,hQ⟩=>by refine⟨_,hs,G,L,ρ,M,_,iL,(let ⟨r,_,_,_,_,_⟩:=i;r),n,h,rK,λv H1 xz=>?_⟩;have⟨d1,G1,L1,M1,e1,r1,n1,hk⟩:=xz;have i1:=i.on e1 r1;have⟨_,_,_,od,hx,_⟩:=id i1;exact⟨x,v,od,rfl,hx,hQ σ H1 G1 L1 ρ M1 fs (e.trans e1) i1 (n.mono e1) hs hk⟩
def Q6(c:fK X.K C i9 newId fI)(nt:HF X.K C f)(hv:JE X (λ_=>E0) value te)(hex:X.ex=[]:=by rfl)(hN:X.N[0]? =some sn:=by rfl)(hvi:VC X.env.scope sn:=by first| exact Or.inl rfl| exact Or.inr (Or.inl rfl)| exact Or.inr (Or.inr rfl))
  (hd:(sn==("__debug__":Str))=false:=by decide) (B1:(sn==("__classdict__":Str))=false:=by decide) (hs:swapsWith value (some (.Attribute (.Name sn p1) f pos')) pos.line X.env=pure false:=by rfl):
  Vq X C (.Assign [.Attribute (.Name sn p1) f pos'] value pos) (Yu f te):=λx G0 L0 H0=>
 (MA hex c nt (Dh hN hvi hd B1) hv hs).imp λDe σ H ⟨G,L,ρ,M,fs,k,e,h0,i,n,QX,⟨hf,hl,h⟩,hQ⟩=>by
  refine⟨G,L,ρ,M,_,iL,(let ⟨r,_,_,_,_,_⟩:=i;r),n,h,rK,λy H1 xz=>?_⟩;have⟨d1,G1,L1,M1,e1,r1,n1,hk⟩:=xz;have i1:=i.on e1 r1;have N5:=e.trans e1;have⟨_,gx,lx,od,hx,WU⟩:=id i1;refine⟨_,QX,x,rfl,?_⟩;rcases WU with ⟨rfl,rfl⟩| ⟨dx,vs,rfl,d2,d3,d4,d5,d6,d7⟩
  ·refine .inl ⟨hx,λdx Lh jz=>?_⟩;have gd:G1 dx=none:=r1.sub.free Lh;have ld:dx∉L1:=r1.Mb Lh;have h0d:H0 dx=none:=by
    cases q:H0 dx with
    | none=>rfl
    | some o=>exact absurd Lh (N5.zi dx (by rw[q];simp))
   refine hQ σ _ G1 L1 ρ M1 [(f,d1)] ((N5.n8 h0).n8 h0d) ⟨(r1.n8 gx lx).n8 gd ld,gx,lx,some dx,by rw[ω (Ne.symm jz),Ι],.inr ⟨dx,[y],rfl,jz,h0d,gd,ld,by rw[Ι];rfl,⟨y,[],rfl,n1,rfl⟩⟩⟩ (n.mono e1) QX hk
  ·have Te:(fs.map (·.1)).length=vs.length:=by rw[<-d7.length,aah,aah]
   refine .inr ⟨dx,_,hx,d2,d6,by rw[abG,<-Te,Nat.min_self,aah];omega,?_⟩;rw[rQ Te hf];refine hQ σ _ G1 L1 ρ M1 (fs++[(f,d1)]) (N5.n8 d3) ⟨r1.n8 d4 d5,gx,lx,some dx,by rw[ω (Ne.symm d2)];exact hx,.inr ⟨dx,vs++[y],rfl,d2,d3,d4,d5,by rw[Ι,aaT];rfl,by rw[aaT];exact d7.app ⟨y,[],rfl,n1,rfl⟩⟩⟩ (n.mono e1) QX hk
end
abbrev SH:=List Dt->Ms->(List (Str×Dt)->Ms->Prop)->Prop
inductive Y2(K:tf)(C:Addr)(T:SH)(vs:List V)(H:Hp)(Q:VK)(E:XK):Prop
 | mk (x:Addr) (us:List V) (H0:Hp) (G:Hp) (L:List Addr) (ds:List Dt) (M:Ms) (q:List (Str×Dt)->Ms->Prop) (ev:vs= .ref x::us) (eH:H=upd H0 x (xN x C none)) (h0:H0 x=none) (r:Rl K G L M H0) (n:Ν K G L ds us) (h:T ds M q)
   (hQ:∀H' G' L' M' fs,Ex G L H0 G' L' H'->Ss K x C H0 G' L' M' H' fs->q fs M'->Q .aE H')
def Iz(N:List Str)(ds:List Dt):En:=(lX N (.aE::ds)).set 0 none
section
variable{K:tf}{mg:Str->Option Value}{base:Heap}
def gJ.forget{K:tf}{ρ:En}(h:gJ K G L ρ σ)(i:Nat):gJ K G L (ρ.set i none) σ:=by
 refine⟨by rw[aaX];exact h.len,λj d' e=>?_⟩;by_cases hj:i=j
 ·subst hj;have hl:i < ρ.length:=by have:=(aai.mp e).1;rwa[aaX]at this
  rw[aaU hl]at e;cases e
 ·rw[aa2 hj]at e;exact h.fm j d' e
def cQ.okI{qual:Str}{st:Stmt}{f:Addr}{fd:FuncData}{N ps:List Str}{k:Nat}{C:Addr}{T:SH}(F:cQ K x qual st f fd)(S:Ε N ps (ν st))(len:∀ds M q,T ds M q->ds.length+1=ps.length)
  (tD:∀(aY:Value) (A:Around) (outer:List Env) (s:Shared) (H:Hp) (E:XK),bD k (A.deeper (envOfC qual (ν st) s.heap.objs.size f aY))->
   ∃t,Vs (lB (bM P w) P w K mg base N qual (ν st) f aY A outer s H E) C (fH st) t/\∀ds M q,T ds M q->t (Iz N ds) M [] (λ_ M' fs=>q fs M')):
  ah P w K mg base (bM P w) (k+1) f fd ps (Y2 K C T):=by
 refine F.okX S (λvs H Q E h=>?_) (λaY A outer s H vs Q E hr h=>?_)
 ·have⟨x,us,H0,G,L,ds,M,q,rfl,rfl,h0,r,n,hT,hQ⟩:=h;rw[aaL,<-n.length];exact len _ _ _ hT
 ·have⟨t,j,ht⟩:=tD aY A outer s H E hr;have⟨x,us,H0,G,L,ds,M,q,rfl,rfl,h0,r,n,hT,hQ⟩:=h;have gx:G x=none:=r.sub.free h0;have lx:x∉L:=r.Mb h0;refine⟨_,j x G L H0,G,L,Iz N ds,M,[],_,(Ex.refl G L H0).n8 h0,h0,⟨r.n8 gx lx,gx,lx,none,Ι,.inl ⟨rfl,rfl⟩⟩,?_,rfl,ht ds M q hT,λσ' H' G' L' ρ' M' HA e i _ _ hk=>hQ H' G' L' M' HA e i hk⟩;have:=(Ae (N:=N) (K:=K) (G:=G) (L:=L) (ds:=.ref x::ds) (vs:=.ref x::us) ⟨_,_,rfl,rfl,n⟩).forget 0;exact this
end
structure ZP(P:Program)(w:World)(K:tf)(mg:Str->Option Value)(base:Heap)(k:Nat)(x:Str)(C:Addr)(i9:List Value)(newId:String)(ps:List Str)(T:SH)(f:Addr)(fd:FuncData):Prop where
 ok:ah P w K mg base (bM P w) k f fd ps (Y2 K C T)
 b:hJ K fd ps []
 c:fK K C i9 newId f
 m:mg x=some (.ref C)
def qA(C:Addr)(T:SH)(t:DA):DS:=λDn ρ M=>t ρ M (λds M1=>ds.length<=sizeLine/\T ds M1 (λfs M2=>fs≠[]/\Dn.x ρ C fs M2)) Dn.x
section
variable{K:tf}{G' H H':Hp}{L':List Addr}{x dx:Addr}{o:HO}
def Ex.leave(e:Ex G L H G' L' H')(hx:H x=none)(hd:H dx=none)(gd:G' dx=none)(jz:dx≠x):Ex G L H (upd G' dx o) L' (L7 x H') where
 g:=λb u q=>by rw[ω (λz=>by have:=e.g _ _ q;rw[z,gd]at this;cases this)];exact e.g b u q
 l:=e.l
 fr:=λb h1 h2=>by rw[ω (λz=>h2 (by rw[z];exact hd))];exact e.fr b h1 h2
 out:=λb u h1 h2=>by rw[dz (λz=>by rw[z,hx]at h1;cases h1)];exact e.out b u h1 h2
 new:=e.new
 zi:=λb h=>by rw[dz (λz=>h (by rw[z];exact hx))];exact e.zi b h
def Rl.leave(r:Rl K G L M H)(gx:G x=none)(lx:x∉L)(gd:G dx=none)(ld:dx∉L)(hd:H dx=some o)(jz:dx≠x):Rl K (upd G dx o) L M (L7 x H) where
 sub:=λb u e=>by
  by_cases hb:b=dx
  ·subst hb;rw[Ι]at e;cases e;rw[dz jz];exact hd
  ·rw[ω hb]at e;rw[dz (λz=>by rw[z,gx]at e;cases e)];exact r.sub b u e
 len:=r.len
 nd:=r.nd
 fm:=λk a m h1 h2=>by have⟨q1,q2⟩:=r.fm k a m h1 h2;have ha:=aar h1;exact⟨by rw[ω (show a≠dx fromλz=>ld (z▸ha))];exact q1,q2.mono (λb u e=>by rw[ω (λz=>by rw[z,gd]at e;cases e)];exact e) (.refl _) (dz λz=>lx (z▸ha))⟩
end
section
variable{C fI:Addr}{Bn newId bC:String}{np:Pos}{es:List Expr}{k:Nat}{fd:FuncData}{ps:List Str}{T:SH}
def Gb(D:ZP X.prog X.w X.K X.mg X.base k x C i9 newId ps T fI fd)(hr:bD k' X.A)(hR:DM X R)(F:ExcBaseFacts Bn newId bC i9)(ha:JA X R (e::es) t)(hk:k+1<=k':=by decide)(hc:X.calm=true:=by rfl)(hex:X.ex=[]:=by rfl)(hg:Gl X x:=by rfl)
  (pB:(x==("__debug__":Str))=false:=by decide) (he:starEach (e::es) X.env=(false,eval e X.env)::starEach es X.env:=by rfl) (dN:(backTo aV (starEach es X.env)).any (·.1)=false:=by rfl):
  JS X R (.Raise (some (.Call (.Name x np) (e::es) [] aV)) none pos) (qA C T t):=.of (GX hR hc hex F D.c D.ok (hr.mono hk) D.b hg D.m ha pB he dN) λσ H G L ρ M Dn rl n h hx=>by
 refine⟨G,L,ρ,M,_,_,rl,n,h,hx,fun vs H1 ⟨ds,G1,L1,M1,e1,r1,n1,hz,h1⟩=>⟨by rw[<-n1.length];exact hz,λxa hxa=>?_⟩⟩;refine⟨xa,vs,H1,G1,L1,ds,M1,_,rfl,rfl,hxa,r1,n1,h1,λH' G' L' M' fs ex ist xz=>?_⟩;have⟨hf,hq⟩:=xz;have⟨r',gx,lx,od,Wd,hd⟩:=ist;refine⟨rfl,od,Wd,?_⟩;rcases hd with ⟨z,_⟩| ⟨dx,ws,rfl,d2,d3,d4,d5,d6,d7⟩
 ·exact aaK z hf
 ·have eF:Ex G1 L1 H1 (upd G' dx (.xd ((fs.map (·.1)).zip ws))) L' (L7 xa H'):=ex.leave hxa d3 d4 d2;have rF:=r'.leave gx lx d4 d5 d6 d2;refine hx σ ρ C fs M' _ L' _ (some dx) hq (e1.trans eF) rF (n.mono (e1.trans eF)) (.inr ⟨hf,dx,ws,rfl,Ι,Ν.mono (λb u e=>by rw[ω (λz=>by rw[z,d4]at e;cases e)];exact e) (.refl _) _ _ d7⟩)
end
def So(x:Addr)(d:Dt):Option Dt->Option Dt
 | some (.ref a)=>if a=x then some d else some (.ref a)
 | o=>o
def D3(i:Nat)(x:Addr)(d:Dt)(Dn:iM):iM:=⟨λρ M=>Dn.nx ((ρ.set i none).map (So x d)) M,λ_ _=>False,λ_ _=>False,λ_ _=>False,iL⟩
def Oh(K:tf)(D:Addr)(i:Nat)(tb:DS)(ts:Addr->DS):DS:=λDn ρ M=>
 tb {Dn with x:=λρ' C fs M'=>PySem.W.subIn K (.ref C) (.ref D)=some true/\∀x,ts x (D3 i x (.exc C (fs.map (·.1)) (fs.map (·.2))) Dn) (ρ'.set i (some (.ref x))) M'} ρ M
def gJ.So{K:tf}{ρ:En}{x:Addr}(h:gJ K G L ρ σ)(hd:Den K G L d (.ref x)):gJ K G L (ρ.map (So x d)) σ:=by
 refine⟨by rw[aah];exact h.len,λi d' e=>?_⟩;rw[aap]at e;have⟨o,ho,e'⟩:=abm.mp e;clear e;cases o with
 | none=>cases e'
 | some d0=>
  by_cases hr:∃a,d0= .ref a
  ·have⟨a,rfl⟩:=hr;have⟨v,h1,h2⟩:=h.fm i _ ho;cases h2;have e2:(if a=x then some d else some (.ref a))=some d':=e';by_cases z:a=x
   ·rw[aay z]at e2;cases e2;rw[z]at h1;exact⟨_,h1,hd⟩
   ·rw[aaF z]at e2;cases e2;exact⟨_,h1,rfl⟩
  ·have e2:some d0=some d':=by
    cases d0 with
    | ref a=>exact aaK ⟨a,rfl⟩ hr
    | _=>exact e'
   cases e2;exact h.fm i _ ho
section
variable{D:Addr}{dn n:Str}{b₀:Stmt}{cx:List Stmt}{AQ np:Pos}{tb:DS}{ts:Addr->DS}{pI:List Value}{ie:String}
def L_(hN:X.N.Nodup)(hi:X.N[i]? =some n)(d:gA X.K D pI ie)(JH:pI.contains (.type "BaseException")=true)(hm:X.mg dn=some (.ref D))
  (hb:∀(R:St->XK) (δ:List (Addr×Obj)),AX (Cx.Py X R δ) R body tb)
  (hs:∀(x:Addr) (pn:List (Addr×Obj)),AX (Cx.cx X x pn) (λ_=>E0) (b₀::cx) (ts x)) (hk:X.env.scope.names.lookup n=some .local:=by rfl) (hc:X.calm=true:=by rfl) (hex:X.ex=[]:=by rfl) (vh:X.stack=X.env::X.outer:=by rfl) (hf:X.env.frame=some X.env.locals:=by rfl) (hg:Gl X dn:=by rfl) (pB:(dn==("__debug__":Str))=false:=by decide):
  JS X R (.Try body [.ExceptHandler (some (.Name dn np)) (some n) (b₀::cx) AQ] [] [] pos) (Oh X.K D i tb ts):=
 .of (MK (tb:=λR=>NO X.K R tb) (ts:=λx=>NO X.K (λ_=>E0) (ts x)) hN hi hk hc hex vh hf d JH hg hm hb hs pB) λσ H G L ρ M Dn rl n h hx=>by
  refine⟨λσ' cls od H'=>∃ρ' C fs M' G' L',cls= .ref C/\(PySem.W.subIn X.K (.ref C) (.ref D)=some true/\∀x,ts x (D3 i x (.exc C (fs.map (·.1)) (fs.map (·.2))) Dn) (ρ'.set i (some (.ref x))) M')/\Ex G L H G' L' H'/\Rl X.K G' L' M' H'/\gJ X.K G' L' ρ' σ'/\Qe X.K G' L' H' fs od,?_,?_⟩
  ·exact⟨G,L,ρ,M,_,rl,n,h,λσ' ρ' C fs M' G' L' H' od hq e r n y=>⟨ρ',C,fs,M',G',L',rfl,hq,e,r,n,y⟩,⟨λ_ _ f=>f,λ_ _ f=>f,λ_ _ f=>f,λ_ _ f=>f⟩⟩
  ·rintro σ' cls od H' ⟨ρ',C,fs,M',G',L',rfl,⟨Yy,YG⟩,e,r,n',y⟩;refine⟨C,rfl,Yy,λx XU=>?_⟩;refine⟨G',L',_,M',_,r,n'.set i (d:=.ref x) rfl,YG x,rK,⟨λσ1 H1 xz Sg=>?_,λ_ _ ⟨_,_,_,_,_,_,_,f⟩=>f.elim,λ_ _ ⟨_,_,_,_,_,_,_,f⟩=>f.elim,λ_ _ ⟨_,_,_,_,_,_,_,f⟩=>f.elim⟩⟩;have⟨ρ1,G1,L1,M1,e1,r1,n1,h1⟩:=xz;have e2:=r1.RL (o:=xO x C od) Sg;have r2:=r1.Lm (o:=xO x C od) Sg;have eg:=e1.trans e2;refine⟨_,_,L1,M1,e.trans eg,r2,((n1.unset i).mono e2).So ?_,h1⟩;rcases y with ⟨rfl,rfl⟩| ⟨jz,dx,vs,rfl,q1,q2⟩
   ·exact⟨x,none,[],rfl,Ι,.inl ⟨rfl,rfl⟩,rfl,rfl⟩
   ·exact⟨x,some dx,vs,rfl,Ι,.inr ⟨dx,rfl,eg.g _ _ q1⟩,by rw[aah,aah],Ν.mono eg.g eg.l _ _ q2⟩
end
def dXA(K:tf)(f:Str)(te:DE):DE:=λρ M q x=>te ρ M (λd M1=>∃C ns ds v,d= .exc C ns ds/\p_ K C/\Zf K C f/\(ns.zip ds).lookup f=some v/\q v M1) x
def Vw(K:tf):List Dt->Ms->DQ->Prop:=λds M q=>(∃C ns xs c t' b,ds=[.exc C ns xs,c]/\p_ K C/\QC c=some t'/\PySem.W.kitOne K (.ref C) t'=some b/\q (.bl b) M)\/La K ds M q
section
variable{e2:Expr}{f:Str}
def CV(K:tf)(he:JE X R e te)(hb:attributeBase e f X.env (eval e X.env)=eval e X.env:=by rfl)(hK:X.K=K:=by rfl):JE X R (.Attribute e f pos) (dXA K f te):=by
 subst hK;exact .of (Ni he hb) λσ H G L ρ M q x rl en h hx=>by
  refine⟨G,L,ρ,M,_,x,rl,en,h,hx,λv H1 xz=>?_⟩;have⟨d1,G1,L1,M1,e1,r1,n1,C,ns,ds,y,ed,ty,xa,hl,h1⟩:=xz;subst ed;have⟨a,od,vs,rfl,g1,g2,g3,dn⟩:=n1;have⟨u,hu,du⟩:=rX dn hl;rcases g2 with ⟨rfl,rfl⟩| ⟨dx,rfl,g4⟩
  ·cases hl
  ·exact⟨a,C,dx,_,u,rfl,r1.sub _ _ g1,r1.sub _ _ g4,ty,xa,hu,y,G1,L1,M1,e1,r1,du,h1⟩
def FP:dG X (.builtin "isinstance") (λxs H Q=>QG X.K xs H Q\/∃x c t t' b,xs=[x,c]/\jI X.K H x t/\B_ c=some t'/\PySem.W.kitOne X.K t t'=some b/\Q (.bl b) H):=by
 intro δ s σ H xs us Q I r h;rcases h with h| h
 ·exact J_ δ s σ H xs us Q I r h
 ·exact pR δ s σ H xs us Q I r h
def Zk{K:tf}:FX K (λxs H Q=>QG K xs H Q\/∃x c t t' b,xs=[x,c]/\jI K H x t/\B_ c=some t'/\PySem.W.kitOne K t t'=some b/\Q (.bl b) H) (Vw K):=by
 intro G0 L0 H0 G L M H vs ds q e r n h;rcases h with ⟨C,ns,xs,c,t',b,ed,ty,hc,hk,hq⟩| h
 ·subst ed;have⟨v,u,rfl,n1,n2⟩:=iF n;have⟨a,od,ws,rfl,g1,g2,g3,dn⟩:=n1;refine .inl ⟨a,C,od,u,t',b,rfl,r.sub _ _ g1,λdx hd=>?_,ty,Ec n2 hc,hk,bR e r hq⟩;subst hd;rcases g2 with ⟨_,z⟩| ⟨dx',z,g4⟩
  ·cases z
  ·cases z;exact⟨_,r.sub _ _ g4⟩
 ·exact .inr (Oi G0 L0 H0 G L M H vs ds q e r n h)
def iO(K:tf)(hm:X.mg "isinstance"=none)(ha:JA X R [e,e2] t)(he:starEach [e,e2] X.env=(false,eval e X.env)::starEach [e2] X.env:=by rfl)(dN:(backTo pos (starEach [e2] X.env)).any (·.1)=false:=by rfl)(hg:Gl X "isinstance":=by rfl)(hK:X.K=K:=by rfl):JE X R (.Call (.Name "isinstance" p) [e,e2] [] pos) (CI (Vw K) t):=by subst hK;exact gX FP Zk hm iV ha hg @_ @_ he dN
end
def O6(ks:List Key)(k:Key):Bool:=ks.any λc=>decide (c=k)
def qU{k:Key}:∀{ks:List Key} {vs:List V},ks.length=vs.length->(oN (ks.zip vs) k).isSome=O6 ks k
 | [],[],_=>rfl
 | c::ks,v::vs,h=>by
  have h:ks.length=vs.length:=by simpa using h
  rw[abr];by_cases e:c=k
  ·rw[jS e];subst e;simp[O6]
  ·rw[ko e,qU h];unfold O6;rw[abY,aat e,Bool.false_or]
section
variable{i a b:Expr}{ti:DE}
def BQ:JE X R (.Dict [] [] pos) (λ_ M q _=>q (.loc M.length) (M++[.lH [] []])):=
 .of J3 λσ H G L ρ M q x rl n h hx=>by intro p hp;exact⟨.loc M.length,G,L++[p],_,rl.Wb hp,rl.Mj (m:=.lH [] []) hp ⟨[],Ι,rfl,rfl⟩,⟨p,rfl,by rw[<-rl.len,List.getElem?_append_right (Nat.le_refl _)];simp⟩,h⟩
def SK:Dt->Dt->Ms->DQ->Prop:=λdi d M q=>∃k ks ds key,d= .loc k/\M[k]? =some (.lH ks ds)/\Jm di=some key/\q (.bl (O6 ks key)) M
def Ql(hu:X.A.units+1 < cLine):iC X (compareOp .In) (λy x H Q=>∃a o,x=V.ref a/\FZ H a y o/\Q (.bl o.isSome) H):=by intro δ s σ H x y u v Q I rx ry ⟨a,o,ex,g,q⟩;subst ex;obtain rfl:v=Value.ref a:=ry;exact Yw hu I g rx λs3 I3=>⟨.bl o.isSome,H,I3,rfl,q⟩
def Ys{K:tf}:ou K (λy x H Q=>∃a o,x=V.ref a/\FZ H a y o/\Q (.bl o.isSome) H) SK:=by intro G0 L0 H0 G L M H v1 v2 d1 d2 q e r n1 n2 ⟨k,ks,ds,key,ed,hm,hk,h⟩;subst ed;have⟨a,rfl,QE⟩:=n2;have⟨_,vs,hH,hl,dn⟩:=r.fm k a _ QE hm;refine⟨a,_,rfl,.inl ⟨_,key,.inl hH,qo hk n1,rfl⟩,?_⟩;have FV:ks.length=vs.length:=hl.trans dn.length;rw[qU FV];exact bR e r h
def Rk(hr:bD k' X.A)(ja:JE X R a ta)(jb:JE X R b tb)(hm:behindInMarks .In b=false:=by rfl):JT X R (.Compare a [.In] [b] pos) (lE (iW SK ta tb)):=fB (Ql (HG hr)) Ys ja jb hm
end
def gF(ks:List Key)(k:Key):List Key:=if O6 ks k=true then ks else ks++[k]
def lL{α:Type}(k:Key)(v:α):List Key->List α->List α
 | c::ks,x::xs=>(if c=k then v else x)::lL k v ks xs
 | _,_=>[]
def eK{α:Type}(ks:List Key)(k:Key)(xs:List α)(v:α):List α:=if O6 ks k=true then lL k v ks xs else xs++[v]
def oP{α:Type}{k:Key}{v:α}:∀{ks:List Key} {xs:List α},ks.length=xs.length->(lL k v ks xs).length=ks.length
 | [],[],_=>rfl
 | _::ks,_::xs,h=>by
  have h:ks.length=xs.length:=by simpa using h
  show(lL k v ks xs).length+1=ks.length+1;rw[oP h]
def uR{k:Key}{v:V}:∀{ks:List Key} {vs:List V},ks.length=vs.length->(ks.zip vs).map (λkv=>if kv.1=k then (kv.1,v) else kv)=ks.zip (lL k v ks vs)
 | [],[],_=>rfl
 | c::ks,x::vs,h=>by
  have h:ks.length=vs.length:=by simpa using h
  rw[abr,aa0,uR h];show _=(c,if c=k then v else x)::ks.zip (lL k v ks vs)
  congr 1
  show(if c=k then (c,v) else (c,x))=_;split <;> rfl
def oy{K:tf}{G:Hp}{L:List Addr}{k:Key}{d:Dt}{v:V}(n:Den K G L d v):∀{ks:List Key} {ds:List Dt} {vs:List V},Ν K G L ds vs->ks.length=ds.length->Ν K G L (lL k d ks ds) (lL k v ks vs)
 | [],[],_,h,_=>by cases h;rfl
 | c::ks,x::ds,_,⟨y,vs,e,n0,ns⟩,hl=>by
  subst e;have hl:ks.length=ds.length:=by simpa using hl
  refine⟨_,_,rfl,?_,oy n ns hl⟩;show Den K G L (if c=k then d else x) (if c=k then v else y);split
  ·exact n
  ·exact n0
def I_{k:Key}(h:ks.length=vs.length):jK (ks.zip vs) k v=(gF ks k).zip (eK ks k vs v):=by
 unfold jK gF eK;rw[qV,qU h];split
 ·exact uR h
 ·rw[List.zip_append h];rfl
def vR(to ti tv:DE):DS:=λDn ρ M=>tv ρ M (λy M1=>to ρ M1 (λd M2=>ti ρ M2 (λdi M3=>∃k ks ds key,d= .loc k/\M3[k]? =some (.lH ks ds)/\Jm di=some key/\ks.length < 1000/\Dn.nx ρ (M3.set k (.lH (gF ks key) (eK ks key ds y)))) Dn.x) Dn.x) Dn.x
section
variable{i value:Expr}{ti tv:DE}{pos':Pos}
def xI(hr:bD k' X.A)(ho:JE X R o to)(hi:JE X R i ti)(hv:JE X R value tv)(hs:swapsWith value (some (.Subscript o i pos')) pos.line X.env=pure false:=by rfl):JS X R (.Assign [.Subscript o i pos'] value pos) (vR to ti tv):=
 .of (NR (HG hr) ho hi hv hs) λσ H G L ρ M Dn rl n h hx=>by
  refine⟨G,L,ρ,M,_,_,rl,n,h,hx,λv H1 xz=>?_⟩;have⟨dv,G1,L1,M1,e1,r1,n1,h1⟩:=xz;refine⟨G1,L1,ρ,M1,_,_,r1,n.mono e1,h1,hx.on e1,λov H2 xz=>?_⟩;have⟨d,G2,L2,M2,e2,r2,n2,h2⟩:=xz;refine⟨G2,L2,ρ,M2,_,_,r2,(n.mono e1).mono e2,h2,(hx.on e1).on e2,λiv H3 xz=>?_⟩;have⟨di,G3,L3,M3,e3,r3,n3,k,ks,ds,key,ed,hm,hk,hlen,h3⟩:=xz;subst ed;have⟨a,rfl,JC⟩:=n2;have B9:=e3.l.get JC;have⟨_,vs,hH,hl,dn⟩:=r3.fm k a _ B9 hm;have Nl:=e2.trans e3;have Wt:=Den.mono Nl.g Nl.l _ _ n1;have FV:ks.length=vs.length:=hl.trans dn.length;obtain rfl:iv=kV key:=qo hk n3;have z:(ks.zip vs).length < sizeLine:=by rw[abG];exact abc (Nat.min_le_left _ _) (Nat.lt_trans hlen @_)
  refine⟨a,_,rfl,JJ.k hH z,ρ,G3,L3,_,((e1.trans e2).trans e3).trans (r3.JP B9),r3.setM (m:=.lH (gF ks key) (eK ks key ds dv)) B9 ⟨eK ks key vs v,by rw[Ι,I_ FV],?_,?_⟩,(((n.mono e1).mono e2).mono e3).mono (r3.JP (o:=.own a) B9),h3⟩
  ·unfold gF eK;split
   ·rw[oP hl]
   ·rw[aan,aan,hl];rfl
  ·unfold eK;split
   ·exact oy Wt dn hl
   ·exact dn.app ⟨_,_,rfl,Wt,rfl⟩
end
section
variable{i f a b v1 v2:Expr}{ti tx t1 t2:DE}
def xG:dG X (.type "dict") (λxs H Q=>∃a Κ,xs=[V.ref a]/\Rd H a (.dK Κ)/\∀p,H p=none->Q (.ref p) (upd H p (.dK Κ))):=by
 intro δ s σ H xs us Q I r ⟨a,Κ,ex,e,q⟩;subst ex;cases r with
 | cons r1 r2=>
  cases r2;cases r1;exact Kq I e λp s' hp I'=>⟨.ref p,_,I',rfl,q p hp⟩
def Jt:List Dt->Ms->DQ->Prop
 | [d],M,q=>∃k ks ds,d= .loc k/\M[k]? =some (.lH ks ds)/\q (.loc M.length) (M++[.lH ks ds])
 | _,_,_=>False
def Um{K:tf}:FX K (λxs H Q=>∃a Κ,xs=[V.ref a]/\Rd H a (.dK Κ)/\∀p,H p=none->Q (.ref p) (upd H p (.dK Κ))) Jt:=by
 intro G0 L0 H0 G L M H vs ds q e r n h;unfold Jt at h;split at h
 ·rename_i d;have⟨v,rfl,n1⟩:=bx n;have⟨k,ks,ds,ed,hm,h⟩:=h;subst ed;have⟨a,rfl,hk⟩:=n1;have⟨_,vs,hH,hl,dn⟩:=r.fm k a _ hk hm;refine⟨a,_,rfl,.inl hH,λp hp=>?_⟩;exact⟨.loc M.length,G,L++[p],_,e.trans (r.Wb hp),r.Mj (m:=.lH ks ds) hp ⟨vs,Ι,hl,Ν.mono (.refl _) ⟨[p],rfl⟩ _ _ dn⟩,⟨p,rfl,by rw[<-r.len,List.getElem?_append_right (Nat.le_refl _)];simp⟩,h⟩
 ·exact h.elim
def Cu:bootBuiltins "dict"=some (.type "dict"):=by decide+kernel
def QK(hm:X.mg "dict"=none)(ha:JA X R [e] t)(hg:Gl X "dict":=by rfl)(he:starEach [e] X.env=(false,eval e X.env)::starEach [] X.env:=by rfl)(dN:(backTo pos (starEach [] X.env)).any (·.1)=false:=by rfl):JE X R (.Call (.Name "dict" p) [e] [] pos) (CI Jt t):=
 yZ xG Um hm Cu ha hg @_ @_ he dN
end
def UB:Dt->Bool
 | .aE=>true
 | _=>false
def NX{K:tf}(n:Den K G L d v):decide (v= .aE)=UB d:=by
 cases d with
 | aE=>cases n;rfl
 | bl b=>cases n;rfl
 | int i=>cases n;rfl
 | str x=>cases n;rfl
 | tup ds=>have⟨a,vs,rfl,_⟩:=n;rfl
 | lst ds=>have⟨a,vs,rfl,_⟩:=n;rfl
 | obj C ns ds=>have⟨a,dx,vs,rfl,_⟩:=n;rfl
 | loc k=>have⟨a,rfl,_⟩:=n;rfl
 | ref a=>cases n;rfl
 | ty m=>cases n;rfl
 | ji ns=>have⟨a,rfl,_⟩:=n;rfl
 | kt ds=>have⟨a,vs,rfl,_⟩:=n;rfl
 | exc C ns ds=>have⟨a,od,vs,rfl,_⟩:=n;rfl
 | Su x C od ns ds=>have⟨vs,rfl,_⟩:=n;rfl
def Qm:Dt->Dt->Ms->DQ->Prop:=λd e M q=>e= .aE/\q (.bl (UB d)) M
def UW{K:tf}:ou K (λx y H Q=>y= .aE/\Q (.bl (decide (x= .aE))) H) Qm:=by intro G0 L0 H0 G L M H v1 v2 d1 d2 q e r n1 n2 ⟨e2,h⟩;subst e2;refine⟨n2,?_⟩;rw[NX n1];exact bR e r h
section
variable{a b:Expr}
def OS(ja:JE X R a ta)(jb:JE X R b tb):JE X R (.Compare a [.Is] [b] pos) (iW Qm ta tb):=vq BV UW ja jb (dZ _)
def R6(ja:JE X R a ta)(jb:JE X R b tb):JT X R (.Compare a [.Is] [b] pos) (lE (iW Qm ta tb)):=fB BV UW ja jb (dZ _)
end
def K4{α β:Type}{F:α->β->Prop}:∀{xs:List α} {ys:List β},Paired F xs ys->∀{i:Nat} {x:α},xs[i]? =some x->∃y,ys[i]? =some y/\F x y
 | _,_,.nil,i,x,h=>by simp at h
 | _,_,.cons r t,0,x,h=>by obtain rfl:=aav h;exact⟨_,rfl,r⟩
 | _,_,.cons r t,i+1,x,h=>by have⟨y,e,f⟩:=K4 t (show _=some x by simpa using h);exact⟨y,by simpa using e,f⟩
def To(td te:TE):TE:=λσ H Q=>td σ H λx H1=>∃a,x= .ref a/\IsD H1 a/\te σ H1 λy H2=>∃b Κ more,y= .ref b/\a≠b/\H2 a=some (.dK Κ)/\Rd H2 b (.dK more)/\Κ.length+more.length<=sizeLine/\Q .aE (upd H2 a (.dK (ow Κ more)))
section
variable{td te:TE}
def N3(ho:PE X o td)(he:PE X e te)(m:M1 X o "update" apos e aV):PE X (.Call (.Attribute o "update" apos) [e] [] aV) (To td te):=by
 intro δ s σ H Q I h;refine wpAny_Call_method m.base m.few m.line PySem.F.plainAttrs_dict PySem.F.slot_dict_update PySem.F.type_dict_update (bc (ho δ s σ H _ I h) λu s1 xz=>?_);have⟨x,H1,I1,rx,a,ex,d,q1⟩:=xz;subst ex;obtain rfl:u=Value.ref a:=rx;have⟨t1,t2,_⟩:=P9 I1 d;refine⟨t1,t2,?_⟩;rw[m.trees];refine Calls.callWith_builtin rfl (Calls.evalArgs_plain (Calls.spliced_cons (bc (he δ s1 σ H1 _ I1 q1) fun iv s2 ⟨y,H2,I2,ry,b,Κ,more,ey,jz,hA,hB,hz,q2⟩=>Calls.spliced_nil ?_)));subst ey;obtain rfl:iv=Value.ref b:=ry;have⟨z1,d1,vs,r1,dd1⟩:=Kz I2.ay hA;have⟨z2,d2,rs,r2,WB⟩:=pP I2.ay hB;refine call_meetsIn PySem.F.slot_dict_update dd1.typeIs PySem.F.entry_dict_update (PySem.F.args_dict_update_2 _ _) (meets_dict_update (bN X.prog X.w) a b jz d2) ⟨vs,rs,dd1,WB,by rw[<-r1.length,<-r2.length];exact hz,λh' hm _ hs=>?_⟩;have hex:∃q,h'.get? a=some q:=let ⟨q,_,_,hq,_⟩:=hm;⟨q,hq⟩
 exact⟨.aE,_,yx (t':=s2.toks) I2 (by rw[hA];exact True.intro) hs hex (yb (aax (lM more Κ) hz) d1 (KV.merge r2 r1) hm),rfl,q2⟩
end
section
variable{l k a b:Expr}{tl tk:DE}{p2:Pos}
def pT(ks:List Key):List Key->List Key
 | []=>ks
 | k::r=>pT (gF ks k) r
def rL(ks:List Key)(ds:List Dt):List Key->List Dt->List Dt
 | k::r,d::Ak=>rL (gF ks k) (eK ks k ds d) r Ak
 | _,_=>ds
def Pq{α:Type}{k:Key}{xs:List α}{v:α}(h:ks.length=xs.length):(gF ks k).length=(eK ks k xs v).length:=by
 unfold gF eK;split
 ·rw[oP h]
 ·rw[aan,aan,h];rfl
def Rc{K:tf}{k:Key}{ds:List Dt}(n:Den K G L d v)(h:Ν K G L ds vs)(hl:ks.length=ds.length):Ν K G L (eK ks k ds d) (eK ks k vs v):=by
 unfold eK;split
 ·exact oy n h hl
 ·exact h.app ⟨_,_,rfl,n,rfl⟩
def Fi{K:tf}{G:Hp}{L:List Addr}:∀{vC:List Key} {Ak:List Dt} {Hy:List V} {ks:List Key} {ds:List Dt} {vs:List V},vC.length=Ak.length->Ν K G L Ak Hy->ks.length=ds.length->Ν K G L ds vs->
  ∃us,ow (ks.zip vs) (vC.zip Hy)=(pT ks vC).zip us/\(pT ks vC).length=(rL ks ds vC Ak).length/\Ν K G L (rL ks ds vC Ak) us
 | [],[],_,ks,ds,vs,_,h2,hl,h=>by cases h2;exact⟨vs,rfl,hl,h⟩
 | k::vC,d::Ak,_,ks,ds,vs,FV,⟨v,Hy,e,n0,ns⟩,hl,h=>by
  subst e;have FV:vC.length=Ak.length:=by simpa using FV
  have⟨us,e1,e2,e3⟩:=Fi (ks:=gF ks k) (ds:=eK ks k ds d) (vs:=eK ks k vs v) FV ns (Pq hl) (Rc n0 h hl);refine⟨us,?_,e2,e3⟩;rw[abr];show ow (jK (ks.zip vs) k v) (vC.zip Hy)=(pT (gF ks k) vC).zip us;rw[I_ (hl.trans h.length),e1]
def Es(to te:DE):DE:=λρ M q x=>to ρ M (λd M1=>(∃k ks ds,d= .loc k/\M1[k]? =some (.lH ks ds))/\te ρ M1 (λd2 M2=>∃k k2 ks ds vC Ak,d= .loc k/\d2= .loc k2/\k≠k2/\M2[k]? =some (.lH ks ds)/\M2[k2]? =some (.lH vC Ak)/\ks.length+vC.length<=1000/\q .aE (M2.set k (.lH (pT ks vC) (rL ks ds vC Ak)))) x) x
def CH(ho:JE X R o to)(he:JE X R e te)(m:M1 X o "update" apos e aV:=by exact⟨rfl,rfl,rfl,rfl⟩):JE X R (.Call (.Attribute o "update" apos) [e] [] aV) (Es to te):=
 .of (N3 ho he m) λσ H G L ρ M q x rl n h hx=>by
  refine⟨G,L,ρ,M,_,x,rl,n,h,hx,λv H1 xz=>?_⟩;have⟨d1,G1,L1,M1,e1,r1,n1,⟨k0,ks0,ds0,ed0,hm0⟩,h1⟩:=xz;subst ed0;have⟨a,rfl,hk⟩:=n1;have⟨_,vs0,hH0,_,_⟩:=r1.fm k0 a _ hk hm0;refine⟨a,rfl,.inl ⟨_,.inl hH0⟩,G1,L1,ρ,M1,_,x,r1,n.mono e1,h1,hx.on e1,λv2 H2 xz=>?_⟩;have⟨d2,G2,L2,M2,e2,r2,n2,k,k2,ks,ds,vC,Ak,ed,ed2,jz,hm,Ur,hz,h3⟩:=xz;cases ed;subst ed2;have B9:=e2.l.get hk;have⟨b,rfl,hkb⟩:=n2;have⟨_,vs,hH,hl,dn⟩:=r2.fm k0 a _ B9 hm;have⟨_,Hy,WJ,FV,Sr⟩:=r2.fm k2 b _ hkb Ur;have z1:(ks.zip vs).length<=ks.length:=by rw[abG];exact Nat.min_le_left _ _
  have z2:(vC.zip Hy).length<=vC.length:=by rw[abG];exact Nat.min_le_left _ _
  have sz:(1000:Nat)<=sizeLine:=@_
  have⟨us,u1,u2,u3⟩:=Fi FV Sr hl dn;have ab:a≠b:=λz=>by subst z;have i1:=(aai.mp B9).1;have:=(List.getElem?_inj (l:=L2) i1 r2.nd).mp (B9.trans hkb.symm);exact jz this
  refine⟨b,_,_,rfl,ab,hH,.inl WJ,(),?_⟩;exact⟨.aE,G2,L2,_,(e1.trans e2).trans (r2.JP B9),r2.setM (m:=.lH (pT ks vC) (rL ks ds vC Ak)) B9 ⟨us,by rw[Ι,u1],u2,u3⟩,rfl,h3⟩
end
def IP(P:Program)(w:World)(a:Addr)(Κ:List (Key×V))(ep:Nat)(h:Heap):Prop:=Κ.length<=sizeLine/\(a==sysModules)=false/\∃vs,KV Κ vs/\h.DictAt (bN P w) a vs ep
def CC(P:Program)(w:World)(a:Addr)(Κ:List (Key×V))(ep:Nat):HO:=.ext (IP P w a Κ ep)
section
variable{P':Program}{w':World}{H:Hp}{h:Heap}{ep:Nat}
def DP(ok:jD P w H h)(e:H a=some (CC P' w' a Κ ep)):IP P' w' a Κ ep h:=(ok a _ e).1
def Qq(x:IP P' w' a Κ ep h):aM P w H h a (CC P' w' a Κ ep):=by
 refine⟨x,?_,λh1 h2 y k=>?_⟩
 ·have⟨_,_,vs,_,o,es,e,_⟩:=x;exact⟨o,e⟩
 ·have⟨z,hd,vs,r,o,es,e,c⟩:=y;exact⟨z,hd,vs,r,o,es,k _ e,c⟩
end
section
variable{H:Hp}{ep:Nat}
def Inv.Qx(I:Inv X δ σ H s)(mu:Se (H a))(x:IP X.prog X.w a Κ ep s.heap):Inv X δ σ (upd H a (CC X.prog X.w a Κ ep)) s:=by
 have he:∃u,s.heap.get? a=some u:=let ⟨_,_,_,_,o,_,e,_⟩:=x;⟨o,e⟩
 exact I.write (x:=a) (e:=a) (h':=s.heap) (t':=s.toks) mu (.inl rfl) (λb u _ q=>q) he (Qq x)
def Inv.walkOut(I:Inv X δ σ H s)(e:H a=some (CC X.prog X.w a Κ ep)):Inv X δ σ (upd H a (.dK Κ)) s:=by
 have⟨z,hd,vs,r,dd⟩:=DP I.ay e;have he:∃u,s.heap.get? a=some u:=let ⟨o,_,e,_⟩:=dd;⟨o,e⟩
 exact I.write (x:=a) (e:=a) (h':=s.heap) (t':=s.toks) (by rw[e];exact True.intro) (.inl rfl) (λb u _ q=>q) he (yb z hd r dd.dictOf)
def VO{k:Key}{u:Value}(h:(bN P w).is k u=true):ax (kV k) u:=by
 rcases bf h with ⟨i,t,rfl,rfl⟩| ⟨x,t,rfl,rfl⟩
 ·exact⟨t,rfl⟩
 ·exact⟨t,rfl⟩
end
def X9(P:Program)(w:World)(a:Addr)(Κ:List (Key×V))(ep:Nat):It:=
 ⟨λi H=>H a=some (CC P w a Κ ep)/\i < Κ.length,λi H x H'=>H'=H/\∃kv,Κ[i]? =some kv/\x=kV kv.1,λi H=>H a=some (CC P w a Κ ep)/\Κ.length<=i⟩
def GF{K:tf}(a it:Addr)(Κ:List (Key×V))(ep:Nat):Turn P w K tg (X9 P w a Κ ep) [it] it (λi h=>h.IsKeyIter it a i Κ.length ep) where
 mem:=by simp
 obj:=λi h st b hb=>by
  have e:b=it:=by simpa using hb
  subst e;have⟨o,e,c,d⟩:=st;exact⟨o,e,λv z=>by rw[d]at z;cases z⟩
 keep:=λi h h' st k=>by have⟨o,e,r⟩:=st;exact⟨o,k it (by simp) o e,r⟩
 item:=by
  intro X hP hw hK hc i δ s σ H E I hf st hg;subst hP hw hK;have⟨hq,hi⟩:=hg;have⟨z,hd,vs,rel,dd⟩:=DP I.ay hq;have⟨f0,f1,f2,f3,f4,f5⟩:=hf it (by simp);have hx:Κ[i]? =some Κ[i]:=aac hi;have⟨q,Sf,r1,r2⟩:=K4 rel hx;have⟨k,v⟩:=q;have YI:s.heap.IsKeyIter it a i vs.length ep:=by rw[<-rel.length];exact st
  refine wpAny_pyNext_dict_item YI dd Sf λkey h' hk sY sb=>?_;have sY:h'.IsKeyIter it a (i+1) Κ.length ep:=by rw[rel.length];exact sY
  have I1:Inv X δ σ H {s with heap:=h'}:=I.turned (t':=s.toks) (λb o hb e=>(sb.2 b hb).trans e) f0 f1 f3 f4 f5;have⟨o,e,c,d⟩:=id sY;exact⟨key,rfl,vw (s:={s with heap:=h'}) e c d @_ ⟨kV k,H,I1,VO hk,⟨rfl,Κ[i],hx,by rw[r1]⟩,sY,λb hb=>(hf b hb).1⟩⟩
 done:=by
  intro X hP hw hK hc i δ s σ H E I hf st hg;subst hP hw hK;have⟨hq,hi⟩:=hg;have⟨z,hd,vs,rel,dd⟩:=DP I.ay hq;have⟨f0,f1,f2,f3,f4,f5⟩:=hf it (by simp);have YI:s.heap.IsKeyIter it a i vs.length ep:=by rw[<-rel.length];exact st
  exact wpAny_pyNext_dict_end (I.ok.hd hc) YI dd (List.getElem?_eq_none (by rw[<-rel.length];exact hi)) λh' eb=>⟨rfl,I.turned (t':=s.toks) (λb o hb e=>eb b o hb e) f0 f1 f3 f4 f5⟩
 self:=λ_ _ _ _ _ st h=>wpAny_pyIter_keyiter st h
section
variable{H:Hp}{Q:It->Hp->Prop}
def Nj(I:Inv X δ σ H s)(e:H a=some (.dK Κ))(q:∀ep,Q (X9 X.prog X.w a Κ ep) (upd H a (CC X.prog X.w a Κ ep))):wpAny (model X.prog X.w) X.A (pyIter (.ref a)) (LU X δ σ tg Q) E s:=by
 have⟨z,hd,vs,rel,dd⟩:=Kz I.ay e;have⟨ep,dd⟩:=dd.dictAt;refine wpAny_pyIter_dict hd dd ?_;have I1:=I.Qx (by rw[e];exact True.intro) (show IP X.prog X.w a Κ ep s.heap from⟨z,hd,vs,rel,dd⟩);refine⟨s.heap.objs.size,[s.heap.objs.size],_,_,_,rfl,I1.kept (t':=s.toks) λb o e=>aal _ e,GF a _ Κ ep,⟨_,aaP _ rfl,rfl,by rw[rel.length];rfl⟩,λb hb=>?_,q ep⟩;have e:b=s.heap.objs.size:=by simpa using hb
 subst e;exact I1.Cv (aao _) (I1.ay.fresh (aao _))
end
def NxW(P:Program)(w:World)(D:pO):St->Hp->Prop:=λσ H=>∃a Κ ep,H a=some (CC P w a Κ ep)/\D.nx σ (upd H a (.dK Κ))
section
variable{st:Stmt}{t:TS}{i:Expr}{td ty:TE}
def Gp(h:PS X st t):PS X st (λD σ H=>t {D with nx:=NxW X.prog X.w D} σ H):=by
 intro δ s σ H D I h';refine bc (h δ s σ H _ I h') λf s' sp=>?_;cases f with
 | next=>
  have⟨σ',H',I',a,Κ,ep,e,q⟩:=sp;exact⟨σ',_,I'.walkOut e,q⟩
 | brk=>exact sp
 | cont=>exact sp
 | ret u=>exact sp
def Rt(P:Program)(w:World)(td ty:TE):TE:=λσ H Q=>td σ H λx H1=>ty σ H1 λy H2=>∃a Κ ep k v,x= .ref a/\H2 a=some (CC P w a Κ ep)/\y=kV k/\oN Κ k=some v/\Q v H2
def Io(ho:PE X o td)(hi:PE X i ty)(hs:IQ i):PE X (.Subscript o i pos) (Rt X.prog X.w td ty):=by intro δ s σ H Q I h;refine D5 PySem.F.slot_dict_getitem.lookup hs (bc (ho δ s σ H _ I h) fun u s1 ⟨x,H1,I1,rx,q1⟩=>bc (hi δ s1 σ H1 _ I1 q1) λiv s2 xz=>?_);have⟨y,H2,I2,ry,a,Κ,ep,k,v,ex,e,ey,l,q2⟩:=xz;subst ex ey;obtain rfl:u=Value.ref a:=rx;have⟨z,hd,vs,rel,dd⟩:=DP I2.ay e;have dd:=dd.dictOf;have⟨w',hw,D9⟩:=gL.some_of (v:=v) (o:=valueAt vs k) (by rw[<-l];exact rel.val k);exact⟨dd.typeIs,wpAny_getItem_of (zv ry) dd.mapOf hw ⟨v,H2,I2.tok _,D9,q2⟩⟩
end
def Ld:Key->Dt
 | .inl i=>.int i
 | .inr x=>.str x
def Mr{K:tf}{G:Hp}{L:List Addr}:∀k:Key,Den K G L (Ld k) (kV k)
 | .inl _=>rfl
 | .inr _=>rfl
def tM{K:tf}{G:Hp}{L:List Addr}:∀is:List Int,Ν K G L (is.map Dt.int) (is.map V.int)
 | []=>rfl
 | _::is=>⟨_,_,rfl,rfl,tM is⟩
def zk{K:tf}{G:Hp}{L:List Addr}:∀{is:List Int} {vs:List V},Ν K G L (is.map Dt.int) vs->vs=is.map V.int
 | [],vs,h=>h
 | i::is,vs,h=>by have⟨v,r,rfl,h1,h2⟩:=h;have h1:v= .int i:=h1;rw[h1,zk h2];rfl
def Nx(P:Program)(w:World)(ks:List Key)(is:List Int)(ep:Nat):Addr->HO:=λa=>CC P w a (ks.zip (is.map V.int)) ep
def uJ(g:Dt->En->(En->Prop)->Prop)(tb:DS)(Dn:iM)(k:Nat)(u:Addr->HO)(m:MO):List Key->En->Ms->Prop
 | [],ρ,M=>M[k]? =some (.raw u)/\Dn.nx ρ (M.set k m)
 | x::xs,ρ,M=>M[k]? =some (.raw u)/\g (Ld x) ρ λρ'=>tb {Dn with nx:=uJ g tb Dn k u m xs,ct:=uJ g tb Dn k u m xs,bk:=λρ M=>M[k]? =some (.raw u)/\Dn.nx ρ (M.set k m)} ρ' M
def T8(P:Program)(w:World)(te:DE)(g:Dt->En->(En->Prop)->Prop)(tb:DS):DS:=λDn ρ M=>te ρ M (λd M1=>∃k ks is,d= .loc k/\M1[k]? =some (.lH ks (is.map Dt.int))/\∀ep,uJ g tb Dn k (Nx P w ks is ep) (.lH ks (is.map Dt.int)) ks ρ (M1.set k (.raw (Nx P w ks is ep)))) Dn.x
def R5(P:Program)(w:World)(t:TE):TI:=λσ H R=>t σ H λv H1=>∃a Κ,v= .ref a/\H1 a=some (.dK Κ)/\∀ep,R (X9 P w a Κ ep) (upd H1 a (CC P w a Κ ep))
def MI{t:TE}(h:PE X e t):PI X tg e (R5 X.prog X.w t):=by intro δ s σ H R I ht;refine bc (h δ s σ H _ I ht) λu s1 xz=>?_;have⟨v,H1,I1,rv,a,Κ,ev,ha,q⟩:=xz;subst ev;obtain rfl:u=Value.ref a:=rv;exact Nj I1 ha q
section
variable{i:Expr}{ti:DE}{gg:TG}{g:Dt->En->(En->Prop)->Prop}{tb:DS}
def MU(hi:JE X R iter te)(hg:PG X tg gg)(gd:GD X.K gg g)(hb:AX X R body tb)(hp:PassesOwn (model X.prog X.w) X.A X.env X.xe:=by first| exact PassesOwn.never| exact PassesOwn.leaving)(hc:X.calm=true:=by rfl)(hs:∀x,foldedSetIterable iter X.env x=pure x:=by intro _;rfl):
  JS X R (.For tg iter body [] pos) (T8 X.prog X.w te g tb):=.of (Gp (BI hp hc (MI hi) hg hb hs)) λσ H G L ρ M Dn rl n h hx=>by
 refine⟨G,L,ρ,M,_,_,rl,n,h,hx,λv H1 xz=>?_⟩;have⟨d,G1,L1,M1,e1,r1,n1,k,ks,is,ed,hk,h1⟩:=xz;subst ed;have⟨a,rfl,JC⟩:=n1;have⟨hGa,vs,hH,hl,dn⟩:=r1.fm k a _ JC hk;have hvs:=zk dn;subst hvs;rw[aah]at hl;refine⟨a,_,rfl,hH,λep=>?_⟩;have h1:=h1 ep;generalize hu:Nx X.prog X.w ks is ep=u at h1;have Wo:CC X.prog X.w a (ks.zip (is.map V.int)) ep=u a:=by rw[<-hu];rfl
 have r2:Rl X.K G1 L1 (M1.set k (.raw u)) (upd H1 a (CC X.prog X.w a (ks.zip (is.map V.int)) ep)):=r1.setM (m:=.raw u) JC (show upd H1 a _ a=some (u a) by rw[Ι,Wo]);have e2:Ex G1 L1 H1 G1 L1 (upd H1 a (CC X.prog X.w a (ks.zip (is.map V.int)) ep)):=r1.JP JC;have zl:(ks.zip (is.map V.int)).length=ks.length:=by rw[abG,aah];omega
 generalize WJ:upd H1 a (CC X.prog X.w a (ks.zip (is.map V.int)) ep)=H2 at r2 e2;have HN:=e1.trans e2;have out:∀{G':Hp} {L':List Addr} {H':Hp} {M':Ms} {ρ':En} {σ':St},Ex G1 L1 H2 G' L' H'->Rl X.K G' L' M' H'->gJ X.K G' L' ρ' σ'->M'[k]? =some (.raw u)->Dn.nx ρ' (M'.set k (.lH ks (is.map Dt.int)))->NxW X.prog X.w (uw X.K G L H Dn) σ' H':=λ{G' L' H' M' ρ' σ'} e' r' n' hm T2=>by have BL:=e'.l.get JC;have Uo:H' a=some (u a):=(r'.fm k a _ BL hm).2;refine⟨a,ks.zip (is.map V.int),ep,by rw[Wo];exact Uo,ρ',G',L',_,(HN.trans e').trans (r'.JP BL),r'.setM (m:=.lH ks (is.map Dt.int)) BL ⟨is.map V.int,Ι,by rw[aah];exact hl,tM is⟩,n'.mono (r'.JP (o:=.own a) BL),T2⟩
 refine⟨λi m σ' H'=>m+i=ks.length/\eD X.K G1 L1 H2 (λρ' M'=>uJ g tb Dn k u (.lH ks (is.map Dt.int)) (ks.drop i) ρ' M') σ' H',⟨ks.length,rfl,ρ,G1,L1,_,.refl _ _ _,r2,n.mono e1,by rw[aci];exact h1⟩,?_⟩;rintro i m σ' H' ⟨hm,ρ',G',L',M',e',r',n',h'⟩;have BL:=e'.l.get JC;by_cases hi:i < ks.length
 ·right;rw[abn hi]at h';have⟨NQ,h'⟩:=h';have Uo:H' a=some (u a):=(r'.fm k a _ BL NQ).2;refine⟨⟨by rw[Wo];exact Uo,()⟩,eD X.K G1 L1 H2 (λρ' M'=>uJ g tb Dn k u (.lH ks (is.map Dt.int)) (ks.drop (i+1)) ρ' M'),λσ2 H3 f=>⟨m - 1,(),(),f⟩,λv H3 hy=>?_⟩;have⟨rfl,kv,hkv,rfl⟩:=hy;have QE:kv.1=ks[i]:=by rw[List.getElem?_zip_eq_some]at hkv;have:=hkv.1;rw[aac hi]at this;exact(aav this).symm
  rw[QE];refine gd G' L' M' H3 _ _ ρ' σ' _ _ r' (Mr _) n' h' λρ3 σ3 n3 h3=>?_;refine⟨G',L',ρ3,M',_,r',n3,h3,hx.on (HN.trans e'),⟨λ_ _ f=>eD.back e' f,λ_ _ f=>Fin.back (HN.trans e') f,λσ4 H4 f=>?_,λ_ _ f=>eD.back e' f⟩⟩;have⟨ρ4,G4,L4,M4,e4,r4,n4,hm4,h4⟩:=f;exact out (e'.trans e4) r4 n4 hm4 h4
 ·left;rw[abZ ()]at h';have Uo:H' a=some (u a):=(r'.fm k a _ BL h'.1).2;exact⟨⟨by rw[Wo];exact Uo,()⟩,out e' r' n' h'.1 h'.2⟩
def Qr(P:Program)(w:World)(to ti:DE):DE:=λρ M q x=>to ρ M (λd M1=>ti ρ M1 (λdi M2=>∃k ks is ep key j,d= .loc k/\M2[k]? =some (.raw (Nx P w ks is ep))/\Jm di=some key/\eP ks (is.map Dt.int) key=some (.int j)/\q (.int j) M2) x) x
def Mw(ho:JE X R o to)(hi:JE X R i ti)(hs:IQ i:=by intro _ _;rfl):JE X R (.Subscript o i pos) (Qr X.prog X.w to ti):=
 .of (Io ho hi hs) λσ H G L ρ M q x rl n h hx=>by refine⟨G,L,ρ,M,_,x,rl,n,h,hx,λv H1 xz=>?_⟩;have⟨d1,G1,L1,M1,e1,r1,n1,h1⟩:=xz;refine⟨G1,L1,ρ,M1,_,x,r1,n.mono e1,h1,hx.on e1,λv2 H2 xz=>?_⟩;have⟨d2,G2,L2,M2,e2,r2,n2,k,ks,is,ep,key,j,ed,hm,hk,hg,h2⟩:=xz;subst ed;have⟨a,rfl,QE⟩:=n1;have Pw:=e2.l.get QE;have hH:H2 a=some (Nx X.prog X.w ks is ep a):=(r2.fm k a _ Pw hm).2;obtain rfl:v2=kV key:=qo hk n2;have⟨v,hv,dv⟩:=oz (K:=X.K) (G:=G2) (L:=L2) (tM is) hg;exact⟨a,_,ep,key,v,rfl,hH,rfl,hv,_,G2,L2,M2,e1.trans e2,r2,dv,h2⟩
end
def J7:List Dt->Ms->DQ->Prop
 | [d],M,q=>∃k ks ds,d= .loc k/\M[k]? =some (.lH ks ds)/\q (.int ks.length) M
 | _,_,_=>False
def VT{K:tf}:FX K (λxs H Q=>∃a Κ,xs=[V.ref a]/\H a=some (.dK Κ)/\Q (.int Κ.length) H) J7:=by
 intro G0 L0 H0 G L M H vs ds q e r n h;unfold J7 at h;split at h
 ·have⟨k,ks,ds,rfl,hm,h⟩:=h;have⟨v,rfl,n1⟩:=bx n;have⟨a,rfl,hk⟩:=n1;have⟨_,vs,hH,hl,dn⟩:=r.fm k a _ hk hm;refine⟨a,_,rfl,hH,.int ks.length,G,L,M,e,r,?_,h⟩;show V.int _=V.int _;rw[abG,<-dn.length,<-hl,Nat.min_self]
 ·exact h.elim
section
def LK(hm:X.mg "len"=none)(ha:JA X R [e] t)(hg:Gl X "len":=by rfl)(he:starEach [e] X.env=(false,eval e X.env)::starEach [] X.env:=by rfl)(dN:(backTo pos (starEach [] X.env)).any (·.1)=false:=by rfl):JE X R (.Call (.Name "len" p) [e] [] pos) (CI J7 t):=
 gX GW VT hm PySem.boot_len ha hg @_ @_ he dN
end
section
variable{elt:Expr}{z:Str}{px pz tp:Pos}
def zG{y:Str}{py j4:Pos}(hN:X.N.Nodup)(Lb:X.N[i]? =some y)(hy:Loc X.env.scope y)(S:ai X scope [x,z] ys Μ)(hi:JK X R (.Tuple [.Name x px,.Name z pz] kk tp) iter ti)(he:∀C s H fp,JE (Cx.comp X (x::z::ys) scope C s H fp) (λ_=>E0) elt te)(hc:X.calm=true:=by rfl)(Hq:swapsWith (.ListComp elt [⟨.Tuple [.Name x px,.Name z pz] kk tp,iter,[],0⟩] scope pos) (some (.Name y py)) j4.line X.env=pure true:=by rfl)(hs:∀x,foldedSetIterable iter X.env x=pure x:=by intro _;rfl)(hf:X.fn y=true\/X.env.scope.names.lookup y=some .local:=by first| exact .inl rfl| exact .inr rfl| assumption):JS X R (.Assign [.Name y py] (.ListComp elt [⟨.Tuple [.Name x px,.Name z pz] kk tp,iter,[],0⟩] scope pos) j4) (rD i (xq 2 ti (g2 0 1) te Μ)):=Wx false S hi (v_ hc S) mE (oO (Nat.zero_lt_succ 1) (Nat.lt_succ_self 1)) (λ_ _ _ _=>jq) he hc hs hN Lb hy Hq hf λρ M q x h=>by unfold xq at h;simp only[wC]at h;exact h
end
section
variable{H:Hp}
def ED(I:Inv X δ σ H s){xs ys:List V}(h:mZ X.K H a xs)(h':fU X.K H a ys):False:=by have⟨_,_,⟨o,n,e,c,_⟩,_⟩:=I.list h';have⟨_,_,⟨o2,e2,c2,_⟩,_⟩:=I.tuple h;rw[e]at e2;cases e2;rw[c]at c2;exact aaK (Value.type.inj c2) @_
def Jx(I:Inv X δ σ H s){x y:V}(h:E6 X.K H n x y b):∀{b':Bool},E6 X.K H n x y b'->b=b':=by
 induction h with
 | flat h1 h2=>
  intro b' h';cases h' with
  | flat=>rfl
  | tup=>cases h1
  | lst=>cases h1
  | len=>cases h1
 | @tup n a b xs ys f h1 h2 h ih=>
  intro b' h';cases h' with
  | flat tF=>cases tF
  | @tup _ _ _ xs' ys' f' tF NC h'=>
   cases I.kR h1 tF;cases I.kR h2 NC
   congr 1
   rw[ab0,aa5,aa5];have key:∀j∈List.range (min xs.length ys.length),f j=f' j:=λj hj=>by
    have hj:=abg.mp hj;have l1:j < xs.length:=()
    have l2:j < ys.length:=()
    exact ih j _ _ (aac l1) (aac l2) (h' j _ _ (aac l1) (aac l2))
   exact⟨λz j hj=>by rw[<-key j hj];exact z j hj,λz j hj=>by rw[key j hj];exact z j hj⟩
  | lst tF=>exact(ED I h1 tF).elim
  | len tF=>exact(ED I h1 tF).elim
 | @lst n a b xs ys f h1 h2 hl h ih=>
  intro b' h';cases h' with
  | flat tF=>cases tF
  | tup tF=>exact(ED I tF h1).elim
  | @lst _ _ _ xs' ys' f' tF NC EY h'=>
   cases I.bP h1 tF;cases I.bP h2 NC;rw[ab0,aa5,aa5];have key:∀j∈List.range xs.length,f j=f' j:=λj hj=>by
    have l1:=abg.mp hj;have l2:j < ys.length:=()
    exact ih j _ _ (aac l1) (aac l2) (h' j _ _ (aac l1) (aac l2))
   exact⟨λz j hj=>by rw[<-key j hj];exact z j hj,λz j hj=>by rw[key j hj];exact z j hj⟩
  | len tF NC EY=>
   cases I.bP h1 tF;cases I.bP h2 NC;exact aaK hl EY
 | len h1 h2 hl=>
  intro b' h';cases h' with
  | flat tF=>cases tF
  | tup tF=>exact(ED I tF h1).elim
  | lst tF NC EY=>
   cases I.bP h1 tF;cases I.bP h2 NC;exact aaK EY hl
  | len=>rfl
end
def Jw(K:tf)(n:Nat):V->List V->Hp->VK->Prop:=λx vs H Q=>∃p xs y,∃f:Nat->Bool,∃j:Nat,x= .ref p/\vs=[y]/\fU K H p xs/\(∀i z,xs[i]? =some z->E6 K H n z y (f i))/\j < xs.length/\f j=true/\(∀i,i < j->f i=false)/\Q (.int (j:Int)) H
def KR(hu:X.A.units+(n+1) < cLine):MtM X "list.index" (Jw X.K n):=by
 intro δ s σ H x vs v us Q I rx rv h;have⟨p,xs,y,f,j,rfl,rfl,hq,hf,hj,ft,ff,q⟩:=h;cases rx;have⟨u,rfl,ru⟩:=rv.one;have⟨its,r,pl,hz⟩:=I.list hq;have⟨⟨cls,dd,data,sl⟩,nn,ho,hc,WU,hd⟩:=id pl;simp only at hc hd;subst hc hd
 classical
 have hu':X.A.in1.units+n < cLine:=by show X.A.units+1+n < cLine;omega
 have lz:its.toArray.size=xs.length:=by rw[aaz,<-r.length]
 have afO:sizeLine < 2 ^ 63 - 1:=@_
 have uq:∀i i' (z:V),xs[i]? =some z->xs[i']? =some z->f i=f i':=λi i' z h1 h2=>Jx I (hf i z h1) (hf i' z h2);have ev:∀(m:Nat) (hm:m < its.toArray.size),decide (∃i z,xs[i]? =some z/\ax z its.toArray[m]/\f i=true)=f m:=λm hm=>by
  have⟨z,hz,rz⟩:=bI r hm;by_cases c:∃i z,xs[i]? =some z/\ax z its.toArray[m]/\f i=true
  ·rw[aaO c];have⟨i,z',h1,h2,h3⟩:=c;cases rz.inj h2;rw[uq m i z hz h1,h3]
  ·rw[aat c];cases e:f m with
   | false=>rfl
   | true=>exact aaK ⟨m,z,hz,rz,e⟩ c
 refine call_meets F.slot_list_index ⟨_,ho,rfl⟩ F.entry_list_index (F.args_list_index_2 _ _) (SeqAt.list_indexAt p its.toArray nn dd sl u (λw=>decide (∃i z,xs[i]? =some z/\ax z w/\f i=true)) j () () ((ev j ()).trans ft) (λm hm h=>(ev m hm).trans (ff m h))) ⟨ho,λw hw=>?_,.int (j:Int),H,I.tok _,⟨_,rfl⟩,q⟩;have⟨m,hm,rfl⟩:=Array.mem_iff_getElem.mp hw;have⟨z,hz,rz⟩:=bI r hm;have:=ev m hm;exact this▸sS I (hf m z hz) rz ru hu'
section
def IM(n:Nat)(to:DE)(t:DA):DE:=λρ M q x=>to ρ M (λd M1=>(∃xs,gH M1 d=some xs)/\t ρ M1 (λds M2=>∃y xs,∃f:Nat->Bool,∃j:Nat,ds=[y]/\gH M2 d=some xs/\(∀i z,xs[i]? =some z->ui M2 n z y (f i))/\j < xs.length/\f j=true/\(∀i,i < j->f i=false)/\q (.int (j:Int)) M2) x) x
def NF(n:Nat)(hr:bD k' X.A)(ho:JE X R o to)(ha:JA X R [e] t)(hn:n+1<=64:=by decide)(j9:attributeBase o "index" X.env (eval o X.env)=eval o X.env:=by rfl)
  (Jr:((backTo aV (starEach [e] X.env)).all (λx=> !x.1)&&(backToKw aV (keywordEach [] X.env)).all (λx=>x.1.isSome)
   &&decide (([e]:List Expr).length+([]:List Keyword).length+(if ([]:List Keyword).isEmpty then 0 else 1) < 30))=true:=by rfl)
  (zQ:(apos.endLine==aV.line)=true:=by rfl) (hs:starEach [e] X.env=(false,eval e X.env)::starEach [] X.env:=by rfl) (mC:(backTo aV (starEach [] X.env)).any (·.1)=false:=by rfl):
  JE X R (.Call (.Attribute o "index" apos) [e] [] aV) (IM n to t):=
 .of (O3 PySem.F.plainAttrs_list PySem.F.slot_list_index PySem.F.type_list_index (r:=Jw X.K n) (KR (PZ hr hn)) ho ha j9 Jr zQ hs mC) λσ H G L ρ M q x rl n h hx=>by refine⟨G,L,ρ,M,_,x,rl,n,h,hx,λv H1 xz=>?_⟩;have⟨d1,G1,L1,M1,e1,r1,n1,⟨xs,hm⟩,h1⟩:=xz;have⟨a,vs,rfl,sq,m⟩:=dW r1 n1 hm;refine⟨.inl ⟨rfl,vs,sq⟩,G1,L1,ρ,M1,_,x,r1,n.mono e1,h1,hx.on e1,λus H2 xz=>?_⟩;have⟨ds,G2,L2,M2,e2,r2,n2,y,xs',f,j,ed,Ur,hf,hj,ft,ff,h2⟩:=xz;subst ed;have⟨u,rfl,n3⟩:=bx n2;have⟨a2,Hy,ea,WN,m2⟩:=dW r2 (Den.mono e2.g e2.l _ _ n1) Ur;cases ea;refine⟨a,Hy,u,f,j,rfl,rfl,WN,λi z hz=>?_,by rw[<-m2.length];exact hj,ft,ff,.int (j:Int),G2,L2,_,e1.trans e2,r2,rfl,h2⟩;have⟨d,hd,dn⟩:=m2.back hz;exact K7 r2 (hf i d hd) dn n3
end
section
variable{a b c:Expr}{tc:DE}
def wa(p p':Int->Int->Bool)(ta tb tc:DE):DE:=λρ M q x=>ta ρ M (λd1 M1=>tb ρ M1 (λd2 M2=>∃i j:Int,d1= .int i/\d2= .int j/\(p i j=true->tc ρ M2 (λd3 M3=>∃k:Int,d3= .int k/\q (.bl (p' j k)) M3) x)/\(p i j=false->q (.bl false) M2)) x) x
def IZ{p p':Int->Int->Bool}{K:tf}{H:Hp}{ρ:En}{q:DQ}{x:DX}(rl:Rl K G L M H)(n:gJ K G L ρ σ)(h:wa p p' ta tb tc ρ M q x)(hx:tU K G L H R x):KP (zH λi j=>.bl (p i j)) (zH λi j=>.bl (p' i j)) (rP K R ta) (rP K R tb) (rP K R tc) σ H (Fin K G L H q):=by
 refine⟨G,L,ρ,M,_,x,rl,n,h,hx,λv H1 xz=>?_⟩;have⟨d1,G1,L1,M1,e1,r1,n1,h1⟩:=xz;refine⟨G1,L1,ρ,M1,_,x,r1,n.mono e1,h1,hx.on e1,λv2 H2 xz=>?_⟩;have⟨d2,G2,L2,M2,e2,r2,n2,i,j,ei,ej,ht,hf⟩:=xz;subst ei ej;have n1:v= .int i:=n1;have n2:v2= .int j:=n2;subst n1 n2;refine⟨i,j,rfl,rfl,p i j,rfl,?_⟩;cases hp:p i j with
 | false=>exact⟨.bl false,G2,L2,M2,e1.trans e2,r2,rfl,hf hp⟩
 | true=>
  refine⟨G2,L2,ρ,M2,_,x,r2,(n.mono e1).mono e2,ht hp,(hx.on e1).on e2,λv3 H3 xz=>?_⟩;have⟨d3,G3,L3,M3,e3,r3,n3,k,ek,h3⟩:=xz;subst ek;have n3:v3= .int k:=n3;subst n3;exact⟨j,k,rfl,rfl,.bl (p' j k),G3,L3,M3,(e1.trans e2).trans e3,r3,rfl,h3⟩
def MH{op P1:CmpOp}{p p':Int->Int->Bool}(ho:iC X (compareOp op) (zH λi j=>.bl (p i j)))(ly:iC X (compareOp P1) (zH λi j=>.bl (p' i j)))(ja:JE X R a ta)(jb:JE X R b tb)(jc:JE X R c tc)(hm:lastMarks [op,P1] [b,c]=false:=by with_unfolding_all rfl):JE X R (.Compare a [op,P1] [b,c] pos) (wa p p' ta tb tc):=
 .of (J9 ho ly ja jb jc hm) λσ H G L ρ M q x rl n h hx=>IZ rl n h hx
end
def Hh(a v:Value):argsOk "max" ⟨[a],[(("default":Str),v)]⟩:=by unfold argsOk;kernel_rfl
section
variable{R:Result->Shared->Prop}{it:Addr}{own wr:List Addr}{P:Nat->Value->Prop}{St:Nat->Heap->Prop}
def Z7(bt:Nat->Nat->Bool)(P:Nat->Value->Prop)(j:Nat)(seen:Array Value):Prop:=match j with
 | 0=>seen= #[]
 | k+1=>∃v,seen= #[v,v]/\P (argBest bt k) v
def lu(wk:Walks prog w A.in1 it own wr n P St)(bt:Nat->Nat->Bool)(cm:CmpOf prog w A.in1 .Gt P bt)(a:Addr)(na:a∉own)(y:Value):∀(m j:Nat) (s:Shared) (seen:Array Value) (c:Nat),j+m=n->St j s.heap->Z7 bt P j seen->s.heap.get? a=some ⟨.type "list",none,.seq seen c,#[]⟩->
  (∀v h' tk,(match n with| 0=>v=y| k+1=>P (argBest bt k) v)->(∀b o,b∉wr->b≠a->s.heap.get? b=some o->h'.get? b=some o)->R (.ok (.ret v)) {s with heap:=h',toks:=tk})->
  codeAny (model prog w) A (.builtin "max.loop" ⟨[.ref it,.none,.ref a],[(("default":Str),y)]⟩) R s
 | 0,j,s,seen,c,e,st,bs,ha,k=>by
  obtain rfl:j=n:=e;refine codeAny_builtin F.entry_max_loop ?_;rw[Around.under_plainId F.plain_max_loop _];refine aaj (wpAny_seqItems ha rfl ?_);refine aaj (m:=tryCatch (pyNext (.ref it)) _) (wpAny_tryCatch (wk.done s _ _ st λh' tk kp=>?_));have oh:=kp a _ (λz=>na (wk.sub _ z)) ha;cases j with
  | zero=>
   have bs:seen= #[]:=bs;subst bs;exact aaj (m:=rule _) (wpAny_rule (aaI (k y _ tk rfl λb o b1 b2 q=>kp b o b1 q)))
  | succ j=>
   have⟨v,rfl,pv⟩:=bs;refine aaj (m:=updateSeq a λ_=> #[]) (wpAny_updateSeq oh rfl (aaj (wpAny_letGo (aaI ?_))));exact k v _ tk pv λb o b1 b2 q=>(Heap.get?_update_other _ _ (Ne.symm b2)).trans (kp b o b1 q)
 | m+1,j,s,seen,c,e,st,bs,ha,k=>by
  have nm:(toString "max"++toString ".loop":String)="max.loop":=@_
  refine codeAny_builtin F.entry_max_loop ?_;rw[Around.under_plainId F.plain_max_loop _];refine aaj (wpAny_seqItems ha rfl ?_);refine aaj (m:=tryCatch (pyNext (.ref it)) _) (wpAny_tryCatch (wk.item j s _ _ () st λv h' tk pv sY kp=>?_));have oh:=kp a _ (λz=>na (wk.sub _ z)) ha;have fr:∀{h1:Heap} {o:Obj->Obj},St (j+1) h1->St (j+1) (h1.update a o):=λz=>wk.frame _ _ _ z λb hb o q=>(Heap.get?_update_other _ _ (λu:a=b=>na (by rw[u];exact hb))).trans q;have put:∀{o:Obj->Obj} {b:Addr} {ob:Obj},b∉wr->b≠a->s.heap.get? b=some ob->(h'.update a o).get? b=some ob:=λb1 b2 q=>(Heap.get?_update_other _ _ (Ne.symm b2)).trans (kp _ _ b1 q);cases j with
  | zero=>
   have bs:seen= #[]:=bs;subst bs;refine aaj (m:=updateSeq a λ_=> #[v,v]) (wpAny_updateSeq oh rfl ?_);rw[nm];exact aaI ⟨plainId_quiet F.plain_max_loop _,lu wk bt cm a na y m 1 _ _ _ () (fr sY) ⟨v,rfl,pv⟩ (Heap.get?_update_self _ oh rfl) λu h2 V2 pu UK=>k u h2 V2 pu λb o b1 b2 q=>UK b o b1 b2 (put b1 b2 q)⟩
  | succ j=>
   have⟨v0,rfl,pv0⟩:=bs;refine aaj (m:=tryCatch (holding [v,v] (richCompare .Gt v v0 >>= _)) _) (wpAny_tryCatch (wpAny_holding (aaj (cm (j+1) (argBest bt j) v v0 _ _ _ pv pv0 ?_))));refine aaj (wpAny_holding (wpAny_truthy_bool (aaj (wpAny_letGo (aaI ?_)))));cases hb:bt (j+1) (argBest bt j) with
   | true=>
    rw[aay rfl];refine aaj (m:=updateSeq a λ_=> #[v,v]) (wpAny_updateSeq oh rfl (aaj (wpAny_letGo ?_)));rw[nm];exact aaI ⟨plainId_quiet F.plain_max_loop _,lu wk bt cm a na y m (j+2) _ _ _ () (fr sY) ⟨v,rfl,by rw[argBest,aay hb];exact pv⟩ (Heap.get?_update_self _ oh rfl) λu h2 V2 pu UK=>k u h2 V2 pu λb o b1 b2 q=>UK b o b1 b2 (put b1 b2 q)⟩
   | false=>
    rw[aaF @_];refine aaj (m:=letGo _ _) (wpAny_letGo ?_);rw[nm];exact aaI ⟨plainId_quiet F.plain_max_loop _,lu wk bt cm a na y m (j+2) _ _ c () sY ⟨v0,rfl,by rw[argBest,aaF (by rw[hb];decide)];exact pv0⟩ oh λu h2 V2 pu UK=>k u h2 V2 pu λb o b1 b2 q=>UK b o b1 b2 (kp b o b1 q)⟩
end
section
variable{l:Addr}{xs:Array (Int×Tok)}
def Gz{y:Value}{Q:Value->Shared->Prop}(hh:A.handled=none)(hl:s.heap.IsList l (intItems xs))
  (h:∀v h' tk,(match (intItems xs).size with| 0=>v=y| k+1=>(intItems xs)[argBest (λi j=>decide (numAt xs i > numAt xs j)) k]? =some v)->(∀b o,s.heap.get? b=some o->h'.get? b=some o)->Q v {s with heap:=h',toks:=tk}):
  wpAny (model prog w) A (call (.builtin "max") [.ref l] [(("default":Str),y)]) Q E s:=by
 have nm:(toString "max"++toString ".loop":String)="max.loop":=@_
 refine PyProof.Rows.kmk_tree PySem.F.kind_max PySem.F.plain_max PySem.F.entry_max (Hh _ _) ?_;refine aaj (m:=Builtin.Builtins.bindParams "max" ["key","default"] 0 ⟨[],[(("default":Str),y)]⟩) (wpAny_of_eq (a:=[none,some y]) rfl ?_);refine aaj (aaI (aaj (iter_intList hl λs₂ e st hfp hlI=>?_)));subst e;refine aaj (wpAny_newObj_type ?_);rw[nm];refine aaI ⟨plainId_quiet PySem.F.plain_max_loop _,?_⟩;have wk:=Walks.list (prog:=prog) (w:=w) (A:=A.in1) hh _ l hlI (intItems xs);refine lu wk (λi j=>decide (numAt xs i > numAt xs j)) (CmpOf.ints_gt (numAt xs) (λ_ _=>intItems_at)) _ (λhm=>abz _ (hfp _ hm)) y _ 0 _ #[] 0 (ab1 _) (wk.frame 0 _ _ st λb _ o q=>aal _ q) rfl (aaP _ rfl) λv h' tk pv kp=>?_;refine h v h' tk pv (old_kept λb o hb q=>kp b o hb (aaM (aaq q)) (aal _ q))
end
def Ub(K:tf)(t tk:TA):TE:=λσ H Q=>t σ H λvs H1=>tk σ H1 λzs H2=>∃(p:Addr) (ns:List Int) (u:V),vs=[.ref p]/\zs=[u]/\fU K H2 p (ns.map V.int)/\(ns=[]->Q u H2)/\∀m∈ns,(∀a∈ns,a<=m)->Q (.int m) H2
def NB{ev:Expr}{t tk:TA}{Cp:Pos}(hc:X.calm=true)(hm:X.mg "max"=none)(hg:Gl X "max")(ha:PA X [e] t)(hv:PK X [⟨some "default",ev,Cp⟩] tk)
  (he:backTo pos (starEach [e] X.env)=(false,eval e X.env)::backTo pos (starEach [] X.env)) (dN:(backTo pos (starEach [e] X.env)).any (·.1)=false):
  PE X (.Call (.Name "max" p) [e] [⟨some "default",ev,Cp⟩] pos) (Ub X.K t tk):=by
 intro δ s σ H Q I h;refine wpAny_Call_Name_kw (kG I hg hm (u:=.builtin "max") Hl ?_);refine callWith_kw (bc (ha pos δ s σ H _ I h) fun us s1 ⟨vs,H1,I1,r,q⟩=>bc (hv pos δ s1 σ H1 _ I1 q) λws s2 xz=>?_) he dN rfl rfl;have⟨zs,H2,I2,rz,p,ns,u,e1,e2,sq,h0,h1⟩:=xz;subst e1;subst e2;have⟨u1,rfl,r1⟩:=lN r;have⟨u2,rfl,r2⟩:=lN rz;cases r1;have⟨its,rv,pl,hz⟩:=I2.list sq;have⟨ts,rfl,rfl⟩:=oB rv;have e:(ts.map λp=>Value.int p.1 p.2).toArray=intItems ts.toArray:=by simp[intItems]
 have hl:=pl.isList;rw[e]at hl;refine Gz (y:=u2) (I2.ok.hd hc) hl λv h' tk hv hk=>?_;cases ts with
 | nil=>
  have hv:v=u2:=by simpa [intItems] using hv
  subst hv;exact⟨u,H2,I2.kept hk,r2,h0 rfl⟩
 | cons a ts=>
  have sz:(intItems (a::ts).toArray).size=ts.length+1:=by simp[intItems]
  rw[sz]at hv;have⟨t,rfl⟩:=intItems_at hv;have⟨g1,g2⟩:=argBest_gt (numAt (a::ts).toArray) ts.length;refine⟨.int _,H2,I2.kept hk,⟨t,rfl⟩,h1 _ ?_ λb hb=>?_⟩
  ·rw[numAt_eq];exact getD_mem (by rw[List.length_map];simp at g1⊢;omega)
  ·have⟨j,hj,rfl⟩:=mem_getD hb;rw[aah]at hj;have:=g2 j (by simp at hj;omega);rw[numAt_eq,numAt_eq]at this;rw[numAt_eq];exact this
def Iv(t:DA)(tv:DE):DE:=λρ M q x=>t ρ M (λds M1=>tv ρ M1 (λd M2=>∃(e:Dt) (ns:List Int),ds=[e]/\gH M2 e=some (ns.map .int)/\(ns=[]->q d M2)/\∀m∈ns,(∀a∈ns,a<=m)->q (.int m) M2) x) x
def P_{ev:Expr}{tv:DE}{Cp:Pos}(hm:X.mg "max"=none)(ha:JA X R [e] t)(hv:JE X R ev tv)(hc:X.calm=true:=by rfl)(he:backTo pos (starEach [e] X.env)=(false,eval e X.env)::backTo pos (starEach [] X.env):=by rfl)(dN:(backTo pos (starEach [e] X.env)).any (·.1)=false:=by rfl)(hg:Gl X "max":=by rfl):
  JE X R (.Call (.Name "max" p) [e] [⟨some "default",ev,Cp⟩] pos) (Iv t tv):=by
 refine .of (NB hc hm hg ha (Nt hv Q1) he dN) λσ H G L ρ M q x rl n h hx=>?_;refine⟨G,L,ρ,M,_,x,rl,n,h,hx,λvs H1 xz=>?_⟩;have⟨ds,G1,L1,M1,e1,r1,n1,h1⟩:=xz;refine⟨G1,L1,ρ,M1,_,x,r1,n.mono e1,h1,hx.on e1,λv H2 xz=>?_⟩;have⟨d,G2,L2,M2,e2,r2,n2,e,ns,ed,hl,h0,h2⟩:=xz;subst ed;have⟨u,rfl,n3⟩:=bx (Ν.mono e2.g e2.l _ _ n1);have⟨a,us,rfl,sq,dn⟩:=dW r2 n3 hl;rw[lU dn]at sq;exact⟨a,ns,v,rfl,rfl,sq,λz=>⟨d,G2,L2,M2,e1.trans e2,r2,n2,h0 z⟩,λm hm hle=>⟨.int m,G2,L2,M2,e1.trans e2,r2,rfl,h2 m hm hle⟩⟩
end L2
namespace Fr0
variable{b t:Int}
def g(a b:Int):Int:=(Int.gcd a b:Nat)
def Er{a:Int}(h:b≠0):0 < g a b:=by have:=Int.gcd_pos_of_ne_zero_right a h;unfold g;omega
def RB{a:Int}(h:0<=a):g a 0=a:=by unfold g;rw[Int.gcd_zero_right];omega
def Ra{a:Int}(hb:0 < b):g b (a.fmod b)=g a b:=by
 unfold g;rw[ab6 a (aaE hb),Int.gcd_comm a b]
 congr 1
 refine Int.gcd_right_eq_iff.mpr λc hc=>?_;rw[Int.emod_def];constructor
 ·intro h;have:=Int.dvd_add h (Int.dvd_mul_of_dvd_left (c:=a / b) hc);rwa[Int.sub_add_cancel]at this
 ·intro h;exact Int.dvd_sub h (Int.dvd_mul_of_dvd_left (c:=a / b) hc)
def S9(a b:Int):g (if a < 0 then -a else a) (if b < 0 then -b else b)=g a b:=by unfold g;split <;> split <;> simp
def dv(t b:Int):Int:=if b < 0 then -(g t b) else g t b
def cj(t b:Int):Int×Int:=(t.fdiv (dv t b),b.fdiv (dv t b))
def Kk(h:b≠0):dv t b≠0:=by have:=Er (a:=t) h;unfold dv;split <;> omega
def zh{k p:Int}(h:k≠0):(k * p).fdiv k=p:=by rw[abq];exact Int.mul_fdiv_cancel p h
def J4(h:b≠0):∃p q:Int,t=dv t b * p/\b=dv t b * q/\0 < q/\Int.gcd p q=1:=by
 have hg:=Er (a:=t) h;have h0:0 < Int.gcd t b:=Int.gcd_pos_of_ne_zero_right t h;have⟨p,hp⟩:=Int.gcd_dvd_left t b;have⟨q,hq⟩:=Int.gcd_dvd_right t b;have hc:Int.gcd p q=1:=by
  have e:=Int.gcd_ediv_gcd_ediv_gcd h0;have n0:(Int.gcd t b:Int)≠0:=()
  have e1:t / (Int.gcd t b:Int)=p:=by
   conv=>lhs;arg 1;rw[hp]
   exact abB p n0
  have e2:b / (Int.gcd t b:Int)=q:=by
   conv=>lhs;arg 1;rw[hq]
   exact abB q n0
  rwa[e1,e2]at e
 have v8:t=g t b * p:=hp;have jF:b=g t b * q:=hq;by_cases hb:b < 0
 ·have hd:dv t b= -(g t b):=by unfold dv;rw[if_pos hb]
  refine⟨-p,-q,?_,?_,?_,?_⟩
  ·rw[hd,Int.neg_mul_neg];exact v8
  ·rw[hd,Int.neg_mul_neg];exact jF
  ·have:g t b * q < 0:=by rw[<-jF];exact hb
   by_cases q0:0<=q
   ·exact aaK (abE (aaE hg) q0) ()
   ·omega
  ·simpa using hc
 ·have hd:dv t b=g t b:=by unfold dv;rw[if_neg hb]
  refine⟨p,q,by rw[hd];exact v8,by rw[hd];exact jF,?_,hc⟩;have:0 < g t b * q:=by rw[<-jF];omega
  exact Int.pos_of_mul_pos_right this hg
def kW  (h : b ≠ 0) : ∃p q : Int,cj t b = (p,q) /\ 0 < q /\ Int.gcd p q = 1 /\ t = dv t b * p /\ b = dv t b * q :=by
  obtain⟨p,q,hp,hq,h0,hc⟩ :=J4 (t :=t) h;have n0 :=Kk (t :=t) h;refine⟨p,q,?_,h0,hc,hp,hq⟩;unfold cj
  have e1 : t.fdiv (dv t b) = p := by conv => lhs; arg 1; rw [hp]
                                      exact zh n0
  have e2 : b.fdiv (dv t b) = q := by conv => lhs; arg 1; rw [hq]
                                      exact zh n0
  rw[e1,e2]
def eN(h:b≠0):t * (cj t b).2=b * (cj t b).1:=by
 have⟨p,q,e,_,_,hp,hq⟩:=kW (t:=t) h;rw[e];show t * q=b * p
 calc t * q=dv t b * p * q:=by rw[<-hp]
  _=dv t b * q * p:=by rw[Int.mul_assoc,abq p q,<-Int.mul_assoc]
  _=b * p:=by rw[<-hq]
def iR(h:b≠0):0 < (cj t b).2:=by have⟨p,q,e,h0,_⟩:=kW (t:=t) h;rw[e];exact h0
def AK(h:b≠0):Int.gcd (cj t b).1 (cj t b).2=1:=by have⟨p,q,e,_,hc,_⟩:=kW (t:=t) h;rw[e];exact hc
def pV{k m n:Int}(h:k∣m * n)(hc:Int.gcd k m=1):k∣n:=by have:=(Int.dvd_gcd_mul_iff_dvd_mul (k:=k) (n:=m) (m:=n)).mpr h;rw[hc]at this;simpa using this
def B8{p q p' q':Int}(hq:0 < q)(jF:0 < q')(h:Int.gcd p q=1)(h':Int.gcd p' q'=1)(e:p * q'=p' * q):p=p'/\q=q':=by
 have d1:q∣q':=by have:q∣p * q':=⟨p',by rw[e,abq]⟩;exact pV this (by rw[Int.gcd_comm];exact h)
 have d2:q'∣q:=by have:q'∣p' * q:=⟨p,by rw[<-e,abq]⟩;exact pV this (by rw[Int.gcd_comm];exact h')
 have eq:q=q':=Int.le_antisymm (acf jF d1) (acf hq d2);subst eq;exact⟨Int.eq_of_mul_eq_mul_right () e,rfl⟩
def wN{p q:Int}(h:b≠0)(hq:0 < q)(hc:Int.gcd p q=1)(e:t * q=b * p):cj t b=(p,q):=by
 have h1:=eN (t:=t) h;have h2:=iR (t:=t) h;have h3:=AK (t:=t) h;have h4:(cj t b).1 * q=p * (cj t b).2:=by
  have:b * ((cj t b).1 * q)=b * (p * (cj t b).2):=by rw[<-Int.mul_assoc,<-h1,Int.mul_right_comm,e,Int.mul_assoc]
  exact aa4 h this
 have:=B8 h2 hq h3 hc h4;exact Prod.ext this.1 this.2
def G8{p q:Int}(hq:0 < q)(hc:Int.gcd p q=1):cj p q=(p,q):=wN () hq hc (abq _ _)
def wg(h:b≠0):(dv t b).natAbs<=b.natAbs:=by
 have e:(dv t b).natAbs=Int.gcd t b:=by unfold dv g;split <;> omega
 rw[e];exact Int.gcd_le_natAbs_right t h
def HI  (h : b ≠ 0) : (cj t b).2.natAbs <= b.natAbs :=by
  obtain⟨p,q,e,_,_,_,hq⟩ :=kW (t :=t) h;have n0 :=Kk (t :=t) h;rw[e];show q.natAbs <= b.natAbs
  have : b.natAbs = (dv t b).natAbs * q.natAbs := by conv => lhs; rw [hq]
                                                     exact abA _ _
  rw[this];exact Nat.le_mul_of_pos_left _ ()
end Fr0
namespace Tx
open PySem PySem.NumText
end Tx
namespace Bz
variable{f:Nat->Int}{n i a m:Nat}{ι ρ:List Nat}{d B:Int}
abbrev Row:=Nat->Int
variable{γ:List Row}{A W:Nat->Row}{w:Row}
abbrev Fn:=List Nat->Int
def Lx(x:Row):Fn->Fn
 | _,[]=>0
 | F,c::cs=>x c * F cs - Lx x (λt=>F (c::t)) cs
def Ds(x:Row):∀(cs:List Nat) (F G:Fn),Lx x (λt=>F t+G t) cs=Lx x F cs+Lx x G cs
 | [],F,G=>by simp[Lx]
 | c::cs,F,G=>by have:=Ds x cs (λt=>F (c::t)) (λt=>G (c::t));simp only[Lx];rw[this];grind
def lT(x:Row)(k:Int):∀(cs:List Nat) (F:Fn),Lx x (λt=>k * F t) cs=k * Lx x F cs
 | [],F=>by simp[Lx]
 | c::cs,F=>by have:=lT x k cs (λt=>F (c::t));simp only[Lx];rw[this];grind
def LJ(x:Row)(cs:List Nat)(F G:Fn):Lx x (λt=>F t - G t) cs=Lx x F cs - Lx x G cs:=by
 have h1:=Ds x cs F (λt=>(-1) * G t);have h2:=lT x (-1) cs G;have e:(λt=>F t - G t)=λt=>F t+(-1) * G t:=by funext t;grind
 rw[e,h1,h2];grind
def EJ(x:Row):∀(cs:List Nat),Lx x (λ_=>0) cs=0
 | []=>rfl
 | c::cs=>by simp only[Lx];rw[EJ x cs];simp
def wm(x y:Row):∀(cs:List Nat) (F:Fn),Lx x (Lx y F) cs= - Lx y (Lx x F) cs
 | [],F=>rfl
 | c::cs,F=>by have ih:=wm x y cs (λt=>F (c::t));have e1:(λt=>Lx y F (c::t))=λt=>y c * F t - Lx y (λu=>F (c::u)) t:=rfl;have e2:(λt=>Lx x F (c::t))=λt=>x c * F t - Lx x (λu=>F (c::u)) t:=rfl;show x c * Lx y F cs - Lx x (λt=>Lx y F (c::t)) cs= -(y c * Lx x F cs - Lx y (λt=>Lx x F (c::t)) cs);rw[e1,e2,LJ,LJ,lT,lT,ih];grind
def NV(x:Row)(cs:List Nat)(F:Fn):Lx x (Lx x F) cs=0:=by have:=wm x x cs F;omega
def vU(x:Row)(d:Nat):∀(cs:List Nat) (F:Fn),Lx x F (cs++[d])=Lx x (λt=>F (t++[d])) cs+(-1) ^ cs.length * (x d * F cs)
 | [],F=>by simp[Lx]
 | c::cs,F=>by have:=vU x d cs (λt=>F (c::t));show x c * F (cs++[d]) - Lx x (λt=>F (c::t)) (cs++[d])=_;rw[this];show _=(x c * F (cs++[d]) - Lx x (λt=>F (c::(t++[d]))) cs)+(-1) ^ (cs.length+1) * (x d * F (c::cs));have e:(λt=>F (c::(t++[d])))=λt=>(λu=>F (c::u)) (t++[d]):=rfl;rw[e,abT];grind
def yX(x:Row){F G:Fn}{n:Nat}:∀(cs:List Nat),(∀t,t.length+1=cs.length->F t=G t)->Lx x F cs=Lx x G cs:=by
 intro cs
 induction cs generalizing F G with
 | nil=>intro _;rfl
 | cons c cs ih=>
  intro h;simp only[Lx];rw[h cs (by simp),ih (F:=λt=>F (c::t)) (G:=λt=>G (c::t)) λt ht=>h (c::t) (by simp;omega)]
def υ(f:Nat->Int):Nat->Int
 | 0=>0
 | n+1=>υ f n+f n
def gq(f g:Nat->Int):∀n,υ (λi=>f i+g i) n=υ f n+υ g n
 | 0=>rfl
 | n+1=>by simp only[υ];rw[gq f g n];omega
def Λ(k:Int)(f:Nat->Int):∀n,υ (λi=>k * f i) n=k * υ f n
 | 0=>by simp[υ]
 | n+1=>by simp only[υ];rw[Λ k f n,Int.mul_add]
def ξ{f g:Nat->Int}:∀{n:Nat},(∀i,i < n->f i=g i)->υ f n=υ g n
 | 0,_=>rfl
 | n+1,h=>by simp only[υ];rw[ξ λi hi=>h i (),h n ()]
def iN(h:∀i,i < n->f i=0):υ f n=0:=by
 rw[ξ h];clear h
 induction n with
 | zero=>rfl
 | succ n ih=>simp only[υ];rw[ih];rfl
def iE{j:Nat}(hj:j < n)(h:∀i,i < n->i≠j->f i=0):υ f n=f j:=by
 induction n with
 | zero=>omega
 | succ n ih=>
  simp only[υ];by_cases e:j=n
  ·subst e;rw[iN λi hi=>h i () ()];omega
  ·rw[ih () λi hi jz=>h i () jz,h n () ()];omega
def mO(f:Nat->Int):∀n,υ f (n+1)=f 0+υ (λi=>f (i+1)) n
 | 0=>by simp[υ]
 | n+1=>by have:=mO f n;rw[show υ f (n+1+1)=υ f (n+1)+f (n+1) from rfl,this];simp only[υ];omega
def cK(f:Nat->Nat->Int)(m:Nat):∀n,υ (λi=>υ (f i) m) n=υ (λj=>υ (λi=>f i j) n) m
 | 0=>by rw[show υ (λi=>υ (f i) m) 0=0 from rfl];exact(iN λ_ _=>rfl).symm
 | n+1=>by rw[show υ (λi=>υ (f i) m) (n+1)=υ (λi=>υ (f i) m) n+υ (f n) m from rfl,cK f m n,<-gq];rfl
def wb(x:Row):∀(cs:List Nat) (F:Fn),Lx x F cs=υ (λp=>(-1) ^ p * (x (cs.getD p 0) * F (cs.eraseIdx p))) cs.length
 | [],F=>rfl
 | c::cs,F=>by
  have ih:=wb x cs (λt=>F (c::t));show x c * F cs - Lx x (λt=>F (c::t)) cs=_;rw[aaL,mO,ih];have e:υ (λp=>(-1) ^ (p+1) * (x ((c::cs).getD (p+1) 0) * F ((c::cs).eraseIdx (p+1)))) cs.length= -1 * υ (λp=>(-1) ^ p * (x (cs.getD p 0) * F (c::cs.eraseIdx p))) cs.length:=by rw[<-Λ];refine ξ λp _=>?_;simp only[List.getD_cons_succ,List.eraseIdx_cons_succ];rw[Int.pow_succ];grind
  rw[e];simp only[List.getD_cons_zero,List.eraseIdx_cons_zero,Int.pow_zero];omega
def F0:Fn:=λcs=>if cs=[] then 1 else 0
def D:List Row->Fn
 | []=>F0
 | x::xs=>Lx x (D xs)
def oj(y:Row):∀(xs ys:List Row) (cs:List Nat),D (xs++y::ys) cs=(-1) ^ xs.length * D (y::(xs++ys)) cs
 | [],ys,cs=>by simp
 | x::xs,ys,cs=>by
  show Lx x (D (xs++y::ys)) cs=_;have e:D (xs++y::ys)=λt=>(-1) ^ xs.length * D (y::(xs++ys)) t:=by funext t;exact oj y xs ys t
  rw[e,lT];show(-1) ^ xs.length * Lx x (Lx y (D (xs++ys))) cs=(-1) ^ (xs.length+1) * Lx y (Lx x (D (xs++ys))) cs;rw[wm x y,Int.pow_succ];grind
def SQ(y:Row)(xs ys zs:List Row)(cs:List Nat):D (xs++y::(ys++y::zs)) cs=0:=by
 rw[oj];have e:D (y::(xs++(ys++y::zs))) cs=Lx y (λt=>D (xs++(ys++y::zs)) t) cs:=rfl;have e2:(λt=>D (xs++(ys++y::zs)) t)=λt=>(-1) ^ (xs++ys).length * Lx y (D (xs++ys++zs)) t:=by
  funext t
  rw[<-aaJ,oj];rfl
 rw[e,e2,lT,NV];simp
def eG(γ:List Row)(ι:List Nat)(p k:Nat):Int:=(-1) ^ (p+k) * D (γ.eraseIdx k) (ι.eraseIdx p)
def zr:Row:=λ_=>0
def QL(n:Nat):((-1:Int) ^ n) * (-1) ^ n=1:=by
 induction n with
 | zero=>rfl
 | succ n ih=>rw[Int.pow_succ];grind
def HK{α:Type}:∀{l:List α} {k:Nat} (h:k < l.length),l=l.take k++l[k]::l.drop (k+1):=by intro l k h;rw[List.getElem_cons_drop,List.take_append_drop]
def Hv{α:Type}{l:List α}{k:Nat}(hi:i < l.length)(jz:i≠k):l[i]∈l.eraseIdx k:=by rw[List.mem_eraseIdx_iff_getElem];exact⟨i,hi,jz,rfl⟩
def PA{k:Nat}(hl:ι.length=γ.length)(hi:i < γ.length)(hk:k < γ.length):υ (λp=>γ.getD i zr (ι.getD p 0) * eG γ ι p k) γ.length=if i=k then D γ ι else 0:=by
 have gi:γ.getD i zr=γ[i]:=by rw[aad,aac hi];rfl
 have e:υ (λp=>γ.getD i zr (ι.getD p 0) * eG γ ι p k) γ.length=(-1) ^ k * D (γ.getD i zr::γ.eraseIdx k) ι:=by show _=(-1) ^ k * Lx (γ.getD i zr) (D (γ.eraseIdx k)) ι;rw[wb,<-Λ,hl];refine ξ λp _=>?_;unfold eG;rw[Int.pow_add];grind
 rw[e,gi];by_cases h:i=k
 ·subst h;rw[aay rfl];have s:=HK hi;have f:=oj γ[i] (γ.take i) (γ.drop (i+1)) ι;rw[<-s,List.length_take,ace ()]at f;rw[f,List.eraseIdx_eq_take_drop_succ]
 ·rw[aaF h];have⟨ys,zs,e2⟩:=List.append_of_mem (Hv hi h);rw[e2];have:=SQ γ[i] [] ys zs ι;rw[show D (γ[i]::(ys++γ[i]::zs)) ι=0 from this];simp
def xC(x:Row)(g:Nat->Int)(F:Nat->Fn)(cs:List Nat):∀n,Lx x (λt=>υ (λk=>g k * F k t) n) cs=υ (λk=>g k * Lx x (F k) cs) n
 | 0=>EJ x cs
 | n+1=>by have:=Ds x cs (λt=>υ (λk=>g k * F k t) n) (λt=>g n * F n t);show Lx x (λt=>υ (λk=>g k * F k t) n+g n * F n t) cs=_;rw[this,xC x g F cs n,lT];rfl
def Oq(c:Nat):∀(γ:List Row) (t:List Nat),D γ (t++[c])=υ (λk=>(-1) ^ (t.length+k) * (γ.getD k zr c * D (γ.eraseIdx k) t)) γ.length
 | [],t=>by show F0 (t++[c])=0;unfold F0;simp
 | x::xs,t=>by
  show Lx x (D xs) (t++[c])=_;rw[vU,aaL,mO];have e:Lx x (λu=>D xs (u++[c])) t=υ (λk=>(-1) ^ (t.length+(k+1)) * ((x::xs).getD (k+1) zr c * D ((x::xs).eraseIdx (k+1)) t)) xs.length:=by
   have e1:Lx x (λu=>D xs (u++[c])) t=Lx x (λu=>υ (λk=>((-1) ^ (t.length+(k+1)) * xs.getD k zr c) * D (xs.eraseIdx k) u) xs.length) t:=by refine yX x (n:=0) t λu hu=>?_;rw[Oq c xs u];refine ξ λk _=>?_;rw[<-hu,show u.length+1+(k+1)=u.length+k+1+1 by omega,Int.pow_succ,Int.pow_succ];grind
   rw[e1,xC x (λk=>(-1) ^ (t.length+(k+1)) * xs.getD k zr c) (λk=>D (xs.eraseIdx k))];refine ξ λk _=>?_;simp only[List.getD_cons_succ,List.eraseIdx_cons_succ];show _=(-1) ^ (t.length+(k+1)) * (xs.getD k zr c * Lx x (D (xs.eraseIdx k)) t);grind
  rw[e];simp only[List.getD_cons_zero,List.eraseIdx_cons_zero,Nat.add_zero];omega
def LA{y:Row}{c:Nat}(hl:ι.length=γ.length):D (γ++[y]) (ι++[c])=y c * D γ ι - υ (λp=>y (ι.getD p 0) * υ (λk=>eG γ ι p k * γ.getD k zr c) γ.length) γ.length:=by
 rw[oj,aaW];show(-1) ^ γ.length * Lx y (D γ) (ι++[c])=_;rw[vU];have e1:Lx y (λt=>D γ (t++[c])) ι= - ((-1) ^ γ.length * υ (λp=>y (ι.getD p 0) * υ (λk=>eG γ ι p k * γ.getD k zr c) γ.length) γ.length):=by
  have e2:Lx y (λt=>D γ (t++[c])) ι=Lx y (λt=>υ (λk=>(-((-1) ^ (γ.length+k) * γ.getD k zr c)) * D (γ.eraseIdx k) t) γ.length) ι:=by refine yX y (n:=0) ι λt ht=>?_;rw[Oq c γ t];refine ξ λk _=>?_;rw[<-hl,<-ht,show t.length+1+k=t.length+k+1 by omega,Int.pow_succ];grind
  rw[e2,xC y (λk=> -((-1) ^ (γ.length+k) * γ.getD k zr c)) (λk=>D (γ.eraseIdx k))];have e3:υ (λk=> -((-1) ^ (γ.length+k) * γ.getD k zr c) * Lx y (D (γ.eraseIdx k)) ι) γ.length=υ (λk=>υ (λp=> -((-1) ^ γ.length) * (y (ι.getD p 0) * (eG γ ι p k * γ.getD k zr c))) γ.length) γ.length:=by refine ξ λk _=>?_;rw[wb,<-Λ,hl];refine ξ λp _=>?_;unfold eG;rw[Int.pow_add,Int.pow_add];grind
  rw[e3,cK];have e4:υ (λp=>υ (λk=> -((-1) ^ γ.length) * (y (ι.getD p 0) * (eG γ ι p k * γ.getD k zr c))) γ.length) γ.length=υ (λp=> -((-1) ^ γ.length) * (y (ι.getD p 0) * υ (λk=>eG γ ι p k * γ.getD k zr c) γ.length)) γ.length:=by refine ξ λp _=>?_;rw[Λ,Λ]
  rw[e4,Λ];grind
 rw[e1,hl];have s:=QL γ.length;generalize ((-1:Int) ^ γ.length)=z at *
 generalize υ _ γ.length=q;grind
def Ii{v:Nat->Int}{e:Int}{k:Nat}(hl:ι.length=γ.length)(hi:i < γ.length)(hk:k < γ.length)
  (h:∀p,p < γ.length->υ (λj=>v j * γ.getD j zr (ι.getD p 0)) γ.length=if i=p then e else 0):v k * D γ ι=e * eG γ ι i k:=by
 have a:υ (λp=>υ (λj=>v j * γ.getD j zr (ι.getD p 0)) γ.length * eG γ ι p k) γ.length=e * eG γ ι i k:=by rw[iE hi λp hp jz=>by rw[h p hp,if_neg (Ne.symm jz)];simp];rw[h i hi,aay rfl]
 have b:υ (λp=>υ (λj=>v j * γ.getD j zr (ι.getD p 0)) γ.length * eG γ ι p k) γ.length=υ (λj=>v j * υ (λp=>γ.getD j zr (ι.getD p 0) * eG γ ι p k) γ.length) γ.length:=by
  have e1:υ (λp=>υ (λj=>v j * γ.getD j zr (ι.getD p 0)) γ.length * eG γ ι p k) γ.length=υ (λp=>υ (λj=>v j * (γ.getD j zr (ι.getD p 0) * eG γ ι p k)) γ.length) γ.length:=by refine ξ λp _=>?_;rw[abq,<-Λ];refine ξ λj _=>?_;grind
  rw[e1,cK];refine ξ λj _=>?_;rw[<-Λ]
 rw[<-a,b,iE hk λj hj jz=>by rw[PA hl hj hk,if_neg jz];simp];rw[PA hl hk hk,aay rfl]
def ind(a k:Nat):Int:=if a=k then 1 else 0
def rv(A:Nat->Row)(n:Nat)(w:Row)(x:Nat):Int:=υ (λk=>w k * A k x) n
def nc(h:a < n):υ (λk=>ind a k * f k) n=f a:=by rw[iE h λi _ jz=>by unfold ind;rw[if_neg (Ne.symm jz)];simp];unfold ind;rw[if_pos rfl];simp
def xj{u v:Row}{a b:Int}(h:∀k,w k=a * u k - b * v k)(x:Nat):rv A n w x=a * rv A n u x - b * rv A n v x:=by
 unfold rv;have e:υ (λk=>w k * A k x) n=υ (λk=>a * (u k * A k x)+(-b) * (v k * A k x)) n:=ξ λk _=>by rw[h k];grind
 rw[e,gq,Λ,Λ];grind
def Ie{r:Nat}{g:Nat->Int}{u:Nat->Row}(h:∀k,w k=υ (λj=>g j * u j k) r)(x:Nat):rv A n w x=υ (λj=>g j * rv A n (u j) x) r:=by
 unfold rv;have e:υ (λk=>w k * A k x) n=υ (λk=>υ (λj=>g j * (u j k * A k x)) r) n:=ξ λk _=>by rw[h k,abq,<-Λ];exact ξ λj _=>by grind
 rw[e,cK];exact ξ λj _=>Λ _ _ _
def CT(h:a < n)(x:Nat):rv A n (ind a) x=A a x:=by unfold rv;exact nc (f:=λk=>A k x) h
structure St(A:Nat->Row)(n:Nat)(ρ ι:List Nat)(q:Nat->Nat)(d:Int)(W:Nat->Row):Prop where
 lc:ι.length=ρ.length
 rn:ρ.length<=n
 Nd:∀i,i < n->q i < n
 zA:∀j,j < ρ.length->ρ.getD j 0 < n
 det:D (ρ.map A) ι=d
 wp:∀i,i < ρ.length->∀k,W i k=υ (λj=>eG (ρ.map A) ι i j * ind (ρ.getD j 0) k) ρ.length
 wn:∀i,ρ.length<=i->i < n->∀k,W i k=d * ind (q i) k - υ (λp=>A (q i) (ι.getD p 0) * W p k) ρ.length
 one:∀i p,i < ρ.length->p < ρ.length->rv A n (W i) (ι.getD p 0)=if i=p then d else 0
section
variable{q:Nat->Nat}
def tT{j:Nat}(h:j < ρ.length):(ρ.map A).getD j zr=A (ρ.getD j 0):=by rw[aad,aap,aac h,aad,aac h];rfl
def St.SA(s:St A n ρ ι q d W)(hi:i < ρ.length)(x:Nat):rv A n (W i) x=υ (λj=>eG (ρ.map A) ι i j * A (ρ.getD j 0) x) ρ.length:=by rw[Ie (u:=λj=>ind (ρ.getD j 0)) (s.wp i hi)];exact ξ λj hj=>by rw[CT (s.zA j hj)]
def St.Pk(s:St A n ρ ι q d W)(h1:ρ.length<=i)(hi:i < n)(x:Nat):rv A n (W i) x=d * A (q i) x - υ (λp=>A (q i) (ι.getD p 0) * rv A n (W p) x) ρ.length:=by
 have h:∀k,W i k=d * ind (q i) k - 1 * υ (λp=>A (q i) (ι.getD p 0) * W p k) ρ.length:=λk=>by rw[s.wn i h1 hi k];omega
 rw[xj h x,CT (s.Nd i hi),Ie (w:=λk=>υ (λp=>A (q i) (ι.getD p 0) * W p k) ρ.length) (u:=W) (λk=>rfl)];omega
def St.zero(s:St A n ρ ι q d W){p:Nat}(h1:ρ.length<=i)(hi:i < n)(hp:p < ρ.length):rv A n (W i) (ι.getD p 0)=0:=by
 rw[s.Pk h1 hi];have e:υ (λp'=>A (q i) (ι.getD p' 0) * rv A n (W p') (ι.getD p 0)) ρ.length=A (q i) (ι.getD p 0) * d:=by rw[iE hp λp' v8 jz=>by rw[s.one p' p v8 hp,if_neg jz];simp];rw[s.one p p hp hp,aay rfl]
 rw[e];grind
def St.head(s:St A n ρ ι q d W)(hr:ρ.length < n)(c:Nat):D ((ρ++[q ρ.length]).map A) (ι++[c])=rv A n (W ρ.length) c:=by
 rw[aaT,s.Pk (aao _) hr];show D (ρ.map A++[A (q ρ.length)]) (ι++[c])=_;rw[LA (by rw[aah];exact s.lc),s.det,aah,abq]
 congr 1
 refine ξ λp hp=>?_;rw[s.SA hp]
 congr 1
 exact ξ λk hk=>by rw[tT hk]
def ng{j:Nat}{l:List Nat}(h:j < l.length):(l++[a]).getD j 0=l.getD j 0:=by rw[aad,aaA h,<-aad]
def nq{l:List Nat}:(l++[a]).getD l.length 0=a:=by simp
def mix(f:Nat->Int)(s:St A n ρ ι q d W)(a L:Int)(g:Nat->Int):
  υ (λj=>(if j < ρ.length then a * g j+L * υ (λp=>A (q ρ.length) (ι.getD p 0) * eG (ρ.map A) ι p j) ρ.length else -(L * d)) * f ((ρ++[q ρ.length]).getD j 0)) (ρ.length+1)
  =a * υ (λj=>g j * f (ρ.getD j 0)) ρ.length - L * (d * f (q ρ.length) - υ (λp=>A (q ρ.length) (ι.getD p 0) * υ (λj=>eG (ρ.map A) ι p j * f (ρ.getD j 0)) ρ.length) ρ.length):=by
 rw[show∀F:Nat->Int,υ F (ρ.length+1)=υ F ρ.length+F ρ.length fromλ_=>rfl,nq,aaF (abz _)]
 have e:υ (λj=>(if j < ρ.length then a * g j+L * υ (λp=>A (q ρ.length) (ι.getD p 0) * eG (ρ.map A) ι p j) ρ.length else -(L * d)) * f ((ρ++[q ρ.length]).getD j 0)) ρ.length
   =υ (λj=>a * (g j * f (ρ.getD j 0))+L * υ (λp=>A (q ρ.length) (ι.getD p 0) * (eG (ρ.map A) ι p j * f (ρ.getD j 0))) ρ.length) ρ.length:=by
  refine ξ λj hj=>?_;rw[aay hj,ng hj];have e2:υ (λp=>A (q ρ.length) (ι.getD p 0) * (eG (ρ.map A) ι p j * f (ρ.getD j 0))) ρ.length=f (ρ.getD j 0) * υ (λp=>A (q ρ.length) (ι.getD p 0) * eG (ρ.map A) ι p j) ρ.length:=by rw[<-Λ];exact ξ λp _=>by grind
  rw[e2];grind
 rw[e,gq,Λ,Λ,cK (λj p=>A (q ρ.length) (ι.getD p 0) * (eG (ρ.map A) ι p j * f (ρ.getD j 0)))]
 have e3:υ (λp=>υ (λj=>A (q ρ.length) (ι.getD p 0) * (eG (ρ.map A) ι p j * f (ρ.getD j 0))) ρ.length) ρ.length=υ (λp=>A (q ρ.length) (ι.getD p 0) * υ (λj=>eG (ρ.map A) ι p j * f (ρ.getD j 0)) ρ.length) ρ.length:=
  ξ λp _=>Λ _ _ _
 rw[e3];grind
def St.step(s:St A n ρ ι q d W)(hr:ρ.length < n)(c:Nat)(d0:d≠0)(h0:rv A n (W ρ.length) c≠0):
  ∃W':Nat->Row,St A n (ρ++[q ρ.length]) (ι++[c]) q (rv A n (W ρ.length) c) W'/\(∀k,W' ρ.length k=W ρ.length k)/\
   ∀i,i < n->i≠ρ.length->∀k,d * W' i k=rv A n (W ρ.length) c * W i k - rv A n (W i) c * W ρ.length k:=by
 have hd:=s.head hr c;generalize hE:rv A n (W ρ.length) c=E at *
 have lr:((ρ++[q ρ.length]).map A).length=ρ.length+1:=by simp
 have lc':(ι++[c]).length=((ρ++[q ρ.length]).map A).length:=by rw[lr];simp[s.lc]
 have cg:∀p,p < ρ.length->(ι++[c]).getD p 0=ι.getD p 0:=λp hp=>ng (by rw[s.lc];exact hp);have cl:(ι++[c]).getD ρ.length 0=c:=by rw[<-s.lc];exact nq
 have rg:∀j,j < ρ.length+1->((ρ++[q ρ.length]).map A).getD j zr=A ((ρ++[q ρ.length]).getD j 0):=λj hj=>tT (by simp;omega);have head:∀j,j < ρ.length+1->(if j < ρ.length then (0:Int) * 0+(-1) * υ (λp=>A (q ρ.length) (ι.getD p 0) * eG (ρ.map A) ι p j) ρ.length else -((-1) * d))=eG ((ρ++[q ρ.length]).map A) (ι++[c]) ρ.length j:=λj hj=>by
  have:=Ii (γ:=(ρ++[q ρ.length]).map A) (ι:=ι++[c]) (v:=λj=>if j < ρ.length then (0:Int) * 0+(-1) * υ (λp=>A (q ρ.length) (ι.getD p 0) * eG (ρ.map A) ι p j) ρ.length else -((-1) * d)) (e:=E) (i:=ρ.length) (k:=j) lc' (by rw[lr];omega) (by rw[lr];exact hj) (λp hp=>by
   rw[lr]at hp⊢;have e1:=mix (λa=>A a ((ι++[c]).getD p 0)) s 0 (-1) (λ_=>0);have e2:υ (λj=>(if j < ρ.length then (0:Int) * 0+(-1) * υ (λp=>A (q ρ.length) (ι.getD p 0) * eG (ρ.map A) ι p j) ρ.length else -((-1) * d)) * ((ρ++[q ρ.length]).map A).getD j zr ((ι++[c]).getD p 0)) (ρ.length+1)=_:=(ξ λj hj=>by rw[rg j hj]).trans e1;rw[e2];have e3:d * A (q ρ.length) ((ι++[c]).getD p 0) - υ (λp'=>A (q ρ.length) (ι.getD p' 0) * υ (λj=>eG (ρ.map A) ι p' j * A (ρ.getD j 0) ((ι++[c]).getD p 0)) ρ.length) ρ.length=rv A n (W ρ.length) ((ι++[c]).getD p 0):=by
    rw[s.Pk (aao _) hr]
    congr 1
    exact ξ λp' v8=>by rw[s.SA v8]
   rw[e3];by_cases FD:p < ρ.length
   ·rw[cg p FD,s.zero (Nat.le_refl _) hr FD,if_neg ()];simp
   ·have:p=ρ.length:=()
    subst this
    rw[cl,hE,aay rfl];omega)
  rw[hd]at this;refine aa4 h0 ?_;rw[<-this];grind
 have hk:∀k,W ρ.length k=υ (λj=>eG ((ρ++[q ρ.length]).map A) (ι++[c]) ρ.length j * ind ((ρ++[q ρ.length]).getD j 0) k) (ρ.length+1):=λk=>by
  have e1:=mix (λa=>ind a k) s 0 (-1) (λ_=>0);have e2:υ (λj=>eG ((ρ++[q ρ.length]).map A) (ι++[c]) ρ.length j * ind ((ρ++[q ρ.length]).getD j 0) k) (ρ.length+1)=_:=(ξ λj hj=>by rw[<-head j hj]).trans e1;rw[e2,s.wn _ (aao _) hr k];have e3:υ (λp=>A (q ρ.length) (ι.getD p 0) * W p k) ρ.length=υ (λp=>A (q ρ.length) (ι.getD p 0) * υ (λj=>eG (ρ.map A) ι p j * ind (ρ.getD j 0) k) ρ.length) ρ.length:=ξ λp hp=>by rw[s.wp p hp k]
  rw[e3];omega
 have above:∀i,i < ρ.length->∀j,j < ρ.length+1->(if j < ρ.length then E * eG (ρ.map A) ι i j+rv A n (W i) c * υ (λp=>A (q ρ.length) (ι.getD p 0) * eG (ρ.map A) ι p j) ρ.length else -(rv A n (W i) c * d))=d * eG ((ρ++[q ρ.length]).map A) (ι++[c]) i j:=λi hi j hj=>by
  have:=Ii (γ:=(ρ++[q ρ.length]).map A) (ι:=ι++[c]) (v:=λj=>if j < ρ.length then E * eG (ρ.map A) ι i j+rv A n (W i) c * υ (λp=>A (q ρ.length) (ι.getD p 0) * eG (ρ.map A) ι p j) ρ.length else -(rv A n (W i) c * d)) (e:=d * E) (i:=i) (k:=j) lc' (by rw[lr];omega) (by rw[lr];exact hj) (λp hp=>by
   rw[lr]at hp⊢;have e1:=mix (λa=>A a ((ι++[c]).getD p 0)) s E (rv A n (W i) c) (λj=>eG (ρ.map A) ι i j);have e2:υ (λj=>(if j < ρ.length then E * eG (ρ.map A) ι i j+rv A n (W i) c * υ (λp=>A (q ρ.length) (ι.getD p 0) * eG (ρ.map A) ι p j) ρ.length else -(rv A n (W i) c * d)) * ((ρ++[q ρ.length]).map A).getD j zr ((ι++[c]).getD p 0)) (ρ.length+1)=_:=(ξ λj hj=>by rw[rg j hj]).trans e1;rw[e2];have e3:d * A (q ρ.length) ((ι++[c]).getD p 0) - υ (λp'=>A (q ρ.length) (ι.getD p' 0) * υ (λj=>eG (ρ.map A) ι p' j * A (ρ.getD j 0) ((ι++[c]).getD p 0)) ρ.length) ρ.length=rv A n (W ρ.length) ((ι++[c]).getD p 0):=by
    rw[s.Pk (aao _) hr]
    congr 1
    exact ξ λp' v8=>by rw[s.SA v8]
   rw[e3,<-s.SA hi];by_cases FD:p < ρ.length
   ·rw[cg p FD,s.zero (aao _) hr FD,s.one i p hi FD];split <;> grind
   ·have:p=ρ.length:=()
    subst this
    rw[cl,hE,if_neg ()];grind)
  rw[hd]at this;refine aa4 h0 ?_;rw[Int.mul_comm,this];grind
 have abk:∀i,i < ρ.length->∀k,d * υ (λj=>eG ((ρ++[q ρ.length]).map A) (ι++[c]) i j * ind ((ρ++[q ρ.length]).getD j 0) k) (ρ.length+1)=E * W i k - rv A n (W i) c * W ρ.length k:=λi hi k=>by
  have e1:=mix (λa=>ind a k) s E (rv A n (W i) c) (λj=>eG (ρ.map A) ι i j);have e2:d * υ (λj=>eG ((ρ++[q ρ.length]).map A) (ι++[c]) i j * ind ((ρ++[q ρ.length]).getD j 0) k) (ρ.length+1)=_:=((Λ _ _ _).symm.trans (ξ λj hj=>by rw[above i hi j hj];grind)).trans e1;rw[e2,s.wn _ (aao _) hr k,s.wp i hi k];have e3:υ (λp=>A (q ρ.length) (ι.getD p 0) * W p k) ρ.length=υ (λp=>A (q ρ.length) (ι.getD p 0) * υ (λj=>eG (ρ.map A) ι p j * ind (ρ.getD j 0) k) ρ.length) ρ.length:=ξ λp hp=>by rw[s.wp p hp k]
  rw[e3]
 let V:Nat->Row:=λi k=>if i=ρ.length then W ρ.length k else υ (λj=>eG ((ρ++[q ρ.length]).map A) (ι++[c]) i j * ind ((ρ++[q ρ.length]).getD j 0) k) (ρ.length+1)
 let W':Nat->Row:=λi k=>if i < ρ.length+1 then V i k else E * ind (q i) k - υ (λp=>A (q i) ((ι++[c]).getD p 0) * V p k) (ρ.length+1)
 have Wr:∀k,W' ρ.length k=W ρ.length k:=λk=>by show(if ρ.length < ρ.length+1 then (if ρ.length=ρ.length then W ρ.length k else _) else _)=_;rw[aay (abv _),aay rfl]
 have Wi:∀i,i < ρ.length->∀k,W' i k=υ (λj=>eG ((ρ++[q ρ.length]).map A) (ι++[c]) i j * ind ((ρ++[q ρ.length]).getD j 0) k) (ρ.length+1):=λi hi k=>by show(if i < ρ.length+1 then (if i=ρ.length then _ else _) else _)=_;rw[aay (),aaF ()]
 have WV:∀p,p < ρ.length+1->∀k,W' p k=V p k:=λp hp k=>by show(if p < ρ.length+1 then V p k else _)=_;rw[aay hp]
 have Wn:∀i,ρ.length+1<=i->∀k,W' i k=E * ind (q i) k - υ (λp=>A (q i) ((ι++[c]).getD p 0) * W' p k) (ρ.length+1):=λi hi k=>by
  show(if i < ρ.length+1 then V i k else _)=_;rw[aaF ()]
  congr 1
  exact ξ λp hp=>by rw[WV p hp]
 have H:∀i,i < n->i≠ρ.length->∀k,d * W' i k=E * W i k - rv A n (W i) c * W ρ.length k:=λi hi jz k=>by
  by_cases wW:i < ρ.length
  ·rw[Wi i wW k];exact abk i wW k
  ·rw[Wn i () k,s.wn i () hi k,s.Pk () hi c];rw[show∀F:Nat->Int,υ F (ρ.length+1)=υ F ρ.length+F ρ.length fromλ_=>rfl,cl,Wr];have e1:d * υ (λp=>A (q i) ((ι++[c]).getD p 0) * W' p k) ρ.length=υ (λp=>E * (A (q i) (ι.getD p 0) * W p k)+(-(W ρ.length k)) * (A (q i) (ι.getD p 0) * rv A n (W p) c)) ρ.length:=by rw[<-Λ];refine ξ λp hp=>?_;have:=abk p hp k;rw[cg p hp,Wi p hp k];grind
   rw[gq,Λ,Λ]at e1;grind
 refine⟨W',⟨by simp[s.lc],by simp;omega,s.Nd,λj hj=>?_,hd,λi hi k=>?_,λi h1 hi k=>?_,λi p hi hp=>?_⟩,Wr,H⟩
 ·by_cases hjr:j < ρ.length
  ·rw[ng hjr];exact s.zA j hjr
  ·have:j=ρ.length:=by simp at hj;omega
   rw[this,nq];exact s.Nd _ hr
 ·rw[show(ρ++[q ρ.length]).length=ρ.length+1 by simp]at hi⊢;by_cases wW:i < ρ.length
  ·exact Wi i wW k
  ·have:i=ρ.length:=()
   subst this;rw[Wr k];exact hk k
 ·rw[show(ρ++[q ρ.length]).length=ρ.length+1 by simp]at h1⊢;exact Wn i h1 k
 ·rw[show(ρ++[q ρ.length]).length=ρ.length+1 by simp]at hi hp;have hrr:∀x,rv A n (W' ρ.length) x=rv A n (W ρ.length) x:=λx=>by unfold rv;exact ξ λk _=>by rw[Wr k]
  by_cases wW:i < ρ.length
  ·have X':d * rv A n (W' i) ((ι++[c]).getD p 0)=E * rv A n (W i) ((ι++[c]).getD p 0) - rv A n (W i) c * rv A n (W ρ.length) ((ι++[c]).getD p 0):=by have:=xj (A:=A) (n:=n) (w:=λk=>d * W' i k) (u:=W i) (v:=W ρ.length) (a:=E) (b:=rv A n (W i) c) (λk=>H i () () k) ((ι++[c]).getD p 0);rw[<-this];unfold rv;rw[<-Λ];exact ξ λk _=>by grind
   refine aa4 d0 ?_;rw[X'];by_cases FD:p < ρ.length
   ·rw[cg p FD,s.zero (aao _) hr FD,s.one i p wW FD];split <;> grind
   ·have:p=ρ.length:=()
    subst this;rw[cl,hE,if_neg ()];grind
  ·have:i=ρ.length:=()
   subst this;rw[hrr];by_cases FD:p < ρ.length
   ·rw[cg p FD,s.zero (aao _) hr FD,aaF ()]
   ·have:p=ρ.length:=()
    subst this;rw[cl,hE,aay rfl]
end
def St.start:St A n [] [] id 1 (λi=>ind i) where
 lc:=rfl
 rn:=abW _
 Nd:=λ_ h=>h
 zA:=λ_ h=>aaK h (abH _)
 det:=rfl
 wp:=λ_ h=>aaK h (abH _)
 wn:=λi _ _ k=>by show ind i k=1 * ind i k - 0;omega
 one:=λ_ _ h=>aaK h (abH _)
def St.perm{q:Nat->Nat}(s:St A n ρ ι q d W){π:Nat->Nat}(h1:∀i,i < ρ.length->π i=i)(h2:∀i,ρ.length<=i->i < n->ρ.length<=π i/\π i < n):St A n ρ ι (λi=>q (π i)) d (λi=>W (π i)) where
 lc:=s.lc
 rn:=s.rn
 Nd:=λi hi=>s.Nd _ (by
  by_cases h:i < ρ.length
  ·rw[h1 i h];exact hi
  ·exact(h2 i () hi).2)
 zA:=s.zA
 det:=s.det
 wp:=λi hi k=>by show W (π i) k=_;rw[h1 i hi];exact s.wp i hi k
 wn:=λi hi hn k=>by
  have⟨a,b⟩:=h2 i hi hn;have:=s.wn (π i) a b k;rw[this]
  congr 1
  exact ξ λp hp=>by rw[h1 p hp]
 one:=λi p hi hp=>by show rv A n (W (π i)) _=_;rw[h1 i hi];exact s.one i p hi hp
def Ab(x B:Int):Prop:= -B<=x/\x<=B
def Ab.mul{x y C:Int}(h:Ab x B)(h':Ab y C):Ab (x * y) (B * C):=by
 have⟨a,b⟩:=h;have⟨c,d⟩:=h';have B0:0<=B:=()
 have C0:0<=C:=()
 have hb:x.natAbs<=B.natAbs:=()
 have hc:y.natAbs<=C.natAbs:=()
 have hm:=Nat.mul_le_mul hb hc;rw[<-abA,<-abA]at hm;have p:=abE B0 C0;exact⟨(),()⟩
def Ab.add{x y C:Int}(h:Ab x B)(h':Ab y C):Ab (x+y) (B+C):=⟨by have:=h.1;have:=h'.1;omega,by have:=h.2;have:=h'.2;omega⟩
def Ab.sub{x y C:Int}(h:Ab x B)(h':Ab y C):Ab (x - y) (B+C):=⟨by have:=h.1;have:=h'.2;omega,by have:=h.2;have:=h'.1;omega⟩
def Ab.mono{x C:Int}(h:Ab x B)(h':B<=C):Ab x C:=⟨by have:=h.1;omega,by have:=h.2;omega⟩
def Ab.sum{f:Nat->Int}{B:Int}:∀{n:Nat},(∀i,i < n->Ab (f i) B)->Ab (υ f n) (n * B)
 | 0,_=>⟨by simp[υ],by simp[υ]⟩
 | n+1,h=>by
  have i:=Ab.sum (n:=n) λi hi=>h i ();have:=Ab.add i (h n ());have e:(n:Int) * B+B=((n+1:Nat):Int) * B:=by rw[show((n+1:Nat):Int)=(n:Int)+1 from rfl,Int.add_mul,Int.one_mul]
  rw[e]at this;exact this
def Ab.pow{k:Nat}{x:Int}(h:Ab x B):Ab ((-1) ^ k * x) B:=by
 rcases(by induction k with
  | zero=>exact .inl rfl
  | succ k ih=>rw[Int.pow_succ];rcases ih with e| e <;> rw[e] <;> simp:((-1:Int) ^ k=1\/(-1:Int) ^ k= -1)) with e| e
 ·rw[e,Int.one_mul];exact h
 ·rw[e];have⟨a,b⟩:=h;exact⟨(),()⟩
def Ab.det{B:Int}(B0:1<=B):∀(γ:List Row) (ι:List Nat),(∀x∈γ,∀c∈ι,Ab (x c) B)->ι.length<=12->Ab (D γ ι) ((12 * B) ^ γ.length)
 | [],ι,_,_=>by
  show Ab (F0 ι) ((12 * B) ^ 0);rw[Int.pow_zero];unfold F0;split
  ·exact⟨@_,@_⟩
  ·exact⟨@_,@_⟩
 | x::γ,ι,h,hl=>by
  show Ab (Lx x (D γ) ι) _;rw[wb,aaL,abT];have P0:(0:Int)<=(12 * B) ^ γ.length:=ab7 ();have each:∀p,p < ι.length->Ab ((-1) ^ p * (x (ι.getD p 0) * D γ (ι.eraseIdx p))) (B * (12 * B) ^ γ.length):=λp hp=>by
   refine Ab.pow (Ab.mul ?_ (Ab.det B0 γ (ι.eraseIdx p) (λy hy c hc=>h y (aae _ hy) c (acb hc)) ?_))
   ·rw[aad,aac hp];exact h x aaf _ (aaw hp)
   ·rw[List.length_eraseIdx];split <;> omega
  refine(Ab.sum each).mono ?_;have Q0:0<=B * (12 * B) ^ γ.length:=abE () P0;have:=aa7 (show(ι.length:Int)<=12 by omega) Q0;refine ab2 this ?_;have e:12 * (B * (12 * B) ^ γ.length)=(12 * B) ^ γ.length * (12 * B):=by grind
  omega
section
variable{q:Nat->Nat}
structure Bd(A:Nat->Row)(n m:Nat)(B:Int):Prop where
 b1:1<=B
 ab:∀k x,k < n->x < m->Ab (A k x) B
def top(B:Int)(r:Nat):Int:=(12 * B) ^ (r+3)
def w4{b:Nat}(h:1<=B)(Yz:a<=b):(12 * B) ^ a<=(12 * B) ^ b:=by
 have⟨c,rfl⟩:=Nat.exists_eq_add_of_le Yz;rw[Int.pow_add];have p:(1:Int)<=(12 * B) ^ c:=by have:0 < (12 * B) ^ c:=Int.pow_pos ();omega
 have q:(0:Int)<=(12 * B) ^ a:=ab7 ();have:=aa1 p q;omega
def St.abs(s:St A n ρ ι q d W)(b:Bd A n m B)(hc:∀c∈ι,c < m)(hr:ρ.length<=12):
  (∀i k,i < n->Ab (W i k) (top B ρ.length))/\(∀i x,i < n->x < m->Ab (rv A n (W i) x) (top B ρ.length))/\Ab d (top B ρ.length):=by
 have B0:=b.b1;have mem:∀j,j < ρ.length->ρ.getD j 0∈ρ:=λj hj=>by rw[aad,aac hj];exact aaw hj
 have ρn:∀a∈ρ,a < n:=λa ha=>by have⟨j,hj,e⟩:=abf ha;have:=s.zA j hj;rw[aad,aac hj]at this;rw[<-e];exact this
 have ent:∀x∈ρ.map A,∀c∈ι,Ab (x c) B:=λx hx c Bj=>by have⟨a,ha,rfl⟩:=aau.mp hx;exact b.ab a c (ρn a ha) (hc c Bj)
 have cl:ι.length<=12:=by rw[s.lc];exact hr
 have hd:Ab d ((12 * B) ^ ρ.length):=by have:=Ab.det B0 (ρ.map A) ι ent cl;rw[s.det,aah]at this;exact this
 have WM:∀p k,Ab (eG (ρ.map A) ι p k) ((12 * B) ^ ρ.length):=λp k=>by
  unfold eG;refine Ab.pow ((Ab.det B0 _ _ (λx hx c Bj=>ent x (acb hx) c (acb Bj)) ?_).mono (w4 B0 ?_))
  ·rw[List.length_eraseIdx];split <;> omega
  ·rw[List.length_eraseIdx,aah];split <;> omega
 have i1:∀a k,Ab (ind a k) 1:=λa k=>by unfold ind;split <;> exact⟨@_,@_⟩
 have P0:(0:Int)<=(12 * B) ^ ρ.length:=ab7 ();have Md:∀{C:Int},0<=C->(ρ.length:Int) * C<=12 * C:=λh=>aa7 () h;have c1:12 * (12 * B) ^ ρ.length<=(12 * B) ^ (ρ.length+1):=by rw[abT];have:=aa1 (show(12:Int)<=12 * B by omega) P0;omega
 have wp:∀i k,i < ρ.length->Ab (W i k) ((12 * B) ^ (ρ.length+1)):=λi k hi=>by rw[s.wp i hi k];refine(Ab.sum (B:=(12 * B) ^ ρ.length) λj hj=>?_).mono (ab2 (Md P0) c1);have:=Ab.mul (WM i j) (i1 (ρ.getD j 0) k);rw[Int.mul_one]at this;exact this
 have rp:∀i x,i < ρ.length->x < m->Ab (rv A n (W i) x) ((12 * B) ^ (ρ.length+1)):=λi x hi hx=>by
  rw[s.SA hi];have Q0:0<=(12 * B) ^ ρ.length * B:=abE P0 ();refine(Ab.sum (B:=(12 * B) ^ ρ.length * B) λj hj=>Ab.mul (WM i j) (b.ab _ x (s.zA j hj) hx)).mono (ab2 (Md Q0) ?_);rw[abT];have:12 * ((12 * B) ^ ρ.length * B)=(12 * B) ^ ρ.length * (12 * B):=by grind
  omega
 have S0:(0:Int)<=(12 * B) ^ (ρ.length+1):=ab7 ();have T0:(0:Int)<=(12 * B) ^ (ρ.length+2):=ab7 ();have c2:12 * (B * (12 * B) ^ (ρ.length+1))=(12 * B) ^ (ρ.length+2):=by rw[show ρ.length+2=ρ.length+1+1 from rfl,Int.pow_succ];grind
 have c3:(12 * B) ^ (ρ.length+2)+(12 * B) ^ (ρ.length+2)<=top B ρ.length:=by unfold top;have e:(12 * B) ^ (ρ.length+3)=(12 * B) ^ (ρ.length+2) * (12 * B):=abT _ _;rw[e];have:=aa1 (show(2:Int)<=12 * B by omega) T0;omega
 have c4:(12 * B) ^ (ρ.length+1)<=(12 * B) ^ (ρ.length+2):=w4 B0 ();have c5:(12 * B) ^ ρ.length<=(12 * B) ^ (ρ.length+2):=w4 B0 ();have c6:(12 * B) ^ ρ.length * B<=(12 * B) ^ (ρ.length+2):=by refine ab2 ?_ c4;rw[abT];exact aa1 () P0
 have U0:0<=B * (12 * B) ^ (ρ.length+1):=abE () S0;have Uu:∀p,p < ρ.length->ι.getD p 0 < m:=λp hp=>by
  have v8:p < ι.length:=by rw[s.lc];exact hp
  rw[aad,aac v8];exact hc _ (aaw v8)
 refine⟨λi k hi=>?_,λi x hi hx=>?_,hd.mono ()⟩
 ·by_cases wW:i < ρ.length
  ·exact(wp i k wW).mono ()
  ·rw[s.wn i () hi k];have a1:=Ab.mul hd (i1 (q i) k);rw[Int.mul_one]at a1;refine(Ab.sub a1 (Ab.sum (B:=B * (12 * B) ^ (ρ.length+1)) λp hp=>Ab.mul (b.ab (q i) _ (s.Nd i hi) (Uu p hp)) (wp p k hp))).mono ?_;have:=Md U0;omega
 ·by_cases wW:i < ρ.length
  ·exact(rp i x wW hx).mono ()
  ·rw[s.Pk () hi];refine(Ab.sub (Ab.mul hd (b.ab (q i) x (s.Nd i hi) hx)) (Ab.sum (B:=B * (12 * B) ^ (ρ.length+1)) λp hp=>Ab.mul (b.ab (q i) _ (s.Nd i hi) (Uu p hp)) (rp p x hp hx))).mono ?_;have:=Md U0;omega
end
def cy(n i:Nat):List Int:=(List.range n).map (ind i)
def jN(ls:List (List Int))(f k:Nat):List (List Int):=ls.take f++[ls.getD k []]++(ls.drop f).take (k - f)++ls.drop (k+1)
def cG(l h:List Int)(c:Nat)(d:Int):List Int:=(l.zip h).map λp=>(h.getD c 0 * p.1 - l.getD c 0 * p.2).fdiv d
def av(A:Nat->Row)(n m:Nat)(w:Row):List Int:=(List.range m).map (λx=>rv A n w x)++(List.range n).map w
def Φ(A:Nat->Row)(n m:Nat)(W:Nat->Row):List (List Int):=(List.range n).map λi=>av A n m (W i)
def arr(γ:List (List Int)):Nat->Row:=λk x=>(γ.getD k []).getD x 0
def d_:(av A n m w).length=m+n:=by unfold av;simp
def gQ{x:Nat}(h:x < m):(av A n m w).getD x 0=rv A n w x:=by unfold av;rw[List.getD_eq_getElem?_getD,List.getElem?_append_left (by simpa using h),List.getElem?_map,List.getElem?_range h];rfl
def ku(h:i < n):(Φ A n m W).getD i []=av A n m (W i):=by unfold Φ;rw[aad,aap,aaQ h];rfl
def cP:(Φ A n m W).length=n:=by unfold Φ;simp
def Dd{u:Row}(h:∀k,w k=u k):av A n m w=av A n m u:=by have:w=u:=funext h;rw[this]
def AV{γ:List (List Int)}(hl:∀r∈γ,r.length=m):(List.range γ.length).map (λi=>γ.getD i []++cy γ.length i)=Φ (arr γ) γ.length m (λi=>ind i):=by
 unfold Φ;apply abo;intro i hi;have hi:=abg.mp hi;unfold av cy
 congr 1
 have g:γ.getD i []=γ[i]:=by rw[aad,aac hi];rfl
 have ml:=hl γ[i] (aaw hi);apply abh
 ·rw[g,ml];simp
 ·intro x h1 h2;simp only[List.getElem_map,List.getElem_range];rw[CT hi];unfold arr;rw[aad (l:=γ.getD i []),aac h1];rfl
def iY(r k i:Nat):Nat:=if i < r then i else if i=r then k else if i<=k then i - 1 else i
def Au{r k:Nat}(hr:r<=k)(hk:k < n):jN (Φ A n m W) r k=Φ A n m (λi=>W (iY r k i)):=by
 unfold jN;rw[ku hk];unfold Φ;apply List.ext_getElem?;intro i;rw[aap];simp only[List.append_assoc];by_cases h1:i < r
 ·rw[List.getElem?_append_left (by simp;omega),List.getElem?_take_of_lt h1,List.getElem?_map];rw[aaQ ()];have:iY r k i=i:=by unfold iY;rw[if_pos h1]
  simp[this]
 ·rw[List.getElem?_append_right (by simp;omega)];have lt:((List.map (λi=>av A n m (W i)) (List.range n)).take r).length=r:=by simp;omega
  rw[lt];by_cases h2:i=r
  ·subst h2;rw[Nat.sub_self,List.getElem?_append_left (by simp)];rw[aaQ ()];have:iY i k i=k:=by unfold iY;rw[if_neg (Nat.lt_irrefl _),if_pos rfl]
   simp[this]
  ·rw[List.getElem?_append_right (by simp;omega)];show(_++_)[i - r - 1]? =_;have l2:((List.map (λi=>av A n m (W i)) (List.range n)).drop r|>.take (k - r)).length=k - r:=by simp;omega
   by_cases h3:i<=k
   ·rw[aaA (by rw[l2];omega),aca (),List.getElem?_drop,aap,aaQ (),aaQ ()];have:iY r k i=i - 1:=by unfold iY;rw[if_neg h1,if_neg h2,if_pos h3]
    simp only[Option.map_some,this];rw[show r+(i - r - 1)=i - 1 by omega]
   ·rw[aaB (by rw[l2];omega),l2,List.getElem?_drop,aap];rw[show k+1+(i - r - 1 - (k - r))=i by omega];by_cases h4:i < n
    ·rw[aaQ h4];have:iY r k i=i:=by unfold iY;rw[if_neg h1,if_neg h2,if_neg h3]
     simp[this]
    ·rw[List.getElem?_eq_none (by simpa using h4)];rfl
def rB{a b:Int}(h:d≠0)(e:d * b=a):a.fdiv d=b:=by rw[<-e];exact Int.mul_fdiv_cancel_left b h
def rV{c:Nat}{u v:Row}(hc:c < m)(d0:d≠0)(h:∀k,d * v k=rv A n u c * w k - rv A n w c * u k):cG (av A n m w) (av A n m u) c d=av A n m v:=by
 have hr:∀x,d * rv A n v x=rv A n u c * rv A n w x - rv A n w c * rv A n u x:=λx=>by have:=xj (A:=A) (n:=n) (w:=λk=>d * v k) (u:=w) (v:=u) (a:=rv A n u c) (b:=rv A n w c) h x;rw[<-this];unfold rv;rw[<-Λ];exact ξ λk _=>by grind
 unfold cG;rw[gQ hc,gQ hc];unfold av;rw[List.zip_append (by simp),List.map_append]
 congr 1
 ·apply abh
  ·simp
  ·intro x h1 h2;simp only[List.getElem_map,List.getElem_zip,List.getElem_range];exact rB d0 (hr x)
 ·apply abh
  ·simp
  ·intro x h1 h2;simp only[List.getElem_map,List.getElem_zip,List.getElem_range];exact rB d0 (h x)
structure Turn(A:Nat->Row)(n:Nat)(col:Nat)(ρ ι:List Nat)(q:Nat->Nat)(d:Int)(W:Nat->Row):Prop where
 st:St A n ρ ι q d W
 d0:d≠0
 cl:∀c∈ι,c < col
 QW:∀i,i < ρ.length->q i=ρ.getD i 0
 Q5:∀k,k < n->∃i,i < n/\q i=k
 zero:∀i,ρ.length<=i->i < n->∀x,x < col->rv A n (W i) x=0
 all:ι=List.range col\/∃x,x < col/\x∉ι
def Turn.start:Turn A n 0 [] [] id 1 (λi=>ind i) where
 st:=St.start
 d0:=@_
 cl:=λ_ h=>nomatch h
 QW:=λ_ h=>aaK h (abH _)
 Q5:=λk h=>⟨k,h,rfl⟩
 zero:=λ_ _ _ _ h=>aaK h (abH _)
 all:=.inl rfl
section
variable{col:Nat}{q:Nat->Nat}
def Turn.skip(t:Turn A n col ρ ι q d W)(h:∀i,ρ.length<=i->i < n->rv A n (W i) col=0):Turn A n (col+1) ρ ι q d W where
 st:=t.st
 d0:=t.d0
 cl:=λc hc=>abS (t.cl c hc)
 QW:=t.QW
 Q5:=t.Q5
 zero:=λi h1 h2 x hx=>by
  by_cases e:x=col
  ·rw[e];exact h i h1 h2
  ·exact t.zero i h1 h2 x ()
 all:=.inr ⟨col,abv _,λz=>aaK (t.cl col z) (abz _)⟩
def Turn.move(t:Turn A n col ρ ι q d W){k:Nat}(h1:ρ.length<=k)(h2:k < n):Turn A n col ρ ι (λi=>q (iY ρ.length k i)) d (λi=>W (iY ρ.length k i)) where
 st:=t.st.perm (λi hi=>by unfold iY;rw[if_pos hi]) λi a b=>by unfold iY;split <;> (try split) <;> (try split) <;> omega
 d0:=t.d0
 cl:=t.cl
 QW:=λi hi=>by show q (iY ρ.length k i)=_;rw[show iY ρ.length k i=i by unfold iY;rw[if_pos hi]];exact t.QW i hi
 Q5:=λj hj=>by
  have⟨i,hi,e⟩:=t.Q5 j hj;by_cases a:i < ρ.length
  ·exact⟨i,hi,by show q (iY ρ.length k i)=j;rw[show iY ρ.length k i=i by unfold iY;rw[if_pos a]];exact e⟩
  ·by_cases b:i=k
   ·exact⟨ρ.length,(),by show q (iY ρ.length k ρ.length)=j;rw[show iY ρ.length k ρ.length=k by unfold iY;rw[if_neg (Nat.lt_irrefl _),if_pos rfl],<-b];exact e⟩
   ·by_cases c:i < k
    ·exact⟨i+1,(),by show q (iY ρ.length k (i+1))=j;rw[show iY ρ.length k (i+1)=i by unfold iY;rw[if_neg (),if_neg (),if_pos ()];omega];exact e⟩
    ·exact⟨i,hi,by show q (iY ρ.length k i)=j;rw[show iY ρ.length k i=i by unfold iY;rw[if_neg a,if_neg (),if_neg ()]];exact e⟩
 zero:=λi a b x hx=>by
  have:ρ.length<=iY ρ.length k i/\iY ρ.length k i < n:=by unfold iY;split <;> (try split) <;> (try split) <;> omega
  exact t.zero _ this.1 this.2 x hx
 all:=t.all
def Turn.step(t:Turn A n col ρ ι q d W)(hr:ρ.length < n)(hm:col < m)(h0:rv A n (W ρ.length) col≠0):
  ∃W',Turn A n (col+1) (ρ++[q ρ.length]) (ι++[col]) q (rv A n (W ρ.length) col) W'/\
   ((Φ A n m W).take ρ.length).map (λl=>cG l (av A n m (W ρ.length)) col d)++[av A n m (W ρ.length)]++((Φ A n m W).drop (ρ.length+1)).map (λl=>cG l (av A n m (W ρ.length)) col d)=Φ A n m W':=by
 have⟨W',s',e1,e2⟩:=t.st.step hr col t.d0 h0;refine⟨W',⟨s',h0,λc hc=>?_,λi hi=>?_,t.Q5,λi a b x hx=>?_,?_⟩,?_⟩
 ·rcases aa8.mp hc with z| z
  ·exact abS (t.cl c z)
  ·have:c=col:=by simpa using z
   omega
 ·by_cases wW:i < ρ.length
  ·rw[ng wW];exact t.QW i wW
  ·have:i=ρ.length:=by simp at hi;omega
   rw[this,nq]
 ·rw[show(ρ++[q ρ.length]).length=ρ.length+1 by simp]at a;have X':d * rv A n (W' i) x=rv A n (W ρ.length) col * rv A n (W i) x - rv A n (W i) col * rv A n (W ρ.length) x:=by have:=xj (A:=A) (n:=n) (w:=λk=>d * W' i k) (u:=W i) (v:=W ρ.length) (λk=>e2 i b () k) x;rw[<-this];unfold rv;rw[<-Λ];exact ξ λk _=>by grind
  refine aa4 t.d0 ?_;rw[X'];by_cases e:x=col
  ·subst e;grind
  ·rw[t.zero i () b x (),t.zero ρ.length (Nat.le_refl _) hr x ()];simp
 ·rcases t.all with z| ⟨x,a,b⟩
  ·left;rw[z,List.range_succ]
  ·refine .inr ⟨x,(),λz=>?_⟩;rcases aa8.mp z with z| z
   ·exact b z
   ·have:x=col:=by simpa using z
    omega
 ·unfold Φ;rw[<-List.map_take,<-acg,aaV,aaV];apply List.ext_getElem?;intro i;simp only[List.append_assoc];have lt:(List.map ((λl=>cG l (av A n m (W ρ.length)) col d) ∘ λi=>av A n m (W i)) ((List.range n).take ρ.length)).length=ρ.length:=by simp;omega
  by_cases h1:i < ρ.length
  ·rw[aaA (by rw[lt];exact h1),aap,aap,aca h1,aaQ ()];show some (cG (av A n m (W i)) (av A n m (W ρ.length)) col d)=some _;rw[rV hm t.d0 (e2 i () ())]
  ·rw[aaB (by rw[lt];omega),lt,aap];by_cases h2:i=ρ.length
   ·subst h2;rw[abU,aaQ hr];show some (av A n m (W ρ.length))=some (av A n m (W' ρ.length));rw[Dd e1]
   ·rw[List.getElem?_append_right (by simp;omega)];show(List.map _ ((List.range n).drop (ρ.length+1)))[i - ρ.length - 1]? =_;rw[aap,List.getElem?_drop,show ρ.length+1+(i - ρ.length - 1)=i by omega];by_cases h4:i < n
    ·rw[aaQ h4];show some (cG (av A n m (W i)) (av A n m (W ρ.length)) col d)=some _;rw[rV hm t.d0 (e2 i h4 h2)]
    ·rw[List.getElem?_eq_none (by simpa using h4)];rfl
end
section
variable{col:Nat}{q:Nat->Nat}
def Turn.back(t:Turn A n col ρ ι q d W){k y:Nat}(hk:k < n)(hy:y < col):d * A k y=υ (λp=>A k (ι.getD p 0) * rv A n (W p) y) ρ.length:=by
 have⟨i,hi,e⟩:=t.Q5 k hk;have s:=t.st;by_cases wW:i < ρ.length
 ·have ek:k=ρ.getD i 0:=by rw[<-e];exact t.QW i wW
  have lr:(ρ.map A).length=ρ.length:=aah _;have e1:υ (λp=>A k (ι.getD p 0) * rv A n (W p) y) ρ.length=υ (λp=>υ (λj=>(A k (ι.getD p 0) * eG (ρ.map A) ι p j) * A (ρ.getD j 0) y) ρ.length) ρ.length:=ξ λp hp=>by rw[s.SA hp,<-Λ];exact ξ λj _=>by grind
  have e2:υ (λp=>υ (λj=>(A k (ι.getD p 0) * eG (ρ.map A) ι p j) * A (ρ.getD j 0) y) ρ.length) ρ.length=υ (λj=>A (ρ.getD j 0) y * υ (λp=>(ρ.map A).getD i zr (ι.getD p 0) * eG (ρ.map A) ι p j) ρ.length) ρ.length:=by rw[cK];refine ξ λj _=>?_;rw[<-Λ];refine ξ λp _=>?_;rw[tT wW,<-ek];grind
  rw[e1,e2];have pa:∀j,j < ρ.length->υ (λp=>(ρ.map A).getD i zr (ι.getD p 0) * eG (ρ.map A) ι p j) ρ.length=if i=j then d else 0:=λj hj=>by have:=PA (γ:=ρ.map A) (ι:=ι) (i:=i) (k:=j) (by rw[lr];exact s.lc) (by rw[lr];exact wW) (by rw[lr];exact hj);rw[lr,s.det]at this;exact this
  rw[iE wW λj hj jz=>by rw[pa j hj,if_neg (Ne.symm jz)];simp];rw[pa i wW,if_pos rfl,ek];grind
 ·have:=s.Pk () hi y;rw[t.zero i () hi y hy,e]at this;omega
def Turn.kernel(t:Turn A n col ρ ι q d W){x:Nat}(hx:x < col)(hf:x∉ι):∃z:Row,z x= -d/\∀k,k < n->υ (λy=>A k y * z y) col=0:=by
 have s:=t.st;have cm:∀i,i < ρ.length->ι.getD i 0∈ι:=λi hi=>by
  have Jk:i < ι.length:=by rw[s.lc];exact hi
  rw[aad,aac Jk];exact aaw Jk
 refine⟨λy=>υ (λi=>rv A n (W i) x * ind (ι.getD i 0) y) ρ.length - d * ind x y,?_,λk hk=>?_⟩
 ·have e1:υ (λi=>rv A n (W i) x * ind (ι.getD i 0) x) ρ.length=0:=iN λi hi=>by unfold ind;rw[if_neg λz=>hf (by rw[<-z];exact cm i hi)];simp
  show υ (λi=>rv A n (W i) x * ind (ι.getD i 0) x) ρ.length - d * ind x x= -d;rw[e1];unfold ind;rw[if_pos rfl];omega
 ·have gen:∀f:Row,υ (λy=>f y * (υ (λi=>rv A n (W i) x * ind (ι.getD i 0) y) ρ.length - d * ind x y)) col=υ (λi=>rv A n (W i) x * f (ι.getD i 0)) ρ.length - d * f x:=λf=>by
   have e1:υ (λy=>f y * (υ (λi=>rv A n (W i) x * ind (ι.getD i 0) y) ρ.length - d * ind x y)) col=υ (λy=>υ (λi=>rv A n (W i) x * (ind (ι.getD i 0) y * f y)) ρ.length+(-d) * (ind x y * f y)) col:=ξ λy _=>by
    have:υ (λi=>rv A n (W i) x * (ind (ι.getD i 0) y * f y)) ρ.length=f y * υ (λi=>rv A n (W i) x * ind (ι.getD i 0) y) ρ.length:=by rw[<-Λ];exact ξ λi _=>by grind
    rw[this];grind
   rw[e1,gq,Λ,nc (f:=f) hx,cK];have e2:υ (λi=>υ (λy=>rv A n (W i) x * (ind (ι.getD i 0) y * f y)) col) ρ.length=υ (λi=>rv A n (W i) x * f (ι.getD i 0)) ρ.length:=ξ λi hi=>by rw[Λ,nc (f:=f) (t.cl _ (cm i hi))]
   rw[e2];grind
  refine aa4 t.d0 ?_;rw[Int.mul_zero,gen (A k),Int.mul_sub];have b1:=t.back hk hx;have e3:υ (λi=>rv A n (W i) x * A k (ι.getD i 0)) ρ.length=d * A k x:=by rw[b1];exact ξ λi _=>abq _ _
  rw[e3];grind
def RA(A:Nat->Row)(n u:Nat)(z:Row)(N:Int):Prop:=∀k,k < n->υ (λx=>A k x * z x) u=N * A k u
def RA.line{u:Nat}{z:Row}{N:Int}(h:RA A n u z N)(w:Row):υ (λx=>rv A n w x * z x) u=N * rv A n w u:=by
 unfold rv;have e1:υ (λx=>υ (λk=>w k * A k x) n * z x) u=υ (λx=>υ (λk=>w k * (A k x * z x)) n) u:=ξ λx _=>by rw[abq,<-Λ];exact ξ λk _=>by grind
 rw[e1,cK,<-Λ];refine ξ λk hk=>?_;rw[Λ,h k hk];grind
def Turn.rest(t:Turn A n col ρ ι q d W){z:Row}{N:Int}(hs:RA A n col z N)(hN:N≠0)(h1:ρ.length<=i)(hi:i < n):rv A n (W i) col=0:=by
 have:=hs.line (W i);rw[iN λx hx=>by rw[t.zero i h1 hi x hx];simp]at this;rcases Int.mul_eq_zero.mp this.symm with e| e
 ·exact aaK e hN
 ·exact e
def Turn.told(t:Turn A n col ρ ι q d W)(hc:ι=List.range col){z:Row}{N:Int}(hs:RA A n col z N)(hi:i < col):d * z i=N * rv A n (W i) col:=by
 have s:=t.st;have hl:ρ.length=col:=by rw[<-s.lc,hc,aba]
 have g:∀p,p < col->ι.getD p 0=p:=λp hp=>by rw[hc,aad,aaQ hp];rfl
 rw[<-hs.line (W i)]
 rw[iE hi λx hx jz=>by
  have:=s.one i x (by rw[hl];exact hi) (by rw[hl];exact hx);rw[g x hx,aaF (Ne.symm jz)]at this
  rw[this];simp]
 have:=s.one i i (by rw[hl];exact hi) (by rw[hl];exact hi);rw[g i hi,aay rfl]at this;rw[this]
end
def Turn.exists{A:Nat->Row}{n:Nat}:∀col:Nat,∃ρ ι q d W,Turn A n col ρ ι q d W
 | 0=>⟨_,_,_,_,_,Turn.start⟩
 | col+1=>by
  have⟨ρ,ι,q,d,W,t⟩:=Turn.exists (A:=A) (n:=n) col;by_cases h:∃k,ρ.length<=k/\k < n/\rv A n (W k) col≠0
  ·have⟨k,h1,h2,h3⟩:=h;have t':=t.move h1 h2;have e:iY ρ.length k ρ.length=k:=by unfold iY;rw[if_neg (Nat.lt_irrefl _),if_pos rfl]
   have⟨W',t2,_⟩:=t'.step (m:=col+1) () () (by show rv A n (W (iY ρ.length k ρ.length)) col≠0;rw[e];exact h3);exact⟨_,_,_,_,_,t2⟩
  ·refine⟨_,_,_,_,_,t.skip λi h1 h2=>?_⟩;by_cases e:rv A n (W i) col=0
   ·exact e
   ·exact aaK ⟨i,h1,h2,e⟩ h
section
variable{col:Nat}{q:Nat->Nat}
def L8(A:Nat->Row)(n:Nat)(W:Nat->Row)(ι:List Nat)(s k:Nat):Row:=λy=>υ (λi=>rv A n (W i) s * ind (ι.getD i 0) y) k
def Turn.Mz(t:Turn A n col ρ ι q d W){x:Nat}(hx:x < col):∀k,k < n->υ (λy=>A k y * (L8 A n W ι x ι.length y - d * ind x y)) col=0:=λk hk=>by
 have s:=t.st;have cm:∀i,i < ρ.length->ι.getD i 0∈ι:=λi hi=>by
  have Jk:i < ι.length:=by rw[s.lc];exact hi
  rw[aad,aac Jk];exact aaw Jk
 unfold L8;rw[s.lc];have gen:∀f:Row,υ (λy=>f y * (υ (λi=>rv A n (W i) x * ind (ι.getD i 0) y) ρ.length - d * ind x y)) col=υ (λi=>rv A n (W i) x * f (ι.getD i 0)) ρ.length - d * f x:=λf=>by
  have e1:υ (λy=>f y * (υ (λi=>rv A n (W i) x * ind (ι.getD i 0) y) ρ.length - d * ind x y)) col=υ (λy=>υ (λi=>rv A n (W i) x * (ind (ι.getD i 0) y * f y)) ρ.length+(-d) * (ind x y * f y)) col:=ξ λy _=>by
   have:υ (λi=>rv A n (W i) x * (ind (ι.getD i 0) y * f y)) ρ.length=f y * υ (λi=>rv A n (W i) x * ind (ι.getD i 0) y) ρ.length:=by rw[<-Λ];exact ξ λi _=>by grind
   rw[this];grind
  rw[e1,gq,Λ,nc (f:=f) hx,cK];have e2:υ (λi=>υ (λy=>rv A n (W i) x * (ind (ι.getD i 0) y * f y)) col) ρ.length=υ (λi=>rv A n (W i) x * f (ι.getD i 0)) ρ.length:=ξ λi hi=>by rw[Λ,nc (f:=f) (t.cl _ (cm i hi))]
  rw[e2];grind
 refine aa4 t.d0 ?_;rw[Int.mul_zero,gen (A k),Int.mul_sub];have b1:=t.back hk hx;have e3:υ (λi=>rv A n (W i) x * A k (ι.getD i 0)) ρ.length=d * A k x:=by rw[b1];exact ξ λi _=>abq _ _
 rw[e3];grind
def Turn.VI(t:Turn A n col ρ ι q d W)(h:∀i,ρ.length<=i->i < n->rv A n (W i) col=0):RA A n col (L8 A n W ι col ι.length) d:=λk hk=>by
 have:=(t.skip h).Mz (x:=col) () k hk;have e:υ (λy=>A k y * (L8 A n W ι col ι.length y - d * ind col y)) (col+1)=υ (λy=>A k y * (L8 A n W ι col ι.length y - d * ind col y)) col+A k col * (L8 A n W ι col ι.length col - d * ind col col):=rfl;have e1:υ (λy=>A k y * (L8 A n W ι col ι.length y - d * ind col y)) col=υ (λy=>A k y * L8 A n W ι col ι.length y) col:=ξ λy hy=>by
  have:ind col y=0:=by unfold ind;rw[if_neg ()]
  rw[this];grind
 have e2:L8 A n W ι col ι.length col=0:=iN λi hi=>by
  have hm:ι.getD i 0∈ι:=by rw[aad,aac hi];exact aaw hi
  have:ind (ι.getD i 0) col=0:=by unfold ind;rw[if_neg (by have:=t.cl _ hm;omega)]
  rw[this,Int.mul_zero]
 have e3:ind col col=1:=by unfold ind;rw[if_pos rfl]
 rw[e,e1,e2,e3]at this;have:A k col * (0 - d * 1)= -(d * A k col):=by grind
 omega
def St.XF(s:St A n ρ ι q d W)(b:Bd A n m B)(hc:∀c∈ι,c < m)(hr:ρ.length<=12):Ab d ((12 * B) ^ ρ.length):=by
 have ρn:∀a∈ρ,a < n:=λa ha=>by have⟨j,hj,e⟩:=abf ha;have:=s.zA j hj;rw[aad,aac hj]at this;rw[<-e];exact this
 have:=Ab.det b.b1 (ρ.map A) ι (λx hx c Bj=>by
  have⟨a,ha,rfl⟩:=aau.mp hx
  exact b.ab a c (ρn a ha) (hc c Bj)) (by rw[s.lc];exact hr)
 rw[s.det,aah]at this;exact this
end
end Bz
seal L2.JE L2.JT L2.JW L2.JA L2.JS L2.AX L2.JI L2.JK L2.Vs L2.Vq
local macro_rules| `(tactic| walk_at "vc")=>`(tactic| dsimp only[L2.gN,L2.Tc,L2.T9,L2.XC,L2.Dx,L2.OU,L2.sIf,L2.Tg,L2.rD,L2.AG,L2.OL,L2.CI,L2.iW,L2.Ws,L2.j0,L2.dC,L2.BG,L2.pS,L2.QS,L2.Vg,L2.lE,L2.Vv,L2.orT,L2.Vn,L2.M9,L2.UG,L2.dIf,L2.lX,List.map_cons,List.map_nil,List.length_cons,List.length_nil,List.cons_append,List.nil_append,List.replicate,List.getElem?_cons_zero,List.getElem?_cons_succ,List.set_cons_zero,List.set_cons_succ,Nat.reduceSub,Nat.reduceAdd,Nat.zero_add])
namespace Pg
open PySem L2
variable{C b t E B:Int}{f bz iK cB bo:Addr}{fd bw iG cD bj:FuncData}{i n j m p:Nat}{M:Ms}{d:Dt}{xs ds:List Dt}{ns:List Str}{A W:Nat->Bz.Row}{S:Sp}{gs:List Nat}
def top(i:Nat):Stmt:=PySem.Challenge.pw_chanceduel_k42_no_goals.main.body.getD i (.Pass ⟨0,0,0,0⟩)
def cls(i j:Nat):Stmt:=match top i with
 | .ClassDef _ _ _ b _ _ _ _ _ _ _=>b.getD j (.Pass ⟨0,0,0,0⟩)
 | _=>.Pass ⟨0,0,0,0⟩
abbrev j5:Stmt:=top 13
abbrev qK:Stmt:=top 14
abbrev mW:Stmt:=top 15
abbrev K1:Stmt:=top 16
abbrev gf:Stmt:=top 18
abbrev pM:Stmt:=top 19
abbrev BN:Stmt:=top 21
abbrev C4:Stmt:=top 22
abbrev Cn:Stmt:=top 23
abbrev rY:Stmt:=top 28
abbrev pb:Stmt:=top 29
abbrev hV:Stmt:=top 30
abbrev jj:Stmt:=top 31
abbrev mf:Stmt:=top 32
abbrev qN:Stmt:=top 33
abbrev my:Stmt:=top 34
abbrev mD:Stmt:=top 38
abbrev pN:Stmt:=top 40
abbrev BS:Stmt:=top 41
abbrev jh:Stmt:=top 44
abbrev ij:Stmt:=top 45
abbrev jX:Stmt:=top 46
abbrev jn:Stmt:=top 47
abbrev rH:Stmt:=top 48
abbrev l9:Stmt:=top 49
abbrev oF:Stmt:=top 51
abbrev oM:Stmt:=top 53
abbrev mj:Stmt:=top 54
abbrev pw:Stmt:=top 55
abbrev oY:Stmt:=top 56
abbrev wA:Stmt:=top 57
abbrev mI:Stmt:=top 59
abbrev mV:Stmt:=top 60
abbrev mR:Stmt:=top 61
abbrev mH:Stmt:=top 62
abbrev mB:Stmt:=top 63
abbrev mJ:Stmt:=top 64
abbrev qO:Stmt:=top 65
abbrev tQ:Stmt:=top 66
abbrev tG:Stmt:=top 67
abbrev mz:Stmt:=top 69
abbrev qM:Stmt:=top 70
abbrev xo:Stmt:=top 71
abbrev tw:Stmt:=top 72
abbrev sN:Stmt:=top 73
abbrev ju:Stmt:=top 74
abbrev sP:Stmt:=top 75
abbrev jY:Stmt:=top 76
abbrev jr:Stmt:=top 77
abbrev oH:Stmt:=top 78
abbrev QI:Stmt:=top 79
abbrev j1:Stmt:=cls 10 0
abbrev mP:Stmt:=cls 42 0
abbrev md:Stmt:=cls 42 1
abbrev jV:Stmt:=cls 42 2
abbrev lW:Stmt:=cls 42 3
abbrev jT:Stmt:=cls 42 4
abbrev lQ:Stmt:=cls 42 6
open PySem L2 Fr0 Tx
abbrev VB:List Value:=[.type "ValueError",.type "Exception",.type "BaseException",.type "object"]
structure Ev(K:tf)(mg:Str->Option Value)(Cm CN CF Ca Cj Cd Ce Cg Ci Cb Cc Ck:Addr):Prop where
 bS:mg "len"=none
 va:mg "abs"=none
 Χ:mg "isinstance"=none
 D1:mg "int"=none
 wd:mg "bool"=none
 KW:mg "str"=none
 qt:mg "tuple"=none
 kI:mg "list"=none
 cW:mg "range"=none
 bT:mg "enumerate"=none
 yJ:mg "any"=none
 AO:mg "all"=none
 EU:mg "sum"=none
 zc:mg "zip"=none
 Ed:mg "max"=none
 IX:mg "min"=none
 fF:mg "ValueError"=none
 ib:PySem.W.kitOne K (.type "int") (.type "bool")=some false
 kis:PySem.W.kitOne K (.type "int") (.type "str")=some false
 kts:PySem.W.kitOne K (.type "tuple") (.type "str")=some false
 kti:PySem.W.kitOne K (.type "tuple") (.type "int")=some false
 kls:PySem.W.kitOne K (.type "list") (.type "str")=some false
 kli:PySem.W.kitOne K (.type "list") (.type "int")=some false
 W0:PySem.W.kitOne K (.type "tuple") (.type "list")=some false
 klt:PySem.W.kitOne K (.type "list") (.type "tuple")=some false
 vo:mg "NoNumber"=some (.ref CN)
 zb:mg "NoFloor"=some (.ref CF)
 mL:mg "DuelError"=some (.ref Ca)
 Ei:mg "NoGoal"=some (.ref Cj)
 Fd:mg "NoText"=some (.ref Cd)
 ES:mg "NoName"=some (.ref Ce)
 zV:mg "NoPlace"=some (.ref Cg)
 EL:mg "NoPlan"=some (.ref Ci)
 vK:mg "NoAnswer"=some (.ref Cb)
 om:mg "ManyAnswers"=some (.ref Cc)
 J1:mg "NoRow"=some (.ref Ck)
 GL:gA K CN VB "ValueError.__new__"
 KY:gA K CF VB "ValueError.__new__"
 tj:gA K Ca VB "ValueError.__new__"
 qQ:DN K Ca "ValueError.__init__"
 b6:p_ K Cj
 nC:PySem.W.subIn K (.ref Cj) (.ref Ca)=some true
 k_:PySem.W.kitOne K (.ref Cj) (.type "ValueError")=some true
 j7:HF K Cj "place"
 dR:Zf K Cj "place"
 bU:PySem.W.kitOne K (.ref Cj) (.ref CN)=some false
 ck:PySem.W.kitOne K (.ref Cj) (.ref CF)=some false
 cX:PySem.W.kitOne K (.ref Cj) (.ref Cd)=some false
 cT:PySem.W.kitOne K (.ref Cj) (.ref Ce)=some false
 cq:PySem.W.kitOne K (.ref Cj) (.ref Cg)=some false
 cM:PySem.W.kitOne K (.ref Cj) (.ref Ci)=some false
 bY:PySem.W.kitOne K (.ref Cj) (.ref Cb)=some false
 bA:PySem.W.kitOne K (.ref Cj) (.ref Cc)=some false
 dh:PySem.W.kitOne K (.ref Cj) (.ref Ck)=some false
 fi:EF K Cm
 cJ:iy K Cm "kept_rows"
 h_:iy K Cm "kept_share"
 yr:mg "dict"=none
 Dw:∃a o its n,mg "HANDS"=some (.ref a)/\K.lookup a=some o/\o.cls= .type "tuple"/\o.data= .seq its n/\its.size<=sizeLine/\Paired (λ(z:Str) (u:Value)=>∃tk,u= .str z tk) ["one","other"] its.toList
 p8:∃tk,mg "MOST_DOORS"=some (.int 6 tk)
 jo:∃tk,mg "MOST_BOTTOM"=some (.int 1000000 tk)
 ny:∃tk,mg "MOST_PLACES"=some (.int 12 tk)
 fX:∃tk,mg "MOST_SHARE_BOTTOM"=some (.int 1000 tk)
def xZ{K:tf}{T:String}:PySem.W.kitOne K (.type T) (.type T)=some true:=by unfold PySem.W.kitOne;rw[aay (ab9 _)]
def MG{K:tf}{C:Addr}:PySem.W.kitOne K (.ref C) (.ref C)=some true:=by unfold PySem.W.kitOne;rw[aay (ab9 _)]
section
variable{P:Program}{w:World}{K:tf}{mg:Str->Option Value}{base:Heap}{Cm CN CF Ca Cj Cd Ce Cg Ci Cb Cc Ck:Addr}
def K9:DF:=λds M q _=>match ds with
 | [.int a,.int b]=>q (.int (g a b)) M
 | _=>False
def bH:Ε ["one","other","great","small","rest"] ["one","other"] (ν gf):=.of rfl
def pG(F:cQ K "common_divisor" "common_divisor" gf f fd)(E:Ev K mg Cm CN CF Ca Cj Cd Ce Cg Ci Cb Cc Ck):ah P w K mg base (bM P w) 1 f fd ["one","other"] (cZ K K9):=by
 refine F.eB bH (λds M q x h=>?_) (λaY A outer s H E' hr=>⟨_,(ζ (Δ 2 bH.nd (Lz E.va (Θ (jv 0) η)))
   (ζ (Δ 3 bH.nd (Lz E.va (Θ (jv 1) η)))
   (ζ (nI (s_ hr (jv 3) χ) (ζ (Δ 4 bH.nd (dU (jv 2) (jv 3)))
   (ζ (Δ 2 bH.nd (jv 3))
   (θ (Δ 3 bH.nd (jv 4))))))
   (θ (Β (jv 2)))))),λds M q x h=>?_⟩)
 ·unfold K9 at h;split at h;· rfl
  ·exact h.elim
 ·unfold K9 at h;split at h
  ·rename_i a b;refine⟨λm ρ M'=>M'=M/\∃(x y:Int) (r:Option Dt),ρ=[some (.int a),some (.int b),some (.int x),some (.int y),r]/\0<=x/\0<=y/\g x y=g a b/\m=y.toNat,⟨_,rfl,_,_,_,rfl,by split <;> omega,by split <;> omega,S9 a b,rfl⟩,?_⟩;rintro m ρ M' ⟨rfl,x,y,r,rfl,hx,hy,e,rfl⟩;refine⟨λhb=>?_,λhb=>?_⟩
   ·have Wh:y≠0:=by simpa using hb
    refine⟨_,λρ' M2 h2=>h2,?_⟩;refine⟨(),(x % y).toNat,?_,rfl,y,x % y,_,rfl,hy,ab3 _ Wh,?_,rfl⟩
    ·have:=ach x (show 0 < y by omega);have:=ab3 x Wh;omega
    ·rw[<-ab6 x hy,Ra ()];exact e
   ·have Wh:y=0:=by simpa using hb
    subst Wh;rw[RB hx]at e;subst e;exact h
  ·exact h.elim
def GC{i j:Int}(h:jL j)(l:i.natAbs<=j.natAbs):jL i:=abc l h
def vL:DF:=λds M q _=>match ds with
 | [.int t,.int b]=>jL b/\(b=0->False)/\(b≠0->q (.tup [.int (cj t b).1,.int (cj t b).2]) M)
 | _=>False
def l3:Ε ["top","bottom","divisor"] ["top","bottom"] (ν pM):=.of rfl
def y_(F:cQ K "fraction" "fraction" pM f fd)(E:Ev K mg Cm CN CF Ca Cj Cd Ce Cg Ci Cb Cc Ck){gc:Addr}{gE:FuncData}(bF:aB P w K mg base 1 "common_divisor" ["one","other"] K9 gc gE):ah P w K mg base (bM P w) 2 f fd ["top","bottom"] (cZ K vL):=by
 refine F.eB l3 (λds M q x h=>?_) (λaY A outer s H E' hr=>⟨_,(ζ (aw (eI hr (jv 1) χ) (θ iA) Η)
   (ζ (Δ 2 l3.nd (ar bF hr ο (Θ (jv 0) (Θ (jv 1) η))))
   (ζ (sT (aw (sf (jv 1) χ) (θ (Δ 2 l3.nd (O7 (jv 2)))) Η))
   (θ (Β (bQ (μ (C2 (jv 0) (jv 2)) (μ (C2 (jv 1) (jv 2)) η dE) dE))))))),λds M q x h=>?_⟩)
 ·unfold vL at h;split at h;· rfl
  ·exact h.elim
 ·unfold vL at h;split at h
  ·rename_i t b;have⟨hB,h0,h1⟩:=h;refine⟨λhb=>?_,λhb=>?_⟩
   ·exact h0 (by simpa using hb)
   ·have Tr:b≠0:=by simpa using hb
    refine⟨λρ M'=>M'=M/\ρ=[some (.int t),some (.int b),some (.int (dv t b))],⟨λhn=>?_,λhn=>?_⟩,?_⟩
    ·have Fp:b < 0:=by simpa using hn
     exact⟨rfl,by unfold dv;rw[if_pos Fp];rfl⟩
    ·have Fp:¬b < 0:=by simpa using hn
     exact⟨rfl,by unfold dv;rw[if_neg Fp];rfl⟩
    ·rintro ρ M' ⟨rfl,rfl⟩;have hd:=Kk (t:=t) Tr;have hbd:jL (dv t b):=GC hB (wg Tr);exact⟨⟨hd,hbd⟩,⟨hd,hbd⟩,D2,h1 Tr⟩
  ·exact h.elim
abbrev Fr:=Int×Int
def az(p:Fr):Dt:=.tup [.int p.1,.int p.2]
def cv(p:Fr):Bool:=decide ((if p.1 < 0 then -p.1 else p.1)<=10 ^ 30)&&decide (p.2<=1000000)
def sU:DF:=λds M q _=>∃p,ds=[az p]/\q (.bl (cv p)) M
def Ft:Ε ["pay"] ["pay"] (ν rY):=.of rfl
def BA(F:cQ K "fits_pay" "fits_pay" rY f fd)(E:Ev K mg Cm CN CF Ca Cj Cd Ce Cg Ci Cb Cc Ck):ah P w K mg base (bM P w) 1 f fd ["pay"] (cZ K sU):=by
 refine F.eB Ft (λds M q x h=>?_) (λaY A outer s H E' hr=>⟨_,(θ (Β (fA (CS (Lz E.va (μ (Τ (jv 0) χ) η cE)) (y8 χ χ)) (jx (CS (Τ (jv 0) χ) (qH E.jo)))))),λds M q x h=>?_⟩)
 ·have⟨p,rfl,_⟩:=h;rfl
 ·have⟨p,rfl,h⟩:=h;refine⟨⟨@_,@_,@_⟩,λh1=>?_,λh1=>?_⟩
  ·have e:cv p=decide (p.2<=1000000):=by unfold cv;rw[show decide ((if p.1 < 0 then -p.1 else p.1)<=10 ^ 30)=true from h1];rfl
   rw[e]at h;exact h
  ·have e:cv p=false:=by unfold cv;rw[show decide ((if p.1 < 0 then -p.1 else p.1)<=10 ^ 30)=false from h1];rfl
   rw[e]at h;exact h
def qu{ok:Ms->Prop}(h:iz M d=some (xs,ok)):ok M:=by
 cases d with
 | lst ds=>cases h;trivial
 | ji ns=>cases h;trivial
 | loc k=>
  have h:(match M[k]? with| some (.lst xs)=>some (xs,λM':Ms=>M'[k]? =some (.lst xs))| _=>none)=some (xs,ok):=h;split at h
  ·rename_i ys hm;cases h;exact hm
  ·cases h
 | _=>cases h
def nO{ok:Ms->Prop}(h:iz M d=some (xs,ok)):gu M d=some (xs,ok):=by
 cases d with
 | lst ds=>cases h;rfl
 | ji ns=>cases h;rfl
 | loc k=>exact h
 | _=>cases h
def aW{ρ:En}{ok:Ms->Prop}{q:List Dt->(Ms->Prop)->Ms->Prop}{x:DX}(hv:ρ[i]? =some (some d))(hl:iz M d=some (xs,ok))(h:q xs ok M):da (j0 i) ρ M q x:=by unfold da j0;rw[hv];show(match gu M d with| some (xs,ok)=>q xs ok M| none=>False);rw[nO hl];exact h
def bg{n:Int}{k:Nat}(h:n.natAbs < 2 ^ k)(hk:k<=8000:=by decide):jL n:=aas h (abQ @_ hk)
def aR(t:Int)(p:Fr)(size:Int):Bool:=decide (0<=t)&&(decide (t < size)&&cv p)
def uS:DF:=λds M q _=>∃t p r size,ds=[.tup (.int t::az p::r),.int size]/\q (.bl (aR t p size)) M
def CW:Ε ["door","size"] ["door","size"] (ν pb):=.of rfl
def AU(F:cQ K "fits_door" "fits_door" pb f fd)(E:Ev K mg Cm CN CF Ca Cj Cd Ce Cg Ci Cb Cc Ck){rO:Addr}{sE:FuncData}(fW:aB P w K mg base 1 "fits_pay" ["pay"] sU rO sE):ah P w K mg base (bM P w) 2 f fd ["door","size"] (cZ K uS):=by
 refine F.eB CW (λds M q x h=>?_) (λaY A outer s H E' hr=>⟨_,(θ (Β (fA (CS χ (Τ (jv 0) χ)) (fA (Pc (Τ (jv 0) χ) (jv 1)) (jx (ar fW hr ο (μ (Τ (jv 0) χ) η cE))))))),λds M q x h=>?_⟩)
 ·have⟨t,p,r,size,rfl,_⟩:=h;rfl
 ·have⟨t,p,r,size,rfl,h⟩:=h;walk_at "vc";refine Ζ rfl bJ ?_;refine⟨λh1=>?_,λh1=>?_⟩
  ·refine Ζ rfl bJ ⟨λh2=>?_,λh2=>?_⟩
   ·refine Ζ rfl (ag (j:=1) rfl) ⟨p,rfl,?_⟩;have e:aR t p size=cv p:=by unfold aR;rw[h1,h2];rfl
    rw[<-e];exact h
   ·have e:aR t p size=false:=by unfold aR;rw[h1,h2];rfl
    rw[<-e];exact h
  ·have e:aR t p size=false:=by unfold aR;rw[h1];rfl
   rw[<-e];exact h
abbrev bG:=Int×Fr×List Fr
def eY(d:bG):Dt:=.tup (.int d.1::az d.2.1::d.2.2.map az)
def Ξ(ds:List bG)(size:Int):Bool:=decide (1<=ds.length)&&decide (ds.length<=6)&&ds.all λd=>aR d.1 d.2.1 size
def qI:DF:=λas M q _=>∃d size ds ok,as=[d,.int size]/\iz M d=some (ds.map eY,ok)/\ds.length<=100/\q (.bl (Ξ ds size)) M
def pW:Ε ["doors","size"] ["doors","size"] (ν mf):=.of rfl
def wz(F:cQ K "fits_doors" "fits_doors" mf f fd)(E:Ev K mg Cm CN CF Ca Cj Cd Ce Cg Ci Cb Cc Ck){Fq:Addr}{Gi:FuncData}(mM:aB P w K mg base 2 "fits_door" ["door","size"] uS Fq Gi):ah P w K mg base (bM P w) 3 f fd ["doors","size"] (cZ K qI):=by
 refine F.eB pW (λds M q x h=>?_) (λaY A outer s H E' hr=>⟨_,(ζ (aw (JW.jt (gY (sf (dc E.bS (Θ (jv 0) η)) χ) (h8 (zd (dc E.bS (Θ (jv 0) η)) (qH E.p8))))) (θ (Β AZ)) Η)
   (θ (Β (Of E.AO (μ (g8 (ys:=["size"]) (Μ:=[1]) (.of pW rfl rfl rfl) (aT (jv 0)) (λC s H fp=>(ar mM hr (cL (P:=P) (w:=w)) (Θ (jv 0) (Θ (jv 1) η))))) η))))),λds M q x h=>?_⟩)
 ·have⟨d,size,ds,ok,rfl,_⟩:=h;rfl
 ·have⟨d,size,ds,ok,rfl,hl,hz,h⟩:=h;have hs:=nR hl;walk_at "vc";refine aJ hs ⟨λh1=>?_,λh1=>?_⟩
  ·refine⟨λ_=>?_,nofun⟩;have e:Ξ ds size=false:=by
    have:(ds.length:Int) < 1:=by simpa using h1
    unfold Ξ;rw[aat ()];rfl
   rw[<-e];exact h
  ·have h1:¬(ds.length:Int) < 1:=by simpa using h1
   refine aJ hs ⟨λh2=>?_,λh2=>?_⟩
   ·have e:Ξ ds size=false:=by
     have:6 < (ds.length:Int):=by simpa using h2
     unfold Ξ;rw[aat (p:=ds.length<=6) (),Bool.and_false];rfl
    rw[<-e];exact h
   ·have h2:¬6 < (ds.length:Int):=by simpa using h2
    refine aW rfl hl ⟨by rw[aah];exact aax hz @_,?_⟩;refine eU (f:=λd=>.bl (match d with| .tup (.int t:: .tup [.int a,.int b]::_)=>aR t (a,b) size| _=>false)) (qu hl) (λx hx q hq=>?_) ?_
    ·have⟨y,_,rfl⟩:=aau.mp hx;exact⟨y.1,y.2.1,y.2.2.map az,size,rfl,hq⟩
    ·refine⟨ds.map λd=>aR d.1 d.2.1 size,?_,?_⟩
     ·rw[aaV,aaS,aaV];rfl
     ·have e:Ξ ds size=(ds.map λd=>aR d.1 d.2.1 size).all id:=by unfold Ξ;rw[aaO (show 1<=ds.length by omega),aaO (show ds.length<=6 by omega),List.all_map];rfl
      rw[<-e];exact h
def br(cs:List Fr):Int:=cs.foldl (λb c=>b * c.2 / g b c.2) 1
def oa{c:Int}(hb:0 < b)(hc:0 < c):0 < b * c / g b c/\b * c / g b c<=b * c/\0 < g b c/\g b c<=c:=by
 have hg:0 < g b c:=Er ();have hbc:0 < b * c:=abI hb hc;have hd:g b c∣c:=Int.gcd_dvd_right ..;have hle:g b c<=c:=acf hc hd;have h1:c<=b * c:=by have:=aa7 (show 1<=b by omega) (show 0<=c by omega);simpa using this
 refine⟨Int.ediv_pos_of_pos_of_dvd hbc () (Int.dvd_mul_of_dvd_right hd),?_,hg,hle⟩;exact Int.ediv_le_self _ ()
def Sj(cs:List Fr):Prop:=cs.length<=12/\∀c∈cs,0 < c.2/\c.2 < 2 ^ 200/\c.1.natAbs < 2 ^ 200
def OkB(cs:List Fr):Prop:=cs.length<=13/\∀c∈cs,0 < c.2/\c.2 < 2 ^ 200
def pF:∀(cs:List Fr) (b:Int) (k:Nat),0 < b->b<=2 ^ (200 * k)->(∀c∈cs,0 < c.2/\c.2 < 2 ^ 200)->0 < cs.foldl (λb c=>b * c.2 / g b c.2) b/\cs.foldl (λb c=>b * c.2 / g b c.2) b<=2 ^ (200 * (k+cs.length))
 | [],b,k,h0,h1,_=>⟨h0,h1⟩
 | c::cs,b,k,h0,h1,hc=>by
  have⟨c0,c1⟩:=hc c aaf;have⟨s0,s1,_⟩:=oa h0 c0;have IV:b * c.2 / g b c.2<=2 ^ (200 * (k+1)):=by refine ab2 s1 ?_;rw[show 200 * (k+1)=200 * k+200 by omega,Int.pow_add];exact Int.mul_le_mul h1 (aaE c1) (aaE c0) (aaE (Int.pow_pos @_))
  have:=pF cs _ (k+1) s0 IV λd hd=>hc d (aae _ hd);rw[abF,aaL,show k+(cs.length+1)=k+1+cs.length by omega];exact this
def VL{n:Int}{k:Nat}(h0:0<=n)(h:n<=2 ^ k)(hk:k < 8000):jL n:=by
 refine bg (k:=k+1) ?_ hk;have:(n.natAbs:Int) < ((2 ^ (k+1):Nat):Int):=by rw[abb h0,Int.natCast_pow,abT];have:(0:Int) < 2 ^ k:=Int.pow_pos @_;show n < 2 ^ k * 2;omega
 exact abV.mp this
def ir:∀(cs:List Fr) (b:Int),0 < b->(∀c∈cs,0 < c.2)->0 < cs.foldl (λb c=>b * c.2 / g b c.2) b
 | [],_,h0,_=>h0
 | c::cs,b,h0,hc=>ir cs _ (oa h0 (hc c aaf)).1 λd hd=>hc d (aae _ hd)
def NU{n:Int}{k:Nat}(h0:0<=n)(h:n < 2 ^ k)(hk:k<=8000):jL n:=by
 refine bg (k:=k) ?_ hk;have:(n.natAbs:Int) < ((2 ^ k:Nat):Int):=by rw[abb h0,Int.natCast_pow];exact h
 exact abV.mp this
def ia:DF:=λds M q _=>∃cs:List Fr,ds=[.lst (cs.map az)]/\OkB cs/\q (.int (br cs)) M
def ef:Ε ["chances","bottom","chance"] ["chances"] (ν hV):=.of rfl
def qh(F:cQ K "common_bottom" "common_bottom" hV f fd)(E:Ev K mg Cm CN CF Ca Cj Cd Ce Cg Ci Cb Cc Ck){gc:Addr}{gE:FuncData}(bF:aB P w K mg base 1 "common_divisor" ["one","other"] K9 gc gE):ah P w K mg base (bM P w) 2 f fd ["chances"] (cZ K ia):=by
 refine F.eB ef (λds M q x h=>?_) (λaY A outer s H E' hr=>⟨_,(ζ (Δ 1 ef.nd χ)
   (ζ (bK (aT (jv 0)) (au (i:=2) ef.nd rfl (Or.inl rfl)) aK (θ (Δ 1 ef.nd (jC (eA (jv 1) (Τ (jv 2) χ)) (ar bF hr ο (Θ (jv 1) (μ (Τ (jv 2) χ) η cE)))))))
   (θ (Β (jv 1))))),λds M q x h=>?_⟩)
 ·have⟨cs,rfl,_⟩:=h;rfl
 ·have⟨cs,rfl,⟨hz,hc⟩,h⟩:=h;walk_at "vc";refine aW (i:=0) rfl rfl ?_;refine aO (λxs ρ M'=>M'=M/\∃dQ rest r,cs=dQ++rest/\xs=rest.map az/\ρ=[some (.lst (cs.map az)),some (.int (br dQ)),r]) (λ_ _ _ _=>trivial) (λx xs ρ M' hj fC=>?_) (λρ M' hj=>?_) _ _ _ ⟨rfl,[],cs,none,rfl,rfl,rfl⟩
  ·have⟨rfl,dQ,rest,r,e,ex,rfl⟩:=hj;cases rest with
   | nil=>cases ex
   | cons c rest=>
    cases ex;have hd:∀d∈dQ,0 < d.2/\d.2 < 2 ^ 200:=λd hd=>by have⟨a,b⟩:=hc d (by rw[e];exact abu _ hd);exact⟨a,b⟩
    have⟨c0,c1⟩:=hc c (by rw[e];exact aaH _ aaf);have⟨b0,b1⟩:=pF dQ 1 0 @_ @_ hd;have hl:dQ.length<=13:=by have:=aaZ List.length e;rw[aan]at this;omega
    have⟨s0,s1,g0,g1⟩:=oa b0 c0;refine⟨⟨VL (aaE b0) b1 (),NU (aaE c0) c1 @_⟩,⟨g0,NU (aaE g0) (abj g1 c1) @_⟩,?_⟩;refine fC _ _ ⟨rfl,dQ++[c],rest,some (az c),by rw[e];simp,rfl,?_⟩;have e2:br (dQ++[c])=br dQ * c.2 / g (br dQ) c.2:=by unfold br;rw[List.foldl_append];rfl
    rw[e2];rfl
  ·have⟨rfl,dQ,rest,r,e,ex,rfl⟩:=hj;cases rest with
   | nil=>rw[aaW]at e;subst e;exact h
   | cons c rest=>cases ex
def Ψ(cs:List Fr):Bool:= !(cs.any λc=>decide (c.1<=0))&&(decide ((cs.map λc=>c.1 * (br cs / c.2)).sum=br cs)&&decide (br cs<=1000000))
def oo:DF:=λds M q _=>∃cs:List Fr,ds=[.lst (cs.map az)]/\Sj cs/\q (.bl (Ψ cs)) M
def c_:Ε ["chances","bottom","whole"] ["chances"] (ν jj):=.of rfl
def r6(F:cQ K "fits_chances" "fits_chances" jj f fd)(E:Ev K mg Cm CN CF Ca Cj Cd Ce Cg Ci Cb Cc Ck){ic:Addr}{hZ:FuncData}(bO:aB P w K mg base 2 "common_bottom" ["chances"] ia ic hZ):ah P w K mg base (bM P w) 3 f fd ["chances"] (cZ K oo):=by
 refine F.eB c_ (λds M q x h=>?_) (λaY A outer s H E' hr=>⟨_,(ζ (aw (ba (OE E.yJ (μ (g8 (ys:=[]) (Μ:=[]) (.of c_ rfl rfl rfl) (aT (jv 0)) (λC s H fp=>(CS (Τ (jv 0) χ) χ))) η))) (θ (Β AZ)) Η)
   (ζ (Δ 1 c_.nd (ar bO hr ο (Θ (jv 0) η)))
   (ζ (Δ 2 c_.nd (UX E.EU (μ (g8 (ys:=["bottom"]) (Μ:=[1]) (.of c_ rfl rfl rfl) (aT (jv 0)) (λC s H fp=>(eA (Τ (jv 0) χ) (jC (jv 1) (Τ (jv 0) χ))))) η)))
   (θ (Β (fA (Qj hr (jv 2) (jv 1)) (jx (CS (jv 1) (qH E.jo))))))))),λds M q x h=>?_⟩)
 ·have⟨cs,rfl,_⟩:=h;rfl
 ·have⟨cs,rfl,HD,h⟩:=h;have⟨hz,hc⟩:=id HD;have hz2:(cs.map az).length<=sizeLine:=by rw[aah];exact aax hz @_
  have⟨b0,b1⟩:=pF cs 1 0 @_ @_ λc h=>⟨(hc c h).1,(hc c h).2.1⟩;walk_at "vc";refine aW (i:=0) rfl rfl ⟨hz2,?_⟩;refine eU (f:=λd=>.bl (match d with| .tup [.int a,.int b]=>decide (a<=0)| _=>false)) trivial (λx hx q hq=>?_) ?_
  ·have⟨y,_,rfl⟩:=aau.mp hx;exact hq
  ·refine⟨cs.map λc=>decide (c.1<=0),by rw[aaV,aaS,aaV];rfl,λ_ z=>(nomatch z),λ_ z=>(nomatch z),?_⟩;have ea:(cs.map λc=>decide (c.1<=0)).any id=cs.any λc=>decide (c.1<=0):=by rw[List.any_map];rfl
   rw[ea];refine⟨λh1=>?_,λh1=>?_⟩
   ·have e:Ψ cs=false:=by unfold Ψ;rw[h1];rfl
    rw[<-e];exact h
   ·refine⟨cs,rfl,⟨(),λc h=>⟨(hc c h).1,(hc c h).2.1⟩⟩,?_⟩;walk_at "vc";refine aW (i:=0) rfl rfl ⟨hz2,?_⟩;refine eU (f:=λd=>.int (match d with| .tup [.int a,.int b]=>a * (br cs / b)| _=>0)) trivial (λx hx q hq=>?_) ?_
    ·have⟨y,hy,rfl⟩:=aau.mp hx;have⟨y0,y1,y2⟩:=hc y hy;refine⟨⟨y0,NU (aaE y0) y1 @_⟩,⟨bg y2,?_⟩,hq⟩;refine VL (k:=200 * (0+cs.length)) (Int.ediv_nonneg (aaE b0) (aaE y0)) (ab2 (Int.ediv_le_self _ (aaE b0)) b1) ()
    ·refine⟨cs.map λc=>c.1 * (br cs / c.2),by rw[aaV,aaS,aaV];rfl,⟨_,_,rfl⟩,?_⟩;refine⟨λh2=>?_,λh2=>?_⟩
     ·have e:Ψ cs=decide (br cs<=1000000):=by unfold Ψ;rw[h1,h2];rfl
      rw[e]at h;exact h
     ·have e:Ψ cs=false:=by unfold Ψ;rw[h1,h2];rfl
      rw[<-e];exact h
inductive Rw where
 | fin (p:Fr)
 | Γ (k:Str) (ds:List bG)
def τ(d:bG):Fr:=d.2.2.headD (0,1)
def cY:Rw->Prop
 | .fin p=>0 < p.2
 | .Γ k ds=>k≠"end"/\ds.length<=12/\(k="chance"->(∀d∈ds,d.2.2=[τ d])/\Sj (ds.map τ))/\∀d∈ds,d.2.2.length<=1/\0 < d.2.1.2
def jy(M:Ms)(d:Dt):Rw->Prop
 | .fin p=>d= .tup [.str "end",az p]
 | .Γ k ds=>∃e ok,d= .tup [.str k,e]/\iz M e=some (ds.map eY,ok)
def ao:Rw->Dt
 | .fin p=>.tup [.str "end",az p]
 | .Γ k ds=>.tup [.str k,.lst (ds.map eY)]
def yk(M:Ms)(r:Rw):jy M (ao r) r:=by
 cases r with
 | fin p=>rfl
 | Γ k ds=>exact⟨_,_,rfl,rfl⟩
def pq(p:Fr):(az p).under n:=⟨trivial,trivial,trivial⟩
def Ek{n:Nat}:∀(ps:List Fr),Dt.bq n (ps.map az)
 | []=>trivial
 | p::ps=>⟨pq p,Ek ps⟩
def P4(d:bG):(eY d).under n:=⟨trivial,pq _,Ek _⟩
def hI{n:Nat}:∀(ds:List bG),Dt.bq n (ds.map eY)
 | []=>trivial
 | d::ds=>⟨P4 d,hI ds⟩
def El(r:Rw):(ao r).under n:=by
 cases r with
 | fin p=>exact⟨trivial,pq p,trivial⟩
 | Γ k ds=>exact⟨trivial,hI ds,trivial⟩
def kH{n:Nat}:∀(rs:List Rw),Dt.bq n (rs.map ao)
 | []=>trivial
 | r::rs=>⟨El r,kH rs⟩
def aa(k:Str):Bool:=k=="one"|| k=="other"
def fJ(r:Rw)(size:Int):Bool:=match r with
 | .fin p=>cv p
 | .Γ k ds=>if aa k then Ξ ds size else if k="chance" then Ξ ds size&&Ψ (ds.map τ) else false
def Ku{j:Int}{ρ:En}{ok:Ms->Prop}{q:List Dt->(Ms->Prop)->Ms->Prop}{x:DX}(hv:ρ[i]? =some (some (.tup ds)))(hj:ki ds j=some d)(hl:iz M d=some (xs,ok))(h:q xs ok M):da (iW fo (j0 i) (dC (.int j))) ρ M q x:=by unfold da iW j0;rw[hv];show fo (.tup ds) (.int j) M (λd M1=>match gu M1 d with| some (xs,ok)=>q xs ok M1| none=>False);refine Ζ rfl hj ?_;show(match gu M d with| some (xs,ok)=>q xs ok M| none=>False);rw[nO hl];exact h
def Ap{k:Str}:SD (.str k) [.str "one",.str "other"]=aa k:=by show((("one":Str)==k)|| ((("other":Str)==k)|| false))=(k=="one"|| k=="other");rw[Bool.or_false,BEq.comm (a:=("one":Str)),BEq.comm (a:=("other":Str))]
def AJ:DF:=λas M q _=>∃d r size,as=[d,.int size]/\jy M d r/\cY r/\q (.bl (fJ r size)) M
def oK:Ε ["row","size","kind"] ["row","size"] (ν qN):=.of rfl
def A4   (F:cQ K "fits_row" "fits_row" qN f fd) (E:Ev K mg Cm CN CF Ca Cj Cd Ce Cg Ci Cb Cc Ck) {rO:Addr} {sE:FuncData} (fW:aB P w K mg base 1 "fits_pay" ["pay"] sU rO sE) {Dq:Addr} {A_:FuncData} (gO:aB P w K mg base 3 "fits_doors" ["doors","size"] qI Dq A_) {wK:Addr} {xA:FuncData} (iq:aB P w K mg base 3 "fits_chances" ["chances"] oo wK xA):ah P w K mg base (bM P w) 4 f fd ["row","size"] (cZ K AJ):=by
 refine F.eB oK (λds M q x h=>?_) (λaY A outer s H E' hr=>⟨_,(ζ (Δ 2 oK.nd (Τ (jv 0) χ))
   (ζ (aw (eI hr (jv 2) jH) (θ (Β (ar fW hr ο (μ (Τ (jv 0) χ) η cE)))) Η)
   (ζ (aw (BZ (jv 2) (OB E.Dw)) (θ (Β (ar gO hr ο (μ (Τ (jv 0) χ) (Θ (jv 1) η) cE)))) Η)
   (ζ (aw (eI hr (jv 2) jH) (θ (Β (fA (ar gO hr ο (μ (Τ (jv 0) χ) (Θ (jv 1) η) cE)) (jx (ar iq hr ο (μ (g8 (ys:=[]) (Μ:=[]) (.of oK rfl rfl rfl) (aT (Τ (jv 0) χ)) (λC s H fp=>(Τ (jv 0) χ))) η)))))) Η)
   (θ (Β AZ)))))),λds M q x h=>?_⟩)
 ·have⟨d,r,size,rfl,_⟩:=h;rfl
 ·have⟨d,r,size,rfl,ra,ro,h⟩:=h;cases r with
  | fin p=>
   have ra:d= .tup [.str "end",az p]:=ra;subst ra;exact⟨λ_=>⟨p,rfl,h⟩,nofun⟩
  | Γ k ds=>
   have⟨e,ok,rfl,hl⟩:=ra;have⟨hk,hz,Hx,_⟩:=ro;refine⟨λz=>aaK (aaC z) hk,λ_=>?_⟩;refine⟨.str k,[.str "one",.str "other"],[.str "one",.str "other"],rfl,rfl,rfl,?_⟩;rw[Ap];refine⟨λh1=>?_,λh1=>?_⟩
   ·refine⟨e,size,ds,ok,rfl,hl,(),?_⟩;have e1:fJ (.Γ k ds) size=Ξ ds size:=by show(if aa k then _ else _)=_;rw[aay h1]
    rw[<-e1];exact h
   ·have e1:fJ (.Γ k ds) size=if k="chance" then Ξ ds size&&Ψ (ds.map τ) else false:=by show(if aa k then _ else _)=_;rw[aaF (by rw[h1];decide)]
    rw[e1]at h;refine⟨λh2=>?_,λh2=>?_⟩
    ·have h2:k="chance":=aaC h2;rw[aay h2]at h;have⟨NY,HD⟩:=Hx h2;refine⟨e,size,ds,ok,rfl,hl,(),λh3=>?_,λh3=>?_⟩
     ·rw[h3,Bool.true_and]at h;show da _ _ _ _ _;refine Ku (i:=0) (j:=1) (ds:=[.str k,e]) rfl (ag (j:=1) rfl) hl ⟨by rw[aah];exact aax hz @_,?_⟩;refine eU (f:=λd=>match d with| .tup [_,_,c]=>c| _=>.aE) (qu hl) (λx hx q hq=>?_) ?_
      ·have⟨y,hy,rfl⟩:=aau.mp hx;have ey:eY y= .tup [.int y.1,az y.2.1,az (τ y)]:=by unfold eY;rw[NY y hy];rfl
       rw[ey]at hq⊢;exact hq
      ·refine⟨ds.map τ,?_,HD,h⟩;rw[aaS,aaV,aaV];have:∀y∈ds,((λd=>match d with| Dt.tup [_,_,c]=>c| _=>Dt.aE) ∘ eY) y=(az ∘ τ) y:=λy hy=>by
        have ey:eY y= .tup [.int y.1,az y.2.1,az (τ y)]:=by unfold eY;rw[NY y hy];rfl
        show(match eY y with| Dt.tup [_,_,c]=>c| _=>Dt.aE)=az (τ y);rw[ey]
       rw[abo this]
     ·rw[h3,Bool.false_and]at h;exact h
    ·have h2:k≠"chance":=aaR h2;rw[aaF h2]at h;exact h
def mG:DF:=λas M q _=>∃d r,as=[d]/\jy M d r/\cY r/\match r with
 | .fin p=>q (.tup [.str "end",az p]) M
 | .Γ k ds=>q (.tup [.str k,.loc M.length]) (M++[.lst (ds.map eY)])
def zj:Ε ["row"] ["row"] (ν my):=.of rfl
def xE(F:cQ K "copied_row" "copied_row" my f fd)(E:Ev K mg Cm CN CF Ca Cj Cd Ce Cg Ci Cb Cc Ck):ah P w K mg base (bM P w) 1 f fd ["row"] (cZ K mG):=by
 refine F.eB zj (λds M q x h=>?_) (λaY A outer s H E' hr=>⟨_,(ζ (aw (eI hr (Τ (jv 0) χ) jH) (θ (Β (bQ (μ (Τ (jv 0) χ) (μ (Τ (jv 0) χ) η cE) cE)))) Η)
   (θ (Β (bQ (μ (Τ (jv 0) χ) (μ (xw E.kI (μ (Τ (jv 0) χ) η cE)) η cw) cE))))),λds M q x h=>?_⟩)
 ·have⟨d,r,rfl,_⟩:=h;rfl
 ·have⟨d,r,rfl,ra,ro,h⟩:=h;cases r with
  | fin p=>
   have ra:d= .tup [.str "end",az p]:=ra;subst ra;exact⟨λ_=>⟨D2,h⟩,nofun⟩
  | Γ k ds=>
   have⟨e,ok,rfl,hl⟩:=ra;refine⟨λz=>aaK (aaC z) ro.1,λ_=>?_⟩;show(match fG M e with| some xs=>_| none=>False);rw[nR hl];exact⟨D2,h⟩
def iP(p:Fr):Bool:=decide (0<=p.1)&&(decide (p.1 < p.2)&&decide (p.2<=1000))
def rW:DF:=λas M q _=>∃p,as=[az p]/\q (.bl (iP p)) M
def yU:Ε ["share"] ["share"] (ν mD):=.of rfl
def xi(F:cQ K "fits_share" "fits_share" mD f fd)(E:Ev K mg Cm CN CF Ca Cj Cd Ce Cg Ci Cb Cc Ck):ah P w K mg base (bM P w) 1 f fd ["share"] (cZ K rW):=by
 refine F.eB yU (λds M q x h=>?_) (λaY A outer s H E' hr=>⟨_,(θ (Β (fA (CS χ (Τ (jv 0) χ)) (fA (Pc (Τ (jv 0) χ) (Τ (jv 0) χ)) (jx (CS (Τ (jv 0) χ) (qH E.fX))))))),λds M q x h=>?_⟩)
 ·have⟨p,rfl,_⟩:=h;rfl
 ·have⟨p,rfl,h⟩:=h;unfold iP at h;refine⟨λh1=>⟨λh2=>?_,λh2=>?_⟩,λh1=>?_⟩
  ·rw[show decide (0<=p.1)=true from h1,show decide (p.1 < p.2)=true from h2]at h;exact h
  ·rw[show decide (0<=p.1)=true from h1,show decide (p.1 < p.2)=false from h2]at h;exact h
  ·rw[show decide (0<=p.1)=false from h1]at h;exact h
def N_{c S:Int}(hb:b∣S)(hc:c∣S)(Tr:0 < b)(hc0:0 < c):b * c / g b c∣S/\b∣b * c / g b c/\c∣b * c / g b c:=by
 have e:b * c / g b c=(Int.lcm b c:Nat):=by
  have h:=Int.gcd_mul_lcm b c;have hg:0 < g b c:=Er ();have h2:((Int.gcd b c:Nat):Int) * ((Int.lcm b c:Nat):Int)=b * c:=by rw[<-Int.natCast_mul,h,Int.natCast_mul,abb (aaE Tr),abb (aaE hc0)]
  rw[<-h2];exact Int.mul_ediv_cancel_left _ (by unfold g at hg;omega)
 rw[e];exact⟨Int.coe_lcm_dvd hb hc,Int.dvd_lcm_left ..,Int.dvd_lcm_right ..⟩
def iT:∀(cs:List Fr) (b S:Int),0 < b->b∣S->(∀c∈cs,0 < c.2/\c.2∣S)->cs.foldl (λb c=>b * c.2 / g b c.2) b∣S/\b∣cs.foldl (λb c=>b * c.2 / g b c.2) b/\∀c∈cs,c.2∣cs.foldl (λb c=>b * c.2 / g b c.2) b
 | [],b,S,_,h,_=>⟨h,Int.dvd_refl b,λc hc=>nomatch hc⟩
 | c::cs,b,S,h0,h,hc=>by
  have⟨c0,cS⟩:=hc c aaf;have⟨d1,d2,d3⟩:=N_ h cS h0 c0;have⟨i1,i2,i3⟩:=iT cs _ S (oa h0 c0).1 d1 λx hx=>hc x (aae _ hx);rw[abF];refine⟨i1,Int.dvd_trans d2 i2,λx hx=>?_⟩;rcases aaG.mp hx with rfl| hx
  ·exact Int.dvd_trans d3 i2
  ·exact i3 x hx
def cF{α:Type}{te:DE}{cs:En}{ok:Ms->Prop}{F:Dt->α->Prop}{f:α->Dt}{M:Ms}{k:List Dt->Ms->Prop}(ho:ok M)(ht:∀x a,F x a->∀q:DQ,q (f a) M->te (some x::cs) M q iL):∀{xs:List Dt} {as:List α} {acc:List Dt},Paired F xs as->k (acc++as.map f) M->pU te cs ok xs acc M k
 | _,_,acc,.nil,h=>⟨ho,by simpa using h⟩
 | _,_,acc,.cons r t,h=>⟨ho,ht _ _ r _ (cF ho ht t (by simpa using h))⟩
def AN{k:Nat}{C C':Addr}{ns':List Str}{xs':List Dt}{e:Dt}{ys:List Dt}{ok:Ms->Prop}(hk:M[k]? =some (.ins C ns xs))(h:iz M e=some (ys,ok)):iz (M.set k (.ins C' ns' xs')) e=some (ys,ok):=by
 cases e with
 | lst ds=>exact h
 | ji ns=>exact h
 | loc j=>
  have h:(match M[j]? with| some (.lst xs)=>some (xs,λM':Ms=>M'[j]? =some (.lst xs))| _=>none)=some (ys,ok):=h;have ne:k≠j:=λz=>by subst z;rw[hk]at h;cases h
  show(match (M.set k (.ins C' ns' xs'))[j]? with| some (.lst xs)=>some (xs,λM':Ms=>M'[j]? =some (.lst xs))| _=>none)=some (ys,ok);rw[aa2 ne];exact h
 | _=>cases h
def G7{k:Nat}{C C':Addr}{ns':List Str}{xs':List Dt}{r:Rw}(hk:M[k]? =some (.ins C ns xs))(h:jy M d r):jy (M.set k (.ins C' ns' xs')) d r:=by
 cases r with
 | fin p=>exact h
 | Γ k' ds=>
  have⟨e,ok,h1,h2⟩:=h;exact⟨e,ok,h1,AN hk h2⟩
def Gd{C:Addr}{f:Str}{ρ:En}{v:Dt}{ok:Ms->Prop}{q:List Dt->(Ms->Prop)->Ms->Prop}{x:DX}(hv:ρ[i]? =some (some d))(ho:Nv C M d ns ds)(hf:(ns.zip ds).lookup f=some v)(hl:iz M v=some (xs,ok))(h:q xs ok M):da (Rz C f (j0 i)) ρ M q x:=by unfold da Rz j0;rw[hv];refine⟨ns,ds,v,ho,hf,?_⟩;show(match gu M v with| some (xs,ok)=>q xs ok M| none=>False);rw[nO hl];exact h
def Ο(C:Addr)(ε:Fr)(γ:List Rw):Dt:=.obj C ["kept_share","kept_rows"] [az ε,.lst (γ.map ao)]
def JB(Cm:Addr):DF:=λas M q _=>∃k d ε ds γ ok,as=[.loc k,az ε,d]/\M[k]? =some (.ins Cm [] [])/\iz M d=some (ds,ok)/\Paired (jy M) ds γ/\iP ε=true/\1<=γ.length/\γ.length<=12/\
 (∀r∈γ,cY r/\fJ r γ.length=true)/\q .aE (M.set k (.ins Cm ["kept_share","kept_rows"] [az ε,.lst (γ.map ao)]))
def g7:Ε ["self","share","rows","place","row"] ["self","share","rows"] (ν mP):=.of rfl
def xF(F:cQ K "__init__" "Floor.__init__" mP f fd)(E:Ev K mg Cm CN CF Ca Cj Cd Ce Cg Ci Cb Cc Ck){C1:Addr}{A6:FuncData}(kD:aB P w K mg base 1 "fits_share" ["share"] rW C1 A6){II:Addr}{Lk:FuncData}(pe:aB P w K mg base 4 "fits_row" ["row","size"] AJ II Lk){mK:Addr}{mv:FuncData}(dI:aB P w K mg base 1 "copied_row" ["row"] mG mK mv):ah P w K mg base (bM P w) 5 f fd ["self","share","rows"] (cZ K (JB Cm)):=by
 refine F.eB g7 (λds M q x h=>?_) (λaY A outer s H E' hr=>⟨_,(ζ (aw (km (ba (ar kD hr ο (Θ (jv 1) η)))) (θ iA) Η)
   (ζ (aw (JW.jt (gY (sf (dc E.bS (Θ (jv 2) η)) χ) (h8 (zd (dc E.bS (Θ (jv 2) η)) (qH E.ny))))) (θ iA) Η)
   (ζ (bK (oq E.bT (Θ (jv 2) η)) (oE rfl (b8 (au (i:=3) g7.nd rfl (Or.inl rfl)) (b8 (au (i:=4) g7.nd rfl (Or.inl rfl)) kO))) mE (θ (aw (km (ba (ar pe hr ο (Θ (jv 4) (μ (dc E.bS (Θ (jv 2) η)) η cw))))) (θ iA) Η)))
   (ζ (EK E.fi E.h_ (jv 0) (jv 1))
   (θ (EK E.fi E.cJ (jv 0) (g8 (ys:=[]) (Μ:=[]) (.of g7 rfl rfl rfl) (aT (jv 2)) (λC s H fp=>(cz (ar dI hr (cL (P:=P) (w:=w)) (Θ (jv 0) η))))))))))),λds M q x h=>?_⟩)
 ·have⟨k,d,ε,ds,γ,ok,rfl,_⟩:=h;rfl
 ·have⟨k,d,ε,ds,γ,ok,rfl,hk,hl,hp,hs,h1,h12,z_,h⟩:=h;have hlen:ds.length=γ.length:=Paired.length hp;walk_at "vc";refine⟨ε,rfl,λz=>?_,λ_=>?_⟩
  ·rw[hs]at z;exact nomatch z
  have U5:=nR hl;refine aJ U5 ⟨λz=>?_,λ_=>?_⟩
  ·have:(ds.length:Int) < 1:=by simpa using z
   omega
  refine aJ U5 ⟨λz=>?_,λ_=>?_⟩
  ·have:12 < (ds.length:Int):=by simpa using z
   omega
  refine⟨d,ds,ok,rfl,hl,?_⟩;refine aO (λxs ρ M'=>M'=M/\∃n NK Ey a b,xs=g6 n NK/\Paired (jy M) NK Ey/\(∀r∈Ey,r∈γ)/\ρ=[some (.loc k),some (az ε),some d,a,b]) (λxs ρ M' hj=>by have⟨rfl,_⟩:=hj;exact qu hl) (λx xs ρ M' hj fC=>?_) (λρ M' hj=>?_) _ _ _ ⟨rfl,0,ds,γ,none,none,rfl,hp,λ_ h=>h,rfl⟩
  ·have⟨rfl,n,NK,Ey,a,b,ex,v8,SE,rfl⟩:=hj;cases v8 with
   | nil=>cases ex
   | cons ra t=>
    rename_i d1 r1 ds1 VX;cases ex;refine aJ U5 ⟨d1,r1,ds.length,rfl,ra,(z_ r1 (SE r1 aaf)).1,λz=>?_,λ_=>?_⟩
    ·rw[hlen,(z_ r1 (SE r1 aaf)).2]at z;exact nomatch z
    ·exact fC _ _ ⟨rfl,n+1,ds1,VX,_,_,rfl,t,λr hr=>SE r (aae _ hr),rfl⟩
  ·have⟨rfl,n,NK,Ey,a,b,ex,v8,SE,rfl⟩:=hj;have hkl:k < M'.length:=(aai.mp hk).1;refine⟨k,[],[],rfl,hk,(nofun),@_,?_⟩;have Zp:=AN (C':=Cm) (ns':=["kept_share"]) (xs':=[az ε]) hk hl;dsimp only[OQ,List.nil_append];show da _ _ _ _ _;refine aW (i:=2) rfl Zp ⟨by rw[hlen];exact aax h12 @_,?_⟩;have ZF:Paired (λx a=>jy (M'.set k (.ins Cm ["kept_share"] [az ε])) x a/\cY a) ds γ:=by
    have:∀{xs:List Dt} {rs:List Rw},Paired (jy M') xs rs->(∀r∈rs,cY r)->Paired (λx a=>jy (M'.set k (.ins Cm ["kept_share"] [az ε])) x a/\cY a) xs rs:=by
     intro xs rs hp
     induction hp with
     | nil=>exactλ_=>.nil
     | cons r t ih=>exactλh=>.cons ⟨G7 hk r,h _ aaf⟩ (ih λy hy=>h y (aae _ hy))
    exact this hp λr hr=>(z_ r hr).1
   refine cF (f:=ao) (qu Zp) (λx a ha q' hq=>?ht) ZF ?fin
   case ht=>
    have⟨ha,ho⟩:=ha;refine⟨x,a,rfl,ha,ho,?_⟩;cases a with
    | fin p=>exact D_ ⟨trivial,pq p,trivial⟩ hq
    | Γ k2 Ak=>exact hU (.tup (.cons (.old trivial) (.cons (.Aa (Nat.le_refl _) (by simp) (fY.old (hI Ak))) .nil))) hq
   case fin=>
    refine⟨k,["kept_share"],[az ε],rfl,by rw[aaU hkl],@_,@_,?_⟩;rw[List.set_set];exact h
def kindOf:Rw->Str
 | .fin _=>"end"
 | .Γ k _=>k
def aq:Rw->List bG
 | .fin _=>[]
 | .Γ _ ds=>ds
def oi:Nat->List Rw->List Dt
 | _,[]=>[]
 | n,.fin p::r=>.tup [.str "end",az p]::oi n r
 | n,.Γ k _::r=>.tup [.str k,.loc n]::oi (n+1) r
def lJ:List Rw->Ms
 | []=>[]
 | .fin _::r=>lJ r
 | .Γ _ ds::r=>.lst (ds.map eY)::lJ r
def qr{γ:List Rw}{r:Rw}(h:γ[i]? =some r):(γ.map ao)[i]? =some (ao r):=by rw[aap,h];rfl
def Qc{r:Rw}:∃e,ao r= .tup [.str (kindOf r),e]:=by
 cases r with
 | fin p=>exact⟨_,rfl⟩
 | Γ k ds=>exact⟨_,rfl⟩
def sO(C:Addr):DF:=λas M q _=>∃ε γ,as=[Ο C ε γ]/\q (.int γ.length) M
def Aj:Ε ["self"] ["self"] (ν md):=.of rfl
def wR(F:cQ K "size" "Floor.size" md f fd)(E:Ev K mg Cm CN CF Ca Cj Cd Ce Cg Ci Cb Cc Ck):ah P w K mg base (bM P w) 1 f fd ["self"] (cZ K (sO Cm)):=by
 refine F.eB Aj (λds M q x h=>?_) (λaY A outer s H E' hr=>⟨_,(θ (Β (dc E.bS (μ (Ah E.fi E.cJ (jv 0)) η)))),λds M q x h=>?_⟩)
 ·have⟨ε,γ,rfl,_⟩:=h;rfl
 ·have⟨ε,γ,rfl,h⟩:=h;refine⟨_,_,_,.inl rfl,rfl,?_⟩;show gK [.lst (γ.map ao)] M _;refine aJ (xs:=γ.map ao) rfl ?_;rw[aah];exact h
def IB(C:Addr):DF:=λas M q _=>∃ε γ,as=[Ο C ε γ]/\q (az ε) M
def x9:Ε ["self"] ["self"] (ν jV):=.of rfl
def uj(F:cQ K "share" "Floor.share" jV f fd)(E:Ev K mg Cm CN CF Ca Cj Cd Ce Cg Ci Cb Cc Ck):ah P w K mg base (bM P w) 1 f fd ["self"] (cZ K (IB Cm)):=by
 refine F.eB x9 (λds M q x h=>?_) (λaY A outer s H E' hr=>⟨_,(θ (Β (Ah E.fi E.h_ (jv 0)))),λds M q x h=>?_⟩)
 ·have⟨ε,γ,rfl,_⟩:=h;rfl
 ·have⟨ε,γ,rfl,h⟩:=h;exact⟨_,_,_,.inl rfl,rfl,h⟩
def tP(C:Addr):DF:=λas M q _=>∃ε γ i r,as=[Ο C ε γ,.int (i:Nat)]/\γ[i]? =some r/\q (.str (kindOf r)) M
def yH:Ε ["self","place"] ["self","place"] (ν lW):=.of rfl
def xM(F:cQ K "kind" "Floor.kind" lW f fd)(E:Ev K mg Cm CN CF Ca Cj Cd Ce Cg Ci Cb Cc Ck):ah P w K mg base (bM P w) 1 f fd ["self","place"] (cZ K (tP Cm)):=by
 refine F.eB yH (λds M q x h=>?_) (λaY A outer s H E' hr=>⟨_,(θ (Β (Τ (Τ (Ah E.fi E.cJ (jv 0)) (jv 1)) χ))),λds M q x h=>?_⟩)
 ·have⟨ε,γ,i,r,rfl,_⟩:=h;rfl
 ·have⟨ε,γ,i,r,rfl,hi,h⟩:=h;refine⟨_,_,_,.inl rfl,rfl,?_⟩;walk_at "vc";refine Ζ (xs:=γ.map ao) rfl (ag (qr hi)) ?_;have⟨e,er⟩:=Qc (r:=r);rw[er];exact h
def sy(C:Addr):DF:=λas M q _=>∃ε γ i r,as=[Ο C ε γ,.int (i:Nat)]/\γ[i]? =some r/\cY r/\q (.loc M.length) (M++[.lst ((aq r).map eY)])
def xQ:Ε ["self","place"] ["self","place"] (ν jT):=.of rfl
def uA(F:cQ K "doors" "Floor.doors" jT f fd)(E:Ev K mg Cm CN CF Ca Cj Cd Ce Cg Ci Cb Cc Ck)(ae:fv P w K mg base 1 Cm "kind" ["self","place"] (tP Cm) bz bw):ah P w K mg base (bM P w) 2 f fd ["self","place"] (cZ K (sy Cm)):=by
 refine F.eB xQ (λds M q x h=>?_) (λaY A outer s H E' hr=>⟨_,(ζ (aw (eI hr (gm ae hr ο (jv 0) (Θ (jv 1) η)) jH) (θ (Β (oV η))) Η)
   (θ (Β (xw E.kI (μ (Τ (Τ (Ah E.fi E.cJ (jv 0)) (jv 1)) χ) η cE))))),λds M q x h=>?_⟩)
 ·have⟨ε,γ,i,r,rfl,_⟩:=h;rfl
 ·have⟨ε,γ,i,r,rfl,hi,ro,h⟩:=h;refine⟨⟨_,_,.inl rfl,rfl⟩,ε,γ,i,r,rfl,hi,?_⟩;cases r with
  | fin p=>exact⟨λ_=>⟨@_,h⟩,nofun⟩
  | Γ k ds=>
   refine⟨λz=>aaK (aaC z) ro.1,λ_=>?_⟩;refine⟨_,_,_,.inl rfl,rfl,?_⟩;walk_at "vc";refine Ζ (xs:=γ.map ao) rfl (ag (qr hi)) ?_;exact h
def rh{te:DE}{cs:En}{k:List Dt->Ms->Prop} (ht:∀r M (q:DQ),cY r->(match r with
  | .fin p=>q (.tup [.str "end",az p]) M
  | .Γ k ds=>q (.tup [.str k,.loc M.length]) (M++[.lst (ds.map eY)]))->te (some (ao r)::cs) M q iL):∀(γ:List Rw) (acc:List Dt) (M:Ms),(∀r∈γ,cY r)->k (acc++oi M.length γ) (M++lJ γ)->pU te cs (λ_=>True) (γ.map ao) acc M k
 | [],acc,M,_,h=>⟨trivial,by simpa [oi,lJ] using h⟩
 | r::γ,acc,M,ho,h=>by
  refine⟨trivial,ht r M _ (ho r aaf) ?_⟩;cases r with
  | fin p=>
   refine rh ht γ _ M (λr hr=>ho r (aae _ hr)) ?_;simpa [oi,lJ] using h
  | Γ k' ds=>
   refine rh ht γ _ _ (λr hr=>ho r (aae _ hr)) ?_;simpa [oi,lJ] using h
def OZ(C:Addr):DF:=λas M q _=>∃ε γ,as=[Ο C ε γ]/\γ.length<=12/\(∀r∈γ,cY r)/\q (.loc (M.length+(lJ γ).length)) (M++lJ γ++[.lst (oi M.length γ)])
def pY:Ε ["self"] ["self"] (ν lQ):=.of rfl
def xr(F:cQ K "rows" "Floor.rows" lQ f fd)(E:Ev K mg Cm CN CF Ca Cj Cd Ce Cg Ci Cb Cc Ck){mK:Addr}{mv:FuncData}(dI:aB P w K mg base 1 "copied_row" ["row"] mG mK mv):ah P w K mg base (bM P w) 2 f fd ["self"] (cZ K (OZ Cm)):=by
 refine F.eB pY (λds M q x h=>?_) (λaY A outer s H E' hr=>⟨_,(θ (Β (LH (ys:=[]) (Μ:=[]) (.of pY rfl rfl rfl) (aT (Ah E.fi E.cJ (jv 0))) (λC s H fp=>(ar dI hr (cL (P:=P) (w:=w)) (Θ (jv 0) η)))))),λds M q x h=>?_⟩)
 ·have⟨ε,γ,rfl,_⟩:=h;rfl
 ·have⟨ε,γ,rfl,hz,ho,h⟩:=h;walk_at "vc";refine Gd (i:=0) (d:=Ο Cm ε γ) rfl (.inl rfl) rfl rfl ⟨by rw[aah];exact aax hz @_,?_⟩;refine rh (λr M q hr hq=>⟨ao r,r,rfl,yk M r,hr,by cases r <;> exact hq⟩) γ [] M ho ?_;rw[aaS,aan];exact h
def gC{α:Type}(f:α->Dt):∀(xs ys:List α),(∀x∈xs,x∈ys)->Paired (λx a=>x=f a/\a∈ys) (xs.map f) xs
 | [],_,_=>.nil
 | x::xs,ys,h=>.cons ⟨rfl,h x aaf⟩ (gC f xs ys λy hy=>h y (aae _ hy))
def dt{q:DQ}(u:Dt.bq M.length ds)(h:q (.lst ds) M):tK M q (.loc M.length) (M++[.lst ds]):=hU (.Aa (aao _) (by rw[abU];rfl) (fY.old u)) h
def MP{q:DQ}(u:Dt.bq M.length ds)(h:q (.lst ds) M):Fe [.lst ds] M (tK M q):=by show tK M q (.loc M.length) (M++[.lst ds]);exact dt u h
def uO{d:bG}{q:DQ}(h:q (.int d.1) M):fo (eY d) (.int 0) M q:=Ζ (xs:=.int d.1::az d.2.1::d.2.2.map az) rfl bJ h
def Th{k:Str}{e:Dt}{q:DQ}(h:q e M):fo (.tup [.str k,e]) (.int 1) M q:=Ζ (xs:=[.str k,e]) rfl (ag (j:=1) rfl) h
def kz{g:Dt->En->(En->Prop)->Prop}{tb:DS}{Dn:iM}(J:List Dt->En->Ms->Prop)
  (step:∀x xs ρ M,J (x::xs) ρ M->(∀ρ M,J xs ρ M->wD g tb Dn xs ρ M)->g x ρ λρ'=>tb {Dn with nx:=wD g tb Dn xs,ct:=wD g tb Dn xs,bk:=Dn.nx} ρ' M)
  (fin:∀ρ M,J [] ρ M->Dn.nx ρ M):∀(xs:List Dt) (ρ:En) (M:Ms),J xs ρ M->wD g tb Dn xs ρ M
 | [],ρ,M,h=>fin _ _ h
 | x::xs,ρ,M,h=>step x xs ρ M h λρ' M' h'=>kz J step fin xs ρ' M' h'
def kL{lo:Int}{x:Dt}(h:x::xs=eC lo n):∃m,n=m+1/\x= .int lo/\xs=eC (lo+1) m:=by
 cases n with
 | zero=>exact nomatch h
 | succ m=>
  unfold eC at h;rw[abJ,aa0,aaV]at h;cases h;refine⟨m,rfl,by simp,?_⟩;unfold eC;apply abo;intro k _;show Dt.int (lo+((k+1:Nat):Int))=Dt.int (lo+1+(k:Int))
  congr 1
  omega
def iS{lo:Int}{x:Dt}(h:x∈eC lo n):∃k:Nat,k < n/\x= .int (lo+k):=by unfold eC at h;have⟨k,hk,rfl⟩:=aau.mp h;exact⟨k,abg.mp hk,rfl⟩
def fc{lo:Int}:(eC lo n).length=n:=by unfold eC;simp
def mr{α:Type}{te:DE}{cs:En}{M:Ms}{f:α->Dt}(G:α->Prop){k:List Dt->Ms->Prop}:∀(xs:List Dt) (acc:List α),(∀a∈acc,G a)->(∀x∈xs,∀q:DQ,(∀a,G a->q (f a) M)->te (some x::cs) M q iL)->
  (∀as:List α,as.length=acc.length+xs.length->(∀a∈as,G a)->k (as.map f) M)->vH te cs xs (acc.map f) M k
 | [],acc,ha,_,h=>h acc (by simp) ha
 | x::xs,acc,ha,ht,h=>ht x aaf _ λa hg=>by
  have e:acc.map f++[f a]=(acc++[a]).map f:=by simp
  rw[e];refine mr G xs (acc++[a]) (λb hb=>?_) (λy hy=>ht y (List.mem_cons_of_mem _ hy)) λas hl hg'=>h as (by rw[hl];simp;omega) hg';rcases aa8.mp hb with hb| hb
  ·exact ha b hb
  ·have:b=a:=by simpa using hb
   rw[this];exact hg
def g9{n:Nat}:∀(xs:List Int),Dt.bq n (xs.map Dt.int)
 | []=>trivial
 | _::xs=>⟨trivial,g9 xs⟩
def xS(ot:Int)(r:Rw):Prop:=cY r/\fJ r ot=true
def Nw{k:Str}{ds:List bG}{ot:Int}(hk:aa k=true)(hz:1<=ds.length)(XR:ds.length<=6)(hd:∀d∈ds,aR d.1 d.2.1 ot=true)(hs:∀d∈ds,d.2.2=[]/\0 < d.2.1.2):xS ot (.Γ k ds):=by
 have fd:Ξ ds ot=true:=by unfold Ξ;rw[aaO hz,aaO XR,aa5.mpr hd];rfl
 have ne:k≠"end"/\k≠"chance":=by refine⟨λz=>?_,λz=>?_⟩ <;> (subst z;exact aaK hk @_)
 refine⟨⟨ne.1,(),λz=>aaK z ne.2,λd h=>⟨by rw[(hs d h).1];exact abW _,(hs d h).2⟩⟩,?_⟩;show(if aa k then _ else _)=true;rw[aay hk];exact fd
def Ge{ds:List bG}{ot:Int}(hz:1<=ds.length)(XR:ds.length<=6)(hd:∀d∈ds,aR d.1 d.2.1 ot=true)(h1:∀d∈ds,d.2.2=[τ d])(hc:Ψ (ds.map τ)=true)(ho:Sj (ds.map τ))(hp:∀d∈ds,0 < d.2.1.2):xS ot (.Γ "chance" ds):=by
 have fd:Ξ ds ot=true:=by unfold Ξ;rw[aaO hz,aaO XR,aa5.mpr hd];rfl
 refine⟨⟨@_,(),λ_=>⟨h1,ho⟩,λd h=>⟨by rw[h1 d h];exact aao _,hp d h⟩⟩,?_⟩;have e:fJ (.Γ "chance" ds) ot=(Ξ ds ot&&Ψ (ds.map τ)):=by dsimp only[fJ];rw[aaF @_,aay rfl]
 rw[e,fd,hc];rfl
def EM{ot:Int}{p:Fr}(h0:0<=t)(h1:t < ot)(hp:cv p=true):aR t p ot=true:=by unfold aR;rw[aaO h0,aaO h1,hp];rfl
def mY{xs:List Int}(h:j < xs.length):ki (xs.map Dt.int) (j:Int)=some (.int xs[j]):=ag (by rw[aap,aac h];rfl)
def Sz(k:Nat)(p:Fr):Prop:=p.1.natAbs < 2 ^ k/\0 < p.2/\p.2.natAbs < 2 ^ k
def eQ(p q:Fr):Fr:=cj (p.1 * q.1) (p.2 * q.2)
def dw(p q:Fr):Bool:=decide (p.1 * q.2 < q.1 * p.2)
def wy{k k':Nat}{p:Fr}(h:Sz k p)(hk:k<=k'):Sz k' p:=
 ⟨aas h.1 (abQ @_ hk),h.2.1,aas h.2.2 (abQ @_ hk)⟩
def eT{a b k l:Nat}(h:a < 2 ^ k)(h':b < 2 ^ l):a * b < 2 ^ (k+l):=by rw[Nat.pow_add];exact Nat.mul_lt_mul'' h h'
def CZ{p q:Fr}{k l:Nat}(hp:Sz k p)(hq:Sz l q):(p.1 * q.1).natAbs < 2 ^ (k+l)/\(p.2 * q.2).natAbs < 2 ^ (k+l)/\0 < p.2 * q.2:=by have a:=eT hp.1 hq.1;have c:=eT hp.2.2 hq.2.2;exact⟨by rw[abA];exact a,by rw[abA];exact c,abI hp.2.1 hq.2.1⟩
def jw{p:Fr}{k:Nat}(h:Sz k p)(hk:k<=8000):jL p.1:=bg h.1 hk
def fR{p:Fr}{k:Nat}(h:Sz k p)(hk:k<=8000):jL p.2:=bg h.2.2 hk
def Il:DF:=λas M q _=>∃p r k l,as=[az p,az r]/\Sz k p/\Sz l r/\k+l+1<=8000/\q (az (eQ p r)) M
def Na:Ε ["one","other"] ["one","other"] (ν C4):=.of rfl
def LM(F:cQ K "times" "times" C4 f fd)(E:Ev K mg Cm CN CF Ca Cj Cd Ce Cg Ci Cb Cc Ck)(bW:aB P w K mg base 2 "fraction" ["top","bottom"] vL iK iG):ah P w K mg base (bM P w) 3 f fd ["one","other"] (cZ K Il):=by
 refine F.eB Na (λds M q x h=>?_) (λaY A outer s H E' hr=>⟨_,(θ (Β (ar bW hr ο (μ (eA (Τ (jv 0) χ) (Τ (jv 1) χ)) (μ (eA (Τ (jv 0) χ) (Τ (jv 1) χ)) η dE) dE)))),λds M q x h=>?_⟩)
 ·have⟨p,r,k,l,rfl,_⟩:=h;rfl
 ·have⟨p,r,k,l,rfl,hp,ve,hk,h⟩:=h;have⟨a,b,c⟩:=CZ hp ve;refine⟨⟨jw hp (),jw ve ()⟩,⟨fR hp (),fR ve ()⟩,bg b (),λz=>aaK z (),λ_=>h⟩
def ig(p q:Fr):Fr:=cj (p.1 * q.2 - q.1 * p.2) (p.2 * q.2)
def B6{p q:Fr}{k l:Nat}(hp:Sz k p)(hq:Sz l q):(p.1 * q.2 - q.1 * p.2).natAbs < 2 ^ (k+l+1)/\(p.2 * q.2).natAbs < 2 ^ (k+l+1)/\0 < p.2 * q.2:=by
 have a:=eT hp.1 hq.2.2;have b:=eT hq.1 hp.2.2;have c:=eT hp.2.2 hq.2.2;rw[Nat.add_comm l k]at b;have e:(2:Nat) ^ (k+l+1)=2 ^ (k+l)+2 ^ (k+l):=by rw[Nat.pow_succ];omega
 have hn:(p.1 * q.2 - q.1 * p.2).natAbs<=(p.1 * q.2).natAbs+(q.1 * p.2).natAbs:=()
 rw[abA,abA]at hn;refine⟨by rw[e];omega,?_,abI hp.2.1 hq.2.1⟩;rw[abA,e];omega
def K2:DF:=λas M q _=>∃p r k l,as=[az p,az r]/\Sz k p/\Sz l r/\k+l+1<=8000/\q (az (ig p r)) M
def Mm:Ε ["one","other"] ["one","other"] (ν BN):=.of rfl
def IU(F:cQ K "minus" "minus" BN f fd)(E:Ev K mg Cm CN CF Ca Cj Cd Ce Cg Ci Cb Cc Ck)(bW:aB P w K mg base 2 "fraction" ["top","bottom"] vL iK iG):ah P w K mg base (bM P w) 3 f fd ["one","other"] (cZ K K2):=by
 refine F.eB Mm (λds M q x h=>?_) (λaY A outer s H E' hr=>⟨_,(θ (Β (ar bW hr ο (μ (nU (eA (Τ (jv 0) χ) (Τ (jv 1) χ)) (eA (Τ (jv 1) χ) (Τ (jv 0) χ))) (μ (eA (Τ (jv 0) χ) (Τ (jv 1) χ)) η dE) dE)))),λds M q x h=>?_⟩)
 ·have⟨p,r,k,l,rfl,_⟩:=h;rfl
 ·have⟨p,r,k,l,rfl,hp,ve,hk,h⟩:=h;have⟨a,b,c⟩:=B6 hp ve;refine⟨⟨jw hp (),fR ve ()⟩,⟨jw ve (),fR hp ()⟩,⟨fR hp (),fR ve ()⟩,bg b hk,λz=>aaK z (),λ_=>h⟩
def jU(B:Int)(c:Fr):Int:=c.1 * (B / c.2)
structure FN(cs:List Fr):Prop where
 pos:∀c∈cs,0 < jU (br cs) c
 sum:(cs.map (jU (br cs))).sum=br cs
 b0:0 < br cs
 b1:br cs<=1000000
 ne:cs≠[]
 HD:Sj cs
def Vc{cs:List Fr}(h:Ψ cs=true)(o:Sj cs)(n:cs≠[]):FN cs:=by
 unfold Ψ at h;rw[aam,aam,aaN,aaN,Bool.not_eq_true']at h;have⟨h1,h2,h3⟩:=h;have B0:0 < br cs:=ir cs 1 @_ λc hc=>(o.2 c hc).1;have⟨_,_,hB⟩:=iT cs 1 0 @_ (ab4 _) λc hc=>⟨(o.2 c hc).1,ab4 _⟩;refine⟨λc hc=>?_,h2,B0,h3,n,o⟩;have c1:0 < c.1:=by have:=List.any_eq_false.mp h1 c hc;simpa using this
 exact abI c1 (Int.ediv_pos_of_pos_of_dvd B0 (aaE (o.2 c hc).1) (hB c hc))
def val(p:Fr):Rat:=(p.1:Rat) / (p.2:Rat)
structure Red(p:Fr):Prop where
 pos:0 < p.2
 low:Int.gcd p.1 p.2=1
def bV(h:b≠0):(b:Rat)≠0:=λz=>h (Rat.intCast_eq_zero_iff.mp z)
def Oa{a c d:Int}(h:a * b=c * d):(a:Rat) * b=c * d:=by rw[<-aa6,<-aa6,h]
def r_(h:b≠0):Red (cj t b):=⟨iR h,AK h⟩
def n_(h:b≠0):val (cj t b)=(t:Rat) / (b:Rat):=by
 have hq:=iR (t:=t) h;have hx:=Oa (eN (t:=t) h);have h1:=bV h;have h2:=bV (show(cj t b).2≠0 by omega);unfold val;generalize ((cj t b).1:Rat)=x at *
 generalize ((cj t b).2:Rat)=y at *
 generalize (t:Rat)=t' at *
 generalize (b:Rat)=b' at *
 grind
def qG{p q:Fr}(hp:Red p)(hq:Red q)(h:val p=val q):p=q:=by
 have h1:=bV (show p.2≠0 by have:=hp.pos;omega);have h2:=bV (show q.2≠0 by have:=hq.pos;omega);have e:p.1 * q.2=p.2 * q.1:=by
  unfold val at h;have e1:(p.1:Rat) * (q.2:Rat)=(p.2:Rat) * (q.1:Rat):=by
   generalize (p.1:Rat)=a at *
   generalize (p.2:Rat)=b at *
   generalize (q.1:Rat)=c at *
   generalize (q.2:Rat)=d at *
   grind
  rw[<-aa6,<-aa6]at e1;exact Rat.intCast_inj.mp e1
 have a:=wN (show p.2≠0 by have:=hp.pos;omega) hq.pos hq.low e;have b:=G8 hp.pos hp.low;rw[<-Prod.eta p,<-b,a]
def Gx{p q:Fr}(hp:0 < p.2)(hq:0 < q.2):val (eQ p q)=val p * val q:=by
 unfold eQ;rw[n_ (ack (abI hp hq))];have h1:=bV (show p.2≠0 by omega);have h2:=bV (show q.2≠0 by omega);rw[aa6,aa6];unfold val;generalize (p.1:Rat)=a at *
 generalize (p.2:Rat)=b at *
 generalize (q.1:Rat)=c at *
 generalize (q.2:Rat)=d at *
 grind
def nQ(p:Fr)(E:Int):Prop:=∃N,p.1 * E=N * p.2
def vM{N:Int}(h:b≠0)(e:t * E=N * b):nQ (cj t b) E:=by
 have hx:=eN (t:=t) h;generalize hf:cj t b=f at *
 have⟨x,y⟩:=f;refine⟨N,?_⟩;show x * E=N * y;have hx:t * y=b * x:=hx;have:b * (x * E)=b * (N * y):=by grind
 exact aa4 h this
def Gs(p:Fr):nQ p p.2:=⟨p.1,rfl⟩
def Bk{p q:Fr}{F:Int}(hp:0 < p.2)(hq:0 < q.2)(h:nQ p E)(h':nQ q F):nQ (eQ p q) (E * F):=by have⟨N,e⟩:=h;have⟨N',e'⟩:=h';unfold eQ;exact vM (N:=N * N') (Int.ne_of_gt (Int.mul_pos hp hq)) (by grind)
def xB{p:Fr}(hp:Red p)(h:nQ p E):p.2∣E:=by
 have⟨N,e⟩:=h;have d:p.2∣p.1 * E:=⟨N,by rw[e,abq]⟩;have d2:p.2.natAbs∣p.1.natAbs * E.natAbs:=by rw[<-abA];exact Int.natAbs_dvd_natAbs.mpr d
 have co:Nat.Coprime p.2.natAbs p.1.natAbs:=by have:=hp.low;unfold Int.gcd at this;rw[Nat.coprime_comm];exact this
 exact Int.natAbs_dvd_natAbs.mp (co.dvd_of_dvd_mul_left d2)
def uW(p:Fr)(C:Int):Prop:=p.1<=p.2 * C/\ -(p.2 * C)<=p.1
def LN(h:0 < b)(h1:t<=b * C)(h2: -(b * C)<=t):uW (cj t b) C:=by
 have hx:=eN (t:=t) (show b≠0 by omega);have hq:=iR (t:=t) (show b≠0 by omega);generalize hf:cj t b=f at *
 have⟨x,y⟩:=f;have hx:t * y=b * x:=hx;have hq:0 < y:=hq;constructor
 ·show x<=y * C;have:=aa7 h1 (aaE hq);rw[hx]at this;have e:b * C * y=b * (y * C):=by grind
  rw[e]at this;exact ab8 this h
 ·show -(y * C)<=x;have:=aa7 h2 (aaE hq);rw[hx]at this;have e: -(b * C) * y=b * (-(y * C)):=by grind
  rw[e]at this;exact ab8 this h
def fQ{a c:Int}(h:a<=b)(hc:0<=c):a * c<=b * c:=aa7 h hc
def lZ(c:Fr):Prop:=0<=c.1/\c.1<=c.2
def DD{c s:Fr}(hc:0 < c.2)(hs:0 < s.2)(u:lZ c)(v:lZ s):lZ (eQ c s):=by
 unfold eQ;have hx:=eN (t:=c.1 * s.1) (ack (abI hc hs));have hq:=iR (t:=c.1 * s.1) (ack (abI hc hs));have t0:0<=c.1 * s.1:=abE u.1 v.1
 have t1:c.1 * s.1<=c.2 * s.2:=ab2 (fQ u.2 v.1) (by
  have:=fQ v.2 (aaE hc)
  rw[abq c.2 s.1,abq c.2 s.2];exact this)
 have bp:=abI hc hs;generalize c.1 * s.1=t at *
 generalize c.2 * s.2=b at *
 generalize hf:cj t b=f at *
 have⟨x,y⟩:=f;have hx:t * y=b * x:=hx;have hq:0 < y:=hq;constructor
 ·show 0<=x;rcases Int.lt_or_le x 0 with z| z
  ·have:=Int.mul_neg_of_pos_of_neg bp z;have:=abE t0 (aaE hq);omega
  ·exact z
 ·show x<=y;have:=fQ t1 (aaE hq);rw[hx]at this;exact ab8 this bp
def U7{p:Fr}{k:Nat}(r:Red p)(h:nQ p E)(e0:0 < E)(e1:E < 2 ^ k)(a:uW p C)(c0:0<=C)(c1:C < 2 ^ m):Sz (k+m) p:=by
 have d:=acf e0 (xB r h);have rp:=r.pos;have b1:p.2.natAbs < 2 ^ k:=by
  have:(p.2.natAbs:Int) < ((2 ^ k:Nat):Int):=by rw[abb (aaE rp)];exact abj d (by exact_mod_cast e1)
  exact abV.mp this
 have b2:C.natAbs < 2 ^ m:=by
  have:(C.natAbs:Int) < ((2 ^ m:Nat):Int):=by
   rw[abb c0]
   exact_mod_cast c1
  exact abV.mp this
 have b3:=eT b1 b2;refine⟨?_,rp,aas b1 (abQ @_ (abw _ _))⟩;refine abc ?_ b3;rw[<-abA];have q0:0<=p.2 * C:=abE (aaE rp) c0;have:=a.1;have:=a.2;omega
def TZ{cs:List Fr}(h:j < cs.length):ki (cs.map az) (j:Int)=some (az cs[j]):=ag (by rw[aap,aac h];rfl)
def Vj{ds:List bG}(h:j < ds.length):ki (ds.map eY) (j:Int)=some (eY ds[j]):=ag (by rw[aap,aac h];rfl)
structure TF(ε:Fr)(γ:List Rw):Prop where
 sh:iP ε=true
 len:γ.length<=12
 row:∀r∈γ,cY r/\fJ r γ.length=true
structure Ti(γ:List Rw)(k:Str)(ds:List bG):Prop where
 ro:cY (.Γ k ds)
 l1:1<=ds.length
 l6:ds.length<=6
 kd:aa k=true\/(aa k=false/\k="chance"/\FN (ds.map τ))
 to:∀d∈ds,0<=d.1/\d.1 < γ.length
 py:∀d∈ds,cv d.2.1=true/\0 < d.2.1.2
def gr{ε:Fr}{γ:List Rw}{k:Str}{ds:List bG}(f:TF ε γ)(h:Rw.Γ k ds∈γ):Ti γ k ds:=by
 have⟨ro,h2⟩:=f.row _ h;have h2:(if aa k then Ξ ds γ.length else if k="chance" then Ξ ds γ.length&&Ψ (ds.map τ) else false)=true:=h2;have key:Ξ ds γ.length=true/\(aa k=true\/(aa k=false/\k="chance"/\Ψ (ds.map τ)=true)):=by
  by_cases hk:aa k=true
  ·rw[aay hk]at h2;exact⟨h2,.inl hk⟩
  ·rw[aaF hk]at h2;by_cases hc:k="chance"
   ·rw[if_pos hc,Bool.and_eq_true]at h2;exact⟨h2.1,.inr ⟨by simpa using hk,hc,h2.2⟩⟩
   ·rw[aaF hc]at h2;cases h2
 have⟨fd,hk⟩:=key;unfold Ξ at fd;rw[aam,aam,aaN,aaN]at fd;have⟨⟨d1,d6⟩,fa⟩:=fd;have each:∀d∈ds,0<=d.1/\d.1 < γ.length/\cv d.2.1=true:=λd hd=>by have h3:=aa5.mp fa d hd;unfold aR at h3;rw[aam,aam,aaN,aaN]at h3;exact⟨h3.1,h3.2.1,h3.2.2⟩
 refine⟨ro,d1,d6,?_,λd hd=>⟨(each d hd).1,(each d hd).2.1⟩,λd hd=>⟨(each d hd).2.2,(ro.2.2.2 d hd).2⟩⟩;rcases hk with hk| ⟨hk,hc,hf⟩
 ·exact .inl hk
 ·refine .inr ⟨hk,hc,Vc hf (ro.2.2.1 hc).2 λz=>?_⟩;have:=aaZ List.length z;rw[aah]at this;have:ds.length=0:=this;omega
def ML{α:Type}(xs:List α)(a:α)(f:α->Dt):(eC 0 xs.length).map (λx=>match x with| .int j=>f (xs.getD j.toNat a)| _=>.aE)=xs.map f:=by
 unfold eC;rw[aaV];apply abh
 ·simp
 ·intro i h1 h2;simp only[List.getElem_map,List.getElem_range,Function.comp];rw[show(0+(i:Int)).toNat=i by omega];have hi:i < xs.length:=by simpa using h2
  rw[aad,aac hi];rfl
abbrev d0:bG:=(0,(0,1),[])
def qR(h:p < n):Jg n (p:Int)=some p:=by unfold Jg;rw[aay (),aay (),aaY]
def IF(h:Bf M d=some xs):fG M d=some xs:=by cases d <;> first| exact h| cases h
def sC(h:Bf M d=some xs):gH M d=some xs:=by cases d <;> first| exact h| cases h
def aQ{o:MO}:(M++[o])[M.length]? =some o:=by simp
def gW{k:Nat}(h:M[k]? =some (MO.lst xs)):Bf M (.loc k)=some xs:=by show(match M[k]? with| some (MO.lst xs)=>some xs| _=>none)=some xs;rw[h]
def e9{a c:MO}:(M++[a]).set M.length c=M++[c]:=by simp[List.set_append]
def Qt{E:Ms}{o:MO}:(M++o::E)[M.length]? =some o:=by simp
def Nf{E:Ms}{o c:MO}:(M++o::E).set M.length c=M++c::E:=by simp[List.set_append]
abbrev bZ(l:List Int):Dt:=.lst (l.map Dt.int)
abbrev jJ(ls:List (List Int)):Dt:=.lst (ls.map bZ)
def Et{ls:List (List Int)}(h:j < ls.length):ki (ls.map bZ) (j:Int)=some (bZ ls[j]):=ag (by rw[aap,aac h];rfl)
def jm{n:Nat}:∀(ls:List (List Int)),Dt.bq n (ls.map bZ)
 | []=>trivial
 | l::ls=>⟨g9 l,jm ls⟩
abbrev cy:=Bz.cy
def zf(h:i < n):((List.replicate (n:Int).toNat [Dt.int 0]).flatten).set i (Dt.int 1)=(cy n i).map Dt.int:=by
 have e:(List.replicate (n:Int).toNat [Dt.int 0]).flatten=List.replicate n (Dt.int 0):=by
  rw[show((n:Int)).toNat=n by omega];clear h
  induction n with
  | zero=>rfl
  | succ n ih=>rw[abe,aby,ih];rfl
 rw[e];unfold cy Bz.cy;apply abh
 ·simp
 ·intro j h1 h2;rw[List.getElem_set];simp only[List.getElem_replicate,List.getElem_map,List.getElem_range,Bz.ind];split <;> rfl
def O0:DF:=λas M q _=>∃γ:List (List Int),as=[jJ γ]/\γ.length<=12/\(∀r∈γ,r.length<=13)/\∀E,q (.loc M.length) (M++MO.lst (((List.range γ.length).map λi=>γ.getD i []++cy γ.length i).map bZ)::E)
def de:Ε ["rows","told","number","row","weights"] ["rows"] (ν jh):=.of rfl
def qL(F:cQ K "with_weights" "with_weights" jh f fd)(E:Ev K mg Cm CN CF Ca Cj Cd Ce Cg Ci Cb Cc Ck):ah P w K mg base (bM P w) 1 f fd ["rows"] (cZ K O0):=by
 refine F.eB de (λds M q x h=>?_) (λaY A outer s H E' hr=>⟨_,(ζ (Δ 1 de.nd (oV η))
   (ζ (bK (oq E.bT (Θ (jv 0) η)) (oE rfl (b8 (au (i:=2) de.nd rfl (Or.inl rfl)) (b8 (au (i:=3) de.nd rfl (Or.inl rfl)) kO))) mE (ζ (Δ 4 de.nd (Be (fM 3 (d:=.lst [.int 0]) (by rfl)) (dc E.bS (Θ (jv 0) η))))
   (ζ (kE (jv 4) (jv 2) χ)
   (θ (dX (gG (jv 1) (μ (jf (jv 3) (jv 4)) η dE)))))))
   (θ (Β (jv 1))))),λds M q x h=>?_⟩)
 ·have⟨γ,rfl,_⟩:=h;rfl
 ·have⟨γ,rfl,S7,r13,h⟩:=h;refine⟨@_,?_⟩;refine⟨jJ γ,γ.map bZ,λ_=>True,rfl,rfl,?_⟩;refine aO (λxs ρ M'=>∃(k:Nat) (rest:List (List Int)) (E:Ms) (o1 o2 o3:Option Dt),xs=g6 k (rest.map bZ)/\γ.drop k=rest/\k<=γ.length/\M'=M++MO.lst (((List.range k).map λi=>γ.getD i []++cy γ.length i).map bZ)::E/\ρ=[some (jJ γ),some (.loc M.length),o1,o2,o3]) (λxs ρ M' hj=>trivial) (λx xs ρ M' hj fC=>?_) (λρ M' hj=>?_) _ _ _ ⟨0,γ,[],none,none,none,rfl,rfl,abW _,rfl,rfl⟩
  ·have⟨k,rest,E,o1,o2,o3,ex,hd,hk,rfl,rfl⟩:=hj;cases rest with
   | nil=>cases ex
   | cons r rest=>
    cases ex;have EB:k < γ.length:=by
     rcases Nat.lt_or_ge k γ.length with z| z
     ·exact z
     ·rw[List.drop_of_length_le z]at hd;cases hd
    have rk:γ[k]=r:=by have:=abn EB;rw[hd]at this;exact(List.cons.inj this).1.symm
    have rg:γ.getD k []=r:=by rw[aad,aac EB,rk];rfl
    have ael:=r13 r (by rw[<-rk];exact aaw EB);have NJ:γ.drop (k+1)=rest:=by have:=abn EB;rw[hd]at this;exact(List.cons.inj this).2.symm
    dsimp only[g2];walk_at "vc";refine(aJ (d:=jJ γ) (xs:=γ.map bZ) rfl ?_:gK [jJ γ] _ _);rw[aah];refine⟨[.int 0],γ.length,rfl,rfl,(),(),?_,?_⟩
    ·show 1 * ((γ.length:Int)).toNat<=sizeLine;exact aax (show _<=12 by omega) @_
    generalize WQ:M++MO.lst (((List.range k).map λi=>γ.getD i []++cy γ.length i).map bZ)::E=M2;refine⟨M2.length,k,_,k,rfl,rfl,aQ,?_,?_⟩
    ·have:((List.replicate (γ.length:Int).toNat [Dt.int 0]).flatten).length=γ.length:=by have:=aaZ List.length (zf EB);rw[aaX,aah]at this;rw[this];unfold cy Bz.cy;simp
     rw[this];exact qR EB
    rw[e9,zf EB];subst WQ;have eM:(M++MO.lst (((List.range k).map λi=>γ.getD i []++cy γ.length i).map bZ)::E)++[MO.lst ((cy γ.length k).map Dt.int)]=M++MO.lst (((List.range k).map λi=>γ.getD i []++cy γ.length i).map bZ)::(E++[MO.lst ((cy γ.length k).map Dt.int)]):=by simp
    have at3:((M++MO.lst (((List.range k).map λi=>γ.getD i []++cy γ.length i).map bZ)::E)++[MO.lst ((cy γ.length k).map Dt.int)])[M.length]? =some (.lst (((List.range k).map λi=>γ.getD i []++cy γ.length i).map bZ)):=by rw[eM];exact Qt
    refine⟨⟨M.length,_,rfl,at3⟩,r.map Dt.int,(cy γ.length k).map Dt.int,rfl,gW aQ,?_,M.length,_,_,rfl,rfl,at3,?_,?_⟩
    ·rw[aah,aah];unfold cy Bz.cy;rw[aah,aba];exact aax (show _<=30 by omega) @_
    ·rw[aah,aah,aba];exact abc (show k<=12 by omega) @_
    rw[eM,Nf];refine fC _ _ ⟨k+1,rest,E++[MO.lst ((cy γ.length k).map Dt.int)],_,_,_,rfl,NJ,EB,?_,rfl⟩;rw[List.range_succ,aaT,aaT];simp only[List.map_cons,List.map_nil];rw[rg,<-aaT]
  ·have⟨k,rest,E,o1,o2,o3,ex,hd,hk,rfl,rfl⟩:=hj;cases rest with
   | cons r rest=>cases ex
   | nil=>
    have:k=γ.length:=by have:=aaZ List.length hd;rw[abM]at this;simp at this;omega
    subst this;exact h E
def Td:DF:=λas M q _=>∃(ls:List (List Int)) (f c:Nat),as=[jJ ls,.int (f:Int),.int (c:Int)]/\f<=ls.length/\ls.length<=12/\(∀l∈ls,c < l.length)/\
 ((∀(k:Nat),f<=k->k < ls.length->(ls.getD k []).getD c 0=0)->q .aE M)/\
 (∀(k:Nat),f<=k->k < ls.length->(ls.getD k []).getD c 0≠0->q (.int (k:Int)) M)
def kC:Ε ["lines","first","column","number"] ["lines","first","column"] (ν ij):=.of rfl
def qa(F:cQ K "number_of_head" "number_of_head" ij f fd)(E:Ev K mg Cm CN CF Ca Cj Cd Ce Cg Ci Cb Cc Ck):ah P w K mg base (bM P w) 1 f fd ["lines","first","column"] (cZ K Td):=by
 refine F.eB kC (λds M q x h=>?_) (λaY A outer s H E' hr=>⟨_,(ζ (ye (Ho E.cW (Θ (jv 1) (μ (dc E.bS (Θ (jv 0) η)) η cw))) (au (i:=3) kC.nd rfl (Or.inl rfl)) aK (θ (aw (s_ hr (Τ (Τ (jv 0) (jv 3)) (jv 2)) χ) (θ (Β (jv 3))) Η)))
   (θ (Β kj))),λds M q x h=>?_⟩)
 ·have⟨ls,f,c,rfl,_⟩:=h;rfl
 ·have⟨ls,f,c,rfl,hf,tW,hc,h1,h2⟩:=h;walk_at "vc";dsimp only[Lo];walk_at "vc";refine(aJ (d:=jJ ls) (xs:=ls.map bZ) rfl ?_:gK [jJ ls] _ _);rw[aah];refine⟨⟨(),(),(),()⟩,?_⟩;refine kz (λzs ρ M'=>M'=M/\∃(n k:Nat) (o:Option Dt),zs=eC k n/\f<=k/\k+n=ls.length/\(∀j,f<=j->j < k->(ls.getD j []).getD c 0=0)/\ρ=[some (jJ ls),some (.int (f:Int)),some (.int (c:Int)),o]) (λx zs ρ M' hj fC=>?_) (λρ M' hj=>?_) _ _ _ ⟨rfl,ls.length - f,f,none,?_,aao _,(),λj a b=>aaK a (),rfl⟩
  ·have⟨rfl,n,k,o,ex,hk,hn,hz,rfl⟩:=hj;have⟨m,rfl,rfl,rfl⟩:=kL ex;have kl:k < ls.length:=()
   have hl:=hc _ (aaw kl);have e1:(ls.getD k []).getD c 0=(ls[k])[c]:=by rw[aad,aad,aac kl];show((ls[k])[c]?).getD 0=_;rw[aac hl];rfl
   walk_at "vc";refine(Ζ (d:=jJ ls) rfl (Et kl) ?_:fo (jJ ls) (.int (k:Int)) _ _);refine(Ζ (d:=bZ ls[k]) rfl (mY hl) ?_:fo (bZ ls[k]) (.int (c:Int)) _ _);refine⟨λz=>?_,λz=>?_⟩
   ·have z:(!decide ((ls[k])[c]=0))=true:=z;refine h2 k hk kl ?_;rw[e1];intro y;rw[aaO y]at z;exact nomatch z
   ·have z:(!decide ((ls[k])[c]=0))=false:=z;have z0:(ls[k])[c]=0:=by
     rcases Decidable.em ((ls[k])[c]=0) with y| y
     ·exact y
     ·rw[aat y]at z;exact nomatch z
    refine fC _ _ ⟨rfl,m,k+1,_,by simp,(),(),λj a b=>?_,rfl⟩;by_cases e:j=k
    ·rw[e,e1];exact z0
    ·exact hz j a ()
  ·have⟨rfl,n,k,o,ex,hk,hn,hz,rfl⟩:=hj;have hn0:n=0:=by have:=aaZ List.length ex;unfold eC at this;simpa using this.symm
   exact h1 λj a b=>hz j a ()
  ·rw[show((ls.length:Int) - (f:Int)).toNat=ls.length - f by omega]
abbrev jN:=Bz.jN
def KL:DF:=λas M q _=>∃(ls:List (List Int)) (f k:Nat),as=[jJ ls,.int (f:Int),.int (k:Int)]/\f<=k/\k < ls.length/\ls.length<=12/\q (jJ (jN ls f k)) M
def vV:Ε ["lines","first","number"] ["lines","first","number"] (ν jX):=.of rfl
def uh(F:cQ K "moved_ahead" "moved_ahead" jX f fd)(E:Ev K mg Cm CN CF Ca Cj Cd Ce Cg Ci Cb Cc Ck):ah P w K mg base (bM P w) 1 f fd ["lines","first","number"] (cZ K KL):=by
 refine F.eB vV (λds M q x h=>?_) (λaY A outer s H E' hr=>⟨_,(θ (Β (jf (jf (jf (cz (x_ (jv 0) (jv 1))) (iI (μ (Τ (jv 0) (jv 2)) η cE))) (cz (F_ (jv 0) (jv 1) (jv 2)))) (cz (k8 (jv 0) (eJ (jv 2) χ)))))),λds M q x h=>?_⟩)
 ·have⟨ls,f,k,rfl,_⟩:=h;rfl
 ·have⟨ls,f,k,rfl,hf,hk,tW,h⟩:=h;have gk:ls.getD k []=ls[k]:=by rw[aad,aac hk];rfl
  have sz:∀{n:Nat},n<=40->n<=sizeLine:=λh=>aax h @_;refine⟨ls.map bZ,f,rfl,rfl,?_⟩;rw[<-List.map_take];refine dt (jm _) ?_;walk_at "vc";refine(Ζ (d:=jJ ls) rfl (Et hk) ?_:fo (jJ ls) (.int (k:Int)) _ _);refine⟨sz (by show 1<=40;decide),(ls.take f).map bZ,[bZ ls[k]],rfl,rfl,sz (by simp;omega),?_⟩;refine⟨f,rfl,ls.map bZ,k,rfl,rfl,?_⟩;rw[<-acg,<-List.map_take];refine dt (jm _) ?_;refine⟨(ls.take f).map bZ++[bZ ls[k]],((ls.drop f).take (k - f)).map bZ,rfl,rfl,sz (by simp;omega),?_⟩;refine⟨ls.map bZ,k+1,rfl,rfl,?_⟩;rw[<-acg];refine dt (jm _) ?_;refine⟨(ls.take f).map bZ++[bZ ls[k]]++((ls.drop f).take (k - f)).map bZ,(ls.drop (k+1)).map bZ,rfl,rfl,sz (by simp;omega),?_⟩;unfold jN Bz.jN at h;rw[gk]at h;have e:(ls.take f).map bZ++[bZ ls[k]]++((ls.drop f).take (k - f)).map bZ++(ls.drop (k+1)).map bZ=(ls.take f++[ls[k]]++(ls.drop f).take (k - f)++ls.drop (k+1)).map bZ:=by rw[aaT,aaT,aaT];rfl
  rw[e];exact h
abbrev cG:=Bz.cG
def Cy:DF:=λas M q _=>∃(l h:List Int) (c:Nat) (d:Int),as=[bZ l,bZ h,.int (c:Int),.int d]/\l.length=h.length/\h.length<=30/\c < h.length/\(∀x∈l,jL x)/\(∀x∈h,jL x)/\d≠0/\jL d/\q (bZ (cG l h c d)) M
def lK:Ε ["line","head","column","divisor"] ["line","head","column","divisor"] (ν jn):=.of rfl
def sQ(F:cQ K "cleared_line" "cleared_line" jn f fd)(E:Ev K mg Cm CN CF Ca Cj Cd Ce Cg Ci Cb Cc Ck):ah P w K mg base (bM P w) 1 f fd ["line","head","column","divisor"] (cZ K Cy):=by
 refine F.eB lK (λds M q x h=>?_) (λaY A outer s H E' hr=>⟨_,(θ (Β (Mo (ys:=["divisor","head","column","line"]) (Μ:=[3,1,2,0]) (.of lK rfl rfl rfl) (Jp E.zc (Θ (jv 0) (Θ (jv 1) η))) (λC s H fp=>(C2 (nU (eA (Τ (jv 3) (jv 4)) (jv 0)) (eA (Τ (jv 5) (jv 4)) (jv 1))) (jv 2)))))),λds M q x h=>?_⟩)
 ·have⟨l,h',c,d,rfl,_⟩:=h;rfl
 ·have⟨l,hd,c,d,rfl,hl,h30,hc,bl,bh,d0,bd,h⟩:=h;have cl:c < l.length:=()
  have g1:hd.getD c 0=hd[c]:=by rw[aad,aac hc];rfl
  have VM:l.getD c 0=l[c]:=by rw[aad,aac cl];rfl
  refine⟨bZ l,bZ hd,l.map Dt.int,hd.map Dt.int,λ_=>True,λ_=>True,rfl,rfl,rfl,?_⟩;have ez:ux (l.map Dt.int) (hd.map Dt.int)=(l.zip hd).map λp=>.tup [.int p.1,.int p.2]:=by unfold ux;rw[List.zip_map,aaV];rfl
  rw[ez];refine⟨?_,?_⟩
  ·rw[aah,abG];exact aax (show _<=30 by omega) @_
  refine vJ ⟨trivial,trivial⟩ (λx=>match x with| .tup [.int a,.int b]=>.int ((hd.getD c 0 * a - l.getD c 0 * b).fdiv d)| _=>.aE) _ _ (λx hx q' hq=>?_) ?_
  ·have⟨p,hp,rfl⟩:=aau.mp hx;have hq:q' (.int ((hd.getD c 0 * p.1 - l.getD c 0 * p.2).fdiv d)) M:=hq;have p1:=bl p.1 (acd hp).1;have p2:=bh p.2 (acd hp).2;rw[g1,VM]at hq;have key:fo (bZ hd) (.int (c:Int)) M (λx M1=>Jc x (.int p.1) M1 λy M2=>fo (bZ l) (.int (c:Int)) M2 λz M3=>Jc z (.int p.2) M3 λu M4=>yy y u M4 λv M5=>Fl v (.int d) M5 q'):=by refine Ζ (d:=bZ hd) rfl (mY hc) ⟨⟨bh _ (aaw hc),p1⟩,?_⟩;refine Ζ (d:=bZ l) rfl (mY cl) ⟨⟨bl _ (aaw cl),p2⟩,?_⟩;exact⟨⟨d0,bd⟩,hq⟩
   exact key
  ·rw[aaS,aaV];unfold cG Bz.cG at h;rw[show bZ ((l.zip hd).map λp=>(hd.getD c 0 * p.1 - l.getD c 0 * p.2).fdiv d)= .lst ((l.zip hd).map λp=>Dt.int ((hd.getD c 0 * p.1 - l.getD c 0 * p.2).fdiv d)) by show Dt.lst _=_;rw[aaV];rfl]at h;exact h
def zU{a b:Int}(h0:0<=a)(h:a<=b):∀n:Nat,a ^ n<=b ^ n
 | 0=>by rw[Int.pow_zero,Int.pow_zero];exact Int.le_refl _
 | n+1=>by rw[abT,abT];exact Int.mul_le_mul (zU h0 h n) h h0 (ab7 ())
def DG{x:Int}{r:Nat}(h:Bz.Ab x (Bz.top B r))(h1:1<=B)(hB:B<=2 ^ 450)(hr:r<=12):jL x:=by
 have e1:Bz.top B r<=(12 * B) ^ 15:=Bz.w4 h1 ();have e2:(12 * B) ^ 15<=(12 * 2 ^ 450) ^ 15:=zU () () 15;have e3:((12 * 2 ^ 450) ^ 15:Int) < ((2 ^ 8000:Nat):Int):=@_
 have:(x.natAbs:Int) < ((2 ^ 8000:Nat):Int):=by have⟨a,b⟩:=h;omega
 exact abV.mp this
section
variable{col:Nat}{ρ ι:List Nat}{qq:Nat->Nat}{d:Int}
def zI(t:Bz.Turn A n col ρ ι qq d W)(b:Bz.Bd A n m B)(hB:B<=2 ^ 450)(hm:col<=m)(hr:ρ.length<=12):(∀i,i < n->∀x∈Bz.av A n m (W i),jL x)/\jL d:=by
 have⟨a1,a2,a3⟩:=t.st.abs b (λc hc=>aas (t.cl c hc) hm) hr;refine⟨λi hi x hx=>?_,DG a3 b.b1 hB hr⟩;unfold Bz.av at hx;rcases aa8.mp hx with z| z
 ·have⟨y,hy,rfl⟩:=aau.mp z;exact DG (a2 i y hi (abg.mp hy)) b.b1 hB hr
 ·have⟨y,hy,rfl⟩:=aau.mp z;exact DG (a1 i y hi) b.b1 hB hr
end
def cf(n:Nat):Dt:=.int n
def Ew{n:Nat}:∀(l:List Nat),Dt.bq n (l.map cf)
 | []=>trivial
 | _::l=>⟨trivial,Ew l⟩
def vD{l:List Int}(h:l∈Bz.Φ A n m W):∃i,i < n/\l=Bz.av A n m (W i):=by unfold Bz.Φ at h;have⟨i,hi,e⟩:=aau.mp h;exact⟨i,abg.mp hi,e.symm⟩
def rS{α:Type}(a:α):∀u:Nat,(List.replicate u [a]).flatten=List.replicate u a
 | 0=>rfl
 | u+1=>by rw[abe,aby,rS a u];rfl
structure Cw(γ:List (List Int))(u:Nat)(B:Int):Prop where
 n1:1<=γ.length
 HC:γ.length<=12
 Sa:u<=12
 ml:∀r∈γ,r.length=u+1
 bd:Bz.Bd (Bz.arr γ) γ.length (u+1) B
 UI:B<=2 ^ 450
def y6:DF:=λas M q _=>∃(γ:List (List Int)) (u:Nat) (B:Int),as=[jJ γ,.int (u:Int)]/\Cw γ u B/\
 ∀ρ ι qq d W,Bz.Turn (Bz.arr γ) γ.length u ρ ι qq d W->q (.tup [jJ (Bz.Φ (Bz.arr γ) γ.length (u+1) W),.loc M.length]) (M++[.lst (ι.map cf)])
def aU:Ε ["rows","unknowns","lines","columns","divisor","column","rank","number","head","above","below"] ["rows","unknowns"] (ν rH):=.of rfl
def CA(F:cQ K "cleared" "cleared" rH f fd)(E:Ev K mg Cm CN CF Ca Cj Cd Ce Cg Ci Cb Cc Ck){xU:Addr}{xm:FuncData}(ik:aB P w K mg base 1 "with_weights" ["rows"] O0 xU xm){ub:Addr}{uC:FuncData}(fZ:aB P w K mg base 1 "number_of_head" ["lines","first","column"] Td ub uC){yT:Addr}{yR:FuncData}(i0:aB P w K mg base 1 "moved_ahead" ["lines","first","number"] KL yT yR){wI:Addr}{yt:FuncData}(e6:aB P w K mg base 1 "cleared_line" ["line","head","column","divisor"] Cy wI yt):ah P w K mg base (bM P w) 2 f fd ["rows","unknowns"] (cZ K y6):=by
 refine F.eB aU (λds M q x h=>?_) (λaY A outer s H E' hr=>⟨_,(ζ (Δ 2 aU.nd (cz (ar ik hr ο (Θ (jv 0) η))))
   (ζ (Δ 3 aU.nd (oV η))
   (ζ (Δ 4 aU.nd χ)
   (ζ (ye (d8 E.cW (Θ (jv 1) η)) (au (i:=5) aU.nd rfl (Or.inr rfl)) aK (ζ (Δ 6 aU.nd (dc E.bS (Θ (jv 3) η)))
   (ζ (Δ 7 aU.nd (ar fZ hr ο (Θ (jv 2) (Θ (jv 6) (Θ (jv 5) η)))))
   (ζ (aw (Bw (jv 7) kj) (θ z5) Η)
   (ζ (Δ 2 aU.nd (ar i0 hr ο (Θ (jv 2) (Θ (jv 6) (Θ (jv 7) η)))))
   (ζ (Δ 8 aU.nd (Τ (jv 2) (jv 6)))
   (ζ (hG (i:=9) aU.nd rfl (Or.inl rfl) (ys:=["head","column","divisor"]) (Μ:=[8,5,4]) (.of aU rfl rfl rfl) (aT (cz (x_ (jv 2) (jv 6)))) (λC s H fp=>(ar e6 hr (cL (P:=P) (w:=w)) (Θ (jv 0) (Θ (jv 1) (Θ (jv 2) (Θ (jv 3) η)))))))
   (ζ (hG (i:=10) aU.nd rfl (Or.inl rfl) (ys:=["head","column","divisor"]) (Μ:=[8,5,4]) (.of aU rfl rfl rfl) (aT (cz (k8 (jv 2) (eJ (jv 6) χ)))) (λC s H fp=>(ar e6 hr (cL (P:=P) (w:=w)) (Θ (jv 0) (Θ (jv 1) (Θ (jv 2) (Θ (jv 3) η)))))))
   (ζ (Δ 2 aU.nd (jf (jf (jv 9) (iI (Θ (jv 8) η))) (jv 10)))
   (ζ (Δ 4 aU.nd (Τ (jv 8) (jv 5)))
   (θ (dX (gG (jv 3) (Θ (jv 5) η))))))))))))))
   (θ (Β (bQ (Θ (jv 2) (Θ (jv 3) η))))))))),λds M q x h=>?_⟩)
 ·have⟨γ,u,B,rfl,_⟩:=h;rfl
 ·have⟨γ,u,B,rfl,ro,h⟩:=h;have n1:=ro.n1;have HC:=ro.HC;have Sa:=ro.Sa;refine⟨γ,rfl,HC,λr ve=>by rw[ro.ml r ve];omega,λE0'=>?_⟩;rw[Bz.AV ro.ml];refine hU (d':=jJ (Bz.Φ (Bz.arr γ) γ.length (u+1) λi=>Bz.ind i)) (.Aa (Nat.le_refl _) (by simp) (fY.old (jm _))) ?_;generalize hA:Bz.arr γ=A at *
  generalize hn:γ.length=n at *
  refine⟨@_,?_⟩;walk_at "vc";refine⟨⟨(),()⟩,?_⟩;refine kz (λzs ρ' M'=>∃(c k:Nat) (ρ ι:List Nat) (qq:Nat->Nat) (d:Int) (W:Nat->Bz.Row) (o1 o2 o3 o4 o5 o6:Option Dt),zs=eC k c/\k+c=u/\Bz.Turn A n k ρ ι qq d W/\M'=M++[MO.lst (ι.map cf)]/\ρ'=[some (jJ γ),some (.int (u:Int)),some (jJ (Bz.Φ A n (u+1) W)),some (.loc M.length),some (.int d),o1,o2,o3,o4,o5,o6]) (λx zs ρ' M' hj fC=>?_) (λρ' M' hj=>?_) _ _ _ ⟨u,0,[],[],id,1,_,none,none,none,none,none,none,by simp,by simp,Bz.Turn.start,rfl,rfl⟩
  ·have⟨c,k,ρ,ι,qq,d,W,o1,o2,o3,o4,o5,o6,ex,hkc,t,rfl,rfl⟩:=hj;have⟨m,rfl,rfl,rfl⟩:=kL ex;have lc:ι.length=ρ.length:=t.st.lc;have rn:ρ.length<=n:=t.st.rn;have hs1:fG (M++[MO.lst (ι.map cf)]) (.loc M.length)=some (ι.map cf):=IF (gW aQ);walk_at "vc";refine(aJ (d:=.loc M.length) hs1 ?_:gK [.loc M.length] _ _);rw[aah,lc];refine⟨Bz.Φ A n (u+1) W,ρ.length,k,rfl,by rw[Bz.cP];exact rn,by rw[Bz.cP];exact HC,λl hl=>?_,λhz=>?_,λk' h1 h2 h0=>?_⟩
   ·have⟨i,_,rfl⟩:=vD hl;rw[Bz.d_];omega
   ·refine⟨λ_=>?_,nofun⟩;refine fC _ _ ⟨m,k+1,ρ,ι,qq,d,W,_,_,_,_,_,_,by simp,(),t.skip λi a b=>?_,rfl,rfl⟩;have:=hz i a (by rw[Bz.cP];exact b);rw[Bz.ku b,Bz.gQ ()]at this;exact this
   ·rw[Bz.cP]at h2;rw[Bz.ku h2,Bz.gQ (show k < u+1 by omega)]at h0;refine⟨nofun,λ_=>?_⟩;refine⟨Bz.Φ A n (u+1) W,ρ.length,k',rfl,h1,by rw[Bz.cP];exact h2,by rw[Bz.cP];exact HC,?_⟩;rw[show jN (Bz.Φ A n (u+1) W) ρ.length k'=_ from Bz.Au h1 h2];have t1:=t.move h1 h2;have SG:ρ.length < n:=()
    have h0':Bz.rv A n (W (Bz.iY ρ.length k' ρ.length)) k≠0:=by
     have:Bz.iY ρ.length k' ρ.length=k':=by unfold Bz.iY;rw[if_neg (Nat.lt_irrefl _),if_pos rfl]
     rw[this];exact h0
    clear h0 h1 h2 t;generalize hW1:(λi=>W (Bz.iY ρ.length k' i))=W1 at *
    generalize T4:(λi=>qq (Bz.iY ρ.length k' i))=q1 at *
    have e1:W (Bz.iY ρ.length k' ρ.length)=W1 ρ.length:=by rw[<-hW1]
    rw[e1]at h0';have⟨bl,bd⟩:=zI t1 (m:=u+1) (by subst hA hn;exact ro.bd) ro.UI () ();have⟨W',t2,el⟩:=t1.step (m:=u+1) SG () h0';have QB:(Bz.Φ A n (u+1) W1).length=n:=Bz.cP;have hdg:(Bz.Φ A n (u+1) W1)[ρ.length]'(by rw[QB];exact SG)=Bz.av A n (u+1) (W1 ρ.length):=by have:=Bz.ku (A:=A) (m:=u+1) (W:=W1) SG;rw[aad,aac (by rw[QB];exact SG)]at this;exact this
    have clr:∀l∈Bz.Φ A n (u+1) W1,∀q':DQ,q' (bZ (cG l (Bz.av A n (u+1) (W1 ρ.length)) k d)) (M++[MO.lst (ι.map cf)])->Cy [bZ l,bZ (Bz.av A n (u+1) (W1 ρ.length)),.int (k:Int),.int d] (M++[MO.lst (ι.map cf)]) q' (λC fs M'=>iL [] C fs M'):=λl hl q' jF=>by have⟨i,hi,rfl⟩:=vD hl;exact⟨_,_,k,d,rfl,by rw[Bz.d_,Bz.d_],by rw[Bz.d_];omega,by rw[Bz.d_];omega,bl i hi,bl _ SG,t1.d0,bd,jF⟩
    walk_at "vc";refine(Ζ (d:=jJ (Bz.Φ A n (u+1) W1)) rfl (Et (by rw[QB];exact SG)) ?_:fo (jJ (Bz.Φ A n (u+1) W1)) (.int (ρ.length:Int)) _ _);rw[hdg];have sz:∀{z:Nat},z<=40->z<=sizeLine:=λh=>aax h @_;refine⟨(Bz.Φ A n (u+1) W1).map bZ,ρ.length,rfl,rfl,?_⟩;rw[<-List.map_take];refine dt (jm _) ⟨sz (by rw[aah,List.length_take];omega),?_⟩;refine cF (F:=λx a=>x=bZ a/\a∈Bz.Φ A n (u+1) W1) (f:=λl=>bZ (cG l (Bz.av A n (u+1) (W1 ρ.length)) k d)) trivial (λx a ha q' jF=>by have⟨rfl,ha⟩:=ha;exact clr a ha q' jF) (gC bZ _ _ λ_ h=>List.mem_of_mem_take h) ?_;rw[aaS];refine⟨(Bz.Φ A n (u+1) W1).map bZ,ρ.length+1,rfl,rfl,?_⟩;rw[<-acg];refine dt (jm _) ⟨sz (by rw[aah,abM];omega),?_⟩;refine cF (F:=λx a=>x=bZ a/\a∈Bz.Φ A n (u+1) W1) (f:=λl=>bZ (cG l (Bz.av A n (u+1) (W1 ρ.length)) k d)) trivial (λx a ha q' jF=>by have⟨rfl,ha⟩:=ha;exact clr a ha q' jF) (gC bZ _ _ λ_ h=>List.mem_of_mem_drop h) ?_;rw[aaS];refine⟨by show 1<=sizeLine;decide,_,_,rfl,rfl,sz (by simp;omega),_,_,rfl,rfl,sz (by simp;omega),?_⟩;have ek:k < (Bz.av A n (u+1) (W1 ρ.length)).length:=by rw[Bz.d_];omega
    have ev:(Bz.av A n (u+1) (W1 ρ.length))[k]=Bz.rv A n (W1 ρ.length) k:=by have:=Bz.gQ (A:=A) (n:=n) (m:=u+1) (x:=k) (w:=W1 ρ.length) ();rw[aad,aac ek]at this;exact this
    refine Ζ (d:=bZ (Bz.av A n (u+1) (W1 ρ.length))) rfl (mY ek) ?_;rw[ev];refine⟨⟨M.length,_,rfl,aQ⟩,M.length,_,_,rfl,rfl,aQ,?_,?_⟩
    ·rw[aah,lc];exact abc (show _<=12 by omega) @_
    rw[e9];have ee:=aaZ (List.map bZ) el;rw[aaT,aaT,aaV,aaV]at ee;refine fC _ _ ⟨m,k+1,ρ++[q1 ρ.length],ι++[k],q1,_,W',some (.int (k:Int)),some (.int (ρ.length:Int)),some (.int (k':Int)),some (bZ (Bz.av A n (u+1) (W1 ρ.length))),some (.lst (((Bz.Φ A n (u+1) W1).take ρ.length).map λl=>bZ (cG l (Bz.av A n (u+1) (W1 ρ.length)) k d))),some (.lst (((Bz.Φ A n (u+1) W1).drop (ρ.length+1)).map λl=>bZ (cG l (Bz.av A n (u+1) (W1 ρ.length)) k d))),by simp,(),t2,by simp[cf],?_⟩;show _=[some (jJ γ),some (Dt.int (u:Int)),some (Dt.lst ((Bz.Φ A n (u+1) W').map bZ)),some (Dt.loc M.length),some (Dt.int _),_,_,_,_,_,_];rw[<-ee];rfl
  ·have⟨c,k,ρ,ι,qq,d,W,o1,o2,o3,o4,o5,o6,ex,hkc,t,rfl,rfl⟩:=hj;have hn0:c=0:=by have:=aaZ List.length ex;unfold eC at this;simpa using this.symm
   have:k=u:=()
   subst this;exact⟨D2,h _ _ _ _ _ t⟩
def OJ:DF:=λas M q _=>∃(γ:List (List Int)) (u:Nat) (B:Int) (ρ ι:List Nat) (qq:Nat->Nat) (d:Int) (W:Nat->Bz.Row),as=[jJ (Bz.Φ (Bz.arr γ) γ.length (u+1) W),.lst (ι.map cf),.int (u:Int),.int (u:Int)]/\Cw γ u B/\Bz.Turn (Bz.arr γ) γ.length u ρ ι qq d W/\ι=List.range u/\
 q (.loc M.length) (M++[.lst ((List.range u).map λi=>az (cj (Bz.rv (Bz.arr γ) γ.length (W i) u) d))])
def gM:Ε ["lines","columns","unknowns","source","told","line","column"] ["lines","columns","unknowns","source"] (ν l9):=.of rfl
def wq(F:cQ K "quotients" "quotients" l9 f fd)(E:Ev K mg Cm CN CF Ca Cj Cd Ce Cg Ci Cb Cc Ck)(bW:aB P w K mg base 2 "fraction" ["top","bottom"] vL iK iG):ah P w K mg base (bM P w) 3 f fd ["lines","columns","unknowns","source"] (cZ K OJ):=by
 refine F.eB gM (λds M q x h=>?_) (λaY A outer s H E' hr=>⟨_,(ζ (Δ 4 gM.nd (Be (fM 3 (d:=.lst [.tup [.int 0,.int 1]]) (by rfl)) (jv 2)))
   (ζ (bK (Jp E.zc (Θ (jv 0) (Θ (jv 1) η))) (oE rfl (b8 (au (i:=5) gM.nd rfl (Or.inl rfl)) (b8 (au (i:=6) gM.nd rfl (Or.inl rfl)) kO))) mE (θ (kE (jv 4) (jv 6) (ar bW hr ο (μ (Τ (jv 5) (jv 3)) (μ (Τ (jv 5) (jv 6)) η cE) cE)))))
   (θ (Β (jv 4))))),λds M q x h=>?_⟩)
 ·have⟨γ,u,B,ρ,ι,qq,d,W,rfl,_⟩:=h;rfl
 ·have⟨γ,u,B,ρ,ι,qq,d,W,rfl,ro,t,hc,h⟩:=h;have Sa:=ro.Sa;have HC:=ro.HC;have hl:ρ.length=u:=by rw[<-t.st.lc,hc,aba]
  have un:u<=γ.length:=by rw[<-hl];exact t.st.rn
  have⟨bl,bd⟩:=zI t (m:=u+1) ro.bd ro.UI () ();have d0:=t.d0;have one:∀i,i < u->Bz.rv (Bz.arr γ) γ.length (W i) i=d:=λi hi=>by have:=t.st.one i i () ();rw[aay rfl,hc,aad,aaQ hi]at this;exact this
  generalize hA:Bz.arr γ=A at *
  generalize hn:γ.length=n at *
  let tl:Nat->List Dt:=λk=>(List.range u).map λi=>if i < k then az (cj (Bz.rv A n (W i) u) d) else az (0,1)
  have t0:(List.replicate (u:Int).toNat [az (0,1)]).flatten=tl 0:=by
   show _=(List.range u).map λi=>if i < 0 then _ else az (0,1)
   rw[show((u:Int)).toNat=u by omega];apply abh
   ·simp
   ·intro j h1 h2;have e:(List.replicate u [az (0,1)]).flatten=List.replicate u (az (0,1)):=rS _ u;simp[e]
  have ts:∀k,k < u->(tl k).set k (az (cj (Bz.rv A n (W k) u) d))=tl (k+1):=λk hk=>by
   apply abh
   ·simp[tl]
   ·intro j h1 h2;rw[List.getElem_set];simp only[tl,List.getElem_map,List.getElem_range];by_cases e:k=j
    ·subst e;rw[aay rfl,aay ()]
    ·rw[aaF e];by_cases f:j < k
     ·rw[aay f,aay ()]
     ·rw[aaF f,aaF ()]
  refine⟨[az (0,1)],u,rfl,rfl,(),(),?_,?_⟩
  ·show 1 * ((u:Int)).toNat<=sizeLine;exact aax (show _<=12 by omega) @_
  rw[t0];refine⟨jJ (Bz.Φ A n (u+1) W),.lst (ι.map cf),_,_,λ_=>True,λ_=>True,rfl,rfl,rfl,?_⟩;have ez:ux ((Bz.Φ A n (u+1) W).map bZ) (ι.map cf)=(List.range u).map λi=>.tup [bZ (Bz.av A n (u+1) (W i)),cf i]:=by
   unfold ux Bz.Φ;rw[hc];apply abh
   ·simp;omega
   ·intro j h1 h2;simp
  rw[ez];refine aO (λzs ρ' M'=>∃(k:Nat) (o1 o2:Option Dt),k<=u/\zs=((List.range u).drop k).map (λi=>.tup [bZ (Bz.av A n (u+1) (W i)),cf i])/\M'=M++[MO.lst (tl k)]/\ρ'=[some (jJ (Bz.Φ A n (u+1) W)),some (.lst (ι.map cf)),some (.int (u:Int)),some (.int (u:Int)),some (.loc M.length),o1,o2]) (λzs ρ' M' hj=>⟨trivial,trivial⟩) (λx zs ρ' M' hj fC=>?_) (λρ' M' hj=>?_) _ _ _ ⟨0,none,none,abW _,rfl,rfl,rfl⟩
  ·have⟨k,o1,o2,hk,ex,rfl,rfl⟩:=hj;have EB:k < u:=by
    rcases Nat.lt_or_ge k u with z| z
    ·exact z
    ·rw[List.drop_of_length_le (by simpa using z)]at ex;cases ex
   rw[List.drop_eq_getElem_cons (by simpa using EB),List.map_cons,List.getElem_range]at ex;cases ex;have ek:k < (Bz.av A n (u+1) (W k)).length:=by rw[Bz.d_];omega
   have eu:u < (Bz.av A n (u+1) (W k)).length:=by rw[Bz.d_];omega
   have v1:(Bz.av A n (u+1) (W k))[k]=d:=by have:=Bz.gQ (A:=A) (n:=n) (m:=u+1) (x:=k) (w:=W k) ();rw[aad,aac ek]at this;rw[<-one k EB];exact this
   have v2:(Bz.av A n (u+1) (W k))[u]=Bz.rv A n (W k) u:=by have:=Bz.gQ (A:=A) (n:=n) (m:=u+1) (x:=u) (w:=W k) ();rw[aad,aac eu]at this;exact this
   dsimp only[g2,wO];walk_at "vc";refine Ζ (d:=bZ (Bz.av A n (u+1) (W k))) rfl (mY eu) ?_;refine Ζ (d:=bZ (Bz.av A n (u+1) (W k))) rfl (mY ek) ?_;rw[v1,v2];refine⟨bd,λz=>aaK z d0,λ_=>?_⟩;refine⟨M.length,k,_,k,rfl,rfl,aQ,?_,?_⟩
   ·rw[show(tl k).length=u by simp[tl]];exact qR EB
   rw[e9];refine fC _ _ ⟨k+1,_,_,EB,rfl,?_,rfl⟩;rw[<-ts k EB];rfl
  ·have⟨k,o1,o2,hk,ex,rfl,rfl⟩:=hj;have:k=u:=by have:=aaZ List.length ex;simp at this;omega
   subst this;have e:tl k=(List.range k).map λi=>az (cj (Bz.rv A n (W i) k) d):=abo λi hi=>by rw[aay (abg.mp hi)]
   rw[e];exact h
def xW:DF:=λas M q _=>∃(γ:List (List Int)) (u:Nat) (B:Int) (EH:List Fr) (z:Bz.Row) (N:Int),as=[jJ γ]/\Cw γ u B/\1<=u/\EH.length=u/\Bz.RA (Bz.arr γ) γ.length u z N/\N≠0/\
 (∀i,i < u->0 < (EH.getD i (0,1)).2/\Int.gcd (EH.getD i (0,1)).1 (EH.getD i (0,1)).2=1/\N * (EH.getD i (0,1)).1=z i * (EH.getD i (0,1)).2)/\
 (∀y:Bz.Row,(∀k,k < γ.length->Bz.υ (λx=>Bz.arr γ k x * y x) u=0)->∀x,x < u->y x=0)/\q (.loc M.length) (M++[.lst (EH.map az)])
def dD:Ε ["rows","unknowns","found","lines","columns","line","answer"] ["rows"] (ν oF):=.of rfl
def zO(F:cQ K "answer_of" "answer_of" oF f fd)(E:Ev K mg Cm CN CF Ca Cj Cd Ce Cg Ci Cb Cc Ck){Jv:Addr}{Jy:FuncData}(pH:aB P w K mg base 2 "cleared" ["rows","unknowns"] y6 Jv Jy){C9:Addr}{BU:FuncData}(j_:aB P w K mg base 3 "quotients" ["lines","columns","unknowns","source"] OJ C9 BU):ah P w K mg base (bM P w) 4 f fd ["rows"] (cZ K xW):=by
 refine F.eB dD (λds M q x h=>?_) (λaY A outer s H E' hr=>⟨_,(ζ (Δ 1 dD.nd (nU (dc E.bS (μ (Τ (jv 0) χ) η cE)) χ))
   (ζ (Δ 2 dD.nd (cz (ar pH hr ο (Θ (jv 0) (Θ (jv 1) η)))))
   (ζ (Δ 3 dD.nd (Τ (jv 2) χ))
   (ζ (Δ 4 dD.nd (Τ (jv 2) χ))
   (ζ (bK (aT (cz (k8 (jv 3) (dc E.bS (Θ (jv 4) η))))) (au (i:=5) dD.nd rfl (Or.inl rfl)) aK (θ (aw (s_ hr (Τ (jv 5) (jv 1)) χ) (θ iA) Η)))
   (ζ (Δ 6 dD.nd (ar j_ hr ο (Θ (jv 3) (Θ (jv 4) (Θ (jv 1) (Θ (jv 1) η))))))
   (ζ (aw (sf (dc E.bS (Θ (jv 4) η)) (jv 1)) (θ iA) Η)
   (θ (Β (jv 6)))))))))),λds M q x h=>?_⟩)
 ·have⟨γ,u,B,EH,z,N,rfl,_⟩:=h;rfl
 ·have⟨γ,u,B,EH,z,N,rfl,ro,u1,dl,sol,hN,YL,XT,h⟩:=h;have n1:=ro.n1;have HC:=ro.HC;have Sa:=ro.Sa;have r0:0 < γ.length:=()
  have m0:γ[0].length=u+1:=ro.ml _ (aaw r0);walk_at "vc";refine(Ζ (d:=jJ γ) rfl (Et r0) ?_:fo (jJ γ) (.int 0) _ _);refine(aJ (d:=bZ γ[0]) (xs:=γ[0].map Dt.int) rfl ?_:gK [bZ γ[0]] _ _);rw[aah,m0];dsimp only[yy];rw[show(((u+1:Nat):Int) - 1)=(u:Int) by omega];refine⟨γ,u,B,rfl,ro,λρ ι qq d W t=>?_⟩;have Eb:ι=List.range u:=by
   rcases t.all with e| ⟨x,hx,hf⟩
   ·exact e
   ·have⟨y,y1,y2⟩:=t.kernel hx hf;have:=XT y y2 x hx;rw[this]at y1;exact aaK () t.d0
  have hl:ρ.length=u:=by rw[<-t.st.lc,Eb,aba]
  have un:u<=γ.length:=by rw[<-hl];exact t.st.rn
  refine hU (d':=.tup [jJ (Bz.Φ (Bz.arr γ) γ.length (u+1) W),.lst (ι.map cf)]) (.tup (.cons (.old (jm _)) (.cons (.Aa (Nat.le_refl _) (by simp) (fY.old (Ew _))) .nil))) ?_;have told:(List.range u).map (λi=>az (cj (Bz.rv (Bz.arr γ) γ.length (W i) u) d))=EH.map az:=by
   apply abh
   ·simp[dl]
   ·intro i h1 h2;have hi:i < u:=by simpa using h1
    simp only[List.getElem_map,List.getElem_range];have⟨p0,p1,p2⟩:=YL i hi;have gi:EH.getD i (0,1)=EH[i]:=by rw[aad,aac ()];rfl
    rw[gi]at p0 p1 p2;have e:=t.told Eb sol hi
    congr 1
    have:cj (Bz.rv (Bz.arr γ) γ.length (W i) u) d=(EH[i].1,EH[i].2):=wN t.d0 p0 p1 (by
     refine aa4 hN ?_
     grind)
    exact this
  refine(Ζ (d:=.tup [jJ (Bz.Φ (Bz.arr γ) γ.length (u+1) W),.lst (ι.map cf)]) rfl bJ ?_:fo (.tup [jJ (Bz.Φ (Bz.arr γ) γ.length (u+1) W),.lst (ι.map cf)]) (.int 0) _ _);refine(Ζ (d:=.tup [jJ (Bz.Φ (Bz.arr γ) γ.length (u+1) W),.lst (ι.map cf)]) rfl (ag (j:=1) rfl) ?_:fo (.tup [jJ (Bz.Φ (Bz.arr γ) γ.length (u+1) W),.lst (ι.map cf)]) (.int 1) _ _);have lcu:(ι.map cf).length=u:=by rw[aah,Eb,aba]
  dsimp only[nD,da,XC,UQ];walk_at "vc";refine(aJ (d:=.lst (ι.map cf)) (xs:=ι.map cf) rfl ?_:gK [.lst (ι.map cf)] _ _);refine⟨(Bz.Φ (Bz.arr γ) γ.length (u+1) W).map bZ,(ι.map cf).length,rfl,rfl,?_⟩;rw[lcu,<-acg];refine dt (jm _) ?_;have hz:∀l∈(Bz.Φ (Bz.arr γ) γ.length (u+1) W).drop u,u < l.length/\l.getD u 0=0:=λl EY=>by
   have⟨j,hj,e⟩:=abf EY;rw[List.getElem_drop]at e;rw[abM,Bz.cP]at hj;have hu:u+j < γ.length:=()
   have el:l=Bz.av (Bz.arr γ) γ.length (u+1) (W (u+j)):=by have:=Bz.ku (A:=Bz.arr γ) (m:=u+1) (W:=W) hu;rw[aad,aac (by rw[Bz.cP];exact hu)]at this;rw[<-e];exact this
   rw[el];refine⟨by rw[Bz.d_];omega,?_⟩;rw[Bz.gQ ()];exact t.rest sol hN () hu
  refine aO (λzs ρ' M'=>M'=M/\∃(rest:List (List Int)) (o:Option Dt),zs=rest.map bZ/\(∀l∈rest,u < l.length/\l.getD u 0=0)/\ρ'=[some (jJ γ),some (.int (u:Int)),some (.tup [jJ (Bz.Φ (Bz.arr γ) γ.length (u+1) W),.lst (ι.map cf)]),some (jJ (Bz.Φ (Bz.arr γ) γ.length (u+1) W)),some (.lst (ι.map cf)),o,none]) (λzs ρ' M' hj=>trivial) (λx zs ρ' M' hj fC=>?_) (λρ' M' hj=>?_) _ _ _ ⟨rfl,_,none,rfl,hz,rfl⟩
  ·have⟨rfl,rest,o,ex,ve,rfl⟩:=hj;cases rest with
   | nil=>cases ex
   | cons l rest=>
    cases ex;have⟨l1,l2⟩:=ve l aaf;have lv:l[u]=0:=by rw[aad,aac l1]at l2;exact l2
    walk_at "vc";refine(Ζ (d:=bZ l) rfl (mY l1) ?_:fo (bZ l) (.int (u:Int)) _ _);rw[lv];exact⟨nofun,λ_=>fC _ _ ⟨rfl,rest,_,rfl,λy hy=>ve y (aae _ hy),rfl⟩⟩
  ·have⟨rfl,rest,o,ex,ve,rfl⟩:=hj;refine⟨γ,u,B,ρ,ι,qq,d,W,rfl,ro,t,Eb,?_⟩;rw[told];walk_at "vc";refine(aJ (d:=.lst (ι.map cf)) (xs:=ι.map cf) rfl ?_:gK [.lst (ι.map cf)] _ _);rw[lcu];refine⟨λz=>?_,λ_=>h⟩;have z:(u:Int) < u:=aaC z;omega
structure Ch(B:Int)(c:Fr):Prop where
 pos:0 < c.2
 he:nQ c B
 u:lZ c
 sz:Sz 300 c
def Kg{p:Fr}(h:p.2∣E):nQ p E:=by have⟨k,e⟩:=h;exact⟨p.1 * k,by rw[e];grind⟩
def rC:∀{l:List Int} {a:Int},(∀b∈l,0 < b)->a∈l->a<=l.sum
 | b::l,a,h,ha=>by
  have ih:∀{l:List Int},(∀b∈l,0 < b)->0<=l.sum:=λ{l}=>by
   induction l with
   | nil=>intro _;exact Int.le_refl _
   | cons c l ih=>
    intro h;have:=ih λd hd=>h d (aae _ hd);have:=h c aaf;rw[List.sum_cons];omega
  rw[List.sum_cons];have h0:=h b aaf;rcases aaG.mp ha with e| e
  ·have:=ih λd hd=>h d (aae _ hd);omega
  ·have:=rC (λd hd=>h d (aae _ hd)) e;omega
def N4{cs:List Fr}(o:FN cs){c:Fr}(hc:c∈cs):0 < c.2/\c.2∣br cs/\lZ c/\Sz 300 c:=by
 have⟨a,b,d⟩:=o.HD.2 c hc;have B0:=o.b0;have⟨_,_,hB⟩:=iT cs 1 0 @_ (ab4 _) λc hc=>⟨(o.HD.2 c hc).1,ab4 _⟩;have dv:c.2∣br cs:=hB c hc
 have le:=rC (l:=cs.map (jU (br cs))) (λb hb=>by
  have⟨x,hx,rfl⟩:=aau.mp hb
  exact o.pos x hx) (aau.mpr ⟨c,hc,rfl⟩)
 rw[o.sum]at le;have wp:=o.pos c hc;unfold jU at le wp;have⟨m,em⟩:=dv;have em':br cs / c.2=m:=by rw[em];exact abB m ()
 rw[em']at le wp;have m0:0 < m:=by
  rw[em]at B0;rcases Int.lt_or_le 0 m with z| z
  ·exact z
  ·have:=aa1 z (aaE a);omega
 have c0:0<=c.1:=by
  rcases Int.lt_or_le c.1 0 with z| z
  ·have:=aa7 (aaE z) (aaE m0);omega
  ·exact z
 have c1:c.1<=c.2:=by rw[em]at le;exact Int.le_of_mul_le_mul_right le m0
 refine⟨a,⟨m,em⟩,⟨c0,c1⟩,wy (k:=200) ⟨d,a,?_⟩ @_⟩;have:(c.2.natAbs:Int) < ((2 ^ 200:Nat):Int):=by rw[abb (aaE a)];exact b
 exact abV.mp this
abbrev Pl:=List (Int×Int)
def kP(pl:Pl):List Key:=pl.map λp=>Sum.inl p.1
def vP(pl:Pl):List Dt:=pl.map λp=>Dt.int p.2
abbrev dP(pl:Pl):MO:=.lH (kP pl) (vP pl)
def Υ:Pl->Int->Option Int
 | [],_=>none
 | p::r,i=>if p.1=i then some p.2 else Υ r i
def jG(pl:Pl)(i v:Int):Pl:=if (Υ pl i).isSome=true then pl.map (λp=>if p.1=i then (p.1,v) else p) else pl++[(i,v)]
def IC{a:Int}:(decide ((Sum.inl a:Key)=Sum.inl b))=decide (a=b):=by
 by_cases h:a=b
 ·rw[aaO h,aaO (aaZ Sum.inl h)]
 ·rw[aat h,aat λz=>h (Sum.inl.inj z)]
def E5{i:Int}:∀{pl:Pl},eP (kP pl) (vP pl) (Sum.inl i)=(Υ pl i).map Dt.int
 | []=>rfl
 | p::r=>by
  have ih:=E5 (i:=i) (pl:=r);unfold eP at ih⊢;show(List.find? (λq:Key×Dt=>decide (q.1=Sum.inl i)) ((Sum.inl p.1,Dt.int p.2)::(kP r).zip (vP r))).map (·.2)=Option.map Dt.int (if p.1=i then some p.2 else Υ r i);rw[List.find?_cons,IC];by_cases h:p.1=i
  ·rw[aaO h,aay h];rfl
  ·rw[aat h,aaF h];exact ih
def M8{i:Int}:∀{pl:Pl},O6 (kP pl) (Sum.inl i)=(Υ pl i).isSome
 | []=>rfl
 | p::r=>by
  have ih:=M8 (i:=i) (pl:=r);unfold O6 at ih⊢;show(decide ((Sum.inl p.1:Key)=Sum.inl i)|| (kP r).any λc=>decide (c=Sum.inl i))=(if p.1=i then some p.2 else Υ r i).isSome;rw[IC,ih];by_cases h:p.1=i
  ·rw[aaO h,aay h];rfl
  ·rw[aat h,aaF h,Bool.false_or]
def DO{i v:Int}:∀{pl:Pl},lL (Sum.inl i:Key) (Dt.int v) (kP pl) (vP pl)=vP (pl.map λp=>if p.1=i then (p.1,v) else p)
 | []=>rfl
 | p::r=>by
  show(if (Sum.inl p.1:Key)=Sum.inl i then Dt.int v else Dt.int p.2)::lL (Sum.inl i:Key) (Dt.int v) (kP r) (vP r)=Dt.int (if p.1=i then (p.1,v) else p).2::vP (r.map λp=>if p.1=i then (p.1,v) else p);rw[DO];by_cases h:p.1=i
  ·rw[aay h,aay (aaZ Sum.inl h)]
  ·rw[aaF h,aaF λz=>h (Sum.inl.inj z)]
def AW{i v:Int}:∀{pl:Pl},kP (pl.map λp=>if p.1=i then (p.1,v) else p)=kP pl
 | []=>rfl
 | p::r=>by show(Sum.inl (if p.1=i then (p.1,v) else p).1:Key)::kP (r.map λp=>if p.1=i then (p.1,v) else p)=Sum.inl p.1::kP r;rw[AW];split <;> rfl
def zB{pl:Pl}{i v:Int}:gF (kP pl) (Sum.inl i)=kP (jG pl i v):=by
 unfold gF jG;rw[M8];split
 ·exact AW.symm
 ·unfold kP;rw[List.map_append];rfl
def Em{pl:Pl}{i v:Int}:eK (kP pl) (Sum.inl i) (vP pl) (Dt.int v)=vP (jG pl i v):=by
 unfold eK jG;rw[M8];split
 ·exact DO
 ·unfold vP;rw[List.map_append];rfl
def qF{i v j:Int}:∀{pl:Pl},Υ (pl.map λp=>if p.1=i then (p.1,v) else p) j=if j=i then (Υ pl j).map λ_=>v else Υ pl j
 | []=>by split <;> rfl
 | p::r=>by
  have ih:=qF (i:=i) (v:=v) (j:=j) (pl:=r);rw[aa0];unfold Υ;by_cases h:p.1=i
  ·rw[aay h];by_cases hj:p.1=j
   ·rw[aay hj,aay hj,aay ()];rfl
   ·rw[aaF hj,aaF hj];exact ih
  ·rw[aaF h];by_cases hj:p.1=j
   ·rw[aay hj,aay hj,aaF ()]
   ·rw[aaF hj,aaF hj];exact ih
def E8{i j v:Int}:∀{pl:Pl},Υ (pl++[(i,v)]) j=if (Υ pl j).isSome=true then Υ pl j else if i=j then some v else none
 | []=>rfl
 | p::r=>by
  have ih:=E8 (i:=i) (j:=j) (v:=v) (pl:=r);rw[List.cons_append];unfold Υ;by_cases hj:p.1=j
  ·rw[aay hj,aay hj];rfl
  ·rw[aaF hj,aaF hj];exact ih
def NP{pl:Pl}{i v j:Int}:Υ (jG pl i v) j=if j=i then some v else Υ pl j:=by
 unfold jG;split
 ·rename_i h;rw[qF];split
  ·rename_i e;subst e;have⟨x,hx⟩:=aa9.mp h;rw[hx];rfl
  ·rfl
 ·rename_i h;rw[E8];by_cases e:j=i
  ·subst e;rw[aaF h,aay rfl,aay rfl]
  ·rw[aaF e];cases hj:Υ pl j with
   | none=>rw[if_neg (by simp),if_neg ()]
   | some x=>rfl
def Ik(pl:Pl):Prop:=(pl.map (·.1)).Nodup
def Fm{i v:Int}:∀{pl:Pl},Υ pl i=some v->(i,v)∈pl
 | [],h=>by cases h
 | p::r,h=>by
  unfold Υ at h;split at h
  ·rename_i e;have:p=(i,v):=by rw[<-e,<-aav h]
   rw[this];exact aaf
  ·exact aae _ (Fm h)
def bu{E:Ms}{k:Nat}{m:MO}(h:M[k]? =some m):(M++E)[k]? =some m:=by rw[aaA (aai.mp h).1];exact h
structure qc(γ:List Rw)(acc:Pl):Prop where
 hand:∀(i:Nat) (r:Rw),γ[i]? =some r->aa (kindOf r)=true->∃j:Nat,Υ acc i=some (j:Int)/\j < (aq r).length
 LI:∀(i:Nat) (r:Rw),γ[i]? =some r->aa (kindOf r)=false->Υ acc i=none
def fj(acc:Pl)(i:Nat)(r:Rw):List bG:=match Υ acc i with
 | some j=>let d:=(aq r).getD j.toNat d0;[(d.1,d.2.1,d.2.2++[(1,1)])]
 | none=>aq r
def Ol(A:Addr):DF:=λas M q _=>∃ε γ i r k acc,as=[Ο A ε γ,.int (i:Nat),.loc k]/\M[k]? =some (dP acc)/\γ[i]? =some r/\cY r/\qc γ acc/\q (.lst ((fj acc i r).map eY)) M
def r8:Ε ["floor","place","doors","ways"] ["floor","place","doors"] (ν pw):=.of rfl
def yI(F:cQ K "ways_from" "ways_from" pw f fd)(E:Ev K mg Cm CN CF Ca Cj Cd Ce Cg Ci Cb Cc Ck)(aG:fv P w K mg base 2 Cm "doors" ["self","place"] (sy Cm) cB cD)(ae:fv P w K mg base 1 Cm "kind" ["self","place"] (tP Cm) bz bw):ah P w K mg base (bM P w) 3 f fd ["floor","place","doors"] (cZ K (Ol Cm)):=by
 refine F.eB r8 (λds M q x h=>?_) (λaY A outer s H E' hr=>⟨_,(ζ (Δ 3 r8.nd (cz (gm aG hr ο (jv 0) (Θ (jv 1) η))))
   (ζ (aw (BZ (gm ae hr ο (jv 0) (Θ (jv 1) η)) (OB E.Dw)) (θ (Β (iI (μ (eJ (Τ (jv 3) (LF hr (jv 2) (jv 1))) (fM 3 (d:=.tup [.tup [.int 1,.int 1]]) (by rfl))) η dE)))) Η)
   (θ (Β (jv 3))))),λds M q x h=>?_⟩)
 ·have⟨ε,γ,i,r,k,acc,rfl,_⟩:=h;rfl
 ·have⟨ε,γ,i,r,k,acc,rfl,hk,hi,ro,dk,h⟩:=h;refine⟨⟨_,_,.inl rfl,rfl⟩,ε,γ,i,r,rfl,hi,ro,dt (hI _) ?_⟩;refine⟨⟨_,_,.inl rfl,rfl⟩,ε,γ,i,r,rfl,hi,?_⟩;refine⟨_,_,_,rfl,rfl,rfl,?_⟩;rw[Ap];cases hh:aa (kindOf r) with
  | true=>
   refine⟨λ_=>?_,nofun⟩;have⟨j,hj,jl⟩:=dk.hand i r hi hh;have dg:eP (kP acc) (vP acc) (Sum.inl (i:Int))=some (.int (j:Int)):=by rw[E5,hj];rfl
   have e:fj acc i r=[(((aq r).getD j d0).1,((aq r).getD j d0).2.1,((aq r).getD j d0).2.2++[(1,1)])]:=by unfold fj;rw[hj];rfl
   rw[e]at h;have gd:(aq r).getD j d0=(aq r)[j]:=by rw[aad,aac jl];rfl
   have dm:(aq r)[j].2.2.length<=1:=by
    cases r with
    | fin p=>exact aaK jl (abH _)
    | Γ k' ds=>exact(ro.2.2.2 _ (aaw jl)).1
   rw[gd]at h;obtain⟨d,hd⟩:∃d,d=(aq r)[j]:=⟨_,rfl⟩;rw[<-hd]at h dm;walk_at "vc";refine⟨k,_,_,Sum.inl (i:Int),_,rfl,hk,rfl,dg,?_⟩;refine(Ζ (d:=.lst ((aq r).map eY)) rfl (Vj jl) ?_:fo (.lst ((aq r).map eY)) (.int (j:Int)) _ _);rw[<-hd];have sz:∀{z:Nat},z<=1000->z<=sizeLine:=λh=>aax h @_;refine⟨⟨nofun,sz ?_⟩,sz @_,?_⟩
   ·simp;omega
   have e2:eY (d.1,d.2.1,d.2.2++[(1,1)])= .tup ((.int d.1::az d.2.1::d.2.2.map az)++[.tup [.int 1,.int 1]]):=by unfold eY;rw[List.map_append];rfl
   have h:q (.lst [eY (d.1,d.2.1,d.2.2++[(1,1)])]) M:=h;rw[e2]at h;exact h
  | false=>
   refine⟨nofun,λ_=>?_⟩;have e:fj acc i r=aq r:=by unfold fj;rw[dk.LI i r hi hh]
   rw[e]at h;exact h
def dM(f:Nat->Rat):Nat->Rat
 | 0=>0
 | n+1=>dM f n+f n
def aI(f:bG->Rat):List bG->Rat
 | []=>0
 | d::ds=>f d+aI f ds
def dq{f g:Nat->Rat}:∀{n:Nat},(∀i,i < n->f i=g i)->dM f n=dM g n
 | 0,_=>rfl
 | n+1,h=>by show dM f n+f n=dM g n+g n;rw[dq λi hi=>h i (abS hi),h n (abv _)]
def nV(a b:Rat)(f g:Nat->Rat):∀n,dM (λi=>a * f i - b * g i) n=a * dM f n - b * dM g n
 | 0=>by show(0:Rat)=a * 0 - b * 0;grind
 | n+1=>by show dM (λi=>a * f i - b * g i) n+(a * f n - b * g n)=a * (dM f n+f n) - b * (dM g n+g n);rw[nV a b f g n];grind
def ze{t:Nat}(y:Nat->Rat):∀{n:Nat},n<=t->dM (λx=>(if x=t then 1 else 0) * y x) n=0
 | 0,_=>rfl
 | n+1,h=>by show dM (λx=>(if x=t then 1 else 0) * y x) n+(if n=t then 1 else 0) * y n=0;rw[ze y (),if_neg ()];grind
def qT{t:Nat}(y:Nat->Rat):∀{n:Nat},t < n->dM (λx=>(if x=t then 1 else 0) * y x) n=y t
 | 0,h=>aaK h (abH _)
 | n+1,h=>by
  show dM (λx=>(if x=t then 1 else 0) * y x) n+(if n=t then 1 else 0) * y n=y t;by_cases e:n=t
  ·subst e;rw[ze y (Nat.le_refl _),if_pos rfl];grind
  ·rw[qT y (),if_neg e];grind
def pL(f:Nat->Int):∀n,((Bz.υ f n:Int):Rat)=dM (λi=>(f i:Rat)) n
 | 0=>rfl
 | n+1=>by show((Bz.υ f n+f n:Int):Rat)=dM (λi=>(f i:Rat)) n+f n;rw[Rat.intCast_add,pL f n]
def mh{f g:bG->Rat}:∀{ds:List bG},(∀d∈ds,f d=g d)->aI f ds=aI g ds
 | [],_=>rfl
 | d::ds,h=>by show f d+aI f ds=g d+aI g ds;rw[h d aaf,mh λx hx=>h x (aae _ hx)]
def m_(f g:bG->Rat):∀ds:List bG,aI (λd=>f d - g d) ds=aI f ds - aI g ds
 | []=>by show(0:Rat)=0 - 0;grind
 | d::ds=>by show(f d - g d)+aI (λd=>f d - g d) ds=(f d+aI f ds) - (g d+aI g ds);rw[m_ f g ds];grind
abbrev cV(d:bG):Rat:=val (τ d)
structure RJ(n:Nat)(Ρ:List bG):Prop where
 to:∀d∈Ρ,0<=d.1/\d.1 < n
 c0:∀d∈Ρ,0<=cV d
 one:aI cV Ρ<=1
def A5{c:Fr}(h:0 < c.2)(hd:c.2∣B):((jU B c:Int):Rat)=val c * B:=by
 have⟨k,rfl⟩:=hd;unfold jU val;rw[abB _ (),aa6,aa6];have:=bV (show c.2≠0 by omega);generalize (c.1:Rat)=a at *
 generalize (c.2:Rat)=b at *
 generalize (k:Rat)=e at *
 grind
def Lc{B:Int}:∀{ds:List bG},(∀d∈ds,0 < (τ d).2/\(τ d).2∣B)->((((ds.map τ).map (jU B)).sum:Int):Rat)=aI cV ds * B
 | [],_=>by show((0:Int):Rat)=0 * B;grind
 | d::ds,h=>by have i:=Lc (ds:=ds) λx hx=>h x (aae _ hx);have⟨a,b⟩:=h d aaf;show(((jU B (τ d)+((ds.map τ).map (jU B)).sum:Int)):Rat)=(cV d+aI cV ds) * B;rw[Rat.intCast_add,i,A5 a b];grind
def B4{c:Fr}(h:0 < c.2)(h0:0<=c.1):0<=val c:=by
 have e:val c * (c.2:Rat)=c.1:=by
  have:=bV (show c.2≠0 by omega);unfold val;generalize (c.1:Rat)=x at *
  generalize (c.2:Rat)=y at *
  grind
 have p:(0:Rat) < (c.2:Rat):=abx.mpr h;have q:(0:Rat)<=(c.1:Rat):=Rat.intCast_le_intCast.mpr h0;by_cases z:0<=val c
 ·exact z
 ·have:=Rat.mul_pos (show 0 < -val c by grind) p;grind
def Mg{ds:List bG}(o:FN (ds.map τ)):aI cV ds=1/\∀d∈ds,0<=cV d:=by
 have⟨_,_,hB⟩:=iT (ds.map τ) 1 0 @_ (ab4 _) λc hc=>⟨(o.HD.2 c hc).1,ab4 _⟩;have hm:∀d∈ds,τ d∈ds.map τ:=λd hd=>aau.mpr ⟨d,hd,rfl⟩;have e:=Lc (B:=br (ds.map τ)) (ds:=ds) λd hd=>⟨(o.HD.2 _ (hm d hd)).1,hB _ (hm d hd)⟩;rw[o.sum]at e;have b0:=bV (show br (ds.map τ)≠0 by have:=o.b0;omega);refine⟨?_,λd hd=>?_⟩
 ·generalize ((br (ds.map τ):Int):Rat)=b at *
  grind
 ·refine B4 (o.HD.2 _ (hm d hd)).1 ?_;have p:=o.pos _ (hm d hd);unfold jU at p;have q0:0<=br (ds.map τ) / (τ d).2:=Int.ediv_nonneg (aaE o.b0) (aaE (o.HD.2 _ (hm d hd)).1);rcases Int.lt_or_le (τ d).1 0 with z| z
  ·have:=Int.mul_nonpos_of_nonpos_of_nonneg (aaE z) q0;omega
  ·exact z
def Ha{p q:Fr}(hp:0 < p.2)(hq:0 < q.2):val (ig p q)=val p - val q:=by
 unfold ig;rw[n_ (ack (abI hp hq))];have h1:=bV (show p.2≠0 by omega);have h2:=bV (show q.2≠0 by omega);rw[Rat.intCast_sub,aa6,aa6,aa6];unfold val;generalize (p.1:Rat)=a at *
 generalize (p.2:Rat)=b at *
 generalize (q.1:Rat)=c at *
 generalize (q.2:Rat)=d at *
 grind
def Bc{p q:Fr}(hp:0 < p.2)(hq:0 < q.2)(h:nQ p E)(h':nQ q E):nQ (ig p q) E:=by have⟨N,e⟩:=h;have⟨N',e'⟩:=h';unfold ig;exact vM (N:=N - N') (Int.ne_of_gt (Int.mul_pos hp hq)) (by grind)
def FY{p q:Fr}{D:Int}(hp:0 < p.2)(hq:0 < q.2)(h:uW p C)(h':uW q D):uW (ig p q) (C+D):=by
 unfold ig;have a:=fQ h.1 (aaE hq);have b:=fQ h'.1 (aaE hp);have c:=fQ h.2 (aaE hq);have d:=fQ h'.2 (aaE hp);refine LN (abI hp hq) ?_ ?_
 ·have e:p.2 * q.2 * (C+D)=p.2 * C * q.2+q.2 * D * p.2:=by grind
  have e2: -(q.2 * D) * p.2= -(q.2 * D * p.2):=by grind
  omega
 ·have e: -(p.2 * q.2 * (C+D))= -(p.2 * C) * q.2+ -(q.2 * D * p.2):=by grind
  omega
structure Nr(E C:Int)(p:Fr):Prop where
 red:Red p
 he:nQ p E
 ab:uW p C
structure me(n:Nat)(E C:Int)(v:Nat->Rat)(ns:List Fr):Prop where
 len:ns.length=n
 nr:∀x,x < n->Nr E C (ns.getD x (0,1))
 val:∀x,x < n->val (ns.getD x (0,1))=v x
def rZ(ε:Fr)(ns:List Fr)(d:bG):List Fr:=ns.set d.1.toNat (ig (ns.getD d.1.toNat (0,1)) (eQ ε (τ d)))
def f_(ε:Fr)(n i:Nat)(Ρ:List bG):List Fr:=Ρ.foldl (rZ ε) ((List.replicate n ((0,1):Fr)).set i (1,1))
def Y7(c:0<=C):Nr E C (0,1):=⟨⟨@_,@_⟩,⟨0,by simp⟩,⟨by show(0:Int)<=1 * C;omega,by show -(1 * C)<=(0:Int);omega⟩⟩
def X_:Nr E 1 (1,1):=⟨⟨@_,@_⟩,⟨E,by simp⟩,⟨@_,@_⟩⟩
def Ax{ns:List Fr}{t x:Nat}{a:Fr}(h:t < ns.length):(ns.set t a).getD x (0,1)=if x=t then a else ns.getD x (0,1):=by
 rw[aad,List.getElem?_set];by_cases e:x=t
 ·subst e;rw[aay rfl,aay h,aay rfl];rfl
 ·rw[aaF (Ne.symm e),aaF e,<-aad]
def Ir(hi:i < n):me n E 1 (λx=>if x=i then 1 else 0) ((List.replicate n ((0,1):Fr)).set i (1,1)):=by
 have g:∀x,((List.replicate n ((0,1):Fr)).set i (1,1)).getD x (0,1)=if x=i then (1,1) else (0,1):=λx=>by
  rw[Ax (by simpa using hi)]
  congr 1
  rw[aad,abX];split <;> rfl
 refine⟨by simp,λx _=>?_,λx _=>?_⟩
 ·rw[g];split
  ·exact X_
  ·exact Y7 @_
 ·rw[g];show Pg.val (if x=i then (1,1) else (0,1))=if x=i then 1 else 0
  unfold Pg.val;split
  ·show((1:Int):Rat) / ((1:Int):Rat)=1;grind
  ·show((0:Int):Rat) / ((1:Int):Rat)=0;grind
structure Sm(ε:Fr)(E:Int)(d:bG):Prop where
 s0:0 < ε.2
 su:lZ ε
 c0:0 < (τ d).2
 cu:lZ (τ d)
 he:nQ (eQ ε (τ d)) E
def Sm.nr{ε:Fr}{d:bG}(h:Sm ε E d):Nr E 1 (eQ ε (τ d)):=by have p:=abI h.s0 h.c0;have u:=DD h.s0 h.c0 h.su h.cu;have r:Red (eQ ε (τ d)):=r_ (ack p);have rp:=r.pos;have⟨u1,u2⟩:=u;exact⟨r,h.he,⟨(),()⟩⟩
def AE{ε:Fr}{v:Nat->Rat}{ns:List Fr}{d:bG}(h:me n E C v ns)(c:0<=C)(hd:0<=d.1/\d.1 < n)(sc:Sm ε E d):me n E (C+1) (λx=>v x - Pg.val ε * ((if d.1.toNat=x then 1 else 0) * cV d)) (rZ ε ns d):=by
 have ht:d.1.toNat < ns.length:=by rw[h.len];omega
 have k:=sc.nr;have g:=λx=>Ax (x:=x) (a:=ig (ns.getD d.1.toNat (0,1)) (eQ ε (τ d))) ht;refine⟨by unfold rZ;rw[List.length_set];exact h.len,λx hx=>?_,λx hx=>?_⟩
 ·unfold rZ;rw[g];have a:=h.nr x hx;split
  ·rename_i e;rw[<-e];have p:=abI a.red.pos k.red.pos;exact⟨r_ (ack p),Bc a.red.pos k.red.pos a.he k.he,FY a.red.pos k.red.pos a.ab k.ab⟩
  ·have:=aa1 (show C<=C+1 by omega) (aaE a.red.pos);exact⟨a.red,a.he,⟨ab2 a.ab.1 this,by have:=a.ab.2;omega⟩⟩
 ·unfold rZ;rw[g];have a:=h.nr x hx;have b:=h.val x hx;split
  ·rename_i e;rw[<-e,Ha a.red.pos k.red.pos,b,Gx sc.s0 sc.c0,if_pos rfl];grind
  ·rename_i e;rw[b,if_neg (Ne.symm e)];grind
def uV{n:Nat}{ε:Fr}{E:Int}:∀{Ρ:List bG} {ns:List Fr} {v:Nat->Rat} {C:Int},(∀d∈Ρ,(0<=d.1/\d.1 < n)/\Sm ε E d)->0<=C->me n E C v ns->me n E (C+Ρ.length) (λx=>v x - Pg.val ε * aI (λd=>(if d.1.toNat=x then 1 else 0) * cV d) Ρ) (Ρ.foldl (rZ ε) ns)
 | [],ns,v,C,_,_,h=>by
  refine⟨h.len,λx hx=>?_,λx hx=>?_⟩
  ·rw[List.length_nil,Int.natCast_zero,Int.add_zero];exact h.nr x hx
  ·show _=v x - Pg.val ε * 0;rw[show v x - Pg.val ε * 0=v x by grind];exact h.val x hx
 | d::Ρ,ns,v,C,hw,c,h=>by have⟨h1,h2⟩:=hw d aaf;have i:=uV (Ρ:=Ρ) (λx hx=>hw x (aae _ hx)) () (AE h c h1 h2);rw[abF,aaL,show C+((Ρ.length+1:Nat):Int)=C+1+Ρ.length by omega];refine⟨i.len,i.nr,λx hx=>?_⟩;rw[i.val x hx];show v x - Pg.val ε * ((if d.1.toNat=x then 1 else 0) * cV d) - Pg.val ε * aI (λd=>(if d.1.toNat=x then 1 else 0) * cV d) Ρ=v x - Pg.val ε * ((if d.1.toNat=x then 1 else 0) * cV d+aI (λd=>(if d.1.toNat=x then 1 else 0) * cV d) Ρ);grind
def vW(s:Rat)(i:Nat)(Ρ:List bG)(x:Nat):Rat:=(if x=i then 1 else 0) - s * aI (λd=>(if d.1.toNat=x then 1 else 0) * cV d) Ρ
def Ml{ε:Fr}{Ρ:List bG}(hi:i < n)(hw:∀d∈Ρ,(0<=d.1/\d.1 < n)/\Sm ε E d):me n E (1+Ρ.length) (vW (Pg.val ε) i Ρ) (f_ ε n i Ρ):=uV hw @_ (Ir hi)
def Ip{n i:Nat}{s:Rat}(hi:i < n)(y:Nat->Rat):∀{Ρ:List bG},(∀d∈Ρ,0<=d.1/\d.1 < n)->dM (λx=>vW s i Ρ x * y x) n=y i - s * aI (λd=>cV d * y d.1.toNat) Ρ
 | [],_=>by rw[dq (g:=λx=>(if x=i then 1 else 0) * y x) λx _=>by show((if x=i then 1 else 0) - s * 0) * y x=_;grind];rw[qT y hi];show y i=y i - s * 0;grind
 | d::Ρ,h=>by
  have⟨a,b⟩:=h d aaf;have ih:=Ip (s:=s) hi y (Ρ:=Ρ) λx hx=>h x (aae _ hx)
  rw[dq (g:=λx=>1 * (vW s i Ρ x * y x) - (s * cV d) * ((if x=d.1.toNat then 1 else 0) * y x)) λx _=>by
   show((if x=i then 1 else 0) - s * ((if d.1.toNat=x then 1 else 0) * cV d+aI (λd=>(if d.1.toNat=x then 1 else 0) * cV d) Ρ)) * y x=1 * (((if x=i then 1 else 0) - s * aI (λd=>(if d.1.toNat=x then 1 else 0) * cV d) Ρ) * y x) - (s * cV d) * ((if x=d.1.toNat then 1 else 0) * y x);by_cases e:x=d.1.toNat
   ·rw[if_pos e,if_pos e.symm];grind
   ·rw[if_neg e,if_neg (Ne.symm e)];grind]
  rw[nV,ih,qT y (show d.1.toNat < n by omega)];show _=y i - s * (cV d * y d.1.toNat+aI (λd=>cV d * y d.1.toNat) Ρ);grind
def l7(ns:List Fr):List Int:=ns.map λc=>c.1 * (br ns / c.2)
def zS{ns:List Fr}(h:∀c∈ns,Nr E C c)(e0:0 < E)(c0:0<=C):0 < br ns/\br ns<=E/\∀c∈ns,((jU (br ns) c:Int):Rat)=val c * (br ns:Int)/\ -(C * E)<=jU (br ns) c/\jU (br ns) c<=C * E:=by
 have b0:0 < br ns:=ir ns 1 @_ λc hc=>(h c hc).red.pos;have⟨d1,_,d3⟩:=iT ns 1 E @_ (Int.one_dvd _) λc hc=>⟨(h c hc).red.pos,xB (h c hc).red (h c hc).he⟩;have le:=acf e0 d1;refine⟨b0,le,λc hc=>⟨A5 (h c hc).red.pos (d3 c hc),?_⟩⟩;have hd:=d3 c hc;have cp:=(h c hc).red.pos;have⟨a1,a2⟩:=(h c hc).ab;have le:br ns<=E:=le;have b0:0 < br ns:=b0;generalize hL:br ns=L at *
 have hd:c.2∣L:=by rw[<-hL];exact hd
 have⟨k,rfl⟩:=hd;unfold jU;rw[abB _ ()];have k0:0<=k:=by
  rcases Int.lt_or_le k 0 with z| z
  ·have:=Int.mul_neg_of_pos_of_neg cp z;omega
  ·exact z
 have m1:=fQ a1 k0;have m2:=fQ a2 k0;have m3:=aa1 le c0;have e1:c.2 * C * k=C * (c.2 * k):=by grind
 have e2: -(c.2 * C) * k= -(C * (c.2 * k)):=by grind
 exact⟨(),()⟩
def nv(ε:Fr)(n i:Nat)(Ρ:List bG)(given:Fr):List Int:=l7 (f_ ε n i Ρ++[given])
structure EO(ε:Fr)(n:Nat)(E C:Int)(Ρ:List bG)(given:Fr):Prop where
 wo:RJ n Ρ
 sc:∀d∈Ρ,Sm ε E d
 gn:Nr E C given
 e0:0 < E
 cl:1+(Ρ.length:Int)<=C
def DW{D:Int}{p:Fr}(h:Nr E C p)(l:C<=D):Nr E D p:=by have:=aa1 l (aaE h.red.pos);have⟨a,b⟩:=h.ab;exact⟨h.red,h.he,⟨(),()⟩⟩
def Ob{ns:List Fr}{x:Nat}(h:x < ns.length):ns.getD x (0,1)∈ns:=by rw[aad,aac h];exact aaw h
def C3{ε:Fr}{Ρ:List bG}{given:Fr}(hi:i < n)(p:EO ε n E C Ρ given):(nv ε n i Ρ given).length=n+1/\(∀x∈nv ε n i Ρ given,-(C * E)<=x/\x<=C * E)/\∃L:Rat,0 < L/\(∀y:Nat->Rat,dM (λx=>((nv ε n i Ρ given).getD x 0:Rat) * y x) n=L * (y i - Pg.val ε * aI (λd=>cV d * y d.1.toNat) Ρ))/\((nv ε n i Ρ given).getD n 0:Rat)=L * Pg.val given:=by
 have no:=Ml hi λd hd=>⟨p.wo.to d hd,p.sc d hd⟩;have c0:0<=C:=by have:=p.cl;omega
 have all:∀c∈f_ ε n i Ρ++[given],Nr E C c:=λc hc=>by
  rcases aa8.mp hc with z| z
  ·have⟨x,hx,e⟩:=abf z;have hx':x < n:=by rw[<-no.len];exact hx
   have:=no.nr x hx';rw[aad,aac hx]at this;rw[<-e];exact DW this p.cl
  ·rw[abl.mp z];exact p.gn
 have⟨b0,bE,hb⟩:=zS all p.e0 c0;have ln:(f_ ε n i Ρ).length=n:=no.len;have at_:∀x,x < n+1->(nv ε n i Ρ given).getD x 0=jU (br (f_ ε n i Ρ++[given])) ((f_ ε n i Ρ++[given]).getD x (0,1)):=λx hx=>by
  unfold nv l7;have hx:x < (f_ ε n i Ρ++[given]).length:=by simp[ln];exact hx
  rw[aad,aap,aad,aac hx];rfl
 have in_:∀x,x < n+1->(f_ ε n i Ρ++[given]).getD x (0,1)∈f_ ε n i Ρ++[given]:=λx hx=>Ob (by simp[ln];exact hx);refine⟨by unfold nv l7;simp[ln],λx hx=>?_,((br (f_ ε n i Ρ++[given]):Int):Rat),?_,λy=>?_,?_⟩
 ·unfold nv l7 at hx;have⟨c,hc,rfl⟩:=aau.mp hx;exact(hb c hc).2
 ·exact abx.mpr b0
 ·rw[dq (g:=λx=>((br (f_ ε n i Ρ++[given]):Int):Rat) * (vW (Pg.val ε) i Ρ x * y x) - 0 * 0) λx hx=>by
   rw[at_ x (),(hb _ (in_ x ())).1];have:(f_ ε n i Ρ++[given]).getD x (0,1)=(f_ ε n i Ρ).getD x (0,1):=by rw[aad,aaA (by rw[ln];exact hx),<-aad]
   rw[this,no.val x hx];grind]
  rw[nV _ 0 (λx=>vW (Pg.val ε) i Ρ x * y x) (λ_=>0),Ip hi y p.wo.to];grind
 ·rw[at_ n (),(hb _ (in_ n ())).1];have:(f_ ε n i Ρ++[given]).getD n (0,1)=given:=by rw[aad,aaB (by rw[ln];exact aao _),ln,abU];rfl
  rw[this];grind
structure Sys(ε:Fr)(n:Nat)(B:Int)(ws:Nat->List bG)(gv:Nat->Fr):Prop where
 n1:1<=n
 b1:1<=B
 Y8:∀i,i < n->∃E C,EO ε n E C (ws i) (gv i)/\C * E<=B
 zero:∀{y:Nat->Rat},(∀k,k < n->y k=Pg.val ε * aI (λd=>cV d * y d.1.toNat) (ws k))->∀k,k < n->y k=0
def gI(ε:Fr)(n:Nat)(ws:Nat->List bG)(gv:Nat->Fr):List (List Int):=(List.range n).map λi=>nv ε n i (ws i) (gv i)
section
variable{ε:Fr}{ws:Nat->List bG}{gv:Nat->Fr}
def B7{k x:Nat}(h:k < n):Bz.arr (gI ε n ws gv) k x=(nv ε n k (ws k) (gv k)).getD x 0:=by
 unfold Bz.arr gI
 congr 1
 rw[aad,aap,aaQ h];rfl
def kZ:(gI ε n ws gv).length=n:=by unfold gI;simp
def Sys.eq(S:Sys ε n B ws gv){k:Nat}(hk:k < n):∃L:Rat,0 < L/\(∀y:Nat->Rat,dM (λx=>(Bz.arr (gI ε n ws gv) k x:Rat) * y x) n=L * (y k - Pg.val ε * aI (λd=>cV d * y d.1.toNat) (ws k)))/\(Bz.arr (gI ε n ws gv) k n:Rat)=L * Pg.val (gv k):=by
 have⟨E,C,p,_⟩:=S.Y8 k hk;have⟨_,_,L,l0,l1,l2⟩:=C3 hk p;refine⟨L,l0,λy=>?_,?_⟩
 ·rw[<-l1 y];exact dq λx _=>by rw[B7 hk]
 ·rw[B7 hk];exact l2
def Sys.Wc(S:Sys ε n B ws gv)(y:Bz.Row)(h:∀k,k < n->Bz.υ (λx=>Bz.arr (gI ε n ws gv) k x * y x) n=0):∀x,x < n->y x=0:=λx hx=>by
 have:=S.zero (y:=λx=>(y x:Rat)) (λk hk=>by
  have⟨L,l0,l1,_⟩:=S.eq hk;have e:=aaZ (λz:Int=>(z:Rat)) (h k hk);rw[pL,dq (g:=λx=>(Bz.arr (gI ε n ws gv) k x:Rat) * (y x:Rat)) λx _=>aa6 _ _,l1 λx=>(y x:Rat)]at e;have e:L * ((y k:Rat) - Pg.val ε * aI (λd=>cV d * (y d.1.toNat:Rat)) (ws k))=0:=e;rcases Rat.mul_eq_zero.mp e with z| z
  ·grind
  ·grind) x hx
 exact Rat.intCast_eq_zero_iff.mp this
def Sys.bd(S:Sys ε n B ws gv):Bz.Bd (Bz.arr (gI ε n ws gv)) n (n+1) B:=⟨S.b1,λk c hk hc=>by
 have⟨E,C,p,hB⟩:=S.Y8 k hk;have⟨ln,hb,_⟩:=C3 hk p;rw[B7 hk];have:=hb ((nv ε n k (ws k) (gv k)).getD c 0) (by rw[aad,aac ()];exact aaw _)
 exact⟨(),()⟩⟩
structure Tab(ε:Fr)(n:Nat)(ws:Nat->List bG)(gv:Nat->Fr)(tb:List Fr):Prop where
 len:tb.length=n
 red:∀i,i < n->Red (tb.getD i (0,1))
 eq:∀i,i < n->Pg.val (tb.getD i (0,1))=Pg.val (gv i)+Pg.val ε * aI (λd=>cV d * Pg.val (tb.getD d.1.toNat (0,1))) (ws i)
def Sys.uniq(S:Sys ε n B ws gv){t t':List Fr}(h:Tab ε n ws gv t)(h':Tab ε n ws gv t'):t=t':=by
 have z:=S.zero (y:=λx=>Pg.val (t.getD x (0,1)) - Pg.val (t'.getD x (0,1))) (λk hk=>by
  rw[h.eq k hk,h'.eq k hk];rw[show(λd:bG=>cV d * (Pg.val (t.getD d.1.toNat (0,1)) - Pg.val (t'.getD d.1.toNat (0,1))))=λd=>cV d * Pg.val (t.getD d.1.toNat (0,1)) - cV d * Pg.val (t'.getD d.1.toNat (0,1)) by funext d;grind,m_]
  grind)
 apply abh
 ·rw[h.len,h'.len]
 ·intro i h1 h2;have hi:i < n:=by rw[<-h.len];exact h1
  have a:=h.red i hi;have b:=h'.red i hi;have c:=z i hi;rw[aad,aac h1]at a c;rw[aad,aac h2]at b c;exact qG a b (by have c:Pg.val t[i] - Pg.val t'[i]=0:=c;grind)
def Sys.ex(S:Sys ε n B ws gv)(HC:n<=12):∃(tb:List Fr) (z:Bz.Row) (N:Int),Bz.RA (Bz.arr (gI ε n ws gv)) n n z N/\N≠0/\(∀i,i < n->N * (tb.getD i (0,1)).1=z i * (tb.getD i (0,1)).2)/\Tab ε n ws gv tb/\∀i,i < n->(tb.getD i (0,1)).2<=(12 * B) ^ n:=by
 have⟨ρ,ι,q,d,W,t⟩:=Bz.Turn.exists (A:=Bz.arr (gI ε n ws gv)) (n:=n) n;have hc:ι=List.range n:=by
  rcases t.all with e| ⟨x,h1,h2⟩
  ·exact e
  ·have⟨z,z1,z2⟩:=t.kernel h1 h2;have:=S.Wc z z2 x h1;rw[z1]at this;exact aaK () t.d0
 have lr:ρ.length=n:=by rw[<-t.st.lc,hc,aba]
 have sol:=t.VI λi h1 h2=>aaK h1 ();have d0:=t.d0;generalize hz:Bz.L8 (Bz.arr (gI ε n ws gv)) n W ι n ι.length=z at *
 have g:∀i,i < n->((List.range n).map λi=>cj (z i) d).getD i (0,1)=cj (z i) d:=λi hi=>by rw[aad,aap,aaQ hi];rfl
 refine⟨(List.range n).map λi=>cj (z i) d,z,d,sol,d0,λi hi=>?_,⟨by simp,λi hi=>?_,λi hi=>?_⟩,λi hi=>?_⟩
 ·rw[g i hi,<-eN d0]
 ·rw[g i hi];exact r_ d0
 ·have⟨L,l0,l1,l2⟩:=S.eq hi;have⟨E,C,p,_⟩:=S.Y8 i hi;have e:=aaZ (λz:Int=>(z:Rat)) (sol i hi);rw[pL,dq (g:=λx=>(Bz.arr (gI ε n ws gv) i x:Rat) * (z x:Rat)) λx _=>aa6 _ _,l1 λx=>(z x:Rat),aa6,l2]at e;rw[g i hi,n_ d0]
  rw[mh (g:=λdd=>(1 / (d:Rat)) * (cV dd * (z dd.1.toNat:Rat)) - 0) λdd WU=>by
   have⟨a,b⟩:=p.wo.to dd WU;rw[g _ (),n_ d0];have:=bV d0
   grind]
  have sc:∀(k:Rat) (ds:List bG),aI (λdd=>k * (cV dd * (z dd.1.toNat:Rat)) - 0) ds=k * aI (λdd=>cV dd * (z dd.1.toNat:Rat)) ds:=λk ds=>by
   induction ds with
   | nil=>show(0:Rat)=k * 0;grind
   | cons a ds ih=>
    show k * (cV a * (z a.1.toNat:Rat)) - 0+aI (λdd=>k * (cV dd * (z dd.1.toNat:Rat)) - 0) ds=k * (cV a * (z a.1.toNat:Rat)+aI (λdd=>cV dd * (z dd.1.toNat:Rat)) ds);rw[ih];grind
  rw[sc];have:=bV d0;have e:L * ((z i:Rat) - Pg.val ε * aI (λdd=>cV dd * (z dd.1.toNat:Rat)) (ws i))=(d:Rat) * (L * Pg.val (gv i)):=e;have e2:(z i:Rat) - Pg.val ε * aI (λdd=>cV dd * (z dd.1.toNat:Rat)) (ws i)=(d:Rat) * Pg.val (gv i):=by
   have:L * ((z i:Rat) - Pg.val ε * aI (λdd=>cV dd * (z dd.1.toNat:Rat)) (ws i) - (d:Rat) * Pg.val (gv i))=0:=by grind
   rcases Rat.mul_eq_zero.mp this with y| y
   ·grind
   ·grind
  grind
 ·rw[g i hi];have ad:=t.st.XF S.bd (λc Bj=>aas (t.cl c Bj) (Nat.le_succ _)) ();rw[lr]at ad;have l:=HI (t:=z i) d0;have q0:=iR (t:=z i) d0;have⟨a1,a2⟩:=ad;omega
end
def Tf{d:bG}{c:Fr}{q:DQ}(e:d.2.2=[c])(h:q (az c) M):fo (eY d) (.int 2) M q:=by unfold eY;rw[e];exact Ζ (xs:=[.int d.1,az d.2.1,az c]) rfl (ag (j:=2) rfl) h
def Cr{k:Nat}(h:M[k]? =some (MO.lst xs)):fG M (.loc k)=some xs:=by show(match M[k]? with| some (MO.lst xs)=>some xs| _=>none)=some xs;rw[h]
def Kp{p:Fr}(h:Nr E C p)(e0:0 < E)(e1:E < 2 ^ 190)(c0:0<=C)(c1:C < 2 ^ 110):Sz 300 p:=U7 (k:=190) (m:=110) h.red h.he e0 e1 h.ab c0 c1
def JM:DF:=λas M q _=>∃(ns:List Fr) (E C:Int),as=[.lst (ns.map az)]/\ns.length<=13/\(∀c∈ns,Nr E C c)/\0 < E/\E < 2 ^ 190/\0<=C/\C < 2 ^ 110/\q (bZ (l7 ns)) M
def mx:Ε ["numbers","bottom"] ["numbers"] (ν oY):=.of rfl
def AL(F:cQ K "whole_row" "whole_row" oY f fd)(E:Ev K mg Cm CN CF Ca Cj Cd Ce Cg Ci Cb Cc Ck){ic:Addr}{hZ:FuncData}(bO:aB P w K mg base 2 "common_bottom" ["chances"] ia ic hZ):ah P w K mg base (bM P w) 3 f fd ["numbers"] (cZ K JM):=by
 refine F.eB mx (λds M q x h=>?_) (λaY A outer s H E' hr=>⟨_,(ζ (Δ 1 mx.nd (ar bO hr ο (Θ (jv 0) η)))
   (θ (Β (g8 (ys:=["bottom"]) (Μ:=[1]) (.of mx rfl rfl rfl) (aT (jv 0)) (λC s H fp=>(eA (Τ (jv 0) χ) (jC (jv 1) (Τ (jv 0) χ)))))))),λds M q x h=>?_⟩)
 ·have⟨ns,E,C,rfl,_⟩:=h;rfl
 ·have⟨ns,Ep,C,rfl,hz,hn,e0,e1,c0,c1,h⟩:=h;have⟨b0,bE,_⟩:=zS hn e0 c0;have Yn:∀c∈ns,Sz 300 c:=λc hc=>Kp (hn c hc) e0 e1 c0 c1;have b2:∀c∈ns,c.2 < 2 ^ 200:=λc hc=>by have:=acf e0 (xB (hn c hc).red (hn c hc).he);exact abj this (Int.lt_trans e1 @_)
  refine⟨ns,rfl,⟨hz,λc hc=>⟨(hn c hc).red.pos,b2 c hc⟩⟩,?_⟩;walk_at "vc";refine aW (i:=0) rfl rfl ⟨by rw[aah];exact aax hz @_,?_⟩;refine eU (f:=λd=>.int (match d with| .tup [.int a,.int b]=>a * (br ns / b)| _=>0)) trivial (λx hx q hq=>?_) ?_
  ·have⟨y,hy,rfl⟩:=aau.mp hx;have s:=Yn y hy;have y0:=(hn y hy).red.pos;refine⟨⟨y0,fR s @_⟩,⟨jw s @_,?_⟩,hq⟩;exact NU (k:=190) (Int.ediv_nonneg (aaE b0) (aaE y0)) (abj (Int.ediv_le_self _ (aaE b0)) (abj bE e1)) @_
  ·rw[aaS,aaV];have e:ns.map ((λd=>Dt.int (match d with| .tup [.int a,.int b]=>a * (br ns / b)| _=>0)) ∘ az)=(l7 ns).map Dt.int:=by unfold l7;rw[aaV];rfl
   rw[e];exact h
structure SzE(E C:Int):Prop where
 e1:E < 2 ^ 190
 c1:C < 2 ^ 110
def S5(A:Addr):DF:=λas M q _=>∃(fs ε:Fr) (γ:List Rw) (i:Nat) (Ρ:List bG) (given:Fr) (E C:Int),as=[Ο A fs γ,.int (i:Nat),.lst (Ρ.map eY),az ε,az given]/\i < γ.length/\γ.length<=12/\Sz 11 ε/\(∀d∈Ρ,∃c,d.2.2=[c])/\EO ε γ.length E C Ρ given/\SzE E C/\(∀d∈Ρ,Sz 300 (τ d))/\∀E',q (bZ (nv ε γ.length i Ρ given)) (M++E')
def si:Ε ["floor","place","ways","share","given","numbers","way"] ["floor","place","ways","share","given"] (ν wA):=.of rfl
def Gq(F:cQ K "led_row" "led_row" wA f fd)(E:Ev K mg Cm CN CF Ca Cj Cd Ce Cg Ci Cb Cc Ck)(af:fv P w K mg base 1 Cm "size" ["self"] (sO Cm) bo bj){PD:Addr}{RO:FuncData}(wU:aB P w K mg base 3 "minus" ["one","other"] K2 PD RO){RW:Addr}{Qp:FuncData}(yp:aB P w K mg base 3 "times" ["one","other"] Il RW Qp){Hb:Addr}{Gg:FuncData}(mX:aB P w K mg base 3 "whole_row" ["numbers"] JM Hb Gg):ah P w K mg base (bM P w) 5 f fd ["floor","place","ways","share","given"] (cZ K (S5 Cm)):=by
 refine F.eB si (λds M q x h=>?_) (λaY A outer s H E' hr=>⟨_,(ζ (Δ 5 si.nd (Be (fM 3 (d:=.lst [.tup [.int 0,.int 1]]) (by rfl)) (g_ af hr ο (jv 0))))
   (ζ (kE (jv 5) (jv 1) (bQ (μ χ (μ χ η bB) bB)))
   (ζ (bK (aT (jv 2)) (au (i:=6) si.nd rfl (Or.inl rfl)) aK (θ (kE (jv 5) (Τ (jv 6) χ) (ar wU hr ο (μ (Τ (jv 5) (Τ (jv 6) χ)) (μ (ar yp hr ο (Θ (jv 3) (μ (Τ (jv 6) χ) η cE))) η cw) cE)))))
   (θ (Β (ar mX hr ο (μ (jf (jv 5) (iI (Θ (jv 4) η))) η dE))))))),λds M q x h=>?_⟩)
 ·have⟨fs,ε,γ,i,Ρ,given,E,C,rfl,_⟩:=h;rfl
 ·have⟨fs,ε,γ,i,Ρ,given,Ep,C,rfl,il,tW,szs,NY,p,sz,hcs,h⟩:=h;have e0:=p.e0;have c0:0<=C:=by have:=p.cl;omega
  generalize hn:γ.length=n at *
  refine⟨⟨_,_,.inl rfl,rfl⟩,fs,γ,rfl,?_⟩;rw[hn];refine⟨[az (0,1)],n,rfl,rfl,(),(),?_,?_⟩
  ·show 1 * ((n:Int)).toNat<=sizeLine;exact aax (show _<=12 by omega) @_
  rw[show((n:Int)).toNat=n by omega,rS];dsimp only[wO];walk_at "vc";refine⟨D2,?_⟩;refine⟨M.length,(i:Nat),_,i,rfl,rfl,aQ,by rw[aa3];exact qR il,?_⟩;rw[e9];have e00:(List.replicate n (az (0,1))).set i (.tup [.int 1,.int 1])=((List.replicate n ((0,1):Fr)).set i (1,1)).map az:=by rw[List.map_set,List.map_replicate];rfl
  rw[e00];dsimp only[nD,da];walk_at "vc";refine aO (λzs ρ' M'=>∃(dQ rest:List bG) (ns:List Fr) (v:Nat->Rat) (o:Option Dt),Ρ=dQ++rest/\zs=rest.map eY/\ns=dQ.foldl (rZ ε) ((List.replicate n ((0,1):Fr)).set i (1,1))/\me n Ep (1+dQ.length) v ns/\M'=M++[MO.lst (ns.map az)]/\ρ'=[some (Ο Cm fs γ),some (.int (i:Int)),some (.lst (Ρ.map eY)),some (az ε),some (az given),some (.loc M.length),o]) (λzs ρ' M' hj=>trivial) (λx zs ρ' M' hj fC=>?_) (λρ' M' hj=>?_) _ _ _ ⟨[],Ρ,_,_,none,rfl,rfl,rfl,Ir il,rfl,rfl⟩
  ·have⟨dQ,rest,ns,v,o,ew,ex,en,no,rfl,rfl⟩:=hj;cases rest with
   | nil=>cases ex
   | cons d rest=>
    cases ex;have dm:d∈Ρ:=by rw[ew];exact aaH _ aaf
    have⟨t0,t1⟩:=p.wo.to d dm;have⟨c,hc⟩:=NY d dm;have ec:τ d=c:=by unfold τ;rw[hc];rfl
    have sc:=p.sc d dm;have Od:=hcs d dm;have dl:1+(dQ.length:Int)<=C:=by have:=aaZ List.length ew;rw[aan,aaL]at this;have:=p.cl;omega
    have tl:d.1.toNat < ns.length:=by rw[no.len];omega
    have Yn:=Kp (DW (no.nr d.1.toNat ()) dl) e0 sz.e1 c0 sz.c1;have szt:=Kp (DW sc.nr (show(1:Int)<=C by omega)) e0 sz.e1 c0 sz.c1;have at_:ki (ns.map az) d.1=some (az (ns.getD d.1.toNat (0,1))):=by have:=TZ tl;rw[show((d.1.toNat:Nat):Int)=d.1 by omega]at this;rw[this,aad,aac tl];rfl
    have nx:∀o,_:=λo=>fC [some (Ο Cm fs γ),some (.int (i:Int)),some (.lst (Ρ.map eY)),some (az ε),some (az given),some (.loc M.length),o] (M++[MO.lst ((rZ ε ns d).map az)]) ⟨dQ++[d],rest,rZ ε ns d,_,o,by rw[ew];simp,rfl,by rw[List.foldl_append,<-en];rfl,by
     have:=AE no () ⟨t0,t1⟩ sc;rw[show 1+((dQ++[d]).length:Int)=1+(dQ.length:Int)+1 by simp;omega]
     exact this,rfl,rfl⟩
    dsimp only[gN,wO];walk_at "vc";refine uO ?_;refine(Ζ (d:=.loc M.length) (Cr aQ) at_ ?_:fo (.loc M.length) (.int d.1) _ _);refine Tf hc ?_;rw[<-ec];refine⟨ε,τ d,11,300,rfl,szs,Od,@_,?_⟩;refine⟨_,_,300,300,rfl,Yn,szt,@_,?_⟩;refine uO ?_;refine⟨M.length,d.1,_,d.1.toNat,rfl,rfl,aQ,by rw[aah];have:=qR tl;rwa[show((d.1.toNat:Nat):Int)=d.1 by omega]at this,?_⟩;rw[e9];have:(ns.map az).set d.1.toNat (az (ig (ns.getD d.1.toNat (0,1)) (eQ ε (τ d))))=(rZ ε ns d).map az:=by unfold rZ;rw[List.map_set]
    rw[this];exact nx _
  ·have⟨dQ,rest,ns,v,o,ew,ex,en,no,rfl,rfl⟩:=hj;cases rest with
   | cons d rest=>cases ex
   | nil=>
    rw[aaW]at ew;subst ew;have en:ns=f_ ε n i Ρ:=en;walk_at "vc";refine⟨by show 1<=sizeLine;decide,ns.map az,[az given],gW aQ,rfl,?_,?_⟩
    ·rw[aah,no.len];exact aax (show n+1<=13 by omega) @_
    refine⟨ns++[given],Ep,C,by rw[aaT];rfl,by rw[aan,no.len];show n+1<=13;omega,λc hc=>?_,e0,sz.e1,c0,sz.c1,?_⟩
    ·rcases aa8.mp hc with z| z
     ·have⟨x,hx,e⟩:=abf z;have:=no.nr x (by rw[<-no.len];exact hx);rw[aad,aac hx]at this;rw[<-e];exact DW this p.cl
     ·rw[abl.mp z];exact p.gn
    rw[en];exact h _
abbrev Sp:=List (Option Nat)
def at_(S:Sp)(p:Nat):Option Nat:=S.getD p none
def aZ(S:Sp)(ds:List bG):List (Option Nat):=ds.map λd=>at_ S d.1.toNat
def uD(kd:Str)(ns:List (Option Nat))(o:Option Nat):Prop:=
 if kd="other" then (o=none/\none∈ns)\/∃v,o=some (v+1)/\some v∈ns/\∀x∈ns,∃w,x=some w/\w<=v
 else (o=none/\∀x∈ns,x=none)\/∃v,o=some (v+1)/\some v∈ns/\∀w,some w∈ns->v<=w
def aL(γ:List Rw)(gs:List Nat)(S:Sp):Prop:=S.length=γ.length/\∀(p:Nat) (r:Rw),γ[p]? =some r->match r with
 | .fin _=>at_ S p=if p∈gs then some 0 else none
 | .Γ kd ds=>uD kd (aZ S ds) (at_ S p)
structure J6(γ:List Rw)(gs:List Nat)(m:Nat)(S:Sp):Prop where
 len:S.length=γ.length
 lt:∀p n,at_ S p=some n->n < m
 fin:∀p q,γ[p]? =some (.fin q)->at_ S p=if p∈gs then some 0 else none
 old:∀(p:Nat) (kd:Str) (ds:List bG) (n:Nat),γ[p]? =some (.Γ kd ds)->at_ S p=some n->uD kd (aZ S ds) (some n)
 new:∀(p:Nat) (kd:Str) (ds:List bG),γ[p]? =some (.Γ kd ds)->at_ S p=none->if kd="other" then∃x∈aZ S ds,x=none\/x=some (m - 1) else∀x∈aZ S ds,x=none\/x=some (m - 1)
def aS(γ:List Rw)(S:Sp)(p:Nat):Bool:=match γ[p]? with
 | some (.Γ kd ds)=>(at_ S p).isNone&&(if kd="other" then (aZ S ds).all (·.isSome) else (aZ S ds).any (·.isSome))
 | _=>false
def aX(γ:List Rw)(S:Sp):List Nat:=(List.range γ.length).filter (aS γ S)
def cC(m:Nat):List Nat->Sp->Sp
 | [],S=>S
 | p::ps,S=>cC m ps (S.set p (some m))
def mQ(m:Nat):∀(ps:List Nat) (S:Sp),(cC m ps S).length=S.length
 | [],_=>rfl
 | p::ps,S=>by show(cC m ps (S.set p (some m))).length=_;rw[mQ m ps,aaX]
def JF{q:Nat}{v:Option Nat}(hp:p < S.length):at_ (S.set p v) q=if p=q then v else at_ S q:=by
 unfold at_;rw[aad,aad];by_cases h:p=q
 ·subst h;rw[aaU hp,aay rfl];rfl
 ·rw[aa2 h,aaF h]
def vv(m:Nat):∀(ps:List Nat) (S:Sp),(∀p∈ps,p < S.length)->∀q,at_ (cC m ps S) q=if q∈ps then some m else at_ S q
 | [],S,_,q=>by rw[if_neg (by simp)];rfl
 | p::ps,S,h,q=>by
  show at_ (cC m ps (S.set p (some m))) q=_;rw[vv m ps _ (λr hr=>by rw[aaX];exact h r (aae _ hr)) q,JF (h p aaf)];by_cases h1:q∈ps
  ·rw[aay h1,aay (aae _ h1)]
  ·rw[aaF h1];by_cases h2:p=q
   ·subst h2;rw[aay rfl,aay aaf]
   ·rw[aaF h2,aaF (λz=>(aaG.mp z).elim (λe=>h2 e.symm) h1)]
def fh{γ:List Rw}:p∈aX γ S↔p < γ.length/\aS γ S p=true:=by unfold aX;rw[List.mem_filter,List.mem_range]
def ak{ds:List bG}{x:Option Nat}:x∈aZ S ds↔∃d∈ds,at_ S d.1.toNat=x:=by unfold aZ;rw[List.mem_map]
def vG{γ:List Rw}(h:J6 γ gs m S)(hm:1<=m):J6 γ gs (m+1) (cC m (aX γ S) S):=by
 have IV:∀p∈aX γ S,p < S.length:=λp hp=>by rw[h.len];exact(fh.mp hp).1
 have Sh:=vv m (aX γ S) S IV;generalize hS':cC m (aX γ S) S=S' at *
 have none_of:∀p,p∈aX γ S->at_ S p=none:=λp hp=>by
  have:=(fh.mp hp).2;unfold aS at this;split at this
  ·rw[aam]at this;exact Option.isNone_iff_eq_none.mp this.1
  ·cases this
 have kept:∀p n,at_ S p=some n->at_ S' p=some n:=λp n e=>by rw[Sh,aaF (λz=>by rw[none_of p z]at e;cases e)];exact e
 have back:∀p n,at_ S' p=some n->at_ S p=some n\/(n=m/\at_ S p=none):=λp n e=>by
  rw[Sh]at e;split at e
  ·rename_i hp;cases e;exact .inr ⟨rfl,none_of p hp⟩
  ·exact .inl e
 have VU:∀p,at_ S' p=none->at_ S p=none/\p∉aX γ S:=λp e=>by
  rw[Sh]at e;split at e
  ·cases e
  ·rename_i hp;exact⟨e,hp⟩
 refine⟨by rw[<-hS',mQ];exact h.len,λp n e=>?_,λp q hr=>?_,λp kd ds n hr e=>?_,λp kd ds hr e=>?_⟩
 ·rcases back p n e with e| ⟨rfl,_⟩
  ·have:=h.lt p n e;omega
  ·omega
 ·rw[Sh,aaF (λz=>?_)]
  ·exact h.fin p q hr
  ·have:=(fh.mp z).2;unfold aS at this;rw[hr]at this;cases this
 ·rcases back p n e with e0| ⟨rfl,e0⟩
  ·have hd:=h.old p kd ds n hr e0;have hn:=h.lt p n e0;unfold uD at hd⊢;by_cases hk:kd="other"
   ·rw[aay hk]at hd⊢;rcases hd with ⟨z,_⟩| ⟨v,ev,h1,h2⟩
    ·cases z
    ·refine .inr ⟨v,ev,?_,λx hx=>?_⟩
     ·have⟨d,hd,ed⟩:=ak.mp h1;exact ak.mpr ⟨d,hd,kept _ _ ed⟩
     ·have⟨d,hd,ed⟩:=ak.mp hx;have⟨w,ew,lw⟩:=h2 (at_ S d.1.toNat) (ak.mpr ⟨d,hd,rfl⟩);rw[<-ed,kept _ _ ew];exact⟨w,rfl,lw⟩
   ·rw[aaF hk]at hd⊢;rcases hd with ⟨z,_⟩| ⟨v,ev,h1,h2⟩
    ·cases z
    ·refine .inr ⟨v,ev,?_,λw hw=>?_⟩
     ·have⟨d,hd,ed⟩:=ak.mp h1;exact ak.mpr ⟨d,hd,kept _ _ ed⟩
     ·have⟨d,hd,ed⟩:=ak.mp hw;rcases back _ _ ed with ed| ⟨rfl,_⟩
      ·exact h2 w (ak.mpr ⟨d,hd,ed⟩)
      ·cases ev;omega
  ·have hp:p∈aX γ S:=by
    rw[Sh]at e;split at e
    ·rename_i z;exact z
    ·rw[e0]at e;cases e
   have jk:=(fh.mp hp).2;unfold aS at jk;rw[hr]at jk;have jk:((at_ S p).isNone&&(if kd="other" then (aZ S ds).all (·.isSome) else (aZ S ds).any (·.isSome)))=true:=jk;rw[aam]at jk;have jk:=jk.2;have Dr:=h.new p kd ds hr e0;obtain⟨k,rfl⟩:∃k,n=k+1:=⟨n - 1,()⟩;unfold uD;by_cases hk:kd="other"
   ·rw[aay hk]at jk Dr⊢;have MB:=aa5.mp jk;have⟨x,hx,ex⟩:=Dr;have ex:x=some k:=by
     rcases ex with rfl| ex
     ·have:=MB none hx;cases this
     ·simpa using ex
    subst ex;refine .inr ⟨k,rfl,?_,λy hy=>?_⟩
    ·have⟨d,hd,ed⟩:=ak.mp hx;exact ak.mpr ⟨d,hd,kept _ _ ed⟩
    ·have⟨d,hd,ed⟩:=ak.mp hy;have:=MB (at_ S d.1.toNat) (ak.mpr ⟨d,hd,rfl⟩);have⟨w,ew⟩:=aa9.mp this;have lw:=h.lt _ _ ew;rw[<-ed,kept _ _ ew];exact⟨w,rfl,()⟩
   ·rw[aaF hk]at jk Dr⊢;have⟨x,hx,sx⟩:=List.any_eq_true.mp jk;have ex:x=some k:=by
     rcases Dr x hx with rfl| ex
     ·cases sx
     ·simpa using ex
    subst ex;refine .inr ⟨k,rfl,?_,λw hw=>?_⟩
    ·have⟨d,hd,ed⟩:=ak.mp hx;exact ak.mpr ⟨d,hd,kept _ _ ed⟩
    ·have⟨d,hd,ed⟩:=ak.mp hw;rcases back _ _ ed with ed| ⟨rfl,_⟩
     ·rcases Dr (some w) (ak.mpr ⟨d,hd,ed⟩) with z| z
      ·cases z
      ·cases z;omega
     ·omega
 ·have⟨e0,hp⟩:=VU p e;have dN:p < γ.length:=(aai.mp hr).1;have jk:aS γ S p=false:=by
   cases hb:aS γ S p with
   | false=>rfl
   | true=>exact aaK (fh.mpr ⟨dN,hb⟩) hp
  unfold aS at jk;rw[hr]at jk;have jk:((at_ S p).isNone&&(if kd="other" then (aZ S ds).all (·.isSome) else (aZ S ds).any (·.isSome)))=false:=jk;rw[e0]at jk;have jk:(if kd="other" then (aZ S ds).all (·.isSome) else (aZ S ds).any (·.isSome))=false:=by simpa using jk
  show if kd="other" then∃x∈aZ S' ds,x=none\/x=some (m+1 - 1) else∀x∈aZ S' ds,x=none\/x=some (m+1 - 1)
  rw[Nat.add_sub_cancel];have one:∀d,at_ S d=none->at_ S' d=none\/at_ S' d=some m:=λd ed=>by
   rw[Sh];split
   ·exact .inr rfl
   ·exact .inl ed
  by_cases hk:kd="other"
  ·rw[aay hk]at jk⊢;obtain⟨x,hx,sx⟩:∃x∈aZ S ds,x=none:=by
    have:¬(∀x∈aZ S ds,x.isSome=true):=λz=>by rw[aa5.mpr z]at jk;cases jk
    simp only[Classical.not_forall]at this;have⟨x,hx,sx⟩:=this;exact⟨x,hx,by simpa using sx⟩
   subst sx;have⟨d,hd,ed⟩:=ak.mp hx;exact⟨at_ S' d.1.toNat,ak.mpr ⟨d,hd,rfl⟩,one _ ed⟩
  ·rw[aaF hk]at jk⊢;intro x hx;have⟨d,hd,ed⟩:=ak.mp hx;have:at_ S d.1.toNat=none:=by
    cases hz:at_ S d.1.toNat with
    | none=>rfl
    | some w=>
     have:(aZ S ds).any (·.isSome)=true:=List.any_eq_true.mpr ⟨some w,ak.mpr ⟨d,hd,hz⟩,rfl⟩;rw[this]at jk;cases jk
   rw[<-ed];exact one _ this
def Kn{γ:List Rw}(h:J6 γ gs m S)(he:aX γ S=[]):aL γ gs S:=by
 refine⟨h.len,λp r hr=>?_⟩;cases r with
 | fin q=>exact h.fin p q hr
 | Γ kd ds=>
  show uD kd (aZ S ds) (at_ S p);cases e:at_ S p with
  | some n=>exact h.old p kd ds n hr e
  | none=>
   have dN:p < γ.length:=(aai.mp hr).1;have jk:aS γ S p=false:=by
    cases hb:aS γ S p with
    | false=>rfl
    | true=>have:=fh.mpr ⟨dN,hb⟩;rw[he]at this;cases this
   unfold aS at jk;rw[hr]at jk;have jk:((at_ S p).isNone&&(if kd="other" then (aZ S ds).all (·.isSome) else (aZ S ds).any (·.isSome)))=false:=jk;rw[e]at jk;have jk:(if kd="other" then (aZ S ds).all (·.isSome) else (aZ S ds).any (·.isSome))=false:=by simpa using jk
   unfold uD;by_cases hk:kd="other"
   ·rw[aay hk]at jk⊢;refine .inl ⟨rfl,?_⟩;have:¬(∀x∈aZ S ds,x.isSome=true):=λz=>by rw[aa5.mpr z]at jk;cases jk
    simp only[Classical.not_forall]at this;have⟨x,hx,sx⟩:=this;have:x=none:=by simpa using sx
    rw[<-this];exact hx
   ·rw[aaF hk]at jk⊢;refine .inl ⟨rfl,λx hx=>?_⟩;cases x with
    | none=>rfl
    | some w=>
     have:(aZ S ds).any (·.isSome)=true:=List.any_eq_true.mpr ⟨some w,hx,rfl⟩;rw[this]at jk;cases jk
def p7(S:Sp):Nat:=S.countP (·.isNone)
def Kl(hp:p < S.length)(e:at_ S p=none):p7 (S.set p (some m))+1=p7 S:=by
 unfold p7;have eg:S[p]=none:=by unfold at_ at e;rw[aad,aac hp]at e;exact e
 rw[List.countP_set hp]
 ·simp[eg];have:0 < S.countP (·.isNone):=List.countP_pos_iff.mpr ⟨S[p],aaw hp,by rw[eg];rfl⟩;omega
def zt{m:Nat}:∀(ps:List Nat) (S:Sp),ps.Nodup->(∀p∈ps,p < S.length/\at_ S p=none)->p7 (cC m ps S)+ps.length=p7 S
 | [],_,_,_=>rfl
 | p::ps,S,nd,h=>by
  have⟨h1,h2⟩:=h p aaf;have ih:=zt (m:=m) ps (S.set p (some m)) (abR.mp nd).2 λq hq=>by rw[aaX,JF h1,aaF (λz=>(abR.mp nd).1 (by rw[z];exact hq))];exact h q (aae _ hq)
  have:=Kl (m:=m) h1 h2;show p7 (cC m ps (S.set p (some m)))+(ps.length+1)=p7 S;omega
def eX:Option Nat->Dt
 | none=>.aE
 | some n=>.int n
structure dY(γ:List Rw)(gs:List Nat):Prop where
 up:gs.Pairwise (· < ·)
 fin:∀g∈gs,∃q,γ[g]? =some (.fin q)
structure IA(γ:List Rw):Prop where
 len:γ.length<=12
 row:∀r∈γ,cY r/\fJ r γ.length=true
def pE{γ:List Rw}{k:Str}{ds:List bG}(f:IA γ)(h:Rw.Γ k ds∈γ):Ξ ds γ.length=true/\(aa k=true\/k="chance"):=by
 have h2:=(f.row _ h).2;have h2:(if aa k then Ξ ds γ.length else if k="chance" then Ξ ds γ.length&&Ψ (ds.map τ) else false)=true:=h2;by_cases hk:aa k=true
 ·rw[aay hk]at h2;exact⟨h2,.inl hk⟩
 ·rw[aaF hk]at h2;by_cases hc:k="chance"
  ·rw[aay hc,aam]at h2;exact⟨h2.1,.inr hc⟩
  ·rw[aaF hc]at h2;cases h2
def nE{γ:List Rw}{k:Str}{ds:List bG}{d:bG}(f:IA γ)(h:Rw.Γ k ds∈γ)(hd:d∈ds):0<=d.1/\d.1 < γ.length:=by have h2:=(pE f h).1;unfold Ξ at h2;rw[aam,aam]at h2;have h3:=aa5.mp h2.2 d hd;unfold aR at h3;rw[aam,aam,aaN,aaN]at h3;exact⟨h3.1,h3.2.1⟩
def yw{γ:List Rw}{k:Str}{ds:List bG}(f:IA γ)(h:Rw.Γ k ds∈γ):1<=ds.length/\ds.length<=6:=by have h2:=(pE f h).1;unfold Ξ at h2;rw[aam,aam,aaN,aaN]at h2;exact h2.1
def vx(h:p < S.length):ki (S.map eX) (p:Int)=some (eX (at_ S p)):=by
 have e:at_ S p=S[p]:=by unfold at_;rw[List.getD_eq_getElem?_getD,List.getElem?_eq_getElem h];rfl
 rw[e];exact ag (by rw[aap,aac h];rfl)
def Q8{o:Option Nat}{q:DQ}(h:q (.bl o.isNone) M):M6 (eX o) .aE M q:=by
 cases o with
 | none=>exact h
 | some n=>exact h
def wX{o:Option Nat}{q:DQ}(h:q (.bl o.isSome) M):uT (eX o) .aE M q:=by
 cases o with
 | none=>exact h
 | some n=>exact h
def TNg:SH:=λds M q=>∃i:Int,ds=[.int i]/\q [("place",.int i)] M
def x8:Ε ["self","place"] ["self","place"] (ν j1):=.of rfl
def uI(F:cQ K "__init__" "NoGoal.__init__" j1 f fd)(E:Ev K mg Cm CN CF Ca Cj Cd Ce Cg Ci Cb Cc Ck)(cI:fK K Cj VB "ValueError.__new__" f):ah P w K mg base (bM P w) 1 f fd ["self","place"] (Y2 K Cj TNg):=by
 refine F.okI x8 (λds M q h=>?_) (λaY A outer s H E' hr=>⟨_,(Mv (NT PySem.F.excBase_ValueError cI E.qQ E.mL jH) (RU (Q6 cI E.j7 (jv 1)))),λds M q h=>?_⟩)
 ·have⟨i,rfl,_⟩:=h;rfl
 ·have⟨i,rfl,h⟩:=h;exact⟨@_,@_,h⟩
def OT:Option Rw->Bool
 | some (.fin _)=>true
 | _=>false
def rE(γ:List Rw)(a p:Int):Bool:=decide (a < p)&&(decide (p < γ.length)&&OT γ[p.toNat]?)
def fb(γ:List Rw):Int->List Int->Option Int
 | _,[]=>none
 | a,p::ps=>if rE γ a p then fb γ p ps else some p
def EZ(C CG:Addr):DF:=λas M _ x=>∃ε γ g gs ok b,as=[Ο C ε γ,g]/\gu M g=some (gs.map Dt.int,ok)/\ok M/\(∀r∈γ,cY r)/\fb γ (-1) gs=some b/\x CG [("place",.int b)] M
def p9(C CG:Addr):DF:=λas M q x=>(∃ε γ g gs ok,as=[Ο C ε γ,g]/\gu M g=some (gs.map cf,ok)/\ok M/\dY γ gs/\q .aE M)\/EZ C CG as M q x
def fS:Ε ["floor","goals","ahead","goal"] ["floor","goals"] (ν j5):=.of rfl
def um(F:cQ K "check_goals" "check_goals" j5 f fd)(E:Ev K mg Cm CN CF Ca Cj Cd Ce Cg Ci Cb Cc Ck)(ae:fv P w K mg base 1 Cm "kind" ["self","place"] (tP Cm) bz bw)(af:fv P w K mg base 1 Cm "size" ["self"] (sO Cm) bo bj){yM:Addr}{yK:FuncData}(i6:ZP P w K mg base 1 "NoGoal" Cj VB "ValueError.__new__" ["self","place"] TNg yM yK):ah P w K mg base (bM P w) 3 f fd ["floor","goals"] (cZ K (p9 Cm Cj)):=by
 refine F.eB fS (λds M q x h=>?_) (λaY A outer s H E' hr=>⟨_,(ζ (Δ 2 fS.nd (O7 χ))
   (θ (bK (aT (jv 1)) (au (i:=3) fS.nd rfl (Or.inl rfl)) aK (ζ (aw (JW.jt (gY (OM (jv 3) (jv 2)) (gY (Ox (jv 3) (g_ af hr ο (jv 0))) (h8 (s_ hr (gm ae hr ο (jv 0) (Θ (jv 3) η)) jH))))) (θ (Gb i6 hr Ng PySem.F.excBase_ValueError (Θ (jv 3) η))) Η)
   (θ (Δ 2 fS.nd (jv 3))))))),λds M q x h=>?_⟩)
 ·rcases h with ⟨ε,γ,g,gs,ok,rfl,_⟩| ⟨ε,γ,g,gs,ok,b,rfl,_⟩ <;> rfl
 ·rcases h with h| ⟨ε,γ,g,gs,ok,b,rfl,hg,ay,ro,hb,hx⟩
  rotate_left
  ·have W3:=ay;dsimp only[Dx,rD,nD,da];walk_at "vc";show(match gu M g with| some (xs,ok)=>_| none=>False);rw[hg];refine aO (λxs ρ M'=>M'=M/\∃(rest:List Int) (a:Int) (b':Option Dt),xs=rest.map Dt.int/\ -1<=a/\fb γ a rest=some b/\ρ=[some (Ο Cm ε γ),some g,some (.int a),b']) (λxs ρ M' hj=>by have⟨rfl,_⟩:=hj;exact W3) (λx xs ρ M' hj fC=>?_) (λρ M' hj=>?_) _ _ _ ⟨rfl,gs,-1,none,rfl,@_,hb,rfl⟩
   ·have⟨rfl,rest,a,b',ex,ha,hf,rfl⟩:=hj;cases rest with
    | nil=>cases ex
    | cons p rest=>
     cases ex;have out:rE γ a p=false->p=b:=λe=>by have hf:(if rE γ a p then fb γ p rest else some p)=some b:=hf;rw[e]at hf;exact aav hf
     have go:rE γ a p=true->fb γ p rest=some b:=λe=>by have hf:(if rE γ a p then fb γ p rest else some p)=some b:=hf;rwa[aay e]at hf
     refine⟨λz=>?_,λz=>?_⟩
     ·have z:p<=a:=aaC z;have e:=out (by unfold rE;rw[decide_eq_false (show¬a < p by omega)];rfl);subst e;refine⟨λ_=>?_,nofun⟩;dsimp only[qA];walk_at "vc";exact⟨@_,p,rfl,nofun,hx⟩
     have z:¬p<=a:=aaR z;refine⟨⟨_,_,.inl rfl,rfl⟩,ε,γ,rfl,λy=>?_,λy=>?_⟩
     ·have y:p ≥ γ.length:=aaC y;have e:=out (by unfold rE;rw[decide_eq_false (show¬p < γ.length by omega),Bool.false_and,Bool.and_false]);subst e;refine⟨λ_=>?_,nofun⟩;dsimp only[qA];walk_at "vc";exact⟨@_,p,rfl,nofun,hx⟩
     have y:¬p ≥ γ.length:=aaR y;obtain⟨j,rfl⟩:∃j:Nat,p=(j:Int):=⟨p.toNat,()⟩;have jl:j < γ.length:=()
     have hi:γ[j]? =some γ[j]:=aac jl;have Ry:γ[j]∈γ:=aaw jl;generalize γ[j]=r at hi Ry;have og:rE γ a (j:Int)=OT (some r):=by unfold rE;rw[aaO (show a < (j:Int) by omega),aaO (show(j:Int) < γ.length by omega),aaY,hi];rfl
     refine⟨⟨_,_,.inl rfl,rfl⟩,ε,γ,j,r,rfl,hi,λu=>?_,λu=>?_⟩
     ·cases r with
      | fin q=>exact(nomatch (show(!decide (("end":Str)="end"))=true from u))
      | Γ kd ds=>
       have e:=out (by rw[og];rfl);rw[<-e]at hx;dsimp only[qA];walk_at "vc";exact⟨@_,_,rfl,nofun,hx⟩
     ·cases r with
      | Γ kd ds=>
       have u:(!decide (kd="end"))=false:=u;rw[Bool.not_eq_false',aaN]at u;exact aaK u (ro _ Ry).1
      | fin q=>exact fC _ _ ⟨rfl,rest,j,_,rfl,(),go (by rw[og];rfl),rfl⟩
   ·have⟨rfl,rest,a,b',ex,ha,hf,rfl⟩:=hj;cases rest with
    | nil=>cases hf
    | cons p rest=>cases ex
  have⟨ε,γ,g,gs,ok,rfl,hg,ay,go,h⟩:=h;dsimp only[Dx,rD,nD,da];walk_at "vc";show(match gu M g with| some (xs,ok)=>_| none=>False);rw[hg];refine aO (λxs ρ M'=>M'=M/\∃(rest:List Nat) (a:Int) (b:Option Dt),xs=rest.map cf/\(∀p∈rest,p∈gs/\a < p)/\rest.Pairwise (· < ·)/\ρ=[some (Ο Cm ε γ),some g,some (.int a),b]) (λxs ρ M' hj=>by have⟨rfl,_⟩:=hj;exact ay) (λx xs ρ M' hj fC=>?_) (λρ M' hj=>?_) _ _ _ ⟨rfl,gs,-1,none,rfl,λp hp=>⟨hp,()⟩,go.up,rfl⟩
  ·have⟨rfl,rest,a,b,ex,z_,hp,rfl⟩:=hj;cases rest with
   | nil=>cases ex
   | cons p rest=>
    cases ex;have⟨hm,ha⟩:=z_ p aaf;have⟨e,he⟩:=go.fin p hm;have IV:p < γ.length:=(aai.mp he).1;refine⟨λz=>?_,λ_=>?_⟩
    ·have:(p:Int)<=a:=aaC z;omega
    refine⟨⟨_,_,.inl rfl,rfl⟩,ε,γ,rfl,λz=>?_,λ_=>?_⟩
    ·have:(p:Int) ≥ γ.length:=aaC z;omega
    refine⟨⟨_,_,.inl rfl,rfl⟩,ε,γ,p,.fin e,rfl,he,nofun,λ_=>?_⟩;exact fC _ _ ⟨rfl,rest,p,_,rfl,λr hr=>⟨(z_ r (aae _ hr)).1,abV.mpr (List.rel_of_pairwise_cons hp hr)⟩,hp.of_cons,rfl⟩
  ·have⟨rfl,rest,a,b,ex,z_,hp,rfl⟩:=hj;exact h
def zw(C:Addr):DF:=λas M q _=>∃ε γ k p S,as=[Ο C ε γ,.int (p:Nat),.loc k]/\M[k]? =some (.lst (S.map eX))/\S.length=γ.length/\p < γ.length/\IA γ/\q (.bl (aS γ S p)) M
def oC:Ε ["floor","place","steps","known"] ["floor","place","steps"] (ν qK):=.of rfl
def BY(F:cQ K "is_drawn" "is_drawn" qK f fd)(E:Ev K mg Cm CN CF Ca Cj Cd Ce Cg Ci Cb Cc Ck)(ae:fv P w K mg base 1 Cm "kind" ["self","place"] (tP Cm) bz bw)(aG:fv P w K mg base 2 Cm "doors" ["self","place"] (sy Cm) cB cD):ah P w K mg base (bM P w) 3 f fd ["floor","place","steps"] (cZ K (zw Cm)):=by
 refine F.eB oC (λds M q x h=>?_) (λaY A outer s H E' hr=>⟨_,(ζ (aw (JW.jt (gY (xY (Τ (jv 2) (jv 1)) kj) (h8 (eI hr (gm ae hr ο (jv 0) (Θ (jv 1) η)) jH)))) (θ (Β AZ)) Η)
   (ζ (hG (i:=3) oC.nd rfl (Or.inl rfl) (ys:=["steps"]) (Μ:=[2]) (.of oC rfl rfl rfl) (aT (cz (gm aG hr ο (jv 0) (Θ (jv 1) η)))) (λC s H fp=>(Qa (Τ (jv 1) (Τ (jv 0) χ)) kj)))
   (ζ (aw (eI hr (gm ae hr ο (jv 0) (Θ (jv 1) η)) jH) (θ (Β (Of E.AO (Θ (jv 3) η)))) Η)
   (θ (Β (OE E.yJ (Θ (jv 3) η))))))),λds M q x h=>?_⟩)
 ·have⟨ε,γ,k,p,S,rfl,_⟩:=h;rfl
 ·have⟨ε,γ,k,p,S,rfl,hk,hl,hp,f,h⟩:=h;have hs:fG M (.loc k)=some (S.map eX):=by show(match M[k]? with| some (.lst xs)=>some xs| _=>none)=_;rw[hk]
  have hi:γ[p]? =some γ[p]:=aac hp;have Ry:γ[p]∈γ:=aaw hp;generalize γ[p]=r at hi Ry;have ro:=(f.row _ Ry).1;walk_at "vc";refine(Ζ (d:=.loc k) hs (vx ()) ?_:fo (.loc k) (.int (p:Nat)) M _);refine wX ⟨λz=>⟨λ_=>?_,nofun⟩,λz=>?_⟩
  ·have e:aS γ S p=false:=by
    unfold aS;rw[hi];cases r with
    | fin q=>rfl
    | Γ kd ds=>
     have⟨v,ev⟩:=aa9.mp z;show((at_ S p).isNone&&_)=false;rw[ev];rfl
   rw[e]at h;exact h
  ·have z:at_ S p=none:=by simpa using z
   refine⟨⟨_,_,.inl rfl,rfl⟩,ε,γ,p,r,rfl,hi,?_⟩;cases r with
   | fin e0=>
    have e:aS γ S p=false:=by unfold aS;rw[hi]
    rw[e]at h;exact⟨λ_=>h,nofun⟩
   | Γ kd ds=>
    have l6:=yw f Ry;refine⟨λz=>aaK (aaC z) ro.1,λ_=>?_⟩;have e:aS γ S p=(if kd="other" then (aZ S ds).all (·.isSome) else (aZ S ds).any (·.isSome)):=by unfold aS;rw[hi];show((at_ S p).isNone&&_)=_;rw[z];rfl
    rw[e]at h;refine⟨⟨_,_,.inl rfl,rfl⟩,ε,γ,p,.Γ kd ds,rfl,hi,ro,dt (ds:=ds.map eY) (hI ds) ?_⟩;refine⟨by rw[aah];exact aax l6.2 @_,?_⟩;refine cF (F:=λx a=>x=eY a/\a∈ds) (f:=λd=>Dt.bl (at_ S d.1.toNat).isSome) trivial (λx a ha q' jF=>?_) (gC eY ds ds λ_ h=>h) ?_
    ·have⟨rfl,ha⟩:=ha;have⟨a0,a1⟩:=nE f Ry ha;have e1:ki (S.map eX) a.1=some (eX (at_ S a.1.toNat)):=by have:=vx (S:=S) (p:=a.1.toNat) ();rwa[show((a.1.toNat:Nat):Int)=a.1 by omega]at this
     have key:fo (eY a) (.int 0) M (λi M1=>fo (.loc k) i M1 (λd M2=>uT d .aE M2 q')):=by refine uO ?_;refine Ζ (d:=.loc k) hs e1 ?_;exact wX jF
     exact key
    rw[aaS];have eb:ds.map (λd=>Dt.bl (at_ S d.1.toNat).isSome)=((aZ S ds).map (·.isSome)).map Dt.bl:=by unfold aZ;rw[List.map_map,List.map_map];rfl
    rw[eb];refine⟨⟨_,_,.inl rfl,rfl⟩,ε,γ,p,.Γ kd ds,rfl,hi,λz=>?_,λz=>?_⟩
    ·have z:kd="other":=aaC z;rw[aay z]at h;refine⟨_,rfl,?_⟩;rw[List.all_map];exact h
    ·have z:kd≠"other":=aaR z;rw[aaF z]at h;refine⟨_,rfl,λ_ z=>(nomatch z),λ_ z=>(nomatch z),?_⟩;rw[List.any_map];exact h
def rT(C:Addr):DF:=λas M q _=>∃ε γ k S,as=[Ο C ε γ,.loc k]/\M[k]? =some (.lst (S.map eX))/\S.length=γ.length/\IA γ/\q (.lst ((aX γ S).map cf)) M
def pZ:Ε ["floor","steps"] ["floor","steps"] (ν mW):=.of rfl
def yf(F:cQ K "drawn_next" "drawn_next" mW f fd)(E:Ev K mg Cm CN CF Ca Cj Cd Ce Cg Ci Cb Cc Ck)(af:fv P w K mg base 1 Cm "size" ["self"] (sO Cm) bo bj){Kr:Addr}{LB:FuncData}(oZ:aB P w K mg base 3 "is_drawn" ["floor","place","steps"] (zw Cm) Kr LB):ah P w K mg base (bM P w) 4 f fd ["floor","steps"] (cZ K (rT Cm)):=by
 refine F.eB pZ (λds M q x h=>?_) (λaY A outer s H E' hr=>⟨_,(θ (Β (tS (ys:=["floor","steps"]) (Μ:=[0,1]) (.of pZ rfl rfl rfl) (Fh (d8 E.cW (μ (g_ af hr ο (jv 0)) η cw))) (λC s H fp=>(ba (ar oZ hr (cL (P:=P) (w:=w)) (Θ (jv 1) (Θ (jv 0) (Θ (jv 2) η)))))) (λC s H fp=>(jv 0))))),λds M q x h=>?_⟩)
 ·have⟨ε,γ,k,S,rfl,_⟩:=h;rfl
 ·have⟨ε,γ,k,S,rfl,hk,hl,f,h⟩:=h;have V8:=f.len;refine⟨⟨_,_,.inl rfl,rfl⟩,ε,γ,rfl,?_⟩;refine⟨⟨(),()⟩,by rw[fc];exact aax (show _<=12 by omega) @_,?_⟩;refine bX trivial (λx=>match x with| .int j=>aS γ S j.toNat| _=>false) (λx=>x) _ _ (λx hx q' p' h1 h2=>?_) ?_
  ·have⟨j,hj',rfl⟩:=iS hx;have hj:j < γ.length:=()
   have h1:aS γ S (0+(j:Int)).toNat=true->q' (.int (0+(j:Int))) M:=h1;have h2:aS γ S (0+(j:Int)).toNat=false->p' M:=h2;rw[show(0+(j:Int)).toNat=j by omega]at h1 h2;refine⟨ε,γ,k,j,S,by rw[Int.zero_add],hk,hl,hj,f,?_⟩;cases hb:aS γ S j with
   | true=>exact h1 hb
   | false=>exact h2 hb
  ·rw[aaS,List.map_id'];have e3:((eC 0 ((γ.length:Int)).toNat).filter (λx=>match x with| .int j=>aS γ S j.toNat| _=>false))=(aX γ S).map cf:=by
    unfold eC aX;rw[List.filter_map,show((γ.length:Int)).toNat=γ.length by omega];have e4:((λx:Dt=>match x with| .int j=>aS γ S j.toNat| _=>false) ∘ λk:Nat=>Dt.int (0+(k:Int)))=λj:Nat=>aS γ S j:=by
     funext j
     show aS γ S (0+(j:Int)).toNat=_;rw[show(0+(j:Int)).toNat=j by omega]
    rw[e4];exact List.map_congr_left λj _=>by unfold cf;rw[Int.zero_add]
   rw[e3];exact h
def q_(m:Nat):∀(ps:List Nat) (p:Nat) (S:Sp),cC m (ps++[p]) S=(cC m ps S).set p (some m)
 | [],_,_=>rfl
 | q::ps,p,S=>q_ m ps p (S.set q (some m))
def u9:∀gs:List Nat,iu (gs.map cf)=some (gs.map λg:Nat=>V.int (g:Int))
 | []=>rfl
 | g::gs=>by show(match uP (cf g),iu (gs.map cf) with| some v,some vs=>some (v::vs)| _,_=>none)=_;rw[u9 gs];rfl
def Ej(p:Nat):∀gs:List Nat,SD (.int (p:Int)) (gs.map λg:Nat=>V.int (g:Int))=decide (p∈gs)
 | []=>rfl
 | g::gs=>by
  show(((g:Int)==(p:Int))|| SD (.int (p:Int)) (gs.map λg:Nat=>V.int (g:Int)))=_;rw[Ej p gs];by_cases h:g=p
  ·subst h;simp
  ·have h1:((g:Int)==(p:Int))=false:=by simpa usingλz:(g:Int)=p=>h ()
   rw[h1,Bool.false_or];have:(p∈g::gs)↔p∈gs:=⟨λz=>(aaG.mp z).resolve_left (λe=>h e.symm),aae _⟩;simp[this]
def gp(n:Nat)(gs:List Nat):Sp:=(List.range n).map λp=>if p∈gs then some 0 else none
def zK(h:p < n):at_ (gp n gs) p=if p∈gs then some 0 else none:=by unfold at_ gp;rw[aad,aap,aaQ h];rfl
def Gj{γ:List Rw}(g:dY γ gs)(f:IA γ):J6 γ gs 1 (gp γ.length gs):=by
 have out:∀p n,at_ (gp γ.length gs) p=some n->p < γ.length/\p∈gs/\n=0:=λp n e=>by
  by_cases hp:p < γ.length
  ·rw[zK hp]at e;split at e
   ·rename_i hg;cases e;exact⟨hp,hg,rfl⟩
   ·cases e
  ·unfold at_ gp at e;rw[List.getD_eq_getElem?_getD,List.getElem?_eq_none (by simp;omega)]at e;cases e
 refine⟨by unfold gp;simp,λp n e=>by have⟨_,_,rfl⟩:=out p n e;exact Nat.zero_lt_one,λp q hr=>zK (List.getElem?_eq_some_iff.mp hr).1,λp kd ds n hr e=>?_,λp kd ds hr e=>?_⟩
 ·have⟨_,hg,_⟩:=out p n e;have⟨q,hq⟩:=g.fin p hg;rw[hr]at hq;cases hq
 ·have any:∀x∈aZ (gp γ.length gs) ds,x=none\/x=some (1 - 1):=λx hx=>by
   have⟨d,hd,ed⟩:=ak.mp hx;cases x with
   | none=>exact .inl rfl
   | some v=>have⟨_,_,rfl⟩:=out _ _ ed;exact .inr rfl
  by_cases hk:kd="other"
  ·rw[aay hk];have l6:=yw f (aar hr);cases ds with
   | nil=>exact aaK l6.1 @_
   | cons d ds=>exact⟨_,aaf,any _ aaf⟩
  ·rw[aaF hk];exact any
def jB(S:Sp):List Nat:=(List.range S.length).filter λp=>(at_ S p).isNone
def uM:∀(S:Sp) (n:Nat),((g6 n (S.map eX)).filter (λx=>match x with| .tup [_,.aE]=>true| _=>false)).map (λx=>match x with| .tup [i,_]=>i| _=>.aE)=(jB S).map λj=>cf (n+j)
 | [],n=>rfl
 | o::S,n=>by
  have ih:=uM S (n+1);have e1:jB (o::S)=(if o.isNone then [0] else [])++(jB S).map Nat.succ:=by
   unfold jB;rw[aaL,abJ,List.filter_cons];have:((List.map Nat.succ (List.range S.length)).filter λp=>(at_ (o::S) p).isNone)=((List.range S.length).filter λp=>(at_ S p).isNone).map Nat.succ:=by rw[List.filter_map];rfl
   rw[this];show(if o.isNone=true then _ else _)=_;split <;> rfl
  rw[e1,aaT,aaV];have e2:(jB S).map ((λj=>cf (n+j)) ∘ Nat.succ)=(jB S).map λj=>cf (n+1+j):=abo λj _=>by
   show cf (n+(j+1))=cf (n+1+j)
   congr 1;omega
  rw[e2,<-ih];cases o with
  | none=>rfl
  | some v=>rfl
def EV(C CG:Addr):DF:=λas M q x=>(∃ε γ g gs ok,as=[Ο C ε γ,g]/\gu M g=some (gs.map cf,ok)/\ok M/\fG M g=some (gs.map cf)/\dY γ gs/\IA γ/\∀S,aL γ gs S->q (.tup [.loc (M.length+1),.loc M.length]) (M++[.lst (S.map eX),.lst ((jB S).map cf)]))\/EZ C CG as M q x
def iw:Ε ["floor","goals","steps","many","drawn","place","shut"] ["floor","goals"] (ν K1):=.of rfl
def Nk(F:cQ K "draw" "draw" K1 f fd)(E:Ev K mg Cm CN CF Ca Cj Cd Ce Cg Ci Cb Cc Ck){yE:Addr}{AR:FuncData}(i5:aB P w K mg base 3 "check_goals" ["floor","goals"] (p9 Cm Cj) yE AR)(af:fv P w K mg base 1 Cm "size" ["self"] (sO Cm) bo bj){Bx:Addr}{CU:FuncData}(gZ:aB P w K mg base 4 "drawn_next" ["floor","steps"] (rT Cm) Bx CU):ah P w K mg base (bM P w) 5 f fd ["floor","goals"] (cZ K (EV Cm Cj)):=by
 refine F.eB iw (λds M q x h=>?_) (λaY A outer s H E' hr=>⟨_,(ζ (dX (ar i5 hr ο (Θ (jv 0) (Θ (jv 1) η))))
   (ζ (v7 (i:=2) iw.nd rfl (Or.inl rfl) (ys:=["goals"]) (Μ:=[1]) (.of iw rfl rfl rfl) (Fh (d8 E.cW (μ (g_ af hr ο (jv 0)) η cw))) (λC s H fp=>(JV (BZ (jv 0) (jv 1)) χ kj)))
   (ζ (Δ 3 iw.nd χ)
   (ζ (Δ 4 iw.nd (ar gZ hr ο (Θ (jv 0) (Θ (jv 2) η))))
   (ζ (nI (zd (dc E.bS (Θ (jv 4) η)) χ) (ζ (bK (aT (jv 4)) (au (i:=5) iw.nd rfl (Or.inl rfl)) aK (θ (kE (jv 2) (jv 5) (jv 3))))
   (ζ (Δ 3 iw.nd (eJ (jv 3) χ))
   (θ (Δ 4 iw.nd (ar gZ hr ο (Θ (jv 0) (Θ (jv 2) η))))))))
   (ζ (uH (i:=6) iw.nd rfl (Or.inl rfl) (ys:=[]) (Μ:=[]) (.of iw rfl rfl rfl) (oq E.bT (Θ (jv 2) η)) (λC s H fp=>(Bw (jv 1) kj)) (λC s H fp=>(jv 0)))
   (θ (Β (bQ (Θ (jv 6) (Θ (jv 2) η))))))))))),λds M q x h=>?_⟩)
 ·rcases h with ⟨ε,γ,g,gs,ok,rfl,_⟩| ⟨ε,γ,g,gs,ok,b,rfl,_⟩ <;> rfl
 ·rcases h with h| h
  rotate_left
  ·have⟨ε,γ,g,gs,ok,b,rfl,r⟩:=h;exact .inr ⟨ε,γ,g,gs,ok,b,rfl,r⟩
  have⟨ε,γ,g,gs,ok,rfl,hg,ay,U5,go,f,h⟩:=h;have V8:=f.len;refine .inl ⟨ε,γ,g,gs,ok,rfl,hg,ay,go,?_⟩;refine⟨⟨_,_,.inl rfl,rfl⟩,ε,γ,rfl,?_⟩;refine⟨⟨(),()⟩,by rw[fc];exact aax (show _<=12 by omega) @_,?_⟩;refine eU (f:=λx=>match x with| .int j=>eX (if j.toNat∈gs then some 0 else none)| _=>.aE) trivial (λx hx q' jF=>?_) ?_
  ·have⟨j,hj',rfl⟩:=iS hx;have jF:q' (eX (if (0+(j:Int)).toNat∈gs then some 0 else none)) M:=jF;rw[show(0+(j:Int)).toNat=j by omega]at jF;rw[show(0+(j:Int))=(j:Int) by omega];refine⟨.int (j:Int),gs.map cf,_,rfl,U5,u9 gs,?_⟩;rw[Ej];refine⟨λz=>?_,λz=>?_⟩
   ·rw[aay (aaC z)]at jF;exact jF
   ·rw[aaF (aaR z)]at jF;exact jF
  have e0:([]:List Dt)++(eC 0 ((γ.length:Int)).toNat).map (λx=>match x with| .int j=>eX (if j.toNat∈gs then some 0 else none)| _=>.aE)=(gp γ.length gs).map eX:=by
   unfold eC gp;rw[aaS,aaV,aaV,show((γ.length:Int)).toNat=γ.length by omega];exact abo λj _=>by show eX (if (0+(j:Int)).toNat∈gs then some 0 else none)=_;rw[show(0+(j:Int)).toNat=j by omega];rfl
  rw[e0];have d0:=Gj go f;refine⟨ε,γ,M.length,gp γ.length gs,rfl,by simp,d0.len,f,?_⟩;refine⟨λm ρ M'=>∃(S:Sp) (mm:Nat) (a b:Option Dt),J6 γ gs mm S/\1<=mm/\m=p7 S/\M'=M++[.lst (S.map eX)]/\ρ=[some (Ο Cm ε γ),some g,some (.loc M.length),some (.int (mm:Int)),some (.lst ((aX γ S).map cf)),a,b],⟨_,gp γ.length gs,1,none,none,d0,aao _,rfl,rfl,rfl⟩,?_⟩;rintro m ρ M' ⟨S,mm,a,b,di,m1,rfl,rfl,rfl⟩;have IV:∀p∈aX γ S,p < S.length:=λp hp=>by rw[di.len];exact(fh.mp hp).1
  have UH:∀p∈aX γ S,at_ S p=none:=λp hp=>by
   have:=(fh.mp hp).2;unfold aS at this;split at this
   ·rw[aam]at this;exact Option.isNone_iff_eq_none.mp this.1
   ·cases this
  have Vo:(aX γ S).Nodup:=List.Pairwise.filter _ List.nodup_range;walk_at "vc";refine(aJ (d:=.lst ((aX γ S).map cf)) (xs:=(aX γ S).map cf) rfl ?_:gK [.lst ((aX γ S).map cf)] _ _);refine⟨λz=>?_,λz=>?_⟩
  ·have z:((((aX γ S).map cf).length:Nat):Int) > 0:=aaC z;rw[aah]at z;refine⟨λρ' Rx=>∃(a b:Option Dt),Rx=M++[.lst ((cC mm (aX γ S) S).map eX)]/\ρ'=[some (Ο Cm ε γ),some g,some (.loc M.length),some (.int ((mm+1:Nat):Int)),some (.lst ((aX γ (cC mm (aX γ S) S)).map cf)),a,b],?_,?_⟩
   ·rintro ρ' Rx ⟨a',b',rfl,rfl⟩;have ho:=zt (m:=mm) (aX γ S) S Vo λp hp=>⟨IV p hp,UH p hp⟩;exact⟨_,(),cC mm (aX γ S) S,mm+1,a',b',vG di m1,(),rfl,rfl,rfl⟩
   ·refine aW (i:=4) (d:=.lst ((aX γ S).map cf)) rfl rfl ?_;refine aO (λxs ρ Rx=>∃(done rest:List Nat) (a b:Option Dt),aX γ S=done++rest/\xs=rest.map cf/\Rx=M++[.lst ((cC mm done S).map eX)]/\ρ=[some (Ο Cm ε γ),some g,some (.loc M.length),some (.int (mm:Int)),some (.lst ((aX γ S).map cf)),a,b]) (λxs ρ Rx hj=>trivial) (λx xs ρ Rx hj fC=>?_) (λρ Rx hj=>?_) _ _ _ ⟨[],aX γ S,a,b,rfl,rfl,rfl,rfl⟩
    ·have⟨done,rest,a',b',er,ex,rfl,rfl⟩:=hj;cases rest with
     | nil=>cases ex
     | cons p rest=>
      cases ex;have hp:=IV p (by rw[er];simp);refine⟨M.length,(p:Int),(cC mm done S).map eX,p,rfl,rfl,by simp,by rw[List.length_map,mQ];exact qR hp,?_⟩;refine fC _ _ ⟨done++[p],rest,_,_,by rw[er];simp,rfl,?_,rfl⟩;rw[q_];simp[List.set_append,List.map_set];rfl
    ·have⟨done,rest,a',b',er,ex,rfl,rfl⟩:=hj;cases rest with
     | nil=>
      rw[aaW]at er;subst er;have ds:=vG di m1;exact⟨ε,γ,M.length,cC mm (aX γ S) S,rfl,by simp,ds.len,f,_,_,rfl,rfl⟩
     | cons p rest=>cases ex
  ·have z:¬((((aX γ S).map cf).length:Nat):Int) > 0:=aaR z;rw[aah]at z;have Xe:aX γ S=[]:=List.length_eq_zero_iff.mp ();have dok:=Kn di Xe;have hkS:(M++[MO.lst (S.map eX)])[M.length]? =some (.lst (S.map eX)):=by simp
   have XB:iz (M++[MO.lst (S.map eX)]) (.loc M.length)=some (S.map eX,λM':Ms=>M'[M.length]? =some (MO.lst (S.map eX))):=by show(match (M++[MO.lst (S.map eX)])[M.length]? with| some (MO.lst xs)=>some (xs,λM':Ms=>M'[M.length]? =some (MO.lst xs))| _=>none)=_;rw[hkS]
   refine⟨.loc M.length,S.map eX,_,rfl,XB,by rw[fN,aah,di.len];exact aax V8 @_,?_⟩;refine bX hkS (λx=>match x with| .tup [_,.aE]=>true| _=>false) (λx=>match x with| .tup [i,_]=>i| _=>.aE) _ _ (λx hx q' p' h1 h2=>?_) ?_
   ·have⟨j,hj,ej⟩:=abf hx;have⟨y,hy,rfl⟩:=oG (n:=0) (i:=j) (aai.mpr ⟨hj,ej⟩);rw[aap]at hy;have⟨o,ho,rfl⟩:=abm.mp hy;cases o with
    | none=>exact h1 rfl
    | some v=>exact h2 rfl
   ·rw[aaS,uM S 0];have e4:(jB S).map (λj=>cf (0+j))=(jB S).map cf:=abo λj _=>by rw[ab1]
    rw[e4];refine⟨D2,?_⟩;have:=h S dok;rw[aan,aaJ];exact this
def rj{a b:Fr}(ha:0 < a.2)(hb:0 < b.2):a.1 * b.2<=b.1 * a.2↔val a<=val b:=by
 have e1:val a * (a.2:Rat)=a.1:=by
  have:=bV (show a.2≠0 by omega);unfold val;generalize (a.1:Rat)=x at *
  generalize (a.2:Rat)=y at *
  grind
 have e2:val b * (b.2:Rat)=b.1:=by
  have:=bV (show b.2≠0 by omega);unfold val;generalize (b.1:Rat)=x at *
  generalize (b.2:Rat)=y at *
  grind
 have p1:(0:Rat) < (a.2:Rat):=abx.mpr ha;have p2:(0:Rat) < (b.2:Rat):=abx.mpr hb;have pp:=Rat.mul_pos p1 p2;rw[<-Rat.intCast_le_intCast,aa6,aa6,<-e1,<-e2];generalize (a.2:Rat)=y at *
 generalize (b.2:Rat)=z at *
 generalize val a=u at *
 generalize val b=v at *
 constructor
 ·intro h;by_cases c:u<=v
  ·exact c
  ·have:=Rat.mul_pos (show 0 < u - v by grind) pp;grind
 ·intro h;have:=Rat.mul_le_mul_of_nonneg_right h (Rat.le_of_lt pp);grind
def qY(ns:List Fr):Fr:=ns.foldl (λf n=>if dw f n then n else f) (ns.headD (0,1))
def sM(ns:List Fr):Fr:=ns.foldl (λf n=>if dw n f then n else f) (ns.headD (0,1))
def CQ:DF:=λas M q _=>∃p r k l,as=[az p,az r]/\Sz k p/\Sz l r/\k+l+1<=8000/\q (.bl (dw p r)) M
def NZ:Ε ["one","other"] ["one","other"] (ν Cn):=.of rfl
def Jj(F:cQ K "under" "under" Cn f fd)(E:Ev K mg Cm CN CF Ca Cj Cd Ce Cg Ci Cb Cc Ck):ah P w K mg base (bM P w) 1 f fd ["one","other"] (cZ K CQ):=by
 refine F.eB NZ (λds M q x h=>?_) (λaY A outer s H E' hr=>⟨_,(θ (Β (Pc (eA (Τ (jv 0) χ) (Τ (jv 1) χ)) (eA (Τ (jv 1) χ) (Τ (jv 0) χ))))),λds M q x h=>?_⟩)
 ·have⟨p,r,k,l,rfl,_⟩:=h;rfl
 ·have⟨p,r,k,l,rfl,hp,ve,hk,h⟩:=h;exact⟨⟨jw hp (),fR ve ()⟩,⟨jw ve (),fR hp ()⟩,h⟩
def vS(f:List Fr->Fr):DF:=λas M q _=>∃ns:List Fr,as=[.lst (ns.map az)]/\ns≠[]/\(∀n∈ns,Sz 1300 n)/\q (az (f ns)) M
def jg:Ε ["numbers","found","number"] ["numbers"] (ν pN):=.of rfl
def AB(F:cQ K "greatest" "greatest" pN f fd)(E:Ev K mg Cm CN CF Ca Cj Cd Ce Cg Ci Cb Cc Ck){BX:Addr}{BM:FuncData}(k6:aB P w K mg base 1 "under" ["one","other"] CQ BX BM):ah P w K mg base (bM P w) 2 f fd ["numbers"] (cZ K (vS qY)):=by
 refine F.eB jg (λds M q x h=>?_) (λaY A outer s H E' hr=>⟨_,(ζ (Δ 1 jg.nd (Τ (jv 0) χ))
   (ζ (bK (aT (jv 0)) (au (i:=2) jg.nd rfl (Or.inl rfl)) aK (θ (aw (ba (ar k6 hr ο (Θ (jv 1) (Θ (jv 2) η)))) (θ (Δ 1 jg.nd (jv 2))) Η)))
   (θ (Β (jv 1))))),λds M q x h=>?_⟩)
 ·have⟨ns,rfl,_⟩:=h;rfl
 ·have⟨ns,rfl,h0,hn,h⟩:=h;have⟨n0,ns',rfl⟩:=abL h0;walk_at "vc";refine Ζ (d:=.lst ((n0::ns').map az)) rfl bJ ?_;refine aW (i:=0) (d:=.lst ((n0::ns').map az)) rfl rfl ?_;refine aO (λxs ρ M'=>M'=M/\∃(rest:List Fr) (f:Fr) (a:Option Dt),xs=rest.map az/\(∀p∈rest,Sz 1300 p)/\Sz 1300 f/\rest.foldl (λf n=>if dw f n then n else f) f=qY (n0::ns')/\ρ=[some (.lst ((n0::ns').map az)),some (az f),a]) (λxs ρ M' hj=>trivial) (λx xs ρ M' hj fC=>?_) (λρ M' hj=>?_) _ _ _ ⟨rfl,n0::ns',n0,none,rfl,hn,hn n0 aaf,rfl,rfl⟩
  ·have⟨rfl,rest,f,a,ex,z_,hw,hf,rfl⟩:=hj;cases rest with
   | nil=>cases ex
   | cons p rest=>
    cases ex;have hp:=z_ p aaf;rw[abF]at hf;refine⟨f,p,1300,1300,rfl,hw,hp,@_,λz=>?_,λz=>?_⟩
    ·rw[z,aay rfl]at hf;exact fC _ _ ⟨rfl,rest,p,_,rfl,λp hp=>z_ p (aae _ hp),hp,hf,rfl⟩
    ·rw[z,aaF @_]at hf;exact fC _ _ ⟨rfl,rest,f,_,rfl,λp hp=>z_ p (aae _ hp),hw,hf,rfl⟩
  ·have⟨rfl,rest,f,a,ex,z_,hw,hf,rfl⟩:=hj;cases rest with
   | nil=>rw[<-hf]at h;exact h
   | cons p rest=>cases ex
def qw:Ε ["numbers","found","number"] ["numbers"] (ν BS):=.of rfl
def HL(F:cQ K "least" "least" BS f fd)(E:Ev K mg Cm CN CF Ca Cj Cd Ce Cg Ci Cb Cc Ck){BX:Addr}{BM:FuncData}(k6:aB P w K mg base 1 "under" ["one","other"] CQ BX BM):ah P w K mg base (bM P w) 2 f fd ["numbers"] (cZ K (vS sM)):=by
 refine F.eB qw (λds M q x h=>?_) (λaY A outer s H E' hr=>⟨_,(ζ (Δ 1 qw.nd (Τ (jv 0) χ))
   (ζ (bK (aT (jv 0)) (au (i:=2) qw.nd rfl (Or.inl rfl)) aK (θ (aw (ba (ar k6 hr ο (Θ (jv 2) (Θ (jv 1) η)))) (θ (Δ 1 qw.nd (jv 2))) Η)))
   (θ (Β (jv 1))))),λds M q x h=>?_⟩)
 ·have⟨ns,rfl,_⟩:=h;rfl
 ·have⟨ns,rfl,h0,hn,h⟩:=h;have⟨n0,ns',rfl⟩:=abL h0;walk_at "vc";refine Ζ (d:=.lst ((n0::ns').map az)) rfl bJ ?_;refine aW (i:=0) (d:=.lst ((n0::ns').map az)) rfl rfl ?_;refine aO (λxs ρ M'=>M'=M/\∃(rest:List Fr) (f:Fr) (a:Option Dt),xs=rest.map az/\(∀p∈rest,Sz 1300 p)/\Sz 1300 f/\rest.foldl (λf n=>if dw n f then n else f) f=sM (n0::ns')/\ρ=[some (.lst ((n0::ns').map az)),some (az f),a]) (λxs ρ M' hj=>trivial) (λx xs ρ M' hj fC=>?_) (λρ M' hj=>?_) _ _ _ ⟨rfl,n0::ns',n0,none,rfl,hn,hn n0 aaf,rfl,rfl⟩
  ·have⟨rfl,rest,f,a,ex,z_,hw,hf,rfl⟩:=hj;cases rest with
   | nil=>cases ex
   | cons p rest=>
    cases ex;have hp:=z_ p aaf;rw[abF]at hf;refine⟨p,f,1300,1300,rfl,hp,hw,@_,λz=>?_,λz=>?_⟩
    ·rw[z,aay rfl]at hf;exact fC _ _ ⟨rfl,rest,p,_,rfl,λp hp=>z_ p (aae _ hp),hp,hf,rfl⟩
    ·rw[z,aaF @_]at hf;exact fC _ _ ⟨rfl,rest,f,_,rfl,λp hp=>z_ p (aae _ hp),hw,hf,rfl⟩
  ·have⟨rfl,rest,f,a,ex,z_,hw,hf,rfl⟩:=hj;cases rest with
   | nil=>rw[<-hf]at h;exact h
   | cons p rest=>cases ex
def vp{f n:Fr}(h1:0 < f.2)(h2:0 < n.2):dw f n=true↔val f < val n:=by
 unfold dw;rw[aaN];have:=rj h2 h1;constructor
 ·intro h;by_cases c:val n<=val f
  ·have:=this.mpr c;omega
  ·grind
 ·intro h;by_cases c:n.1 * f.2<=f.1 * n.2
  ·have:=this.mp c;grind
  ·omega
def lP:∀(ns:List Fr) (f:Fr),0 < f.2->(∀n∈ns,0 < n.2)->(ns.foldl (λf n=>if dw f n then n else f) f∈f::ns)/\val f<=val (ns.foldl (λf n=>if dw f n then n else f) f)/\∀n∈ns,val n<=val (ns.foldl (λf n=>if dw f n then n else f) f)
 | [],f,_,_=>⟨List.mem_cons_self,by show val f<=val f;grind,λ_ z=>nomatch z⟩
 | a::ns,f,h,hn=>by
  have ha:=hn a aaf;have u:=vp h ha;rw[abF];by_cases c:dw f a=true
  ·rw[aay c];have⟨m,l,al⟩:=lP ns a ha λn z=>hn n (aae _ z);have:=u.mp c;refine⟨List.mem_cons_of_mem _ m,by grind,λn z=>?_⟩;rcases aaG.mp z with e| e
   ·rw[e];exact l
   ·exact al n e
  ·rw[aaF c];have⟨m,l,al⟩:=lP ns f h λn z=>hn n (aae _ z);have c2:¬val f < val a:=λz=>c (u.mpr z);refine⟨?_,l,λn z=>?_⟩
   ·rcases aaG.mp m with e| e
    ·rw[e];exact aaf
    ·exact aae _ (aae _ e)
   ·rcases aaG.mp z with e| e
    ·rw[e];grind
    ·exact al n e
def lO:∀(ns:List Fr) (f:Fr),0 < f.2->(∀n∈ns,0 < n.2)->(ns.foldl (λf n=>if dw n f then n else f) f∈f::ns)/\val (ns.foldl (λf n=>if dw n f then n else f) f)<=val f/\∀n∈ns,val (ns.foldl (λf n=>if dw n f then n else f) f)<=val n
 | [],f,_,_=>⟨List.mem_cons_self,by show val f<=val f;grind,λ_ z=>nomatch z⟩
 | a::ns,f,h,hn=>by
  have ha:=hn a aaf;have u:=vp ha h;rw[abF];by_cases c:dw a f=true
  ·rw[aay c];have⟨m,l,al⟩:=lO ns a ha λn z=>hn n (aae _ z);have:=u.mp c;refine⟨List.mem_cons_of_mem _ m,by grind,λn z=>?_⟩;rcases aaG.mp z with e| e
   ·rw[e];exact l
   ·exact al n e
  ·rw[aaF c];have⟨m,l,al⟩:=lO ns f h λn z=>hn n (aae _ z);have c2:¬val a < val f:=λz=>c (u.mpr z);refine⟨?_,l,λn z=>?_⟩
   ·rcases aaG.mp m with e| e
    ·rw[e];exact aaf
    ·exact aae _ (aae _ e)
   ·rcases aaG.mp z with e| e
    ·rw[e];grind
    ·exact al n e
def ip(k:Str):Rat:=if k="one" then 1 else -1
structure FR(ε:Fr)(γ:List Rw):Prop where
 pl:TF ε γ
 n1:1<=γ.length
 Vo:∀k ds,Rw.Γ k ds∈γ->aa k=true->∀d∈ds,d.2.2=[]
def fq(γ:List Rw)(i:Nat):Rw:=γ.getD i (.fin (0,1))
def rw_at{γ:List Rw}(h:i < γ.length):γ[i]? =some (fq γ i):=by unfold fq;rw[aad,aac h];rfl
def cN{γ:List Rw}{r:Rw}(hi:γ[i]? =some r):fq γ i=r:=by unfold fq;rw[aad,hi];rfl
def FR.Sx{ε:Fr}{γ:List Rw}(h:FR ε γ):IA γ:=⟨h.pl.len,h.pl.row⟩
def ND{ds:List bG}(o:FN (ds.map τ)):∀d∈ds,0 < cV d:=λd hd=>by
 have hm:τ d∈ds.map τ:=aau.mpr ⟨d,hd,rfl⟩;have⟨_,_,hB⟩:=iT (ds.map τ) 1 0 @_ (ab4 _) λc hc=>⟨(o.HD.2 c hc).1,ab4 _⟩;have e:=A5 (o.HD.2 _ hm).1 (hB _ hm);have p:(0:Rat) < ((jU (br (ds.map τ)) (τ d):Int):Rat):=abx.mpr (o.pos _ hm);have b0:(0:Rat) < ((br (ds.map τ):Int):Rat):=abx.mpr o.b0;have e:((jU (br (ds.map τ)) (τ d):Int):Rat)=val (τ d) * ((br (ds.map τ):Int):Rat):=e;rw[e]at p;show 0 < val (τ d);by_cases z:0 < val (τ d)
 ·exact z
 ·have:=Rat.mul_nonneg (show 0<= -val (τ d) by grind) (Rat.le_of_lt b0);grind
structure WyC(n:Nat)(B:Int)(d:bG):Prop where
 to:0<=d.1/\d.1 < n
 one:d.2.2=[τ d]
 ch:Ch B (τ d)
 p:0 < cV d
section
variable{ε:Fr}{γ:List Rw}{acc acc':Pl}{tb tb':List Fr}{k:Str}{ds:List bG}
def j2(fr:FR ε γ)(hi:γ[i]? =some (.Γ k ds))(hh:aa k=true)(gj:Υ acc i=some (j:Int))(jl:j < ds.length):fj acc i (.Γ k ds)=[(ds[j].1,ds[j].2.1,[(1,1)])]:=by
 have gd:ds.getD j d0=ds[j]:=by rw[aad,aac jl];rfl
 unfold fj;rw[gj];show[((ds.getD ((j:Int)).toNat d0).1,(ds.getD ((j:Int)).toNat d0).2.1,(ds.getD ((j:Int)).toNat d0).2.2++[(1,1)])]=_;rw[aaY,gd,fr.Vo k ds (aar hi) hh _ (aaw jl)];rfl
def uN:val ((1,1):Fr)=1:=by show((1:Int):Rat) / ((1:Int):Rat)=1;grind
def Bt:val ((0,1):Fr)=0:=by show((0:Int):Rat) / ((1:Int):Rat)=0;grind
def FR.Ρ(fr:FR ε γ)(dk:qc γ acc)(hi:γ[i]? =some (.Γ k ds)):(fj acc i (.Γ k ds)).length<=6/\aI cV (fj acc i (.Γ k ds))=1/\∃B,0 < B/\B<=1000000/\∀d∈fj acc i (.Γ k ds),WyC γ.length B d:=by
 have rm:Rw.Γ k ds∈γ:=aar hi;have dr:=gr fr.pl rm;cases hh:aa k with
 | true=>
  have⟨j,hj,jl⟩:=dk.hand i _ hi hh;have jl:j < ds.length:=jl;have v1:cV (ds[j].1,ds[j].2.1,[((1,1):Fr)])=1:=uN;rw[j2 fr hi hh hj jl];refine⟨by simp,?_,1,@_,@_,λd hd=>?_⟩
  ·show cV (ds[j].1,ds[j].2.1,[(1,1)])+0=1;rw[v1];grind
  ·rw[abl.mp hd];refine⟨dr.to ds[j] (List.getElem_mem jl),rfl,?_,by rw[v1];grind⟩;show Ch 1 ((1,1):Fr);exact⟨@_,⟨1,@_⟩,⟨@_,@_⟩,wy (k:=2) ⟨@_,@_,@_⟩ @_⟩
 | false=>
  have hc:k="chance"/\FN (ds.map τ):=by
   rcases dr.kd with z| ⟨_,z⟩
   ·rw[z]at hh;cases hh
   ·exact z
  have⟨rfl,co⟩:=hc;have e:fj acc i (.Γ "chance" ds)=ds:=by unfold fj;rw[dk.LI i _ hi hh];rfl
  rw[e];refine⟨dr.l6,(Mg co).1,br (ds.map τ),co.b0,co.b1,λd hd=>?_⟩;have⟨a,b,c,f⟩:=N4 co (aau.mpr ⟨d,hd,rfl⟩);exact⟨dr.to d hd,(dr.ro.2.2.1 rfl).1 d hd,⟨a,Kg b,c,f⟩,ND co d hd⟩
def vb(S:Sp)(i:Nat):Prop:=∃s,at_ S i=some (s+1)
def fL(γ:List Rw)(S:Sp)(acc:Pl)(i:Nat):List bG:=match at_ S i with
 | some (_+1)=>fj acc i (fq γ i)
 | _=>[]
def o9(S:Sp)(i:Nat):Fr:=match at_ S i with
 | some 0=>(1,1)
 | _=>(0,1)
def mT(h:vb S i):fL γ S acc i=fj acc i (fq γ i):=by have⟨s,e⟩:=h;unfold fL;rw[e]
def sk(h:¬vb S i):fL γ S acc i=[]:=by
 unfold fL;split
 ·rename_i s e;exact aaK ⟨s,e⟩ h
 ·rfl
def OH(h:vb S i):o9 S i=(0,1):=by have⟨s,e⟩:=h;unfold o9;rw[e];rfl
def o_(dr:aL γ gs S)(il:i < γ.length)(h:vb S i):∃k ds,γ[i]? =some (.Γ k ds):=by
 have hi:=rw_at il;have⟨s,e⟩:=h;have:=dr.2 i _ hi;cases hr:fq γ i with
 | Γ k ds=>rw[hr]at hi;exact⟨k,ds,hi⟩
 | fin p=>
  rw[hr]at this;have this:at_ S i=if i∈gs then some 0 else none:=this
  rw[e]at this;split at this <;> cases this
def pd(fr:FR ε γ)(dk:qc γ acc)(dr:aL γ gs S)(il:i < γ.length)(h:vb S i):(fL γ S acc i).length<=6/\aI cV (fL γ S acc i)=1/\∃B,0 < B/\B<=1000000/\∀d∈fL γ S acc i,WyC γ.length B d:=by have⟨k,ds,hi⟩:=o_ dr il h;rw[mT h,cN hi];exact fr.Ρ dk hi
def Og{p:Fr}(e0:0 < E)(h:p=(0,1)\/p=(1,1)):Nr E 7 p:=by
 rcases h with rfl| rfl
 ·exact⟨⟨@_,@_⟩,⟨0,by simp⟩,⟨@_,@_⟩⟩
 ·exact⟨⟨@_,@_⟩,⟨E,by simp⟩,⟨@_,@_⟩⟩
def HE:o9 S i=(0,1)\/o9 S i=(1,1):=by
 unfold o9;split
 ·exact .inr rfl
 ·exact .inl rfl
def QT(fr:FR ε γ)(dk:qc γ acc)(dr:aL γ gs S)(il:i < γ.length):∃E,EO (1,1) γ.length E 7 (fL γ S acc i) (o9 S i)/\7 * E<=7000000/\SzE E 7/\(∀d∈fL γ S acc i,∃c,d.2.2=[c])/\∀d∈fL γ S acc i,Sz 300 (τ d):=by
 by_cases h:vb S i
 ·have⟨l6,one,B,b0,b1,hw⟩:=pd (acc:=acc) fr dk dr il h;generalize fL γ S acc i=ws at *
  refine⟨B,⟨⟨λd hd=>(hw d hd).to,λd hd=>Rat.le_of_lt (hw d hd).p,by rw[one];grind⟩,λd hd=>⟨@_,⟨@_,@_⟩,(hw d hd).ch.pos,(hw d hd).ch.u,?_⟩,Og b0 HE,b0,()⟩,(),⟨Int.lt_of_le_of_lt b1 @_,@_⟩,λd hd=>⟨_,(hw d hd).one⟩,λd hd=>(hw d hd).ch.sz⟩;have:=Bk @_ (hw d hd).ch.pos (Gs ((1,1):Fr)) (hw d hd).ch.he;rwa[Int.one_mul]at this
 ·rw[sk h];exact⟨1,⟨⟨λ_ z=>(nomatch z),λ_ z=>(nomatch z),by show(0:Rat)<=1;grind⟩,λ_ z=>(nomatch z),Og @_ HE,@_,by show 1+0<=(7:Int);decide⟩,@_,⟨@_,@_⟩,λ_ z=>(nomatch z),λ_ z=>(nomatch z)⟩
def yg{z:bG->Rat}{m:Rat}:∀{Ρ:List bG},(∀d∈Ρ,0 < cV d)->(∀d∈Ρ,z d<=m)->aI (λd=>cV d * z d) Ρ<=aI cV Ρ * m
 | [],_,_=>by show(0:Rat)<=0 * m;grind
 | a::Ρ,h1,h2=>by have ih:=yg (Ρ:=Ρ) (λd hd=>h1 d (aae _ hd)) (λd hd=>h2 d (aae _ hd));have:=Rat.mul_le_mul_of_nonneg_left (h2 a aaf) (Rat.le_of_lt (h1 a aaf));show cV a * z a+aI (λd=>cV d * z d) Ρ<=(cV a+aI cV Ρ) * m;grind
def DC{z:bG->Rat}{m:Rat}:∀{Ρ:List bG},(∀d∈Ρ,0 < cV d)->(∀d∈Ρ,z d<=m)->aI cV Ρ * m<=aI (λd=>cV d * z d) Ρ->∀d∈Ρ,z d=m
 | a::Ρ,h1,h2,h,d,hd=>by
  have le:=yg (Ρ:=Ρ) (λd hd=>h1 d (aae _ hd)) (λd hd=>h2 d (aae _ hd));have ca:=h1 a aaf;have za:=h2 a aaf;have h:(cV a+aI cV Ρ) * m<=cV a * z a+aI (λd=>cV d * z d) Ρ:=h;have la:=Rat.mul_le_mul_of_nonneg_left za (Rat.le_of_lt ca);rcases aaG.mp hd with e| e
  ·rw[e];by_cases c:z a=m
   ·exact c
   ·have:=Rat.mul_pos ca (show 0 < m - z a by grind);grind
  ·exact DC (λd hd=>h1 d (List.mem_cons_of_mem _ hd)) (λd hd=>h2 d (List.mem_cons_of_mem _ hd)) (by grind) d e
def kN(c:Rat)(f:bG->Rat):∀ds:List bG,aI (λd=>c * f d) ds=c * aI f ds
 | []=>by show(0:Rat)=c * 0;grind
 | d::ds=>by show c * f d+aI (λd=>c * f d) ds=c * (f d+aI f ds);rw[kN c f ds];grind
def CD(C:Nat->Prop)(x:Nat->Rat):∀n,(∃i,i < n/\C i)->∃i,i < n/\C i/\∀j,j < n->C j->x j<=x i
 | 0,⟨i,h,_⟩=>aaK h (abH _)
 | n +1,⟨i,h,hc⟩=>by
  by_cases e:∃i,i < n/\C i
  ·have⟨t,tl,tc,tm⟩:=CD C x n e;by_cases c:C n/\x t<=x n
   ·refine⟨n,(),c.1,λj jl jc=>?_⟩;by_cases ej:j=n
    ·rw[ej];grind
    ·have:=tm j () jc;grind
   ·refine⟨t,(),tc,λj jl jc=>?_⟩;by_cases ej:j=n
    ·subst ej;have:¬x t<=x j:=λz=>c ⟨jc,z⟩;grind
    ·exact tm j () jc
  ·have hi:i=n:=by
    by_cases ei:i=n
    ·exact ei
    ·exact aaK ⟨i,(),hc⟩ e
   subst hi;refine⟨i,(),hc,λj jl jc=>?_⟩;by_cases ej:j=i
   ·rw[ej];grind
   ·exact aaK ⟨j,(),jc⟩ e
def RX(γ:List Rw)(S:Sp)(acc:Pl):Prop:=∀C:Nat->Prop,(∀i,i < γ.length->C i->vb S i/\∀d∈fL γ S acc i,C d.1.toNat)->∀i,i < γ.length->¬C i
def KI(fr:FR ε γ)(dk:qc γ acc)(dr:aL γ gs S)(pr:RX γ S acc){y:Nat->Rat}(h:∀i,i < γ.length->vb S i->y i<=aI (λd=>cV d * y d.1.toNat) (fL γ S acc i))(h0:∀i,i < γ.length->¬vb S i->y i<=0):∀i,i < γ.length->y i<=0:=λi il=>by
 have⟨t,tl,_,tm⟩:=CD (λ_=>True) y γ.length ⟨i,il,trivial⟩;by_cases c:y t<=0
 ·have:=tm i il trivial;grind
 ·refine aaK ⟨tl,rfl⟩ (pr (λj=>j < γ.length/\y j=y t) (λj jl hj=>?_) t tl);have e:=hj.2;have sj:vb S j:=by
   by_cases z:vb S j
   ·exact z
   ·have:=h0 j jl z;grind
  refine⟨sj,λd hd=>?_⟩;have⟨_,one,B,_,_,hw⟩:=pd (acc:=acc) fr dk dr jl sj;have tn:∀d∈fL γ S acc j,d.1.toNat < γ.length:=λd hd=>by have:=(hw d hd).to;omega
  exact⟨tn d hd,DC (z:=λd=>y d.1.toNat) (m:=y t) (λd hd=>(hw d hd).p) (λd hd=>tm _ (tn d hd) trivial) (by rw[one,Rat.one_mul,<-e];exact h j jl sj) d hd⟩
def zp(f:bG->Rat)(ds:List bG):aI (λd=> -f d) ds= -aI f ds:=by rw[show(λd=> -f d)=λd=>(-1:Rat) * f d by funext d;grind,kN];grind
def UN(fr:FR ε γ)(dk:qc γ acc)(dr:aL γ gs S)(pr:RX γ S acc):Sys (1,1) γ.length 7000000 (fL γ S acc) (o9 S):=by
 refine⟨fr.n1,@_,λi il=>?_,λ{y} h=>?_⟩
 ·have⟨E,p,l,_⟩:=QT (acc:=acc) fr dk dr il;exact⟨E,7,p,l⟩
 ·have h:∀k,k < γ.length->y k=aI (λd=>cV d * y d.1.toNat) (fL γ S acc k):=λk kl=>by have:=h k kl;rw[uN,Rat.one_mul]at this;exact this
  have z:∀k,k < γ.length->¬vb S k->y k=0:=λk kl ns=>by have:=h k kl;rw[sk ns]at this;exact this
  have a:=KI fr dk dr pr (y:=y) (λi il _=>by rw[<-h i il];grind) λi il ns=>by rw[z i il ns];grind
  have b:=KI fr dk dr pr (y:=λi=> -y i) (λi il _=>by
   have e:(λd:bG=>cV d * -y d.1.toNat)=λd=> -(cV d * y d.1.toNat):=by funext d;grind
   rw[e,zp,<-h i il];grind) λi il ns=>by rw[z i il ns];grind
  intro k kl;have:=a k kl;have:=b k kl;grind
structure qB(γ:List Rw)(S:Sp)(acc:Pl)(tb:List Fr):Prop where
 tab:Tab (1,1) γ.length (fL γ S acc) (o9 S) tb
 bot:∀i,i < γ.length->(tb.getD i (0,1)).2 < 2 ^ 400
abbrev V_(tb:List Fr)(i:Nat):Rat:=val (tb.getD i (0,1))
def qB.st(h:qB γ S acc tb)(il:i < γ.length)(s:vb S i):V_ tb i=aI (λd=>cV d * V_ tb d.1.toNat) (fL γ S acc i):=by have:=h.tab.eq i il;rw[OH s,Bt,uN]at this;show val (tb.getD i (0,1))=_;rw[this];grind
def qB.no(h:qB γ S acc tb)(il:i < γ.length)(s:¬vb S i):V_ tb i=val (o9 S i):=by have:=h.tab.eq i il;rw[sk s]at this;show val (tb.getD i (0,1))=_;rw[this];show val (o9 S i)+val (1,1) * 0=_;grind
def SR(fr:FR ε γ)(Wa:qc γ acc')(dr:aL γ gs S)(Oj:RX γ S acc')(h:qB γ S acc tb)(h':qB γ S acc' tb'){sg:Rat}(hs:∀i,i < γ.length->vb S i->sg * V_ tb i<=sg * aI (λd=>cV d * V_ tb d.1.toNat) (fL γ S acc' i)):(∀i,i < γ.length->sg * V_ tb i<=sg * V_ tb' i)/\∀i,i < γ.length->vb S i->sg * V_ tb i < sg * aI (λd=>cV d * V_ tb d.1.toNat) (fL γ S acc' i)->sg * V_ tb i < sg * V_ tb' i:=by
 have e:∀i,aI (λd=>cV d * (sg * V_ tb d.1.toNat - sg * V_ tb' d.1.toNat)) (fL γ S acc' i)=sg * aI (λd=>cV d * V_ tb d.1.toNat) (fL γ S acc' i) - sg * aI (λd=>cV d * V_ tb' d.1.toNat) (fL γ S acc' i):=λi=>by rw[<-kN,<-kN,<-m_];exact mh λd _=>by grind
 have le:=KI fr Wa dr Oj (y:=λi=>sg * V_ tb i - sg * V_ tb' i) (λi il st=>by
  have a:=hs i il st;have b:=h'.st il st;rw[e]
  grind) λi il ns=>by
  have a:=h.no il ns;have b:=h'.no il ns;grind
 refine⟨λi il=>by have:=le i il;grind,λi il st lt=>?_⟩;have⟨_,one,B,_,_,hw⟩:=pd (acc:=acc') fr Wa dr il st;have m:=yg (z:=λd=>sg * V_ tb d.1.toNat - sg * V_ tb' d.1.toNat) (m:=0) (Ρ:=fL γ S acc' i) (λd hd=>(hw d hd).p) λd hd=>le _ (by have:=(hw d hd).to;omega);rw[e]at m;have b:=h'.st il st;grind
def qB.unit(fr:FR ε γ)(dk:qc γ acc)(dr:aL γ gs S)(pr:RX γ S acc)(h:qB γ S acc tb):∀i,i < γ.length->0<=V_ tb i/\V_ tb i<=1:=by
 have g:∀i,0<=val (o9 S i)/\val (o9 S i)<=1:=λi=>by
  rcases HE (S:=S) (i:=i) with e| e <;> rw[e]
  ·rw[Bt];grind
  ·rw[uN];grind
 have a:=KI fr dk dr pr (y:=λi=> -V_ tb i) (λi il st=>by
  have e:(λd:bG=>cV d * -V_ tb d.1.toNat)=λd=> -(cV d * V_ tb d.1.toNat):=by funext d;grind
  rw[e,zp,<-h.st il st];grind) λi il ns=>by
  have:=h.no il ns;have:=g i;grind
 have b:=KI fr dk dr pr (y:=λi=>V_ tb i - 1) (λi il st=>by
  have e:(λd:bG=>cV d * (V_ tb d.1.toNat - 1))=λd=>cV d * V_ tb d.1.toNat - cV d:=by funext d;grind
  rw[e,m_,(pd (acc:=acc) fr dk dr il st).2.1,<-h.st il st];grind) λi il ns=>by
  have:=h.no il ns;have:=g i;grind
 intro i il;have:=a i il;have:=b i il;grind
def qB.sz(fr:FR ε γ)(dk:qc γ acc)(dr:aL γ gs S)(pr:RX γ S acc)(h:qB γ S acc tb)(il:i < γ.length):Red (tb.getD i (0,1))/\0<=(tb.getD i (0,1)).1/\(tb.getD i (0,1)).1<=(tb.getD i (0,1)).2/\Sz 400 (tb.getD i (0,1)):=by
 have r:=h.tab.red i il;have u:0<=val (tb.getD i (0,1))/\val (tb.getD i (0,1))<=1:=h.unit fr dk dr pr i il;have b:=h.bot i il;generalize tb.getD i (0,1)=p at *
 have p0:=r.pos;have u0:=(rj (a:=(0,1)) (b:=p) @_ p0).mpr (by rw[Bt];exact u.1);have u1:=(rj (a:=p) (b:=(1,1)) p0 @_).mpr (by rw[uN];exact u.2);have u0:(0:Int) * p.2<=p.1 * 1:=u0;have u1:p.1 * 1<=1 * p.2:=u1;have c0:0<=p.1:=()
 have c1:p.1<=p.2:=()
 refine⟨r,c0,c1,?_,p0,?_⟩
 ·have:(p.1.natAbs:Int) < ((2 ^ 400:Nat):Int):=by rw[abb c0];exact abj c1 b
  exact abV.mp this
 ·have:(p.2.natAbs:Int) < ((2 ^ 400:Nat):Int):=by rw[abb (aaE p0)];exact b
  exact abV.mp this
end
def kS{i:Int}:∀{pl:Pl},i∉pl.map (·.1)->Υ pl i=none
 | [],_=>rfl
 | p::r,h=>by unfold Υ;rw[aaF λz=>h (by rw[<-z];exact aaf)];exact kS λz=>h (aae _ z)
def eE(γ:List Rw)(i:Nat):Str:=match γ[i]? with
 | some r=>kindOf r
 | none=>""
def fE(γ:List Rw)(hand:Str):List Nat:=(List.range γ.length).filter λi=>decide (eE γ i=hand)
def Dv(γ:List Rw)(hand:Str):Pl:=(fE γ hand).map λi:Nat=>((i:Int),0)
def A8(p:Nat->Bool)(n:Nat):((eC 0 n).filter λx=>match x with| .int j=>p j.toNat| _=>false)=((List.range n).filter p).map λi:Nat=>Dt.int i:=by
 unfold eC;rw[List.filter_map];have e:((λx:Dt=>match x with| .int j=>p j.toNat| _=>false) ∘ λi:Nat=>Dt.int (0+(i:Int)))=p:=funext λi=>by show p (0+(i:Int)).toNat=p i;rw[show(0+(i:Int)).toNat=i by omega]
 rw[e];exact abo λi _=>by show Dt.int (0+(i:Int))=Dt.int i;rw[Int.zero_add]
def yj(A:Addr):DF:=λas M q _=>∃(ε:Fr) (γ:List Rw) (hand:Str),as=[Ο A ε γ,.str hand]/\γ.length<=12/\q (.lst ((fE γ hand).map λi:Nat=>Dt.int i)) M
def tH:Ε ["floor","hand"] ["floor","hand"] (ν oM):=.of rfl
def An(F:cQ K "places_of" "places_of" oM f fd)(E:Ev K mg Cm CN CF Ca Cj Cd Ce Cg Ci Cb Cc Ck)(af:fv P w K mg base 1 Cm "size" ["self"] (sO Cm) bo bj)(ae:fv P w K mg base 1 Cm "kind" ["self","place"] (tP Cm) bz bw):ah P w K mg base (bM P w) 2 f fd ["floor","hand"] (cZ K (yj Cm)):=by
 refine F.eB tH (λds M q x h=>?_) (λaY A outer s H E' hr=>⟨_,(θ (Β (tS (ys:=["hand","floor"]) (Μ:=[1,0]) (.of tH rfl rfl rfl) (Fh (d8 E.cW (μ (g_ af hr ο (jv 0)) η cw))) (λC s H fp=>(eI hr (gm ae hr (cL (P:=P) (w:=w)) (jv 2) (Θ (jv 0) η)) (jv 1))) (λC s H fp=>(jv 0))))),λds M q x h=>?_⟩)
 ·have⟨ε,γ,hand,rfl,_⟩:=h;rfl
 ·have⟨ε,γ,hand,rfl,tW,h⟩:=h;have sl:∀{z:Nat},z<=1000->z<=sizeLine:=λh=>aax h @_;walk_at "vc";dsimp only[Kj,kOf];walk_at "vc";refine⟨⟨_,_,.inl rfl,rfl⟩,ε,γ,rfl,?_⟩;refine⟨(),by rw[fc];exact sl (),?_⟩;rw[show((γ.length:Int)).toNat=γ.length by omega];refine bX trivial (λx=>match x with| .int j=>decide (eE γ j.toNat=hand)| _=>false) (λx=>x) _ _ (λx hx q' p' h1 h2=>?_) ?_
  ·have⟨j,hj,rfl⟩:=iS hx;rw[Int.zero_add]at h1 h2⊢;have hr:γ[j]? =some γ[j]:=aac hj;have X7:eE γ j=kindOf γ[j]:=by unfold eE;rw[hr]
   have h1:decide (eE γ j=hand)=true->q' (.int (j:Int)) M:=h1;have h2:decide (eE γ j=hand)=false->p' M:=h2;rw[X7]at h1 h2;refine⟨⟨_,_,.inl rfl,rfl⟩,ε,γ,j,γ[j],rfl,hr,?_⟩;show(match decide (kindOf γ[j]=hand) with| true=>q' (.int (j:Int)) M| false=>p' M);cases hb:decide (kindOf γ[j]=hand) with
   | true=>exact h1 hb
   | false=>exact h2 hb
  ·rw[aaS,List.map_id'];exact(λ(key:∀l,l=(fE γ hand).map (λi:Nat=>Dt.int i)->q (.lst l) M)=>key _ (A8 (λi=>decide (eE γ i=hand)) γ.length)) λl hl=>by rw[hl];exact h
def DU(A:Addr):DF:=λas M q _=>∃(ε:Fr) (γ:List Rw) (hand:Str),as=[Ο A ε γ,.str hand]/\γ.length<=12/\q (.loc M.length) (M++[dP (Dv γ hand)])
def jW:Ε ["floor","hand","plan","place"] ["floor","hand"] (ν mj):=.of rfl
def xt(F:cQ K "first_plan" "first_plan" mj f fd)(E:Ev K mg Cm CN CF Ca Cj Cd Ce Cg Ci Cb Cc Ck){oU:Addr}{oX:FuncData}(eR:aB P w K mg base 2 "places_of" ["floor","hand"] (yj Cm) oU oX):ah P w K mg base (bM P w) 3 f fd ["floor","hand"] (cZ K (DU Cm)):=by
 refine F.eB jW (λds M q x h=>?_) (λaY A outer s H E' hr=>⟨_,(ζ (Δ 2 jW.nd BQ)
   (ζ (bK (aT (ar eR hr ο (Θ (jv 0) (Θ (jv 1) η)))) (au (i:=3) jW.nd rfl (Or.inl rfl)) aK (θ (xI hr (jv 2) (jv 3) χ)))
   (θ (Β (jv 2))))),λds M q x h=>?_⟩)
 ·have⟨ε,γ,hand,rfl,_⟩:=h;rfl
 ·have⟨ε,γ,hand,rfl,tW,h⟩:=h;have Li:(fE γ hand).length<=12:=by have:=List.length_filter_le (λi=>decide (eE γ i=hand)) (List.range γ.length);rw[aba]at this;unfold fE;omega
  have TK:(fE γ hand).Nodup:=List.nodup_range.filter _;walk_at "vc";dsimp only[nD,da];walk_at "vc";refine⟨ε,γ,hand,rfl,tW,?_⟩;refine aO (λxs ρ' M'=>∃(dQ rest:List Nat) (o3:Option Dt),fE γ hand=dQ++rest/\xs=rest.map (λi:Nat=>Dt.int i)/\M'=M++[dP (dQ.map λi:Nat=>((i:Int),0))]/\ρ'=[some (Ο Cm ε γ),some (.str hand),some (.loc M.length),o3]) (λxs ρ' M' hj=>trivial) (λx xs ρ' M' hj fC=>?_) (λρ' M' hj=>?_) _ _ _ ⟨[],fE γ hand,none,rfl,rfl,rfl,rfl⟩
  ·have⟨dQ,rest,o3,e,ex,rfl,rfl⟩:=hj;cases rest with
   | nil=>cases ex
   | cons i rest=>
    cases ex;have dl:dQ.length<=12:=by have:=aaZ List.length e;rw[aan]at this;omega
    dsimp only[vR];walk_at "vc";refine⟨M.length,_,_,Sum.inl (i:Int),rfl,aQ,rfl,by unfold kP;rw[List.length_map,List.length_map];omega,?_⟩;rw[zB (v:=0),Em,e9];have gn:Υ (dQ.map λi:Nat=>((i:Int),0)) (i:Int)=none:=kS λy=>by
     rw[aaV]at y;have⟨j,hj,ej⟩:=aau.mp y;have ej:(j:Int)=(i:Int):=ej;have:j=i:=()
     subst this;rw[e,ab5]at TK;exact TK.2.2 _ hj _ aaf rfl
    refine fC _ _ ⟨dQ++[i],rest,_,by rw[e,aaJ];rfl,rfl,?_,rfl⟩;unfold jG;rw[gn,aaF @_,aaT];rfl
  ·have⟨dQ,rest,o3,e,ex,rfl,rfl⟩:=hj;have:rest=[]:=by cases rest with| nil=>rfl| cons p r=>cases ex
   subst this;rw[aaW]at e;rw[<-e];exact h
def aF:Pl->Pl->Pl
 | p,[]=>p
 | p,e::r=>aF (jG p e.1 e.2) r
def E_:∀{r p:Pl},pT (kP p) (kP r)=kP (aF p r)
 | [],p=>rfl
 | e::r,p=>by show pT (gF (kP p) (Sum.inl e.1)) (kP r)=kP (aF (jG p e.1 e.2) r);rw[zB (v:=e.2)];exact E_
def EE:∀{r p:Pl},rL (kP p) (vP p) (kP r) (vP r)=vP (aF p r)
 | [],p=>rfl
 | e::r,p=>by show rL (gF (kP p) (Sum.inl e.1)) (eK (kP p) (Sum.inl e.1) (vP p) (.int e.2)) (kP r) (vP r)=vP (aF (jG p e.1 e.2) r);rw[zB (v:=e.2),Em];exact EE
def kY{i:Int}:∀{r p:Pl},Ik r->Υ (aF p r) i=match Υ r i with| some v=>some v| none=>Υ p i
 | [],p,_=>rfl
 | e::r,p,nd=>by
  unfold Ik at nd;rw[aa0,abR]at nd;have ih:=kY (i:=i) (r:=r) (p:=jG p e.1 e.2) nd.2;show Υ (aF (jG p e.1 e.2) r) i=match (if e.1=i then some e.2 else Υ r i) with| some v=>some v| none=>Υ p i
  rw[ih,NP];by_cases h:e.1=i
  ·have hn:Υ r i=none:=by
    cases hg:Υ r i with
    | none=>rfl
    | some v=>exact aaK (aau.mpr ⟨_,Fm hg,h.symm⟩) nd.1
   rw[hn,aay h,aay h.symm]
  ·rw[aaF h,aaF (Ne.symm h)]
def Ω:List (Int×Nat)->Pl->Prop
 | [],[]=>True
 | (k,c)::r,(k',v)::p=>k=k'/\0<=v/\v < c/\Ω r p
 | _,_=>False
def MZ:List (Int×Nat)->List Pl
 | []=>[[]]
 | (k,c)::r=>(List.range c).flatMap λj:Nat=>(MZ r).map λp=>(k,(j:Int))::p
def r9:∀{kc:List (Int×Nat)} {p:Pl},Ω kc p->p∈MZ kc
 | [],[],_=>abl.mpr rfl
 | (k,c)::r,(k',v)::p,h=>by have⟨rfl,v0,v1,h⟩:=h;refine List.mem_flatMap.mpr ⟨v.toNat,abg.mpr (),aau.mpr ⟨p,r9 h,?_⟩⟩;rw[Int.toNat_of_nonneg v0]
 | [],_::_,h=>h.elim
 | _::_,[],h=>h.elim
def cb:∀{kc:List (Int×Nat)} {p:Pl},Ω kc p->p.map (·.1)=kc.map (·.1)
 | [],[],_=>rfl
 | (k,c)::r,(k',v)::p,h=>by have⟨rfl,_,_,h⟩:=h;rw[aa0,aa0,cb h]
 | [],_::_,h=>h.elim
 | _::_,[],h=>h.elim
def Aw:∀{kc:List (Int×Nat)} {p:Pl} {i v:Int},Ω kc p->Υ p i=some v->∃c,(i,c)∈kc/\0<=v/\v < (c:Int)
 | [],[],_,_,_,h=>by cases h
 | (k,c)::r,(k',v')::p,i,v,h,g=>by
  have⟨rfl,v0,v1,h⟩:=h;unfold Υ at g;split at g
  ·rename_i e;have e:k=i:=e;cases g;exact⟨c,by rw[<-e];exact aaf,v0,v1⟩
  ·have⟨c',m,a⟩:=Aw h g;exact⟨c',aae _ m,a⟩
 | [],_::_,_,_,h,_=>h.elim
 | _::_,[],_,_,h,_=>h.elim
def y3:∀{kc:List (Int×Nat)} {p:Pl} {i v:Int},Ω kc p->(∀c,(i,c)∈kc->0<=v/\v < (c:Int))->Ω kc (p.map λq=>if q.1=i then (q.1,v) else q)
 | [],[],_,_,_,_=>trivial
 | (k,c)::r,(k',v')::p,i,v,h,g=>by
  have⟨rfl,v0,v1,h⟩:=h;have ih:=y3 h λc hc=>g c (aae _ hc);show Ω ((k,c)::r) ((if k=i then (k,v) else (k,v'))::p.map λq=>if q.1=i then (q.1,v) else q);by_cases e:k=i
  ·rw[aay e];have:=g c (by rw[<-e];exact aaf);exact⟨rfl,this.1,this.2,ih⟩
  ·rw[aaF e];exact⟨rfl,v0,v1,ih⟩
 | [],_::_,_,_,h,_=>h.elim
 | _::_,[],_,_,h,_=>h.elim
def tR{i:Int}:∀{p:Pl},i∈p.map (·.1)->(Υ p i).isSome=true
 | q::p,h=>by
  unfold Υ;split
  ·rfl
  ·rcases aaG.mp h with e| e
   ·rename_i ne;exact aaK e.symm ne
   ·exact tR e
def HZ{kc:List (Int×Nat)}{p:Pl}{i v:Int}(h:Ω kc p)(hk:i∈kc.map (·.1))(g:∀c,(i,c)∈kc->0<=v/\v < (c:Int)):Ω kc (jG p i v):=by unfold jG;rw[aay (tR (by rw[cb h];exact hk))];exact y3 h g
def IG{α:Type}{P Q:α->Bool}:∀{l:List α},(∀a∈l,P a=true->Q a=true)->∀{b:α},b∈l->Q b=true->P b=false->l.countP P < l.countP Q
 | a::l,h,b,hb,hq,hp=>by
  have le:l.countP P<=l.countP Q:=List.countP_mono_left λx hx=>h x (aae _ hx);rw[List.countP_cons,List.countP_cons];rcases aaG.mp hb with e| e
  ·subst e;rw[hq,hp];show l.countP P+0 < l.countP Q+1;omega
  ·have:=IG (λx hx=>h x (aae _ hx)) e hq hp;have ha:=h a aaf;cases hP:P a with
   | false=>rw[aaF @_];split <;> omega
   | true=>rw[ha hP,aay rfl];omega
def EW{f g:Nat->Rat}:∀{n:Nat},(∀i,i < n->f i<=g i)->∀{k:Nat},k < n->f k < g k->dM f n < dM g n
 | n+1,h,k,hk,hl=>by
  have le:∀{m:Nat},(∀i,i < m->f i<=g i)->dM f m<=dM g m:=λ{m}=>by
   induction m with
   | zero=>intro _;show(0:Rat)<=0;grind
   | succ m ih=>
    intro h;have:=ih λi hi=>h i (abS hi);have:=h m (abv _);show dM f m+f m<=dM g m+g m;grind
  show dM f n+f n < dM g n+g n;by_cases e:k=n
  ·subst e;have:=le λi hi=>h i (abS hi);grind
  ·have:=EW (λi hi=>h i (abS hi)) (show k < n by omega) hl;have:=h n (abv _);grind
def fk(γ:List Rw)(df:Str):List (Int×Nat):=(fE γ df).map λi:Nat=>((i:Int),(aq (fq γ i)).length)
def Fo{γ:List Rw}:∀{l:List Nat},(∀i∈l,1<=(aq (fq γ i)).length)->Ω (l.map λi:Nat=>((i:Int),(aq (fq γ i)).length)) (l.map λi:Nat=>((i:Int),(0:Int)))
 | [],_=>trivial
 | i::l,h=>⟨rfl,Int.le_refl _,by have:=h i aaf;omega,Fo λj hj=>h j (aae _ hj)⟩
section
variable{ε:Fr}{γ:List Rw}{tb:List Fr}{hand df:Str}{pl p:Pl}
def nj:i∈fE γ df↔i < γ.length/\eE γ i=df:=by unfold fE;rw[List.mem_filter,abg,aaN]
def iQ(fw:FR ε γ)(hh:aa df=true)(h:i∈fE γ df):∃ds,γ[i]? =some (.Γ df ds)/\aq (fq γ i)=ds/\1<=ds.length:=by
 have⟨il,e⟩:=nj.mp h;have hi:γ[i]? =some γ[i]:=aac il;unfold eE at e;rw[hi]at e;have e:kindOf γ[i]=df:=e;cases hr:γ[i] with
 | fin p=>
  rw[hr]at e;rw[<-e]at hh;exact aaK hh (by show¬aa (Str.ofString "end")=true;decide)
 | Γ k ds=>
  rw[hr]at e hi;have e:k=df:=e;subst e;exact⟨ds,hi,by rw[cN hi];rfl,(gr fw.pl (aar hi)).l1⟩
def Ct(fw:FR ε γ)(hh:aa df=true):Ω (fk γ df) (Dv γ df):=Fo λi hi=>by have⟨ds,_,e,l⟩:=iQ fw hh hi;rw[e];exact l
def jd:(fk γ df).map (·.1)=(fE γ df).map λi:Nat=>(i:Int):=by unfold fk;rw[List.map_map];rfl
def gS(h:Ω (fk γ df) p):Ik p:=by unfold Ik;rw[cb h,jd];have nd:(fE γ df).Nodup:=List.nodup_range.filter _;exact List.Pairwise.map _ (λa b Yz z=>Yz (by have z:(a:Int)=(b:Int):=z;omega)) nd
def a_(fw:FR ε γ)(hh:aa df=true)(h:Ω (fk γ df) p):(∀ds,γ[i]? =some (.Γ df ds)->∃j:Nat,Υ p i=some (j:Int)/\j < ds.length)/\(∀r,γ[i]? =some r->kindOf r≠df->Υ p i=none):=by
 refine⟨λds hi=>?_,λr hi hk=>?_⟩
 ·have il:=(aai.mp hi).1;have m:i∈fE γ df:=nj.mpr ⟨il,by unfold eE;rw[hi];rfl⟩;have s:=tR (i:=(i:Int)) (p:=p) (by rw[cb h,jd];exact aau.mpr ⟨i,m,rfl⟩);have⟨v,hv⟩:=aa9.mp s;have⟨c,hc,v0,v1⟩:=Aw h hv;unfold fk at hc;have⟨i',_,e⟩:=aau.mp hc;have e1:(i':Int)=(i:Int):=aaZ Prod.fst e;have e2:(aq (fq γ i')).length=c:=aaZ Prod.snd e;have:i'=i:=()
  subst this;rw[cN hi]at e2;have e2:ds.length=c:=e2;exact⟨v.toNat,by rw[hv,Int.toNat_of_nonneg v0],()⟩
 ·refine kS λz=>?_;rw[cb h,jd]at z;have⟨i',m,e⟩:=aau.mp z;have:i'=i:=by have e:(i':Int)=(i:Int):=e;omega
  subst this;have:=(nj.mp m).2;unfold eE at this;rw[hi]at this;exact hk this
end
def zJ{kc:List (Int×Nat)}:∀(q s:Pl),Ω kc s->(∀e∈q,e.1∈kc.map (·.1)/\∀c,(e.1,c)∈kc->0<=e.2/\e.2 < (c:Int))->Ω kc (aF s q)
 | [],s,h,_=>h
 | e::q,s,h,hq=>by have⟨a,b⟩:=hq e aaf;exact zJ q (jG s e.1 e.2) (HZ h a b) λx hx=>hq x (aae _ hx)
section
variable{c:Int->Int->Bool}{f:Int->Int}{i:Int}
def pf(c:Int->Int->Bool)(f:Int->Int)(p:Int×Int):Pl:=if c p.1 p.2 then [] else [(p.1,f p.1)]
def iJ:∀{pl:Pl},i∈(pl.flatMap (pf c f)).map (·.1)->i∈pl.map (·.1)
 | p::r,h=>by
  rw[List.flatMap_cons,aaT]at h;rcases aa8.mp h with z| z
  ·unfold pf at z;split at z
   ·cases z
   ·rw[aa0];exact aaG.mpr (.inl (abl.mp z))
  ·exact aae _ (iJ z)
def rG:∀pl:Pl,((pl.flatMap (pf c f)).map (·.1)).Sublist (pl.map (·.1))
 | []=>List.Sublist.refl _
 | a::r=>by
  have ih:=rG r;rw[List.flatMap_cons,aaT,aa0];unfold pf;split
  ·exact List.Sublist.cons _ ih
  ·exact List.Sublist.cons₂ _ ih
def qW(pl:Pl):(pl.flatMap (pf c f)).length<=pl.length:=by have:=(rG (c:=c) (f:=f) pl).length_le;rwa[aah,aah]at this
def AF:∀{pl:Pl},Ik pl->Υ (pl.flatMap (pf c f)) i=match Υ pl i with
  | some v=>if c i v then none else some (f i)
  | none=>none
 | [],_=>rfl
 | a::r,nd=>by
  unfold Ik at nd;rw[aa0,abR]at nd;have ih:=AF (pl:=r) nd.2;rw[List.flatMap_cons];by_cases ei:a.1=i
  ·have e2:Υ (a::r) i=some a.2:=by unfold Υ;rw[if_pos ei]
   have hn:Υ (r.flatMap (pf c f)) i=none:=kS λz=>nd.1 (by rw[ei];exact iJ z);rw[e2];dsimp only;unfold pf;rw[ei];by_cases cc:c i a.2=true
   ·rw[aay cc,aay cc,aaS];exact hn
   ·rw[aaF cc,aaF cc];show Υ ((i,f i)::_) i=_;unfold Υ;rw[aay rfl]
  ·have e2:Υ (a::r) i=Υ r i:=by rw[Υ,aaF ei]
   rw[e2,<-ih];unfold pf;split
   ·rfl
   ·show Υ ((a.1,_)::_) i=_;rw[Υ,aaF ei];rfl
def so:∀{l:Pl} {e:Int×Int},Ik l->e∈l->Υ l e.1=some e.2
 | a::l,e,nl,hm=>by
  unfold Ik at nl;rw[aa0,abR]at nl;unfold Υ;rcases aaG.mp hm with y| y
  ·rw[aay (by rw[y]),y]
  ·rw[aaF λz=>nl.1 (by rw[z];exact aau.mpr ⟨e,y,rfl⟩)];exact so nl.2 y
end
def aN(tb:List Fr)(ds:List bG):List Fr:=ds.map λd=>tb.getD d.1.toNat (0,1)
def cH(k:Str)(ns:List Fr):Fr:=if k="one" then qY ns else sM ns
def A2(b:Fr):List Fr->Nat
 | []=>0
 | x::r=>if x=b then 0 else A2 b r+1
def BP{b:Fr}:∀{ns:List Fr},b∈ns->A2 b ns < ns.length/\ns[A2 b ns]? =some b/\∀i,i < A2 b ns->ns[i]? ≠some b
 | x::r,h=>by
  unfold A2;by_cases e:x=b
  ·rw[aay e];exact⟨by simp,by rw[e];rfl,λi hi=>absurd hi (Nat.not_lt_zero _)⟩
  ·rw[aaF e];have hr:b∈r:=(aaG.mp h).resolve_left λz=>e z.symm;have⟨a,c,d⟩:=BP hr;refine⟨by rw[aaL];omega,by rw[List.getElem?_cons_succ];exact c,λi hi=>?_⟩;cases i with
   | zero=>rw[List.getElem?_cons_zero];exactλz=>e (aav z)
   | succ i=>rw[List.getElem?_cons_succ];exact d i ()
def DZ{k:Str}{ns:List Fr}(h0:ns≠[])(hp:∀n∈ns,0 < n.2):cH k ns∈ns/\∀n∈ns,ip k * val n<=ip k * val (cH k ns):=by
 have⟨a,r,rfl⟩:=abL h0;have ha:=hp a aaf;have inn:∀{x:Fr},x∈a::a::r->x∈a::r:=λh=>by
  rcases aaG.mp h with e| e
  ·rw[e];exact aaf
  ·exact e
 unfold ip cH;by_cases e:k="one"
 ·rw[aay e,aay e];have⟨m,_,al⟩:=lP (a::r) a ha hp;exact⟨inn m,λn hn=>by have h:val n<=val (qY (a::r)):=al n hn;grind⟩
 ·rw[aaF e,aaF e];have⟨m,_,al⟩:=lO (a::r) a ha hp;exact⟨inn m,λn hn=>by have h:val (sM (a::r))<=val n:=al n hn;grind⟩
def LZ(γ:List Rw)(i:Int):List bG:=aq (fq γ i.toNat)
def uE(γ:List Rw)(tb:List Fr)(i v:Int):Bool:=decide ((aN tb (LZ γ i)).getD v.toNat (0,1)=cH (eE γ i.toNat) (aN tb (LZ γ i)))
def z4(γ:List Rw)(tb:List Fr)(i:Int):Int:=(A2 (cH (eE γ i.toNat) (aN tb (LZ γ i))) (aN tb (LZ γ i)):Nat)
def Α(γ:List Rw)(tb:List Fr)(pl:Pl):Pl:=pl.flatMap (pf (uE γ tb) (z4 γ tb))
def Uz{k:Str}{x b:Rat}(h:ip k * x<=ip k * b)(ne:x≠b):ip k * x < ip k * b:=by
 unfold ip at h⊢;by_cases e:k="one"
 ·rw[if_pos e]at h⊢;grind
 ·rw[if_neg e]at h⊢;grind
section
variable{ε:Fr}{γ:List Rw}{tb tb':List Fr}{k:Str}{ds:List bG}{p p' a a':Pl}
def nP(hi:γ[i]? =some (.Γ k ds)):eE γ i=k:=by unfold eE;rw[hi];rfl
def EX(jl:j < ds.length):(aN tb ds).getD j (0,1)=tb.getD ds[j].1.toNat (0,1):=by unfold aN;rw[aad,aap,aac jl];rfl
structure Imp(γ:List Rw)(tb:List Fr)(k:Str)(p p':Pl):Prop where
 fit:Ω (fk γ k) p'
 at_:∀(i:Nat) (ds:List bG),γ[i]? =some (.Γ k ds)->∃j j':Nat,∃(jl:j < ds.length) (uu:j' < ds.length),Υ p i=some (j:Int)/\Υ p' i=some (j':Int)/\(∀d∈ds,ip k * V_ tb d.1.toNat<=ip k * V_ tb ds[j'].1.toNat)/\(j'=j\/ip k * V_ tb ds[j].1.toNat < ip k * V_ tb ds[j'].1.toNat)
def tJ(fr:FR ε γ)(hh:aa k=true)(h:Ω (fk γ k) p)(hr:∀t,t < γ.length->Red (tb.getD t (0,1))):Imp γ tb k p (aF p (Α γ tb p))/\(Α γ tb p≠[]->∃(i:Nat) (ds:List bG) (j j':Nat) (jl:j < ds.length) (uu:j' < ds.length),γ[i]? =some (.Γ k ds)/\Υ p i=some (j:Int)/\Υ (aF p (Α γ tb p)) i=some (j':Int)/\ip k * V_ tb ds[j].1.toNat < ip k * V_ tb ds[j'].1.toNat):=by
 have nd:=gS h;have ZM:Ik (Α γ tb p):=(rG p).nodup nd;have core:∀(i:Nat) (ds:List bG),γ[i]? =some (.Γ k ds)->∃j:Nat,∃(jl:j < ds.length) (bl:A2 (cH k (aN tb ds)) (aN tb ds) < ds.length),Υ p i=some (j:Int)/\(∀d∈ds,ip k * V_ tb d.1.toNat<=ip k * V_ tb ds[A2 (cH k (aN tb ds)) (aN tb ds)].1.toNat)/\((Υ (Α γ tb p) i=none/\tb.getD ds[j].1.toNat (0,1)=cH k (aN tb ds)/\∀d∈ds,ip k * V_ tb d.1.toNat<=ip k * V_ tb ds[j].1.toNat)\/(Υ (Α γ tb p) i=some ((A2 (cH k (aN tb ds)) (aN tb ds):Nat):Int)/\ip k * V_ tb ds[j].1.toNat < ip k * V_ tb ds[A2 (cH k (aN tb ds)) (aN tb ds)].1.toNat)):=λi ds hi=>by
  have⟨j,gj,jl⟩:=(a_ (i:=i) fr hh h).1 ds hi;have rm:Rw.Γ k ds∈γ:=aar hi;have dr:=gr fr.pl rm;have rd:∀d∈ds,Red (tb.getD d.1.toNat (0,1)):=λd hd=>hr _ (by have:=dr.to d hd;omega);have np:∀n∈aN tb ds,0 < n.2:=λn hn=>by have⟨d,hd,rfl⟩:=aau.mp hn;exact(rd d hd).pos
  have⟨bm,bb⟩:=DZ (k:=k) (ns:=aN tb ds) (λz=>by
   have:=aaZ List.length z;unfold aN at this;rw[aah]at this;have l1:=dr.l1;rw[this]at l1
   exact aaK l1 @_) np
  have⟨xl,xe,_⟩:=BP bm;have nl:(aN tb ds).length=ds.length:=by unfold aN;rw[List.length_map]
  rw[nl]at xl;have xb:tb.getD ds[A2 (cH k (aN tb ds)) (aN tb ds)].1.toNat (0,1)=cH k (aN tb ds):=by rw[<-EX xl,aad,xe];rfl
  have all:∀d∈ds,ip k * V_ tb d.1.toNat<=ip k * val (cH k (aN tb ds)):=λd hd=>bb _ (aau.mpr ⟨d,hd,rfl⟩);have gb:=AF (c:=uE γ tb) (f:=z4 γ tb) (i:=(i:Int)) nd;rw[gj]at gb;have ed:LZ γ (i:Int)=ds:=by unfold LZ;rw[Int.toNat_natCast,cN hi];rfl
  have eb:uE γ tb (i:Int) (j:Int)=decide (tb.getD ds[j].1.toNat (0,1)=cH k (aN tb ds)):=by unfold uE;rw[ed,aaY,aaY,nP hi,EX jl]
  have ex:z4 γ tb (i:Int)=(A2 (cH k (aN tb ds)) (aN tb ds):Nat):=by unfold z4;rw[ed,aaY,nP hi]
  have gb:Υ (Α γ tb p) i=if uE γ tb (i:Int) (j:Int) then none else some (z4 γ tb (i:Int)):=gb
  rw[eb,ex]at gb;refine⟨j,jl,xl,gj,λd hd=>by have:=all d hd;unfold V_;rw[xb];exact this,?_⟩;by_cases c:tb.getD ds[j].1.toNat (0,1)=cH k (aN tb ds)
  ·rw[aaO c,aay rfl]at gb;exact .inl ⟨gb,c,λd hd=>by have:=all d hd;unfold V_;rw[c];exact this⟩
  ·rw[aat c,aaF @_]at gb;refine .inr ⟨gb,?_⟩;have le:=all _ (aaw jl);have ne:V_ tb ds[j].1.toNat≠val (cH k (aN tb ds)):=λz=>c (qG (rd _ (aaw jl)) (by rw[<-xb];exact rd _ (aaw xl)) z);unfold V_ at le ne⊢;rw[xb];exact Uz le ne
 have g1:∀i:Nat,Υ (aF p (Α γ tb p)) i=match Υ (Α γ tb p) i with| some v=>some v| none=>Υ p i:=λi=>kY (i:=(i:Int)) (p:=p) ZM
 refine⟨⟨?_,λi ds hi=>?_⟩,λne=>?_⟩
 ·refine zJ _ _ h λe he=>?_;have ke:e.1∈p.map (·.1):=iJ (aau.mpr ⟨e,he,rfl⟩);have kk:=ke;rw[cb h]at kk;rw[cb h,jd]at ke;have⟨i,hm,ei⟩:=aau.mp ke;have ei:(i:Int)=e.1:=ei;have⟨ds,hi,ed,l1⟩:=iQ fr hh hm;have⟨j,jl,bl,gj,_,hc⟩:=core i ds hi;refine⟨kk,λc Bj=>?_⟩;have c1:c=ds.length:=by
   unfold fk at Bj;have⟨i',_,e'⟩:=aau.mp Bj;have e1:(i':Int)=e.1:=aaZ Prod.fst e';have e2:(aq (fq γ i')).length=c:=aaZ Prod.snd e';have:i'=i:=()
   subst this;rw[<-e2,ed]
  have ge:=so ZM he;rw[<-ei]at ge;rcases hc with ⟨z,_⟩| ⟨z,_⟩
  ·rw[z]at ge;cases ge
  ·rw[z]at ge;have:=aav ge;omega
 ·have⟨j,jl,bl,gj,all,hc⟩:=core i ds hi;rw[g1];rcases hc with ⟨z,e,al⟩| ⟨z,lt⟩
  ·rw[z];exact⟨j,j,jl,jl,gj,gj,al,.inl rfl⟩
  ·rw[z];exact⟨j,_,jl,bl,gj,rfl,all,.inr lt⟩
 ·have⟨e,r,er⟩:=abL ne;have he:e∈Α γ tb p:=by rw[er];exact aaf
  have ke:e.1∈p.map (·.1):=iJ (aau.mpr ⟨e,he,rfl⟩);rw[cb h,jd]at ke;have⟨i,hm,ei⟩:=aau.mp ke;have ei:(i:Int)=e.1:=ei;have⟨ds,hi,ed,l1⟩:=iQ fr hh hm;have⟨j,jl,bl,gj,_,hc⟩:=core i ds hi;have ge:=so ZM he;rw[<-ei]at ge;rcases hc with ⟨z,_⟩| ⟨z,lt⟩
  ·rw[z]at ge;cases ge
  ·exact⟨i,ds,j,_,jl,bl,hi,gj,by rw[g1,z],lt⟩
def Oc(fr:FR ε γ)(hh:aa k=true)(h:Ω (fk γ k) p)(hr:∀t,t < γ.length->Red (tb.getD t (0,1)))(e:Α γ tb p=[])(hi:γ[i]? =some (.Γ k ds)):∃(j:Nat) (jl:j < ds.length),Υ p i=some (j:Int)/\∀d∈ds,ip k * V_ tb d.1.toNat<=ip k * V_ tb ds[j].1.toNat:=by
 have⟨⟨_,al⟩,_⟩:=tJ (tb:=tb) fr hh h hr;have⟨j,j',jl,uu,gj,zF,all,_⟩:=al i ds hi;rw[e]at zF;have zF:Υ p i=some (j':Int):=zF;rw[gj]at zF;have:j=j':=by have:=aav zF;omega
 subst this;exact⟨j,jl,gj,all⟩
def aD:aa (Str.ofString "one")=true:=@_
def aP:aa (Str.ofString "other")=true:=@_
def kF(fr:FR ε γ)(hp:Ω (fk γ "one") p)(ha:Ω (fk γ "other") a):qc γ (aF p a):=by
 refine⟨λi r hi hk=>?_,λi r hi hk=>?_⟩
 ·rw[kY (gS ha)];cases r with
  | fin q=>exact aaK hk (by show¬aa (Str.ofString "end")=true;decide)
  | Γ k ds=>
   have two:k="one"\/k="other":=by have hk:aa k=true:=hk;unfold aa at hk;rw[Bool.or_eq_true,abp,abp]at hk;exact hk
   rcases two with rfl| rfl
   ·rw[(a_ (i:=i) fr aP ha).2 _ hi (by show¬(Str.ofString "one"=Str.ofString "other");decide)];have⟨j,gj,jl⟩:=(a_ (i:=i) fr aD hp).1 ds hi;rw[gj];exact⟨j,rfl,jl⟩
   ·have⟨j,gj,jl⟩:=(a_ (i:=i) fr aP ha).1 ds hi;rw[gj];exact⟨j,rfl,jl⟩
 ·rw[kY (gS ha),(a_ (i:=i) fr aP ha).2 r hi (λz=>by rw[z]at hk;exact aaK aP (by rw[hk];decide)),(a_ (i:=i) fr aD hp).2 r hi (λz=>by rw[z]at hk;exact aaK aD (by rw[hk];decide))]
def fD(fr:FR ε γ)(ha:Ω (fk γ "other") a)(hi:γ[i]? =some (.Γ "one" ds)):Υ (aF p a) i=Υ p i:=by rw[kY (gS ha),(a_ (i:=i) fr aP ha).2 _ hi (by show¬(Str.ofString "one"=Str.ofString "other");decide)]
def i7(fr:FR ε γ)(ha:Ω (fk γ "other") a)(hi:γ[i]? =some (.Γ "other" ds)):Υ (aF p a) i=Υ a i:=by have⟨j,gj,_⟩:=(a_ (i:=i) fr aP ha).1 ds hi;rw[kY (gS ha),gj]
def eO{acc:Pl}(fr:FR ε γ)(hi:γ[i]? =some (.Γ k ds))(hh:aa k=true)(gj:Υ acc i=some (j:Int))(jl:j < ds.length)(st:vb S i)(y:Nat->Rat):aI (λd=>cV d * y d.1.toNat) (fL γ S acc i)=y ds[j].1.toNat:=by rw[mT st,cN hi,j2 fr hi hh gj jl];show cV (ds[j].1,ds[j].2.1,[((1,1):Fr)]) * y ds[j].1.toNat+0=_;have:cV (ds[j].1,ds[j].2.1,[((1,1):Fr)])=1:=uN;rw[this];grind
def k4{acc acc':Pl}(h:Υ acc i=Υ acc' i):fL γ S acc i=fL γ S acc' i:=by unfold fL fj;rw[h]
def AY(γ:List Rw)(S:Sp)(p:Pl):Prop:=∀a,Ω (fk γ "other") a->RX γ S (aF p a)
def wB(fr:FR ε γ)(hi:γ[i]? =some (.Γ k ds)):k="one"\/k="other"\/k="chance":=by
 rcases(gr fr.pl (aar hi)).kd with z| ⟨_,z,_⟩
 ·unfold aa at z;rw[Bool.or_eq_true,abp,abp]at z;rcases z with z| z
  ·exact .inl z
  ·exact .inr (.inl z)
 ·exact .inr (.inr z)
def i_(fr:FR ε γ)(hp:Ω (fk γ "one") p)(ha:Ω (fk γ "other") a)(hi:γ[i]? =some (.Γ "chance" ds)):Υ (aF p a) i=none:=(kF fr hp ha).LI i _ hi (by show aa (Str.ofString "chance")=false;decide)
def sG:ip (Str.ofString "one")=1:=aay rfl
def Ky:ip (Str.ofString "other")= -1:=aaF @_
def wH(γ:List Rw)(tb:List Fr)(a:Pl):Prop:=∀(i:Nat) (ds:List bG),γ[i]? =some (.Γ "other" ds)->∃(j:Nat) (jl:j < ds.length),Υ a i=some (j:Int)/\∀d∈ds,V_ tb ds[j].1.toNat<=V_ tb d.1.toNat
def LD(fr:FR ε γ)(ha:Ω (fk γ "other") a)(hr:∀t,t < γ.length->Red (tb.getD t (0,1)))(e:Α γ tb a=[]):wH γ tb a:=λi ds hi=>by have⟨j,jl,gj,al⟩:=Oc fr aP ha hr e hi;refine⟨j,jl,gj,λd hd=>?_⟩;have:=al d hd;rw[Ky]at this;grind
def Js(fr:FR ε γ)(dr:aL γ gs S)(hp:Ω (fk γ "one") p)(ha:Ω (fk γ "other") a)(v8:Ω (fk γ "one") p')(oh:Ω (fk γ "other") a')(h:qB γ S (aF p a) tb)(la:wH γ tb a)(up:∀(i:Nat) (ds:List bG),γ[i]? =some (.Γ "one" ds)->∃j j':Nat,∃(jl:j < ds.length) (uu:j' < ds.length),Υ p i=some (j:Int)/\Υ p' i=some (j':Int)/\V_ tb ds[j].1.toNat<=V_ tb ds[j'].1.toNat):∀i,i < γ.length->vb S i->V_ tb i<=aI (λd=>cV d * V_ tb d.1.toNat) (fL γ S (aF p' a') i):=λi il st=>by
 have⟨k,ds,hi⟩:=o_ dr il st;rcases wB fr hi with rfl| rfl| rfl
 ·have⟨j,j',jl,uu,gj,zF,le⟩:=up i ds hi;rw[h.st il st,eO fr hi aD (by rw[fD fr ha hi];exact gj) jl st,eO fr hi aD (by rw[fD fr oh hi];exact zF) uu st];exact le
 ·have⟨j,jl,gj,le⟩:=la i ds hi;have⟨j',zF,uu⟩:=(a_ (i:=i) fr aP oh).1 ds hi;rw[h.st il st,eO fr hi aP (by rw[i7 fr ha hi];exact gj) jl st,eO fr hi aP (by rw[i7 fr oh hi];exact zF) uu st];exact le _ (aaw uu)
 ·rw[h.st il st,k4 (acc:=aF p a) (acc':=aF p' a') ((i_ fr hp ha hi).trans (i_ fr v8 oh hi).symm)];grind
def AY.better(fr:FR ε γ)(dr:aL γ gs S)(hp:Ω (fk γ "one") p)(ha:Ω (fk γ "other") a)(pr:AY γ S p)(h:qB γ S (aF p a) tb)(la:wH γ tb a)(im:Imp γ tb "one" p p'):AY γ S p':=λa' oh C hC i il WH=>by
 have Wa:=kF fr im.fit oh;have⟨t,tl,tc,tm⟩:=CD C (V_ tb) γ.length ⟨i,il,WH⟩;have ua:=Js fr dr hp ha im.fit oh h la λi ds hi=>by have⟨j,j',jl,uu,gj,zF,al,_⟩:=im.at_ i ds hi;have:=al _ (aaw jl);rw[sG]at this;exact⟨j,j',jl,uu,gj,zF,by grind⟩
 refine pr a' oh (λj=>j < γ.length/\C j/\V_ tb j=V_ tb t) (λj jl hj=>?_) t tl ⟨tl,tc,rfl⟩;have⟨_,jc,je⟩:=hj;have⟨sj,cl⟩:=hC j jl jc;refine⟨sj,?_⟩;have⟨_,one,B,_,_,hw⟩:=pd (acc:=aF p' a') fr Wa dr jl sj;have tn:∀d∈fL γ S (aF p' a') j,d.1.toNat < γ.length:=λd hd=>by have:=(hw d hd).to;omega
 have eqs:∀d∈fL γ S (aF p' a') j,V_ tb d.1.toNat=V_ tb t:=DC (z:=λd=>V_ tb d.1.toNat) (m:=V_ tb t) (λd hd=>(hw d hd).p) (λd hd=>tm _ (tn d hd) (cl d hd)) (by rw[one,Rat.one_mul,<-je];exact ua j jl sj);have same:fL γ S (aF p a') j=fL γ S (aF p' a') j:=by
  have⟨k,ds,hi⟩:=o_ dr jl sj;rcases wB fr hi with rfl| rfl| rfl
  ·refine k4 ?_;rw[fD fr oh hi,fD fr oh hi];have⟨x,x',xl,Zg,gx,WX,al,ch⟩:=im.at_ j ds hi;rcases ch with e| lt
   ·rw[gx,WX,e]
   ·exfalso;rw[sG]at lt;have e1:=h.st jl sj;rw[eO fr hi aD (by rw[fD fr ha hi];exact gx) xl sj]at e1;have e2:=eqs (ds[x'].1,ds[x'].2.1,[(1,1)]) (by rw[mT sj,cN hi,j2 fr hi aD (by rw[fD fr oh hi];exact WX) Zg];exact abl.mpr rfl);have e2:V_ tb ds[x'].1.toNat=V_ tb t:=e2;grind
  ·refine k4 ?_;rw[i7 fr oh hi,i7 fr oh hi]
  ·exact k4 ((i_ fr hp oh hi).trans (i_ fr im.fit oh hi).symm)
 rw[same];exactλd hd=>⟨tn d hd,cl d hd,eqs d hd⟩
def xV(γ:List Rw)(tb:List Fr)(p:Pl)(i:Nat):Rat:=match Υ p i with
 | some j=>V_ tb ((LZ γ i).getD j.toNat d0).1.toNat
 | none=>0
def nF(γ:List Rw)(tb:List Fr)(p:Pl):Rat:=dM (λi=>V_ tb i+xV γ tb p i) γ.length
def D'(hi:γ[i]? =some (.Γ k ds))(gj:Υ p i=some (j:Int))(jl:j < ds.length):xV γ tb p i=V_ tb ds[j].1.toNat:=by unfold xV LZ;rw[gj,aaY,cN hi];show V_ tb (ds.getD ((j:Int)).toNat d0).1.toNat=_;rw[aaY,aad,aac jl];rfl
def P7(fr:FR ε γ)(hh:aa k=true)(hp:Ω (fk γ k) p)(im:Imp γ tb k p p')(le:∀i,i < γ.length->ip k * V_ tb i<=ip k * V_ tb' i)(il:i < γ.length):ip k * xV γ tb p i<=ip k * xV γ tb' p' i:=by
 have hi:=rw_at il;by_cases e:kindOf (fq γ i)=k
 ·cases hr:fq γ i with
  | fin q=>rw[hr]at e;rw[<-e]at hh;exact aaK hh (by show¬aa (Str.ofString "end")=true;decide)
  | Γ k' ds=>
   rw[hr]at e hi;have e:k'=k:=e;subst e;have⟨j,j',jl,uu,gj,zF,al,_⟩:=im.at_ i ds hi;rw[D' hi gj jl,D' hi zF uu];have a:=al _ (aaw jl);have b:=le ds[j'].1.toNat (by have:=(gr fr.pl (aar hi)).to _ (aaw uu);omega);grind
 ·have g:=(a_ (i:=i) fr hh hp).2 _ hi e;have g':=(a_ (i:=i) fr hh im.fit).2 _ hi e;unfold xV;rw[g,g'];grind
def Lg(fr:FR ε γ)(hh:aa k=true)(hp:Ω (fk γ k) p)(im:Imp γ tb k p p')(le:∀i,i < γ.length->ip k * V_ tb i<=ip k * V_ tb' i)(ex:∃(i:Nat) (ds:List bG) (j j':Nat) (jl:j < ds.length) (uu:j' < ds.length),γ[i]? =some (.Γ k ds)/\Υ p i=some (j:Int)/\Υ p' i=some (j':Int)/\ip k * V_ tb ds[j].1.toNat < ip k * V_ tb ds[j'].1.toNat):ip k * nF γ tb p < ip k * nF γ tb' p':=by
 have⟨i,ds,j,j',jl,uu,hi,gj,zF,lt⟩:=ex;have il:=(aai.mp hi).1;have e:∀(t:List Fr) (q:Pl),ip k * nF γ t q=dM (λi=>ip k * (V_ t i+xV γ t q i)) γ.length:=λt q=>by unfold nF;have:=nV (ip k) 0 (λi=>V_ t i+xV γ t q i) (λ_=>0) γ.length;rw[show(λi=>ip k * (V_ t i+xV γ t q i) - 0 * 0)=λi=>ip k * (V_ t i+xV γ t q i) by funext i;grind]at this;rw[this];grind
 rw[e,e];refine EW (λt tl=>?_) il ?_
 ·have a:=le t tl;have b:=P7 fr hh hp im le tl;grind
 ·have a:=le i il;rw[D' hi gj jl,D' hi zF uu];have b:=le ds[j'].1.toNat (by have:=(gr fr.pl (aar hi)).to _ (aaw uu);omega);grind
def KC(fr:FR ε γ)(dr:aL γ gs S)(hp:Ω (fk γ "one") p)(ha:Ω (fk γ "other") a)(pr:AY γ S p)(h:qB γ S (aF p a) tb)(ne:Α γ tb a≠[])(h':qB γ S (aF p (aF a (Α γ tb a))) tb'):nF γ tb' (aF a (Α γ tb a)) < nF γ tb a:=by
 have⟨im,ex⟩:=tJ (tb:=tb) fr aP ha h.tab.red;have oh:=im.fit;have ex:=ex ne;generalize aF a (Α γ tb a)=a' at *
 have hs:∀i,i < γ.length->vb S i->ip "other" * V_ tb i<=ip "other" * aI (λd=>cV d * V_ tb d.1.toNat) (fL γ S (aF p a') i):=λi il st=>by
  have⟨k,ds,hi⟩:=o_ dr il st;rcases wB fr hi with rfl| rfl| rfl
  ·rw[h.st il st,k4 (acc:=aF p a) (acc':=aF p a') (by rw[fD fr ha hi,fD fr oh hi])];grind
  ·have⟨x,x',xl,Zg,gx,WX,al,_⟩:=im.at_ i ds hi;rw[h.st il st,eO fr hi aP (by rw[i7 fr ha hi];exact gx) xl st,eO fr hi aP (by rw[i7 fr oh hi];exact WX) Zg st];exact al _ (aaw xl)
  ·rw[h.st il st,k4 (acc:=aF p a) (acc':=aF p a') ((i_ fr hp ha hi).trans (i_ fr hp oh hi).symm)];grind
 have⟨c1,_⟩:=SR fr (kF fr hp oh) dr (pr a' oh) h h' hs;have:=Lg fr aP ha im c1 ex;rw[Ky]at this;grind
structure qi(γ:List Rw)(S:Sp)(p a:Pl)(tb:List Fr):Prop where
 fa:Ω (fk γ "other") a
 ch:qB γ S (aF p a) tb
 le:wH γ tb a
def qi.up(fr:FR ε γ)(dr:aL γ gs S)(hp:Ω (fk γ "one") p)(h:qi γ S p a tb)(v8:Ω (fk γ "one") p')(Oj:AY γ S p')(h':qi γ S p' a' tb')(up:∀(i:Nat) (ds:List bG),γ[i]? =some (.Γ "one" ds)->∃j j':Nat,∃(jl:j < ds.length) (uu:j' < ds.length),Υ p i=some (j:Int)/\Υ p' i=some (j':Int)/\V_ tb ds[j].1.toNat<=V_ tb ds[j'].1.toNat):∀i,i < γ.length->V_ tb i<=V_ tb' i:=λi il=>by
 have:=(SR fr (kF fr v8 h'.fa) dr (Oj a' h'.fa) h.ch h'.ch (sg:=1) λi il st=>by
  have:=Js fr dr hp h.fa v8 h'.fa h.ch h.le up i il st
  grind).1 i il
 grind
def qi.uniq(fr:FR ε γ)(dr:aL γ gs S)(hp:Ω (fk γ "one") p)(pr:AY γ S p)(h:qi γ S p a tb)(h':qi γ S p a' tb'):tb=tb':=by
 have same:∀(tb:List Fr) (i:Nat) (ds:List bG),γ[i]? =some (.Γ "one" ds)->∃j j':Nat,∃(jl:j < ds.length) (uu:j' < ds.length),Υ p i=some (j:Int)/\Υ p i=some (j':Int)/\V_ tb ds[j].1.toNat<=V_ tb ds[j'].1.toNat:=λtb i ds hi=>by have⟨j,gj,jl⟩:=(a_ (i:=i) fr aD hp).1 ds hi;exact⟨j,j,jl,jl,gj,gj,by grind⟩
 have u:=h.up fr dr hp hp pr h' (same tb);have v:=h'.up fr dr hp hp pr h (same tb');apply abh
 ·rw[h.ch.tab.len,h'.ch.tab.len]
 ·intro i h1 h2;have hi:i < γ.length:=by rw[<-h.ch.tab.len];exact h1
  have x:=h.ch.tab.red i hi;have y:=h'.ch.tab.red i hi;have c:=u i hi;have d:=v i hi;have e1:tb.getD i (0,1)=tb[i]:=by rw[aad,aac h1];rfl
  have e2:tb'.getD i (0,1)=tb'[i]:=by rw[aad,aac h2];rfl
  rw[<-e1,<-e2];exact qG x y (by have c:val (tb.getD i (0,1))<=val (tb'.getD i (0,1)):=c;have d:val (tb'.getD i (0,1))<=val (tb.getD i (0,1)):=d;grind)
def LL(fr:FR ε γ)(dr:aL γ gs S)(hp:Ω (fk γ "one") p)(h:qi γ S p a tb)(ne:Α γ tb p≠[])(Oj:AY γ S (aF p (Α γ tb p)))(h':qi γ S (aF p (Α γ tb p)) a' tb'):nF γ tb p < nF γ tb' (aF p (Α γ tb p)):=by
 have⟨im,ex⟩:=tJ (tb:=tb) fr aD hp h.ch.tab.red;have ex:=ex ne;generalize aF p (Α γ tb p)=p' at *
 have c:=h.up fr dr hp im.fit Oj h' λi ds hi=>by have⟨j,j',jl,uu,gj,zF,al,_⟩:=im.at_ i ds hi;have:=al _ (aaw jl);rw[sG]at this;exact⟨j,j',jl,uu,gj,zF,by grind⟩
 have:=Lg (tb':=tb') fr aD hp im (λi il=>by have:=c i il;rw[sG,Rat.one_mul,Rat.one_mul];exact this) ex;rw[sG]at this;grind
noncomputable def U'(l:List Pl)(Q:Pl->Rat->Prop):Option Rat->Nat
 | none=>l.length+1
 | some t=>open Classical in l.countP λq=>decide (∃u,Q q u/\t < u)
def IT{l:List Pl}{Q:Pl->Rat->Prop}{q:Pl}{u:Rat}(hq:q∈l)(h:Q q u)(un:∀u',Q q u'->u'=u):∀{o:Option Rat},(∀t,o=some t->t < u)->U' l Q (some u) < U' l Q o
 | none,_=>Nat.lt_succ_of_le List.countP_le_length
 | some t,ht=>by
  classical
  have lt:=ht t rfl;unfold U';refine IG (λx _ hx=>?_) hq (aaO ⟨u,h,lt⟩) (aat λz=>?_)
  ·have⟨v,a,b⟩:=aaC hx;exact decide_eq_true ⟨v,a,by grind⟩
  ·have⟨v,a,b⟩:=z;rw[un v a]at b;grind
end
def gR(S:Sp)(o:Option Nat)(d:bG):Bool:=match at_ S d.1.toNat,o with
 | some a,some b=>decide (a < b)
 | _,_=>false
def tV(S:Sp)(o:Option Nat):List bG->Nat->Nat
 | [],_=>0
 | d::ds,n=>if gR S o d then n else tV S o ds (n+1)
def Rh{γ:List Rw}(hl:S.length=γ.length)(h0:0<=t)(h1:t < γ.length):ki (S.map eX) t=some (eX (at_ S t.toNat)):=by have:=vx (S:=S) (p:=t.toNat) ();rwa[show((t.toNat:Nat):Int)=t by omega]at this
def l_(γ:List Rw)(S:Sp):Pl:=(fE γ "one").map λi:Nat=>((i:Int),((tV S (at_ S i) (aq (fq γ i)) 0:Nat):Int))
def sD(A:Addr):DF:=λas M q _=>∃ε γ p st S k ds,as=[Ο A ε γ,.int (p:Nat),st]/\fG M st=some (S.map eX)/\S.length=γ.length/\IA γ/\γ[p]? =some (.Γ k ds)/\(at_ S p=none->∀d∈ds,at_ S d.1.toNat=none)/\q (.int (tV S (at_ S p) ds 0:Nat)) M
def j8:Ε ["floor","place","steps","door","way"] ["floor","place","steps"] (ν mI):=.of rfl
def xu(F:cQ K "drawn_door" "drawn_door" mI f fd)(E:Ev K mg Cm CN CF Ca Cj Cd Ce Cg Ci Cb Cc Ck)(aG:fv P w K mg base 2 Cm "doors" ["self","place"] (sy Cm) cB cD):ah P w K mg base (bM P w) 3 f fd ["floor","place","steps"] (cZ K (sD Cm)):=by
 refine F.eB j8 (λds M q x h=>?_) (λaY A outer s H E' hr=>⟨_,(ζ (bK (oq E.bT (μ (cz (gm aG hr ο (jv 0) (Θ (jv 1) η))) η cw)) (oE rfl (b8 (au (i:=3) j8.nd rfl (Or.inl rfl)) (b8 (au (i:=4) j8.nd rfl (Or.inl rfl)) kO))) mE (θ (aw (JW.jt (DB (xY (Τ (jv 2) (Τ (jv 4) χ)) kj) (xT (sf (Τ (jv 2) (Τ (jv 4) χ)) (Τ (jv 2) (jv 1)))))) (θ (Β (jv 3))) Η)))
   (θ (Β χ))),λds M q x h=>?_⟩)
 ·have⟨ε,γ,p,st,S,k,ds,rfl,_⟩:=h;rfl
 ·have⟨ε,γ,p,st,S,k,ds,rfl,hs,hl,f,hi,hn,h⟩:=h;have rm:Rw.Γ k ds∈γ:=aar hi;have ro:=(f.row _ rm).1;have pl:p < γ.length:=(aai.mp hi).1;have l6:=yw f rm;refine⟨⟨_,_,.inl rfl,rfl⟩,ε,γ,p,.Γ k ds,rfl,hi,ro,dt (hI _) ?_⟩;refine⟨.lst (ds.map eY),ds.map eY,λ_=>True,rfl,rfl,?_⟩;refine aO (λxs ρ' M'=>∃(rest:List bG) (n:Nat) (o3 o4:Option Dt),xs=g6 n (rest.map eY)/\(∀d∈rest,d∈ds)/\tV S (at_ S p) rest n=tV S (at_ S p) ds 0/\M'=M/\ρ'=[some (Ο Cm ε γ),some (.int (p:Int)),some st,o3,o4]) (λxs ρ' M' hj=>trivial) (λx xs ρ' M' hj fC=>?_) (λρ' M' hj=>?_) _ _ _ ⟨ds,0,none,none,rfl,λ_ h=>h,rfl,rfl,rfl⟩
  ·have⟨rest,n,o3,o4,ex,hm,he,rfl,rfl⟩:=hj;cases rest with
   | nil=>cases ex
   | cons d rest=>
    cases ex;have dm:=hm d aaf;have⟨d0',d1'⟩:=nE f rm dm;have a1:=Rh hl d0' d1';have a2:ki (S.map eX) (p:Int)=some (eX (at_ S p)):=vx ();have nx:gR S (at_ S p) d=false->_:=λz=>fC [some (Ο Cm ε γ),some (.int (p:Int)),some st,some (.int (n:Int)),some (eY d)] M' ⟨rest,n+1,_,_,rfl,λx hx=>hm x (aae _ hx),by rw[<-he];show _=if gR S (at_ S p) d=true then n else tV S (at_ S p) rest (n+1);rw[z];rfl,rfl,rfl⟩;have yes:gR S (at_ S p) d=true->q (.int (n:Int)) M':=λz=>by
     rw[<-he]at h;have:tV S (at_ S p) (d::rest) n=n:=by show(if gR S (at_ S p) d=true then n else tV S (at_ S p) rest (n+1))=n;rw[z];rfl
     rw[this]at h;exact h
    dsimp only[g2];walk_at "vc";refine uO ?_;refine(Ζ hs a1 ?_:fo st (.int d.1) _ _);refine wX ⟨λz=>?_,λz=>?_⟩
    ·refine uO ?_;refine(Ζ hs a1 ?_:fo st (.int d.1) _ _);refine(Ζ hs a2 ?_:fo st (.int (p:Int)) _ _);have⟨a,ea⟩:=aa9.mp z;cases eb:at_ S p with
     | none=>rw[hn eb d dm]at ea;cases ea
     | some b=>
      have lz:gR S (at_ S p) d=decide (a < b):=by unfold gR;rw[ea,eb]
      rw[lz]at nx yes;rw[ea];show(decide ((a:Int) < (b:Int))=true->_)/\(decide ((a:Int) < (b:Int))=false->_);exact⟨λz=>yes (aaO (by have:=aaC z;omega)),λz=>nx (aat (by have:=aaR z;omega))⟩
    ·have z:at_ S d.1.toNat=none:=by simpa using z
     refine⟨nofun,λ_=>?_⟩;exact nx (by unfold gR;rw[z])
  ·have⟨rest,n,o3,o4,ex,hm,he,rfl,rfl⟩:=hj;have:rest=[]:=by cases rest with| nil=>rfl| cons p r=>cases ex
   subst this;have he:0=tV S (at_ S p) ds 0:=he;rw[<-he]at h;exact h
def GB{γ:List Rw}(dr:aL γ gs S){k:Str}{ds:List bG}(hi:γ[i]? =some (.Γ k ds))(hk:k≠"other")(h:at_ S i=none):∀d∈ds,at_ S d.1.toNat=none:=λd hd=>by
 have:=dr.2 i _ hi;have this:uD k (aZ S ds) (at_ S i):=this;unfold uD at this;rw[aaF hk,h]at this;rcases this with ⟨_,e⟩| ⟨v,e,_⟩
 ·exact e _ (ak.mpr ⟨d,hd,rfl⟩)
 ·cases e
def qP(A:Addr):DF:=λas M q _=>∃ε γ st S gs,as=[Ο A ε γ,st]/\(∀E,fG (M++E) st=some (S.map eX))/\aL γ gs S/\FR ε γ/\q (.loc M.length) (M++[dP (l_ γ S)])
def kr:Ε ["floor","steps","plan","place"] ["floor","steps"] (ν mV):=.of rfl
def wu(F:cQ K "drawn_plan" "drawn_plan" mV f fd)(E:Ev K mg Cm CN CF Ca Cj Cd Ce Cg Ci Cb Cc Ck){oU:Addr}{oX:FuncData}(eR:aB P w K mg base 2 "places_of" ["floor","hand"] (yj Cm) oU oX){Dm:Addr}{CJ:FuncData}(jR:aB P w K mg base 3 "drawn_door" ["floor","place","steps"] (sD Cm) Dm CJ):ah P w K mg base (bM P w) 4 f fd ["floor","steps"] (cZ K (qP Cm)):=by
 refine F.eB kr (λds M q x h=>?_) (λaY A outer s H E' hr=>⟨_,(ζ (Δ 2 kr.nd BQ)
   (ζ (bK (aT (ar eR hr ο (Θ (jv 0) (μ jH η bB)))) (au (i:=3) kr.nd rfl (Or.inl rfl)) aK (θ (xI hr (jv 2) (jv 3) (ar jR hr ο (Θ (jv 0) (Θ (jv 3) (Θ (jv 1) η)))))))
   (θ (Β (jv 2))))),λds M q x h=>?_⟩)
 ·have⟨ε,γ,st,S,gs,rfl,_⟩:=h;rfl
 ·have⟨ε,γ,st,S,gs,rfl,hs,dr,fr,h⟩:=h;have tW:=fr.pl.len;have Li:(fE γ "one").length<=12:=by have:=List.length_filter_le (λi=>decide (eE γ i="one")) (List.range γ.length);rw[aba]at this;unfold fE;omega
  have TK:(fE γ "one").Nodup:=List.nodup_range.filter _;walk_at "vc";dsimp only[nD,da];walk_at "vc";refine⟨ε,γ,"one",rfl,tW,?_⟩;refine aO (λxs ρ' M'=>∃(dQ rest:List Nat) (o3:Option Dt),fE γ "one"=dQ++rest/\xs=rest.map (λi:Nat=>Dt.int i)/\M'=M++[dP (dQ.map λi:Nat=>((i:Int),((tV S (at_ S i) (aq (fq γ i)) 0:Nat):Int)))]/\ρ'=[some (Ο Cm ε γ),some st,some (.loc M.length),o3]) (λxs ρ' M' hj=>trivial) (λx xs ρ' M' hj fC=>?_) (λρ' M' hj=>?_) _ _ _ ⟨[],fE γ "one",none,rfl,rfl,rfl,rfl⟩
  ·have⟨dQ,rest,o3,e,ex,rfl,rfl⟩:=hj;cases rest with
   | nil=>cases ex
   | cons i rest=>
    cases ex;have dl:dQ.length<=12:=by have:=aaZ List.length e;rw[aan]at this;omega
    have⟨ds,hi,ed,_⟩:=iQ fr aD (show i∈fE γ "one" by rw[e];simp);have gn:Υ (dQ.map λi:Nat=>((i:Int),((tV S (at_ S i) (aq (fq γ i)) 0:Nat):Int))) (i:Int)=none:=kS λy=>by
     rw[aaV]at y;have⟨j,hj,ej⟩:=aau.mp y;have ej:(j:Int)=(i:Int):=ej;have:j=i:=()
     subst this;rw[e,ab5]at TK;exact TK.2.2 _ hj _ aaf rfl
    dsimp only[vR];walk_at "vc";refine⟨ε,γ,i,st,S,"one",ds,rfl,hs _,dr.1,fr.Sx,hi,GB dr hi @_,?_⟩;refine⟨M.length,_,_,Sum.inl (i:Int),rfl,aQ,rfl,by unfold kP;rw[List.length_map,List.length_map];omega,?_⟩;rw[zB (v:=((tV S (at_ S i) ds 0:Nat):Int)),Em,e9];refine fC _ _ ⟨dQ++[i],rest,_,by rw[e,aaJ];rfl,rfl,?_,rfl⟩;unfold jG;rw[gn,aaF @_,aaT,<-ed];rfl
  ·have⟨dQ,rest,o3,e,ex,rfl,rfl⟩:=hj;have:rest=[]:=by cases rest with| nil=>rfl| cons p r=>cases ex
   subst this;rw[aaW]at e;unfold l_ at h;rw[e]at h;exact h
def K6(A:Addr):DF:=λas M q _=>∃ε γ i k acc st S gs,as=[Ο A ε γ,.int (i:Nat),.loc k,st]/\M[k]? =some (dP acc)/\fG M st=some (S.map eX)/\i < γ.length/\qc γ acc/\aL γ gs S/\FR ε γ/\∀E',q (bZ (nv (1,1) γ.length i (fL γ S acc i) (o9 S i))) (M++E')
def y9:Ε ["floor","place","doors","steps"] ["floor","place","doors","steps"] (ν mR):=.of rfl
def yo(F:cQ K "chance_row" "chance_row" mR f fd)(E:Ev K mg Cm CN CF Ca Cj Cd Ce Cg Ci Cb Cc Ck){L9:Addr}{Ma:FuncData}(jQ:aB P w K mg base 5 "led_row" ["floor","place","ways","share","given"] (S5 Cm) L9 Ma){GN:Addr}{GQ:FuncData}(lR:aB P w K mg base 3 "ways_from" ["floor","place","doors"] (Ol Cm) GN GQ):ah P w K mg base (bM P w) 6 f fd ["floor","place","doors","steps"] (cZ K (K6 Cm)):=by
 refine F.eB y9 (λds M q x h=>?_) (λaY A outer s H E' hr=>⟨_,(ζ (aw (Bw (Τ (jv 3) (jv 1)) kj) (θ (Β (ar jQ hr ο (Θ (jv 0) (Θ (jv 1) (μ (iI η) (μ (bQ (μ χ (μ χ η bB) bB)) (μ (bQ (μ χ (μ χ η bB) bB)) η gz) gz))))))) Η)
   (ζ (aw (eI hr (Τ (jv 3) (jv 1)) χ) (θ (Β (ar jQ hr ο (Θ (jv 0) (Θ (jv 1) (μ (iI η) (μ (bQ (μ χ (μ χ η bB) bB)) (μ (bQ (μ χ (μ χ η bB) bB)) η gz) gz))))))) Η)
   (θ (Β (ar jQ hr ο (Θ (jv 0) (Θ (jv 1) (μ (ar lR hr ο (Θ (jv 0) (Θ (jv 1) (Θ (jv 2) η)))) (μ (bQ (μ χ (μ χ η bB) bB)) (μ (bQ (μ χ (μ χ η bB) bB)) η gz) gz) cw)))))))),λds M q x h=>?_⟩)
 ·have⟨ε,γ,i,k,acc,st,S,gs,rfl,_⟩:=h;rfl
 ·have⟨ε,γ,i,k,acc,st,S,gs,rfl,hk,hs,il,dk,dr,fr,h⟩:=h;have⟨Ep,p,_,sz,one,Od⟩:=QT (acc:=acc) fr dk dr il;have sl:∀{z:Nat},z<=1000->z<=sizeLine:=λh=>aax h @_;have a2:ki (S.map eX) (i:Int)=some (eX (at_ S i)):=vx (by rw[dr.1];exact il);have Wq:Sz 11 ((1,1):Fr):=⟨@_,@_,@_⟩;walk_at "vc";refine(Ζ hs a2 ?_:fo st (.int (i:Int)) _ _);refine Q8 ⟨λz=>?_,λz=>?_⟩
  ·have z:at_ S i=none:=by simpa using z
   have e1:fL γ S acc i=[]:=sk λ⟨s,e⟩=>by rw[z]at e;cases e
   have e2:o9 S i=(0,1):=by unfold o9;rw[z]
   rw[e1,e2]at h p;rw[e1]at one Od;exact⟨sl @_,sl @_,sl @_,ε,(1,1),γ,i,[],(0,1),Ep,7,rfl,il,fr.pl.len,Wq,one,p,sz,Od,h⟩
  ·refine(Ζ hs a2 ?_:fo st (.int (i:Int)) _ _);cases e:at_ S i with
   | none=>rw[e]at z;cases z
   | some v=>
    show(decide ((v:Int)=0)=true->_)/\(decide ((v:Int)=0)=false->_);refine⟨λy=>?_,λy=>?_⟩
    ·have y:v=0:=by have:=aaC y;omega
     subst y;have e1:fL γ S acc i=[]:=sk λ⟨s,e'⟩=>by rw[e]at e';cases e'
     have e2:o9 S i=(1,1):=by unfold o9;rw[e];rfl
     rw[e1,e2]at h p;rw[e1]at one Od;exact⟨sl @_,sl @_,sl @_,ε,(1,1),γ,i,[],(1,1),Ep,7,rfl,il,fr.pl.len,Wq,one,p,sz,Od,h⟩
    ·have y:v≠0:=by have:=aaR y;omega
     have PB:vb S i:=⟨v - 1,by rw[e,Nat.sub_add_cancel ()]⟩;have⟨kd,ds,hi⟩:=o_ dr il PB;have e1:fL γ S acc i=fj acc i (.Γ kd ds):=by rw[mT PB,cN hi]
     rw[OH PB]at h p;rw[e1]at h p one Od;refine⟨ε,γ,i,.Γ kd ds,k,acc,rfl,hk,hi,(fr.pl.row _ (aar hi)).1,dk,?_⟩;exact⟨sl @_,sl @_,ε,(1,1),γ,i,_,(0,1),Ep,7,rfl,il,fr.pl.len,Wq,one,p,sz,Od,h⟩
def b7(h:n<=12):(12 * 7000000:Int) ^ n < 2 ^ 400:=by have h1:=abQ (show 0 < 84000000 by decide) h;have h2:((84000000 ^ n:Nat):Int)<=((84000000 ^ 12:Nat):Int):=Int.ofNat_le.mpr h1;rw[Int.natCast_pow,Int.natCast_pow]at h2;exact abj h2 @_
def OF(A:Addr):DF:=λas M q _=>∃ε γ kp ka st S gs p a,as=[Ο A ε γ,.loc kp,.loc ka,st]/\M[kp]? =some (dP p)/\M[ka]? =some (dP a)/\(∀E,fG (M++E) st=some (S.map eX))/\p.length+a.length<=1000/\qc γ (aF p a)/\aL γ gs S/\FR ε γ/\RX γ S (aF p a)/\∀tb,qB γ S (aF p a) tb->q (.loc (M.length+1)) (M++[dP (aF p a),.lst (tb.map az)])
def j3:Ε ["floor","plan","answer","steps","doors"] ["floor","plan","answer","steps"] (ν mH):=.of rfl
def wc(F:cQ K "chances_by" "chances_by" mH f fd)(E:Ev K mg Cm CN CF Ca Cj Cd Ce Cg Ci Cb Cc Ck){FO:Addr}{Fs:FuncData}(ma:aB P w K mg base 4 "answer_of" ["rows"] xW FO Fs)(af:fv P w K mg base 1 Cm "size" ["self"] (sO Cm) bo bj){BH:Addr}{CL:FuncData}(kB:aB P w K mg base 6 "chance_row" ["floor","place","doors","steps"] (K6 Cm) BH CL):ah P w K mg base (bM P w) 7 f fd ["floor","plan","answer","steps"] (cZ K (OF Cm)):=by
 refine F.eB j3 (λds M q x h=>?_) (λaY A outer s H E' hr=>⟨_,(ζ (Δ 4 j3.nd (QK E.yr (Θ (jv 1) η)))
   (ζ (dX (CH (jv 4) (jv 2)))
   (θ (Β (ar ma hr ο (μ (CY (ys:=["floor","doors","steps"]) (Μ:=[0,4,3]) (.of j3 rfl rfl rfl) (d8 E.cW (μ (g_ af hr ο (jv 0)) η cw)) (λC s H fp=>(cz (ar kB hr (cL (P:=P) (w:=w)) (Θ (jv 1) (Θ (jv 0) (Θ (jv 2) (Θ (jv 3) η)))))))) η)))))),λds M q x h=>?_⟩)
 ·have⟨ε,γ,kp,ka,st,S,gs,p,a,rfl,_⟩:=h;rfl
 ·have⟨ε,γ,kp,ka,st,S,gs,p,a,rfl,hp,ha,hs,lz,dk,dr,fr,pr,h⟩:=h;have tW:=fr.pl.len;have n1:=fr.n1;have sl:∀{z:Nat},z<=1000->z<=sizeLine:=λh=>aax h @_;have kl:ka < M.length:=(aai.mp ha).1;have Sy:=UN fr dk dr pr;have⟨tb,z,N,sol,n0,Uv,tab,bot⟩:=Sy.ex tW;have cn:qB γ S (aF p a) tb:=⟨tab,λi hi=>abj (bot i hi) (b7 tW)⟩;have hq:=h tb cn;have bd:=Sy.bd;have Wc:=Sy.Wc;walk_at "vc";refine⟨kp,_,_,rfl,hp,?_⟩;dsimp only[Es,AG];walk_at "vc";refine⟨⟨M.length,_,_,rfl,aQ⟩,M.length,ka,_,_,_,_,rfl,rfl,(),aQ,bu ha,by unfold kP;rw[List.length_map,List.length_map];exact lz,?_⟩;rw[E_,EE,e9];generalize Hf:aF p a=acc at *
  dsimp only[Jo];walk_at "vc";refine⟨⟨_,_,.inl rfl,rfl⟩,ε,γ,rfl,?_⟩;refine⟨⟨(),()⟩,by rw[fc];exact sl (),?_⟩;refine vg (f:=λx=>match x with| .int j=>bZ ((gI (1,1) γ.length (fL γ S acc) (o9 S)).getD j.toNat [])| _=>.aE) _ _ (λx Uj q' hq=>?_) ?_
  ·have⟨j,hj,rfl⟩:=iS Uj;have hj:j < γ.length:=()
   rw[Int.zero_add]at hq⊢;have hq:q' (bZ ((gI (1,1) γ.length (fL γ S acc) (o9 S)).getD j [])) (M++[dP acc]):=hq;have e:(gI (1,1) γ.length (fL γ S acc) (o9 S)).getD j []=nv (1,1) γ.length j (fL γ S acc j) (o9 S j):=by unfold gI;rw[aad,aap,aaQ hj];rfl
   rw[e]at hq;exact⟨ε,γ,j,M.length,acc,st,S,gs,rfl,aQ,hs _,hj,dk,dr,fr,λE'=>hU (.old (g9 _)) hq⟩
  have er:=ML (gI (1,1) γ.length (fL γ S acc) (o9 S)) [] bZ;rw[kZ]at er;rw[aaS,show((γ.length:Int)).toNat=γ.length by omega];refine(λ(key:∀l,l=(gI (1,1) γ.length (fL γ S acc) (o9 S)).map bZ->xW [.lst l] (M++[dP acc]) q _)=>key _ er) λl hl=>?_;subst hl;have ln:∀r∈gI (1,1) γ.length (fL γ S acc) (o9 S),r.length=γ.length+1:=λr ve=>by unfold gI at ve;have⟨i,hi,rfl⟩:=aau.mp ve;have⟨E,p,_⟩:=QT (acc:=acc) fr dk dr (abg.mp hi);exact(C3 (abg.mp hi) p).1
  refine⟨gI (1,1) γ.length (fL γ S acc) (o9 S),γ.length,7000000,tb,z,N,rfl,⟨by rw[kZ];exact n1,by rw[kZ];exact tW,tW,ln,by rw[kZ];exact bd,@_⟩,n1,tab.len,by rw[kZ];exact sol,n0,λi hi=>⟨(tab.red i hi).pos,(tab.red i hi).low,Uv i hi⟩,by rw[kZ];exact Wc,?_⟩;simpa [List.append_assoc] using hq
end
end Pg
namespace L2
open PySem
def zq{g:Dt->En->(En->Prop)->Prop}{tb:DS}{Dn:iM}{k:Nat}{u:Addr->HO}{m:MO}(J:List Key->En->Ms->Prop)(ay:∀xs ρ M,J xs ρ M->M[k]? =some (.raw u))
  (step:∀x xs ρ M,J (x::xs) ρ M->(∀ρ M,J xs ρ M->uJ g tb Dn k u m xs ρ M)->g (Ld x) ρ λρ'=>tb {Dn with nx:=uJ g tb Dn k u m xs,ct:=uJ g tb Dn k u m xs,bk:=λρ M=>M[k]? =some (.raw u)/\Dn.nx ρ (M.set k m)} ρ' M)
  (fin:∀ρ M,J [] ρ M->Dn.nx ρ (M.set k m)):∀(xs:List Key) (ρ:En) (M:Ms),J xs ρ M->uJ g tb Dn k u m xs ρ M
 | [],ρ,M,h=>⟨ay _ _ _ h,fin _ _ h⟩
 | x::xs,ρ,M,h=>⟨ay _ _ _ h,step x xs ρ M h λρ' M' h'=>zq J ay step fin xs ρ' M' h'⟩
end L2
namespace Pg
open PySem L2 Fr0 Tx
variable{M:Ms}{γ:List Rw}{tb:List Fr}{mg:Str->Option Value}{f yS gD:Addr}{fd AD gw:FuncData}{ε:Fr}{gs:List Nat}{S:Sp}{p:Pl}{i:Nat}{is:List Int}
def LR{k:Nat}{m:MO}(h:M[k]? =some m):M.set k m=M:=by
 apply List.ext_getElem?;intro i;rw[List.getElem?_set];split
 ·rename_i e;subst e;rw[aay (aai.mp h).1,h]
 ·rfl
def w8(pl:Pl):vP pl=(pl.map (·.2)).map Dt.int:=by unfold vP;rw[List.map_map];rfl
def YV(p q:Fr):nB [.int p.1,.int p.2] [.int q.1,.int q.2]=decide (p=q):=by
 have⟨a,b⟩:=p;have⟨c,d⟩:=q;show((a==c)&&((b==d)&&true))=_;rw[Bool.and_true];by_cases h1:a=c
 ·by_cases h2:b=d
  ·subst h1 h2;simp
  ·have:¬((a,b)=(c,d)):=λz=>h2 (Prod.mk.inj z).2;rw[decide_eq_false this];simp[h2]
 ·have:¬((a,b)=(c,d)):=λz=>h1 (Prod.mk.inj z).1;rw[decide_eq_false this];simp[h1]
structure RT(γ:List Rw)(tb:List Fr):Prop where
 tl:tb.length=γ.length
 sz:∀i,i < γ.length->Sz 400 (tb.getD i (0,1))
def UU{t:Int}(h:RT γ tb)(h0:0<=t)(h1:t < γ.length):ki (tb.map az) t=some (az (tb.getD t.toNat (0,1))):=by
 have hl:t.toNat < tb.length:=by rw[h.tl];omega
 have e2:(tb.map az)[t.toNat]? =some (az (tb.getD t.toNat (0,1))):=by rw[aap,aad,aac hl];rfl
 have:=ag e2;rwa[show((t.toNat:Nat):Int)=t by omega]at this
def RD(p r:Fr):ui M 1 (az p) (az r) (decide (p=r)):=by
 have:=ui.tup (M:=M) (n:=0) (ds:=[.int p.1,.int p.2]) (es:=[.int r.1,.int r.2]) (f:=λj=>if j=0 then decide (p.1=r.1) else decide (p.2=r.2)) (λj d e hd he=>by
  match j,hd,he with
  | 0,hd,he=>cases hd;cases he;have:=ui.flat (M:=M) (n:=0) (d:=.int p.1) (e:=.int r.1) rfl rfl;rwa[show ue (.int p.1) (.int r.1)=decide (p.1=r.1) by show(p.1==r.1)=_;by_cases h:p.1=r.1 <;> simp[h]]at this
  | 1,hd,he=>cases hd;cases he;have:=ui.flat (M:=M) (n:=0) (d:=.int p.2) (e:=.int r.2) rfl rfl;rwa[show ue (.int p.2) (.int r.2)=decide (p.2=r.2) by show(p.2==r.2)=_;by_cases h:p.2=r.2 <;> simp[h]]at this
  | j+2,hd,_=>cases hd)
 have e:((List.range (min [Dt.int p.1,.int p.2].length [Dt.int r.1,.int r.2].length)).all (λj=>if j=0 then decide (p.1=r.1) else decide (p.2=r.2))&&[Dt.int p.1,.int p.2].length==[Dt.int r.1,.int r.2].length)=decide (p=r):=by show((decide (p.1=r.1)&&(decide (p.2=r.2)&&true))&&true)=_;rw[Bool.and_true,Bool.and_true];have⟨a,b⟩:=p;have⟨c,d⟩:=r;simp[Prod.ext_iff,Bool.decide_and]
 rw[e]at this;exact this
section
variable{P:Program}{w:World}{K:tf}{base:Heap}{Cm CN CF Ca Cj Cd Ce Cg Ci Cb Cc Ck:Addr}
def LO(A:Addr):DF:=λas M q _=>∃(ε:Fr) (γ:List Rw) (tb:List Fr) (k kt:Nat) (pl:Pl),as=[Ο A ε γ,.loc k,.loc kt]/\M[k]? =some (dP pl)/\M[kt]? =some (.lst (tb.map az))/\RT γ tb/\IA γ/\Ik pl/\pl.length<=12/\(∀p∈pl,0<=p.1/\∃kd ds,γ[p.1.toNat]? =some (.Γ kd ds)/\0<=p.2/\p.2 < ds.length)/\q (.loc M.length) (M++[dP (Α γ tb pl)])
def dF:Ε ["floor","plan","table","better","place","numbers","best"] ["floor","plan","table"] (ν mB):=.of rfl
def yA(F:cQ K "better_led" "better_led" mB f fd)(E:Ev K mg Cm CN CF Ca Cj Cd Ce Cg Ci Cb Cc Ck){cB:Addr}{cD:FuncData}(aG:fv P w K mg base 2 Cm "doors" ["self","place"] (sy Cm) cB cD){bz:Addr}{bw:FuncData}(ae:fv P w K mg base 1 Cm "kind" ["self","place"] (tP Cm) bz bw){FK:Addr}{Fw:FuncData}(lV:aB P w K mg base 2 "greatest" ["numbers"] (vS qY) FK Fw){Qy:Addr}{QD:FuncData}(wZ:aB P w K mg base 2 "least" ["numbers"] (vS sM) Qy QD):ah P w K mg base (bM P w) 3 f fd ["floor","plan","table"] (cZ K (LO Cm)):=by
 refine F.eB dF (λds M q x h=>?_) (λaY A outer s H E' hr=>⟨_,(ζ (Δ 3 dF.nd BQ)
   (ζ (MU (jv 1) (au (i:=4) dF.nd rfl (Or.inl rfl)) aK (ζ (hG (i:=5) dF.nd rfl (Or.inl rfl) (ys:=["table"]) (Μ:=[2]) (.of dF rfl rfl rfl) (aT (cz (gm aG hr ο (jv 0) (Θ (jv 4) η)))) (λC s H fp=>(Τ (jv 1) (Τ (jv 0) χ))))
   (ζ (sT (Δ 6 dF.nd (JV (eI hr (gm ae hr ο (jv 0) (Θ (jv 4) η)) jH) (ar lV hr ο (Θ (jv 5) η)) (ar wZ hr ο (Θ (jv 5) η)))))
   (θ (aw (s_ hr (Τ (jv 5) (Mw (jv 1) (jv 4))) (jv 6)) (θ (xI hr (jv 3) (jv 4) (NF 1 hr (jv 5) (Θ (jv 6) η)))) Η)))))
   (θ (Β (jv 3))))),λds M q x h=>?_⟩)
 ·have⟨ε,γ,tb,k,kt,pl,rfl,_⟩:=h;rfl
 ·have⟨ε,γ,tb,k,kt,pl,rfl,hk,Fb,tok,f,nd,tW,hp,h⟩:=h;have kl:k < M.length:=(aai.mp hk).1;have W0:kt < M.length:=(aai.mp Fb).1;have kn:k≠kt:=λe=>by rw[e,Fb]at hk;cases hk
  walk_at "vc";refine⟨k,kP pl,pl.map (·.2),rfl,by rw[<-w8];exact bu hk,λep=>?_⟩;show uJ _ _ _ k (Nx P w (kP pl) (pl.map (·.2)) ep) _ _ _ ((M++[MO.lH [] []]).set k (.raw (Nx P w (kP pl) (pl.map (·.2)) ep)));have Nz:∀p∈pl,eP (kP pl) ((pl.map (·.2)).map Dt.int) (Sum.inl p.1)=some (.int p.2):=λp hm=>by rw[<-w8,E5,so nd hm];rfl
  generalize hu:Nx P w (kP pl) (pl.map (·.2)) ep=u;have YA:(M++[MO.lH [] []]).set k (.raw u)=M.set k (.raw u)++[dP []]:=by rw[abP _ _ kl];rfl
  have hb:∀acc,((M.set k (.raw u)++[dP acc]).set k (.lH (kP pl) (vP pl)))=M++[dP acc]:=λacc=>by
   rw[abP _ _ (by rw[aaX];exact kl),List.set_set]
   congr 1
   exact LR hk
  have hT:∀acc,(M.set k (.raw u)++[dP acc])[kt]? =some (.lst (tb.map az)):=λacc=>bu (by rw[aa2 kn];exact Fb);rw[YA];refine zq (λxs ρ' M'=>∃(dQ rest:Pl) (o4 o5 o6:Option Dt),pl=dQ++rest/\xs=kP rest/\M'=M.set k (.raw u)++[dP (Α γ tb dQ)]/\ρ'=[some (Ο Cm ε γ),some (.loc k),some (.loc kt),some (.loc M.length),o4,o5,o6]) (λxs ρ' M' hj=>?_) (λx xs ρ' M' hj fC=>?_) (λρ' M' hj=>?_) _ _ _ ⟨[],pl,none,none,none,rfl,rfl,rfl,rfl⟩
  ·have⟨dQ,rest,o4,o5,o6,e,rfl,rfl,rfl⟩:=hj;exact bu (by rw[aaU kl])
  ·have⟨dQ,rest,o4,o5,o6,e,ex,rfl,rfl⟩:=hj;cases rest with
   | nil=>cases ex
   | cons p rest=>
    cases ex;have pm:p∈pl:=by rw[e];simp
    have⟨p0,kd,ds,Oy,v0,v1⟩:=hp p pm;have⟨p1,v⟩:=p;obtain⟨i,rfl⟩:∃i:Nat,p1=(i:Int):=⟨p1.toNat,by have:0<=p1:=p0;omega⟩;obtain⟨j,rfl⟩:∃j:Nat,v=(j:Int):=⟨v.toNat,by have:0<=v:=v0;omega⟩;have Oy:γ[i]? =some (.Γ kd ds):=Oy;have jl:j < ds.length:=by have:(j:Int) < ds.length:=v1;omega
    have rm:Rw.Γ kd ds∈γ:=aar Oy;have ro:=(f.row _ rm).1;have l6:=yw f rm;have NQ:(M.set k (.raw u)++[dP (Α γ tb dQ)])[k]? =some (.raw u):=bu (by rw[aaU kl]);have Tq:(M.set k (.raw u)++[dP (Α γ tb dQ)])[M.length]? =some (dP (Α γ tb dQ)):=by have:=aQ (M:=M.set k (.raw u)) (o:=dP (Α γ tb dQ));rwa[aaX]at this
    have bsn:Α γ tb (dQ++[((i:Int),(j:Int))])=Α γ tb dQ++pf (uE γ tb) (z4 γ tb) ((i:Int),(j:Int)):=by unfold Α;rw[List.flatMap_append];simp
    have ed:LZ γ (i:Int)=ds:=by unfold LZ;rw[Int.toNat_natCast,cN Oy];rfl
    have nl:(aN tb ds).length=ds.length:=by unfold aN;rw[List.length_map]
    have eb:uE γ tb (i:Int) (j:Int)=decide ((aN tb ds).getD j (0,1)=cH kd (aN tb ds)):=by unfold uE;rw[ed,aaY,aaY,nP Oy]
    have ex:z4 γ tb (i:Int)=(A2 (cH kd (aN tb ds)) (aN tb ds):Nat):=by unfold z4;rw[ed,aaY,nP Oy]
    have T2:∀acc o5 o6,acc=Α γ tb (dQ++[((i:Int),(j:Int))])->_:=λacc o5 o6 ea=>fC [some (Ο Cm ε γ),some (.loc k),some (.loc kt),some (.loc M.length),some (.int (i:Int)),o5,o6] (M.set k (.raw u)++[dP acc]) ⟨dQ++[((i:Int),(j:Int))],rest,_,o5,o6,by rw[e,aaJ];rfl,rfl,by rw[ea],rfl⟩;have hg:=Nz _ pm;have nz:∀n∈aN tb ds,Sz 1300 n:=λn hn=>by have⟨d,hd,rfl⟩:=aau.mp hn;have:=nE f rm hd;exact wy (tok.sz _ ()) @_
    have n0:aN tb ds≠[]:=λz=>by rw[z]at nl;have:(0:Nat)=ds.length:=nl;omega
    have⟨bm,_⟩:=DZ (k:=kd) n0 λn hn=>(nz n hn).2.1;have⟨xl,xe,xf⟩:=BP bm;have hTd:=hT (Α γ tb dQ);rw[<-hu]at NQ Tq T2 hTd⊢;walk_at "vc";refine⟨⟨_,_,.inl rfl,rfl⟩,ε,γ,i,.Γ kd ds,rfl,Oy,ro,dt (hI _) ?_⟩;refine⟨by show(ds.map eY).length<=sizeLine;rw[aah];exact aax l6.2 @_,?_⟩;refine cF (F:=λx d=>x=eY d/\d∈ds) (f:=λd=>az (tb.getD d.1.toNat (0,1))) (as:=ds) trivial (λx d hx qq hq=>?_) (gC eY ds ds λx hx=>hx) ?_
    ·have⟨rfl,hd⟩:=hx;have⟨t0,t1⟩:=nE f rm hd;walk_at "vc";refine uO ?_;exact Ζ (d:=.loc kt) (Cr hTd) (UU tok t0 t1) hq
    rw[aaS];have en:ds.map (λd=>az (tb.getD d.1.toNat (0,1)))=(aN tb ds).map az:=by unfold aN;rw[List.map_map];rfl
    rw[en];generalize aN tb ds=ns at *
    refine⟨λρ M2=>M2=M.set k (.raw (Nx P w (kP pl) (pl.map (·.2)) ep))++[dP (Α γ tb dQ)]/\ρ=[some (Ο Cm ε γ),some (.loc k),some (.loc kt),some (.loc M.length),some (.int (i:Int)),some (.lst (ns.map az)),some (az (cH kd ns))],?_,?_⟩
    ·walk_at "vc";refine⟨⟨_,_,.inl rfl,rfl⟩,ε,γ,i,.Γ kd ds,rfl,Oy,λz=>?_,λz=>?_⟩
     ·have z:kd="one":=aaC z;exact⟨ns,rfl,n0,nz,rfl,by unfold cH;rw[if_pos z];rfl⟩
     ·have z:kd≠"one":=aaR z;exact⟨ns,rfl,n0,nz,rfl,by unfold cH;rw[if_neg z];rfl⟩
    rintro ρ2 M2 ⟨rfl,rfl⟩;generalize cH kd ns=b at *
    walk_at "vc";refine⟨k,kP pl,(pl.map λx:Int×Int=>x.2),ep,Sum.inl (i:Int),(j:Int),rfl,NQ,rfl,hg,?_⟩;refine(Ζ (d:=.lst (ns.map az)) (xs:=ns.map az) rfl (ag (j:=j) (by rw[aap,aac (show j < ns.length by omega)];rfl)) ?_:fo (.lst (ns.map az)) (.int (j:Int)) _ _);have gj:ns.getD j (0,1)=ns[j]'():=by rw[aad,aac (show j < ns.length by omega)];rfl
    rw[gj]at eb;generalize ns[j]'()=c at *
    show((!nB [.int c.1,.int c.2] [.int b.1,.int b.2])=true->_)/\((!nB [.int c.1,.int c.2] [.int b.1,.int b.2])=false->_);rw[YV,<-eb];refine⟨λz=>?_,λz=>?_⟩
    ·have z:¬uE γ tb (i:Int) (j:Int)=true:=by simpa using z
     dsimp only[vR,IM];walk_at "vc";have dl:dQ.length<=12:=by have:=aaZ List.length e;rw[aan]at this;omega
     have ll:(Α γ tb dQ).length<=dQ.length:=qW dQ;refine⟨⟨ns.map az,rfl⟩,az b,ns.map az,λi=>decide (ns.getD i (0,1)=b),A2 b ns,rfl,rfl,λi' z' WZ=>?_,by rw[aah];exact xl,aaO (by rw[aad,xe];rfl),λi' Jk=>aat λy=>xf i' Jk (by rw[aac (show i' < ns.length by omega)];rw[aad,aac (show i' < ns.length by omega)]at y;exact aaZ some y),?_⟩
     ·rw[aap]at WZ;have⟨n,hn,rfl⟩:=abm.mp WZ;have en':ns.getD i' (0,1)=n:=by rw[aad,hn];rfl
      show ui _ 1 (az n) (az b) (decide (ns.getD i' (0,1)=b));rw[en'];exact RD n b
     refine⟨M.length,_,_,Sum.inl (i:Int),rfl,Tq,rfl,by unfold kP;rw[List.length_map];omega,?_⟩;rw[zB (v:=((A2 b ns:Nat):Int)),Em];have gn:Υ (Α γ tb dQ) (i:Int)=none:=kS λy=>by have y:=iJ y;rw[e]at nd;unfold Ik at nd;rw[aaT,ab5]at nd;exact nd.2.2 _ y _ aaf rfl
     have e1:jG (Α γ tb dQ) (i:Int) ((A2 b ns:Nat):Int)=Α γ tb (dQ++[((i:Int),(j:Int))]):=by rw[bsn];unfold jG pf;rw[gn,aaF z,ex,aaF @_]
     rw[e1,List.set_append_right (h:=by rw[aaX];exact aao _),aaX,abU];exact T2 _ _ _ rfl
    ·have z:uE γ tb (i:Int) (j:Int)=true:=by simpa using z
     exact T2 _ _ _ (by rw[bsn];unfold pf;rw[if_pos z,List.append_nil])
  ·have⟨dQ,rest,o4,o5,o6,e,ex,rfl,rfl⟩:=hj;have:rest=[]:=by cases rest with| nil=>rfl| cons p r=>cases ex
   subst this;rw[aaW]at e;rw[w8]at hb;rw[hb,<-e];exact h
section
variable{tb':List Fr}{a:Pl}{k:Str}
def qB.tok(fr:FR ε γ)(dr:aL γ gs S)(hp:Ω (fk γ "one") p)(ha:Ω (fk γ "other") a)(pr:AY γ S p)(h:qB γ S (aF p a) tb):RT γ tb:=⟨h.tab.len,λi il=>(h.sz fr (kF fr hp ha) dr (pr a ha) il).2.2.2⟩
def tE(h:Ω (fk γ k) a)(tW:γ.length<=12):a.length<=12:=by have:=aaZ List.length (cb h);rw[aah,jd,aah]at this;have l:=List.length_filter_le (λi=>decide (eE γ i=k)) (List.range γ.length);rw[aba]at l;have l:(fE γ k).length<=γ.length:=l;omega
def Ee(fr:FR ε γ)(hh:aa k=true)(h:Ω (fk γ k) a):∀e∈a,0<=e.1/\∃kd ds,γ[e.1.toNat]? =some (.Γ kd ds)/\0<=e.2/\e.2 < ds.length:=λe he=>by have ke:e.1∈a.map (·.1):=aau.mpr ⟨e,he,rfl⟩;rw[cb h,jd]at ke;have⟨i,hm,ei⟩:=aau.mp ke;have ei:(i:Int)=e.1:=ei;have⟨ds,hi,_,_⟩:=iQ fr hh hm;have⟨j,gj,jl⟩:=(a_ (i:=i) fr hh h).1 ds hi;have ge:=so (gS h) he;rw[<-ei,gj]at ge;have ge:=aav ge;exact⟨(),k,ds,by rw[<-ei,aaY];exact hi,(),()⟩
def Qin(γ:List Rw)(S:Sp)(p:Pl):Pl->Rat->Prop:=λa u=>∃tb,qB γ S (aF p a) tb/\u= -nF γ tb a
def qB.uniq(fr:FR ε γ)(dr:aL γ gs S)(hp:Ω (fk γ "one") p)(ha:Ω (fk γ "other") a)(pr:AY γ S p)(h:qB γ S (aF p a) tb)(h':qB γ S (aF p a) tb'):tb=tb':=(UN fr (kF fr hp ha) dr (pr a ha)).uniq h.tab h'.tab
end
def OK(A:Addr):DF:=λas M q _=>∃(ε:Fr) (γ:List Rw) (kp:Nat) (p:Pl) (S:Sp) (gs:List Nat),as=[Ο A ε γ,.loc kp,.lst (S.map eX)]/\M[kp]? =some (dP p)/\FR ε γ/\aL γ gs S/\Ω (fk γ "one") p/\AY γ S p/\∀(a:Pl) (tb:List Fr) (E':Ms) (kt:Nat),qi γ S p a tb->Α γ tb a=[]->M.length < kt->(M++[dP a]++E')[kt]? =some (.lst (tb.map az))->q (.tup [.loc M.length,.loc kt]) (M++[dP a]++E')
def gT:Ε ["floor","plan","steps","answer","table","better"] ["floor","plan","steps"] (ν mJ):=.of rfl
def v9(F:cQ K "kept_least" "kept_least" mJ f fd)(E:Ev K mg Cm CN CF Ca Cj Cd Ce Cg Ci Cb Cc Ck){Cq:Addr}{Cz:FuncData}(kh:aB P w K mg base 3 "first_plan" ["floor","hand"] (DU Cm) Cq Cz){Bs:Addr}{Bm:FuncData}(j6:aB P w K mg base 7 "chances_by" ["floor","plan","answer","steps"] (OF Cm) Bs Bm){lS:Addr}{mU:FuncData}(dH:aB P w K mg base 3 "better_led" ["floor","plan","table"] (LO Cm) lS mU):ah P w K mg base (bM P w) 8 f fd ["floor","plan","steps"] (cZ K (OK Cm)):=by
 refine F.eB gT (λds M q x h=>?_) (λaY A outer s H E' hr=>⟨_,(ζ (Δ 3 gT.nd (ar kh hr ο (Θ (jv 0) (μ jH η bB))))
   (θ (nI (ba AZ) (ζ (Δ 4 gT.nd (ar j6 hr ο (Θ (jv 0) (Θ (jv 1) (Θ (jv 3) (Θ (jv 2) η))))))
   (ζ (Δ 5 gT.nd (ar dH hr ο (Θ (jv 0) (Θ (jv 3) (Θ (jv 4) η)))))
   (ζ (aw (eI hr (LK E.bS (Θ (jv 5) η)) χ) (θ (Β (bQ (Θ (jv 3) (Θ (jv 4) η))))) Η)
   (θ (dX (CH (jv 3) (jv 5)))))))))),λds M q x h=>?_⟩)
 ·have⟨ε,γ,kp,p,S,gs,rfl,_⟩:=h;rfl
 ·have⟨ε,γ,kp,p,S,gs,rfl,hp,fr,dr,fp,pr,h⟩:=h;have tW:=fr.pl.len;have f0:=Ct fr aP;walk_at "vc";refine⟨ε,γ,"other",rfl,tW,?_⟩;generalize Dv γ "other"=a0 at *
  refine⟨λm ρ' M'=>∃(a:Pl) (E1:Ms) (o:Option Rat) (o4 o5:Option Dt),Ω (fk γ "other") a/\m=U' (MZ (fk γ "other")) (Qin γ S p) o/\(∀t,o=some t->∀tb,qB γ S (aF p a) tb->t < -nF γ tb a)/\M'=M++[dP a]++E1/\ρ'=[some (Ο Cm ε γ),some (.loc kp),some (.lst (S.map eX)),some (.loc M.length),o4,o5],⟨_,a0,[],none,none,none,f0,rfl,λ_ z=>(nomatch z),by rw[aaW],rfl⟩,λm ρ' M' hw=>?_⟩;have⟨a,E1,o,o4,o5,fa,rfl,ho,rfl,rfl⟩:=hw;have kpl:kp < M.length:=(aai.mp hp).1;have R3:(M++[dP a]++E1)[kp]? =some (dP p):=bu (bu hp);have WO:∀(a:Pl) (E:Ms),(M++[dP a]++E)[M.length]? =some (dP a):=λa E=>bu aQ;have Li:=tE fp tW;have Ve:=tE fa tW;have dk:=kF fr fp fa;walk_at "vc";refine⟨λ_=>⟨_,λρ2 M2 hn=>hn,?_⟩,nofun⟩;refine⟨ε,γ,kp,M.length,.lst (S.map eX),S,gs,p,a,rfl,R3,WO a E1,λ_=>rfl,(),dk,dr,fr,pr a fa,λtb cn=>?_⟩;have tok:=cn.tok fr dr fp fa pr;have e1:M++[dP a]++E1++[dP (aF p a),MO.lst (tb.map az)]=M++[dP a]++(E1++[dP (aF p a),MO.lst (tb.map az)]):=by simp
  obtain⟨E2,hE2⟩:∃E2,E2=E1++[dP (aF p a),MO.lst (tb.map az)]:=⟨_,rfl⟩;obtain⟨kt,Fb⟩:∃kt,kt=(M++[dP a]++E1).length+1:=⟨_,rfl⟩;have Wg:M.length < kt:=by rw[Fb,aan,aan];show M.length < M.length+1+E1.length+1;omega
  have att:(M++[dP a]++E2)[kt]? =some (.lst (tb.map az)):=by rw[hE2,<-e1,Fb,aaB (abw _ 1),abD];rfl
  rw[e1,<-hE2,<-Fb];refine⟨ε,γ,tb,M.length,kt,a,rfl,WO a E2,att,tok,fr.Sx,gS fa,Ve,Ee fr aP fa,?_⟩;have ZK:(Α γ tb a).length<=12:=aax (qW a) Ve;have VQ:(M++[dP a]++E2++[dP (Α γ tb a)])[(M++[dP a]++E2).length]? =some (dP (Α γ tb a)):=aQ;have kl:(kP (Α γ tb a)).length=(Α γ tb a).length:=by unfold kP;rw[List.length_map]
  refine⟨_,_,_,rfl,VQ,?_⟩;rw[kl];show(decide (((Α γ tb a).length:Int)=0)=true->_)/\(decide (((Α γ tb a).length:Int)=0)=false->_);refine⟨λz=>?_,λz=>?_⟩
  ·have e:Α γ tb a=[]:=List.length_eq_zero_iff.mp (by have:=aaC z;omega);refine⟨D2,?_⟩;rw[aaJ (M++[dP a]) E2];exact h a tb _ kt ⟨fa,cn,LD fr fa cn.tab.red e⟩ e Wg (by rw[<-aaJ];exact bu att)
  ·have ne:Α γ tb a≠[]:=λy=>by rw[y]at z;exact aaK z @_
   have⟨im,_⟩:=tJ (tb:=tb) fr aP fa cn.tab.red;have ml:M.length < (M++[dP a]++E2).length:=by rw[aan,aan];show M.length < M.length+1+E2.length;omega
   dsimp only[AG,Es];walk_at "vc";refine⟨⟨M.length,_,_,rfl,bu (WO a E2)⟩,M.length,_,_,_,_,_,rfl,rfl,(),bu (WO a E2),VQ,by rw[kl];unfold kP;rw[List.length_map];omega,?_⟩;rw[E_,EE];have se:(M++[dP a]++E2++[dP (Α γ tb a)]).set M.length (dP (aF a (Α γ tb a)))=M++[dP (aF a (Α γ tb a))]++(E2++[dP (Α γ tb a)]):=by rw[aaJ (M++[dP a]),aaJ,aaJ,List.set_append_right (h:=aao _),abU];rfl
   rw[se];refine⟨_,?_,aF a (Α γ tb a),_,some (-nF γ tb a),_,_,im.fit,rfl,λt et tb' Xy=>?_,rfl,rfl⟩
   ·exact IT (r9 fa) ⟨tb,cn,rfl⟩ (λu' ⟨tb',Xy,e⟩=>by rw[e,Xy.uniq fr dr fp fa pr cn]) λt et=>ho t et tb cn
   ·cases et;have:=KC fr dr fp fa pr cn ne Xy;grind
def pC{E:Ms}{n:Nat}:∀(γ:List Rw) (j:Nat),(∀i m,(lJ γ)[i]? =some m->E[j+i]? =some m)->fY n E (oi (n+j) γ) (γ.map ao)
 | [],_,_=>.nil
 | .fin p::r,j,h=>.cons (.old (El (.fin p))) (pC r j h)
 | .Γ k ds::r,j,h=>.cons (.tup (.cons (.old trivial) (.cons (.Aa (abw _ _) (by rw[abD];exact h 0 _ rfl) (fY.old (hI ds))) .nil))) (pC r (j+1) λi m e=>by rw[show j+1+i=j+(i+1) by omega];exact h (i+1) m e)
def HV(γ:List Rw)(M:Ms)(x:MO):fY M.length (lJ γ++[x]) (oi M.length γ) (γ.map ao):=
 pC γ 0 λi m e=>by rw[ab1,aaA (aai.mp e).1];exact e
def ER(M:Ms):∀rs:List Rw,Paired (jy M) (rs.map ao) rs
 | []=>.nil
 | r::rs=>.cons (yk _ r) (ER M rs)
def jE(p:Pl)(i:Nat)(r:Rw):Rw:=match Υ p i,r with
 | some j,.Γ k ds=>.Γ k [ds.getD j.toNat d0]
 | _,r=>r
def jA(p:Pl):Nat->List Rw->List Rw
 | _,[]=>[]
 | n,r::rs=>jE p n r::jA p (n+1) rs
def kK(p:Pl):∀(rs:List Rw) (n:Nat),(jA p n rs).length=rs.length
 | [],_=>rfl
 | _::rs,n=>aaZ Nat.succ (kK p rs (n+1))
def qX(p:Pl):∀(rs:List Rw) (n i:Nat),(jA p n rs)[i]? =(rs[i]?).map (jE p (n+i))
 | [],_,_=>rfl
 | r::rs,n,0=>rfl
 | r::rs,n,i+1=>by show(jA p (n+1) rs)[i]? =(rs[i]?).map (jE p (n+(i+1)));rw[qX p rs (n+1) i,show n+1+i=n+(i+1) by omega]
def vy{te:DE}{ρ0:En}{ok:Ms->Prop}{M:Ms}{p:Pl}{k:List Dt->Ms->Prop}(ho:ok M):∀(rs:List Rw) (n:Nat) (acc:List Dt),(∀j r,rs[j]? =some r->∀q:DQ,q (ao (jE p (n+j) r)) M->g2 0 1 (.tup [.int ((n+j:Nat):Int),ao r]) ρ0 λρ'=>te ρ' M q iL)->k (acc++(jA p n rs).map ao) M->vf (g2 0 1) te ρ0 ok (g6 n (rs.map ao)) acc M k
 | [],n,acc,ht,h=>⟨ho,by simpa [jA] using h⟩
 | r::rs,n,acc,ht,h=>⟨ho,ht 0 r rfl _ (vy ho rs (n+1) _ (λj r' hj q hq=>by
   have:=ht (j+1) r' hj q (by rw[show n+(j+1)=n+1+j by omega];exact hq)
   rwa[show n+(j+1)=n+1+j by omega]at this) (by simpa [jA] using h))⟩
def MM(M:Ms)(g:Dt)(gs:List Nat):Prop:=g= .lst (gs.map cf)\/∃k,g= .loc k/\M[k]? =some (.lst (gs.map cf))
def MM.app{E:Ms}{g:Dt}(h:MM M g gs):MM (M++E) g gs:=by
 rcases h with h| ⟨k,e,h⟩
 ·exact .inl h
 ·exact .inr ⟨k,e,bu h⟩
def MM.it{g:Dt}(h:MM M g gs):∃ok,gu M g=some (gs.map cf,ok)/\ok M/\fG M g=some (gs.map cf):=by
 rcases h with rfl| ⟨k,rfl,h⟩
 ·exact⟨λ_=>True,rfl,trivial,rfl⟩
 ·have e:iz M (.loc k)=some (gs.map cf,λM':Ms=>M'[k]? =some (MO.lst (gs.map cf))):=by show(match M[k]? with| some (MO.lst xs)=>some (xs,λM':Ms=>M'[k]? =some (MO.lst xs))| _=>none)=_;rw[h]
  exact⟨_,nO e,h,Cr h⟩
section
def JN(fr:FR ε γ)(fp:Ω (fk γ "one") p){ds:List bG}(hi:γ[i]? =some (.Γ "one" ds)):∃(j:Nat) (jl:j < ds.length),Υ p i=some (j:Int)/\jE p i (.Γ "one" ds)= .Γ "one" [ds[j]]:=by have⟨j,gj,jl⟩:=(a_ (i:=i) fr aD fp).1 ds hi;refine⟨j,jl,gj,?_⟩;unfold jE;rw[gj];show Rw.Γ "one" [ds.getD ((j:Int)).toNat d0]=_;rw[aaY,aad,aac jl];rfl
def Al(fr:FR ε γ)(fp:Ω (fk γ "one") p){r:Rw}(hi:γ[i]? =some r)(hk:kindOf r≠"one"):jE p i r=r:=by unfold jE;rw[(a_ (i:=i) fr aD fp).2 r hi hk]
def HW(fr:FR ε γ)(fp:Ω (fk γ "one") p):IA (jA p 0 γ):=by
 refine⟨by rw[kK];exact fr.pl.len,λr hr=>?_⟩;rw[kK];have⟨i,hi,rfl⟩:=abf hr;have e:=aac hi;rw[qX]at e;have⟨r0,YE,er⟩:=abm.mp e;rw[ab1]at er;rw[<-er];have rm:=aar YE;by_cases hk:kindOf r0="one"
 ·cases r0 with
  | fin q=>exact aaK hk (by show¬(Str.ofString "end"=Str.ofString "one");decide)
  | Γ k ds=>
   have hk:k="one":=hk;subst hk;have⟨j,jl,_,eh⟩:=JN fr fp YE;rw[eh];have dm:=aaw jl;have⟨ro,rf⟩:=fr.pl.row _ rm;have fd:=(pE fr.Sx rm).1;unfold Ξ at fd;rw[aam,aam]at fd;refine⟨⟨@_,(by show 1<=12;decide),λz=>aaK z @_,λd hd=>by rw[abl.mp hd];exact ro.2.2.2 _ dm⟩,?_⟩;show(if aa (Str.ofString "one") then Ξ [ds[j]] γ.length else if (Str.ofString "one")="chance" then Ξ [ds[j]] γ.length&&Ψ ([ds[j]].map τ) else false)=true;rw[aay aD];unfold Ξ;rw[aam,aam];refine⟨⟨rfl,rfl⟩,?_⟩;rw[abO,List.all_nil,Bool.and_true];exact aa5.mp fd.2 _ dm
 ·rw[Al fr fp YE hk];exact fr.pl.row _ rm
def Dp(fr:FR ε γ)(fp:Ω (fk γ "one") p)(go:dY γ gs):dY (jA p 0 γ) gs:=by refine⟨go.up,λg hg=>?_⟩;have⟨q,hq⟩:=go.fin g hg;refine⟨q,?_⟩;rw[qX,hq,ab1];show some (jE p g (.fin q))=_;rw[Al fr fp hq (by show¬(Str.ofString "end"=Str.ofString "one");decide)]
end
def OV:DF:=λas M q _=>∃(r:Rw) (i k:Nat) (p:Pl),as=[ao r,.int (i:Nat),.loc k]/\M[k]? =some (dP p)/\(∀v,Υ p i=some v->∃kd ds,r= .Γ kd ds/\0<=v/\v < ds.length)/\q (ao (jE p i r)) M
def GK:Ε ["row","place","plan"] ["row","place","plan"] (ν qO):=.of rfl
def BB(F:cQ K "held_row" "held_row" qO f fd)(E:Ev K mg Cm CN CF Ca Cj Cd Ce Cg Ci Cb Cc Ck):ah P w K mg base (bM P w) 1 f fd ["row","place","plan"] (cZ K OV):=by
 refine F.eB GK (λds M q x h=>?_) (λaY A outer s H E' hr=>⟨_,(ζ (aw (Rk hr (jv 1) (jv 2)) (θ (Β (bQ (μ (Τ (jv 0) χ) (μ (iI (μ (Τ (Τ (jv 0) χ) (LF hr (jv 2) (jv 1))) η cE)) η) cE)))) Η)
   (θ (Β (jv 0)))),λds M q x h=>?_⟩)
 ·have⟨r,i,k,p,rfl,_⟩:=h;rfl
 ·have⟨r,i,k,p,rfl,hk,hv,h⟩:=h;refine⟨k,_,_,Sum.inl (i:Int),rfl,hk,rfl,?_⟩;rw[M8];cases hg:Υ p i with
  | none=>
   unfold jE at h;rw[hg]at h;exact⟨nofun,λ_=>h⟩
  | some v=>
   have⟨kd,ds,rfl,v0,v1⟩:=hv v hg;have dg:eP (kP p) (vP p) (Sum.inl (i:Int))=some (.int v):=by rw[E5,hg];rfl
   obtain⟨j,rfl⟩:∃j:Nat,v=(j:Int):=⟨v.toNat,()⟩;have jl:j < ds.length:=()
   have gd:ds.getD j d0=ds[j]:=by rw[aad,aac jl];rfl
   unfold jE at h;rw[hg]at h;have h:q (ao (.Γ kd [ds.getD ((j:Int)).toNat d0])) M:=h;rw[aaY,gd]at h;refine⟨λ_=>?_,nofun⟩;walk_at "vc";refine(Ζ (d:=.tup [.str kd,.lst (ds.map eY)]) (xs:=[.str kd,.lst (ds.map eY)]) rfl bJ ?_:fo (.tup [.str kd,.lst (ds.map eY)]) (.int 0) M _);refine(Th ?_:fo (.tup [.str kd,.lst (ds.map eY)]) (.int 1) M _);refine⟨k,_,_,Sum.inl (i:Int),_,rfl,hk,rfl,dg,?_⟩;refine(Ζ (d:=.lst (ds.map eY)) (xs:=ds.map eY) rfl (ag (j:=j) (by rw[aap,aac jl];rfl)) ?_:fo (.lst (ds.map eY)) (.int (j:Int)) M _);exact⟨by show 1<=sizeLine;decide,D2,h⟩
def JL(A:Addr):DF:=λas M q _=>∃(ε:Fr) (γ:List Rw) (kp:Nat) (p:Pl) (g:Dt) (gs:List Nat),as=[Ο A ε γ,.loc kp,g]/\M[kp]? =some (dP p)/\Ω (fk γ "one") p/\FR ε γ/\MM M g gs/\dY γ gs/\∀(S2:Sp) (m:MO),aL (jA p 0 γ) gs S2->q (.loc M.length) (M++[.lst (S2.map eX),m])
def pK:Ε ["floor","plan","goals","rows"] ["floor","plan","goals"] (ν tQ):=.of rfl
def Bq(F:cQ K "steps_by" "steps_by" tQ f fd)(E:Ev K mg Cm CN CF Ca Cj Cd Ce Cg Ci Cb Cc Ck){Bo:Addr}{B3:FuncData}(kx:fv P w K mg base 2 Cm "rows" ["self"] (OZ Cm) Bo B3){J0:Addr}{Jh:FuncData}(oS:aB P w K mg base 1 "held_row" ["row","place","plan"] OV J0 Jh)(i4:aB P w K mg base 5 "draw" ["floor","goals"] (EV Cm Cj) yS AD){mw:Addr}{lY:FuncData}(dJ:N0 P w K mg base 5 "Floor" Cm ["self","share","rows"] (JB Cm) mw lY){zX:Addr}{yP:FuncData}(iZ:fv P w K mg base 1 Cm "share" ["self"] (IB Cm) zX yP):ah P w K mg base (bM P w) 7 f fd ["floor","plan","goals"] (cZ K (JL Cm)):=by
 refine F.eB pK (λds M q x h=>?_) (λaY A outer s H E' hr=>⟨_,(ζ (zG (i:=3) pK.nd rfl (Or.inl rfl) (ys:=["plan"]) (Μ:=[1]) (.of pK rfl rfl rfl) (oq E.bT (μ (cz (g_ kx hr ο (jv 0))) η cw)) (λC s H fp=>(ar oS hr (cL (P:=P) (w:=w)) (Θ (jv 1) (Θ (jv 0) (Θ (jv 2) η))))))
   (θ (Β (Τ (ar i4 hr ο (μ (cz (Iw dJ hr ο (μ (g_ iZ hr ο (jv 0)) (Θ (jv 3) η) cw))) (Θ (jv 2) η) cw)) χ)))),λds M q x h=>?_⟩)
 ·have⟨ε,γ,kp,p,g,gs,rfl,_⟩:=h;rfl
 ·have⟨ε,γ,kp,p,g,gs,rfl,hp,fp,fr,ga,go,h⟩:=h;have⟨ok,g1,VM,g3⟩:=ga.it;have fl:=HW fr fp;have hg:=Dp fr fp go;have sl:∀{z:Nat},z<=1000->z<=sizeLine:=λh=>aax h @_;have tW:=fr.pl.len;refine⟨⟨_,_,.inl rfl,rfl⟩,ε,γ,rfl,tW,λr hr=>(fr.pl.row r hr).1,?_⟩;rw[aaJ];refine hU (d':=.lst (γ.map ao)) (.Aa (Nat.le_add_right _ _) (by simp) (HV γ M _)) ?_;walk_at "vc";refine⟨.lst (γ.map ao),γ.map ao,λ_=>True,rfl,rfl,?_⟩;refine⟨by rw[fN,aah];exact sl (),?_⟩;refine vy (p:=p) trivial γ 0 [] (λj r hj qq hq=>?_) ?_
  ·rw[ab1]at hq⊢;dsimp only[g2];walk_at "vc";refine⟨r,j,kp,p,rfl,hp,λv hv=>?_,hq⟩;cases r with
   | fin e=>rw[(a_ (i:=j) fr aD fp).2 _ hj (by show¬(Str.ofString "end"=Str.ofString "one");decide)]at hv;cases hv
   | Γ kd ds=>
    by_cases hk:kd="one"
    ·subst hk;have⟨x,gx,xl⟩:=(a_ (i:=j) fr aD fp).1 ds hj;rw[gx]at hv;cases hv;exact⟨_,ds,rfl,(),()⟩
    ·rw[(a_ (i:=j) fr aD fp).2 _ hj hk]at hv;cases hv
  rw[aaS];generalize hh:jA p 0 γ=ni at *
  have hl:ni.length=γ.length:=by rw[<-hh,kK]
  refine⟨⟨_,_,.inl rfl,rfl⟩,ε,γ,rfl,?_⟩;refine⟨M.length,.lst (ni.map ao),ε,ni.map ao,ni,λ_=>True,rfl,by simp,rfl,ER _ _,fr.pl.sh,by rw[hl];exact fr.n1,fl.len,fl.row,rfl,?_⟩;rw[show(M++[MO.ins Cm [] []]).set M.length (.ins Cm ["kept_share","kept_rows"] [az ε,.lst (ni.map ao)])=M++[.ins Cm ["kept_share","kept_rows"] [az ε,.lst (ni.map ao)]] by simp[List.set_append]];refine hU (d':=Ο Cm ε ni) (.UY (Nat.le_refl _) (by simp) (.cons (.old (pq ε)) (.cons (.old (kH ni)) .nil))) ?_;refine .inl ⟨ε,ni,g,gs,ok,rfl,g1,VM,g3,hg,fl,λS2 d2=>?_⟩;exact Ζ (xs:=[.loc (M.length+1),.loc M.length]) rfl (ag (j:=1) rfl) (h S2 _ d2)
section
def A3(o:Option Nat):∀(ds:List bG) (n:Nat),(tV S o ds n=0/\∀d∈ds,gR S o d=false)\/∃(j:Nat) (jl:j < ds.length),tV S o ds n=n+j/\gR S o ds[j]=true
 | [],_=>.inl ⟨rfl,λ_ h=>nomatch h⟩
 | d::ds,n=>by
  by_cases c:gR S o d=true
  ·refine .inr ⟨0,by simp,?_,c⟩;show(if gR S o d=true then n else tV S o ds (n+1))=_;rw[aay c];rfl
  ·have e:tV S o (d::ds) n=tV S o ds (n+1):=aaF c;rw[e];rcases A3 o ds (n+1) with ⟨a,b⟩| ⟨j,jl,a,b⟩
   ·refine .inl ⟨a,λx hx=>?_⟩;rcases aaG.mp hx with y| y
    ·rw[y];simpa using c
    ·exact b x y
   ·exact .inr ⟨j+1,by simpa using jl,by rw[a];omega,b⟩
def Ga{l:List Nat}{f:Nat->Int}(h:i∈l):Υ (l.map λi:Nat=>((i:Int),f i)) (i:Int)=some (f i):=by
 induction l with
 | nil=>cases h
 | cons a l ih=>
  rw[aa0];unfold Υ;by_cases e:a=i
  ·rw[aay (by show(a:Int)=i;omega)];show some (f a)=_;rw[e]
  ·rw[aaF (by show¬(a:Int)=i;omega)];exact ih ((aaG.mp h).resolve_left λz=>e z.symm)
def sI(fr:FR ε γ):Ω (fk γ "one") (l_ γ S):=by
 have key:∀{l:List Nat},(∀i∈l,tV S (at_ S i) (aq (fq γ i)) 0 < (aq (fq γ i)).length)->Ω (l.map λi:Nat=>((i:Int),(aq (fq γ i)).length)) (l.map λi:Nat=>((i:Int),((tV S (at_ S i) (aq (fq γ i)) 0:Nat):Int))):=λ{l}=>by
  induction l with
  | nil=>exactλ_=>trivial
  | cons a l ih=>exactλh=>⟨rfl,(),by have:=h a aaf;omega,ih λi hi=>h i (aae _ hi)⟩
 refine key λi hi=>?_;have⟨ds,_,e,l⟩:=iQ fr aD hi;rw[e];rcases A3 (S:=S) (at_ S i) ds 0 with ⟨a,_⟩| ⟨j,jl,a,_⟩
 ·rw[a];exact l
 ·rw[a];omega
def uU(dr:aL γ gs S){k:Str}{ds:List bG}(hi:γ[i]? =some (.Γ k ds)){s:Nat}(e:at_ S i=some (s+1)):(k="other"->∀d∈ds,∃t,at_ S d.1.toNat=some t/\t<=s)/\∃d∈ds,at_ S d.1.toNat=some s:=by
 have:=dr.2 i _ hi;have this:uD k (aZ S ds) (at_ S i):=this;unfold uD at this;rw[e]at this;by_cases hk:k="other"
 ·rw[aay hk]at this;rcases this with ⟨z,_⟩| ⟨v,ev,h1,h2⟩
  ·cases z
  ·cases ev;have⟨d,hd,ed⟩:=ak.mp h1;exact⟨λ_ d hd=>h2 _ (ak.mpr ⟨d,hd,rfl⟩),d,hd,ed⟩
 ·rw[aaF hk]at this;rcases this with ⟨z,_⟩| ⟨v,ev,h1,h2⟩
  ·cases z
  ·cases ev;have⟨d,hd,ed⟩:=ak.mp h1;exact⟨λz=>aaK z hk,d,hd,ed⟩
def Ln(fr:FR ε γ)(dr:aL γ gs S)(fp:Ω (fk γ "one") p)(hd:∀(i:Nat) (ds:List bG) (s:Nat),γ[i]? =some (.Γ "one" ds)->at_ S i=some (s+1)->∃(j:Nat) (jl:j < ds.length) (t:Nat),Υ p i=some (j:Int)/\at_ S ds[j].1.toNat=some t/\t<=s):AY γ S p:=λa fa C hC i il WH=>by
 have main:∀(s i:Nat),i < γ.length->C i->at_ S i=some s->False:=λs=>by
  induction s using Nat.strongRecOn with
  | _ s ih=>
   intro i il ci e;have⟨st,cl⟩:=hC i il ci;have⟨s',e'⟩:=id st;rw[e]at e';have es:s=s'+1:=aav e';subst es;have⟨k,ds,hi⟩:=o_ dr il st;have dr':=gr fr.pl (aar hi);have go:∀d∈fL γ S (aF p a) i,∀t,at_ S d.1.toNat=some t->t<=s'->False:=λd hd t et lt=>by have:=(pd (acc:=aF p a) fr (kF fr fp fa) dr il st).2.2;have⟨B,_,_,hw⟩:=this;have:=(hw d hd).to;exact ih t () d.1.toNat () (cl d hd) et
   have⟨n1,d1,Zn,YS⟩:=uU dr hi e;rcases wB fr hi with rfl| rfl| rfl
   ·have⟨j,jl,t,gj,et,lt⟩:=hd i ds s' hi e;refine go (ds[j].1,ds[j].2.1,[(1,1)]) ?_ t et lt;rw[mT st,cN hi,j2 fr hi aD (by rw[fD fr fa hi];exact gj) jl];exact abl.mpr rfl
   ·have⟨j,gj,jl⟩:=(a_ (i:=i) fr aP fa).1 ds hi;have⟨t,et,lt⟩:=n1 rfl _ (aaw jl);refine go (ds[j].1,ds[j].2.1,[(1,1)]) ?_ t et lt;rw[mT st,cN hi,j2 fr hi aP (by rw[i7 fr fa hi];exact gj) jl];exact abl.mpr rfl
   ·refine go d1 ?_ s' YS (aao _);rw[mT st,cN hi];unfold fj;rw[i_ fr fp fa hi];exact Zn
 have⟨⟨s,e⟩,_⟩:=hC i il WH;exact main _ i il WH e
def Ju(fr:FR ε γ)(dr:aL γ gs S):AY γ S (l_ γ S):=by
 refine Ln fr dr (sI fr) λi ds s hi e=>?_;have il:=(aai.mp hi).1;have hm:i∈fE γ "one":=nj.mpr ⟨il,nP hi⟩;have g:Υ (l_ γ S) (i:Int)=some ((tV S (at_ S i) (aq (fq γ i)) 0:Nat):Int):=Ga (f:=λi=>((tV S (at_ S i) (aq (fq γ i)) 0:Nat):Int)) hm;rw[cN hi]at g;have g:Υ (l_ γ S) (i:Int)=some ((tV S (at_ S i) ds 0:Nat):Int):=g;have⟨_,d1,Zn,YS⟩:=uU dr hi e;rcases A3 (S:=S) (at_ S i) ds 0 with ⟨_,b⟩| ⟨j,jl,ej,b⟩
 ·have:=b d1 Zn;unfold gR at this;rw[YS,e]at this;exact aaK (aaR this) ()
 ·rw[ej,ab1]at g;unfold gR at b;rw[e]at b;cases et:at_ S ds[j].1.toNat with
  | none=>rw[et]at b;cases b
  | some t=>
   rw[et]at b;have:=aaC b;exact⟨j,jl,t,g,et,()⟩
def Yi(γ:List Rw)(S:Sp):Pl->Rat->Prop:=λp u=>∃a tb,AY γ S p/\qi γ S p a tb/\u=nF γ tb p
structure V7(γ:List Rw)(gs:List Nat)(S S2:Sp)(p a:Pl)(tb:List Fr):Prop where
 dr:aL γ gs S
 fp:Ω (fk γ "one") p
 pr:AY γ S p
 kp:qi γ S p a tb
 np:Α γ tb p=[]
 na:Α γ tb a=[]
 d2:aL (jA p 0 γ) gs S2
end
def N2{q:DQ}{xs:List Nat}(h:q (.tup [.lst (xs.map cf),.lst (S.map eX)]) M):tK M q (.tup [.loc (M.length+1),.loc M.length]) (M++[.lst (S.map eX),.lst (xs.map cf)]):=by
 have u1:∀(S:Sp),Dt.bq M.length (S.map eX):=λS=>by
  induction S with
  | nil=>trivial
  | cons o S ih=>cases o with| none=>exact⟨trivial,ih⟩| some v=>exact⟨trivial,ih⟩
 have u2:∀(xs:List Nat),Dt.bq M.length (xs.map cf):=λxs=>by
  induction xs with
  | nil=>trivial
  | cons o S ih=>exact⟨trivial,ih⟩
 exact hU (d':=.tup [.lst (xs.map cf),.lst (S.map eX)]) (.tup (.cons (.Aa (Nat.le_succ _) (by rw[abD];rfl) (fY.old (u2 xs))) (.cons (.Aa (aao _) (by rw[abU];rfl) (fY.old (u1 S))) .nil))) h
def yQ(A CG:Addr):DF:=λas M q x=>(∃(ε:Fr) (γ:List Rw) (g:Dt) (gs:List Nat),as=[Ο A ε γ,g]/\FR ε γ/\MM M g gs/\dY γ gs/\∀(S S2:Sp) (p a:Pl) (tb:List Fr) (E':Ms) (kt ka ks:Nat),V7 γ gs S S2 p a tb->M.length < ka->ka < kt->kt < ks->(M++[dP p]++E')[ka]? =some (dP a)->(M++[dP p]++E')[kt]? =some (.lst (tb.map az))->(M++[dP p]++E')[ks]? =some (.lst (S2.map eX))->q (.tup [.loc kt,.loc M.length,.loc ka,.loc ks]) (M++[dP p]++E'))\/EZ A CG as M q x
def iH:Ε ["floor","goals","steps","plan","found","better"] ["floor","goals"] (ν tG):=.of rfl
def Bb(F:cQ K "chances" "chances" tG f fd)(E:Ev K mg Cm CN CF Ca Cj Cd Ce Cg Ci Cb Cc Ck)(i4:aB P w K mg base 5 "draw" ["floor","goals"] (EV Cm Cj) yS AD){Cs:Addr}{Di:FuncData}(jM:aB P w K mg base 4 "drawn_plan" ["floor","steps"] (qP Cm) Cs Di){C6:Addr}{A9:FuncData}(jP:aB P w K mg base 8 "kept_least" ["floor","plan","steps"] (OK Cm) C6 A9){lS:Addr}{mU:FuncData}(dH:aB P w K mg base 3 "better_led" ["floor","plan","table"] (LO Cm) lS mU){Lu:Addr}{Lj:FuncData}(pA:aB P w K mg base 7 "steps_by" ["floor","plan","goals"] (JL Cm) Lu Lj):ah P w K mg base (bM P w) 9 f fd ["floor","goals"] (cZ K (yQ Cm Cj)):=by
 refine F.eB iH (λds M q x h=>?_) (λaY A outer s H E' hr=>⟨_,(ζ (Δ 2 iH.nd (Τ (cz (ar i4 hr ο (Θ (jv 0) (Θ (jv 1) η)))) χ))
   (ζ (Δ 3 iH.nd (ar jM hr ο (Θ (jv 0) (Θ (jv 2) η))))
   (θ (nI (ba AZ) (ζ (Δ 4 iH.nd (ar jP hr ο (Θ (jv 0) (Θ (jv 3) (Θ (jv 2) η)))))
   (ζ (Δ 5 iH.nd (ar dH hr ο (Θ (jv 0) (Θ (jv 3) (μ (Τ (jv 4) χ) η cE)))))
   (ζ (aw (eI hr (LK E.bS (Θ (jv 5) η)) χ) (θ (Β (bQ (μ (Τ (jv 4) χ) (Θ (jv 3) (μ (Τ (jv 4) χ) (μ (ar pA hr ο (Θ (jv 0) (Θ (jv 3) (Θ (jv 1) η)))) η cw) cE)) cE)))) Η)
   (θ (dX (CH (jv 3) (jv 5))))))))))),λds M q x h=>?_⟩)
 ·rcases h with ⟨ε,γ,g,gs,rfl,_⟩| ⟨ε,γ,g,gs,ok,b,rfl,_⟩ <;> rfl
 ·rcases h with h| h
  rotate_left
  ·have⟨ε,γ,g,gs,ok,b,rfl,r⟩:=h;exact .inr ⟨ε,γ,g,gs,ok,b,rfl,r⟩
  have⟨ε,γ,g,gs,rfl,fr,ga,go,h⟩:=h;have tW:=fr.pl.len;have⟨ok,g1,VM,g3⟩:=ga.it;refine .inl ⟨ε,γ,g,gs,ok,rfl,g1,VM,g3,go,fr.Sx,λS dr=>N2 ?_⟩;walk_at "vc";refine(Ζ (d:=.tup [.lst ((jB S).map cf),.lst (S.map eX)]) (xs:=[.lst ((jB S).map cf),.lst (S.map eX)]) rfl (ag (j:=1) rfl) ?_:fo (.tup [.lst ((jB S).map cf),.lst (S.map eX)]) (.int 1) _ _);refine⟨ε,γ,.lst (S.map eX),S,gs,rfl,λ_=>rfl,dr,fr,?_⟩;have f0:=sI (S:=S) fr;have pr0:=Ju fr dr;generalize l_ γ S=p0 at *
  refine⟨λm ρ' M'=>∃(p:Pl) (E1:Ms) (o:Option Rat) (o4 o5:Option Dt),Ω (fk γ "one") p/\AY γ S p/\m=U' (MZ (fk γ "one")) (Yi γ S) o/\(∀t,o=some t->∀a tb,qi γ S p a tb->t < nF γ tb p)/\M'=M++[dP p]++E1/\ρ'=[some (Ο Cm ε γ),some g,some (.lst (S.map eX)),some (.loc M.length),o4,o5],⟨_,p0,[],none,none,none,f0,pr0,rfl,λ_ z=>(nomatch z),by rw[aaW],rfl⟩,λm ρ' M' hw=>?_⟩;have⟨p,E1,o,o4,o5,fp,pr,rfl,ho,rfl,rfl⟩:=hw;have R3:∀(p:Pl) (E:Ms),(M++[dP p]++E)[M.length]? =some (dP p):=λa E=>bu aQ;have Li:=tE fp tW;walk_at "vc";refine⟨λ_=>⟨_,λρ2 M2 hn=>hn,?_⟩,nofun⟩;refine⟨ε,γ,M.length,p,S,gs,rfl,R3 p E1,fr,dr,fp,pr,λa tb E2 kt kp na Wg Fb=>?_⟩;have tok:=kp.ch.tok fr dr fp kp.fa pr;obtain⟨ka,JC⟩:∃ka,ka=(M++[dP p]++E1).length:=⟨_,rfl⟩;have ka1:M.length < ka:=by rw[JC,aan,aan];show M.length < M.length+1+E1.length;omega
  have TL:(M++[dP p]++E1++[dP a]++E2)[ka]? =some (dP a):=by rw[JC];exact bu aQ
  rw[<-JC]at Wg⊢;have e1:M++[dP p]++E1++[dP a]++E2=M++[dP p]++(E1++[dP a]++E2):=by simp
  rw[e1]at Fb TL⊢;generalize E1++[dP a]++E2=E3 at *
  refine(Ζ (d:=.tup [.loc ka,.loc kt]) (xs:=[.loc ka,.loc kt]) rfl (ag (j:=1) rfl) ?_:fo (.tup [.loc ka,.loc kt]) (.int 1) _ _);refine⟨ε,γ,tb,M.length,kt,p,rfl,R3 p E3,Fb,tok,fr.Sx,gS fp,Li,Ee fr aD fp,?_⟩;have ZK:(Α γ tb p).length<=12:=aax (qW p) Li;have VQ:(M++[dP p]++E3++[dP (Α γ tb p)])[(M++[dP p]++E3).length]? =some (dP (Α γ tb p)):=aQ;have kl:(kP (Α γ tb p)).length=(Α γ tb p).length:=by unfold kP;rw[List.length_map]
  refine⟨_,_,_,rfl,VQ,?_⟩;rw[kl];show(decide (((Α γ tb p).length:Int)=0)=true->_)/\(decide (((Α γ tb p).length:Int)=0)=false->_);refine⟨λz=>?_,λz=>?_⟩
  ·have e:Α γ tb p=[]:=List.length_eq_zero_iff.mp (by have:=aaC z;omega);rw[aaJ (M++[dP p]) E3];generalize hE4:E3++[dP (Α γ tb p)]=E4;have Ua:(M++[dP p]++E4)[kt]? =some (.lst (tb.map az)):=by rw[<-hE4,<-aaJ];exact bu Fb
   have Xr:(M++[dP p]++E4)[ka]? =some (dP a):=by rw[<-hE4,<-aaJ];exact bu TL
   refine(Ζ (d:=.tup [.loc ka,.loc kt]) (xs:=[.loc ka,.loc kt]) rfl (ag (j:=1) rfl) ?_:fo (.tup [.loc ka,.loc kt]) (.int 1) _ _);refine(Ζ (d:=.tup [.loc ka,.loc kt]) (xs:=[.loc ka,.loc kt]) rfl bJ ?_:fo (.tup [.loc ka,.loc kt]) (.int 0) _ _);refine⟨ε,γ,M.length,p,g,gs,rfl,R3 p E4,fp,fr,MM.app (MM.app ga),go,λS2 m2 d2=>?_⟩;refine⟨by show 4<=sizeLine;decide,?_⟩;have W0:=(aai.mp Ua).1;have es:(M++[dP p]++E4++[MO.lst (S2.map eX),m2])[(M++[dP p]++E4).length]? =some (.lst (S2.map eX)):=by rw[aaB (aao _),abU];rfl
   rw[aaJ (M++[dP p]) E4]at es⊢;exact h S S2 p a tb _ kt ka _ ⟨dr,fp,pr,kp,e,na,d2⟩ ka1 Wg W0 (by rw[<-aaJ];exact bu Xr) (by rw[<-aaJ];exact bu Ua) es
  ·have ne:Α γ tb p≠[]:=λy=>by rw[y]at z;exact aaK z @_
   have⟨im,_⟩:=tJ (tb:=tb) fr aD fp kp.ch.tab.red;have Oj:=AY.better fr dr fp kp.fa pr kp.ch kp.le im;have ml:M.length < (M++[dP p]++E3).length:=by rw[aan,aan];show M.length < M.length+1+E3.length;omega
   dsimp only[AG,Es];walk_at "vc";refine⟨⟨M.length,_,_,rfl,bu (R3 p E3)⟩,M.length,_,_,_,_,_,rfl,rfl,(),bu (R3 p E3),VQ,by rw[kl];unfold kP;rw[List.length_map];omega,?_⟩;rw[E_,EE];have se:(M++[dP p]++E3++[dP (Α γ tb p)]).set M.length (dP (aF p (Α γ tb p)))=M++[dP (aF p (Α γ tb p))]++(E3++[dP (Α γ tb p)]):=by rw[aaJ (M++[dP p]),aaJ,aaJ,List.set_append_right (h:=aao _),abU];rfl
   rw[se];refine⟨_,?_,aF p (Α γ tb p),_,some (nF γ tb p),_,_,im.fit,Oj,rfl,λt et a' tb' X1=>?_,rfl,rfl⟩
   ·exact IT (r9 fp) ⟨a,tb,pr,kp,rfl⟩ (λu' ⟨a',tb',_,X1,e⟩=>by rw[e,X1.uniq fr dr fp pr kp]) λt et=>ho t et a tb kp
   ·cases et;exact LL fr dr fp kp ne Oj X1
def Xn(ns:List Int)(k:Int):Int:=ns.getD k.toNat 0
def Q_{ns:List Int}{k:Int}(h0:0<=k)(h2:k < ns.length):ki (ns.map Dt.int) k=some (.int (Xn ns k)):=by
 have e:(ns.map Dt.int)[k.toNat]? =some (.int (Xn ns k)):=by rw[aap,aac (show k.toNat < ns.length by omega)];unfold Xn;rw[aad,aac (show k.toNat < ns.length by omega)];rfl
 have:=ag e;rwa[show((k.toNat:Nat):Int)=k by omega]at this
def p18:CM 10 18:=⟨@_,@_,@_⟩
def WT:CM 10 64:=⟨@_,@_,@_⟩
def p30:CM 10 30:=⟨@_,@_,@_⟩
def Nm(n:Int):Prop:=0<=n/\n < 10 ^ 128
def Le{a m:Int}(h0:0 < m)(h1:m<=10 ^ 128):Nm (a % m):=⟨ab3 _ (),Int.lt_of_lt_of_le (ach _ h0) h1⟩
def QM{a m:Int}(h:Nm a)(h0:0 < m):Nm (a / m):=⟨Int.ediv_nonneg h.1 (),abj (Int.ediv_le_self _ h.1) h.2⟩
def P6(x:Int)(h0:0<=x)(h1:x < 2147483647):jL x/\jL (x % 65521+30011):=⟨bg (k:=40) (),bg (k:=40) ()⟩
def QR{k:Int}(h0:0<=k)(h1:k<=200):jL ((k+1) * (k+1)):=by have a:=Int.mul_le_mul (show k+1<=201 by omega) (show k+1<=201 by omega) (show 0<=k+1 by omega) (show(0:Int)<=201 by decide);have b:0<=(k+1) * (k+1):=abE () ();exact bg (k:=40) ()
def Np:DF:=λas M q _=>∃(ns:List Int) (k:Int),as=[.ji ns,.int k]/\0<=k/\k<=200/\∀n,Nm n->q (.int n) M
def kq:Ε ["_law_script","_law_k","_law_cell","_law_number_here"] ["_law_script","_law_k"] (ν mz):=.of rfl
def yi(F:cQ K "_law_number" "_law_number" mz f fd)(E:Ev K mg Cm CN CF Ca Cj Cd Ce Cg Ci Cb Cc Ck):ah P w K mg base (bM P w) 1 f fd ["_law_script","_law_k"] (cZ K Np):=by
 refine F.eB kq (λds M q x h=>?_) (λaY A outer s H E' hr=>⟨_,(ζ (sT (Δ 2 kq.nd (JV (sf (jv 1) (dc E.bS (Θ (jv 0) η))) (Τ (jv 0) (jv 1)) χ)))
   (ζ (aw (JW.jt (gY (sf (jv 2) χ) (h8 (Ox (jv 2) (y8 χ χ))))) (θ (Β (dU (jv 2) (y8 χ χ)))) Η)
   (ζ (Δ 3 kq.nd (dU (eJ (eA (jv 2) χ) (eA (eA (eJ (jv 1) χ) (eJ (jv 1) χ)) χ)) χ))
   (θ (Β (dU (eJ (eA (jv 3) (eJ (dU (jv 3) χ) χ)) (eA (eJ (jv 1) χ) χ)) χ)))))),λds M q x h=>?_⟩)
 ·have⟨ns,k,rfl,_⟩:=h;rfl
 ·have⟨ns,k,rfl,hk,k2,h⟩:=h;have bk:=QR hk k2;have b1:jL (k+1):=bg (k:=40) ();have b3:jL (k+3):=bg (k:=40) ();have cc:∀n:Int,n.natAbs < 2 ^ 20->jL n:=λn hn=>bg hn;refine⟨λρ M'=>M'=M/\∃c:Int,ρ=[some (.ji ns),some (.int k),some (.int c),none],?_,?_⟩
  ·walk_at "vc";refine(aJ (d:=.ji ns) (xs:=ns.map .int) rfl ?_:gK [.ji ns] M _);rw[aah];refine⟨λh1=>?_,λh1=>⟨rfl,0,rfl⟩⟩;refine(Ζ (d:=.ji ns) rfl (Q_ hk (aaC h1)) ?_:fo (.ji ns) (.int k) M _);exact⟨rfl,_,rfl⟩
  rintro ρ' M' ⟨rfl,c,rfl⟩;have far:∀(p:CM 10 64),0 < (10:Int) ^ 64/\q (.int (c % 10 ^ 64)) M':=λ_=>⟨@_,h _ (Le @_ @_)⟩;walk_at "vc";refine⟨λz=>⟨λ_=>⟨WT,far WT⟩,nofun⟩,λz=>?_⟩;refine⟨p18,λz2=>⟨WT,far WT⟩,λz2=>?_⟩;have c0:¬c < 0:=aaR z;have c1:¬c ≥ 10 ^ 18:=aaR z2;refine⟨⟨bg (k:=64) (),cc _ @_⟩,⟨b1,b1⟩,⟨bk,cc _ @_⟩,@_,?_⟩;exact⟨@_,P6 _ (ab3 _ @_) (ach _ @_),⟨b3,cc _ @_⟩,@_,h _ (Le @_ @_)⟩
def Qu(size:Int)(r:Rw):Prop:=xS size r/\∀k ds,r= .Γ k ds->aa k=true->∀d∈ds,d.2.2=[]
def Im{n:Int}:∃kd:Str,ki [Dt.str "end",Dt.str "one",Dt.str "end",Dt.str "other",Dt.str "end",Dt.str "chance"] (n % 6)=some (.str kd)/\(aa kd=true\/kd="chance"\/kd="end"):=by
 have:n % 6=0\/n % 6=1\/n % 6=2\/n % 6=3\/n % 6=4\/n % 6=5:=()
 rcases this with e| e| e| e| e| e <;> rw[e]
 ·exact⟨_,bJ,.inr (.inr rfl)⟩
 ·exact⟨_,ag (j:=1) rfl,.inl @_⟩
 ·exact⟨_,ag (j:=2) rfl,.inr (.inr rfl)⟩
 ·exact⟨_,ag (j:=3) rfl,.inl @_⟩
 ·exact⟨_,ag (j:=4) rfl,.inr (.inr rfl)⟩
 ·exact⟨_,ag (j:=5) rfl,.inr (.inl rfl)⟩
def Sb(t:Int):bG:=(t,(t - 2,1),[])
def J2(n t:Int):bG:=(t,(0,1),[(1,n)])
def uX{x:Int}(h0: -100<=x)(h1:x<=100):cv (x,1)=true:=by unfold cv;rw[aam,aaN,aaN];refine⟨?_,show(1:Int)<=1000000 by decide⟩;show(if x < 0 then -x else x)<=10 ^ 30;split <;> omega
def J'{k:Str}{sz:Nat}{ts:List Int}(hk:aa k=true)(n1:1<=ts.length)(n2:ts.length<=2)(ht:∀t∈ts,0<=t/\t < (sz:Int))(hz:sz<=12):Qu sz (.Γ k (ts.map Sb)):=by
 refine⟨Nw hk (by rw[aah];exact n1) (by rw[aah];omega) (λd hd=>?_) (λd hd=>?_),λk' NK e hh d hd=>?_⟩
 ·have⟨t,hm,rfl⟩:=aau.mp hd;exact EM (ht t hm).1 (ht t hm).2 (uX (by have:=ht t hm;omega) (by have:=ht t hm;omega))
 ·have⟨t,hm,rfl⟩:=aau.mp hd;exact⟨rfl,show(0:Int) < 1 by decide⟩
 ·have⟨_,e2⟩:=Rw.Γ.inj e;rw[<-e2]at hd;have⟨t,hm,rfl⟩:=aau.mp hd;rfl
def zo{sz:Nat}{ts:List Int}(n1:1<=ts.length)(n2:ts.length<=2)(ht:∀t∈ts,0<=t/\t < (sz:Int)):Qu sz (.Γ "chance" (ts.map (J2 ts.length))):=by
 have hd:∀d∈ts.map (J2 ts.length),aR d.1 d.2.1 (sz:Int)=true:=λd hd=>by have⟨t,hm,rfl⟩:=aau.mp hd;exact EM (ht t hm).1 (ht t hm).2 (show cv (0,1)=true by decide)
 have h1:∀d∈ts.map (J2 ts.length),d.2.2=[τ d]:=λd hd=>by have⟨t,hm,rfl⟩:=aau.mp hd;rfl
 have hp:∀d∈ts.map (J2 ts.length),0 < d.2.1.2:=λd hd=>by have⟨t,hm,rfl⟩:=aau.mp hd;exact(show(0:Int) < 1 by decide)
 have hc:Ψ ((ts.map (J2 ts.length)).map τ)=true/\Sj ((ts.map (J2 ts.length)).map τ):=by
  match ts,n1,n2 with
  | [a],_,_=>exact(show Ψ [(1,1)]=true/\[((1,1):Fr)].length<=12/\∀c∈[((1,1):Fr)],0 < c.2/\c.2 < 2 ^ 200/\c.1.natAbs < 2 ^ 200 by decide)
  | [a,b],_,_=>exact(show Ψ [(1,2),(1,2)]=true/\[((1,2):Fr),(1,2)].length<=12/\∀c∈[((1,2):Fr),(1,2)],0 < c.2/\c.2 < 2 ^ 200/\c.1.natAbs < 2 ^ 200 by decide)
  | [],z,_=>exact aaK z @_
  | _::_::_::_,_,z=>exact absurd z (by simp)
 refine⟨Ge (by rw[aah];exact n1) (by rw[aah];omega) hd h1 hc.1 hc.2 hp,λk' NK e hh d hd=>?_⟩;have⟨e1,_⟩:=Rw.Γ.inj e;subst e1;exact aaK hh @_
def Ez:DF:=λas M q _=>∃ns:List Int,as=[.ji ns]/\∀γ:List Rw,1<=γ.length->γ.length<=12->(∀r∈γ,Qu γ.length r)->q (.loc M.length) (M++[.lst (γ.map ao)])
def b_:Ε ["_law_script","_law_size","_law_rows_here","_law_place","_law_first","_law_kind","_law_some"] ["_law_script"] (ν qM):=.of rfl
def By(F:cQ K "_law_rows" "_law_rows" qM f fd)(E:Ev K mg Cm CN CF Ca Cj Cd Ce Cg Ci Cb Cc Ck)(aA:aB P w K mg base 1 "_law_number" ["_law_script","_law_k"] Np gD gw):ah P w K mg base (bM P w) 2 f fd ["_law_script"] (cZ K Ez):=by
 refine F.eB b_ (λds M q x h=>?_) (λaY A outer s H E' hr=>⟨_,(ζ (Δ 1 b_.nd (eJ χ (dU (ar aA hr ο (Θ (jv 0) (μ χ η bB))) χ)))
   (ζ (Δ 2 b_.nd (oV η))
   (ζ (ye (d8 E.cW (Θ (jv 1) η)) (au (i:=3) b_.nd rfl (Or.inr rfl)) aK (ζ (Δ 4 b_.nd (ar aA hr ο (Θ (jv 0) (μ (eJ χ (eA χ (jv 3))) η dE))))
   (ζ (Δ 5 b_.nd (Τ (fM 3 (d:=.lst [.str "end",.str "one",.str "end",.str "other",.str "end",.str "chance"]) (by rfl)) (dU (jv 4) χ)))
   (ζ (Δ 6 b_.nd (CY (ys:=["_law_size","_law_script","_law_place"]) (Μ:=[1,0,3]) (.of b_ rfl rfl rfl) (d8 E.cW (μ (eJ χ (dU (jC (jv 4) χ) χ)) η dE)) (λC s H fp=>(dU (ar aA hr (cL (P:=P) (w:=w)) (Θ (jv 2) (μ (eJ (eJ χ (eA χ (jv 3))) (jv 0)) η dE))) (jv 1)))))
   (θ (aw (eI hr (jv 5) jH) (θ (dX (gG (jv 2) (μ (bQ (μ jH (μ (bQ (μ (nU (dU (jC (jv 4) χ) χ) χ) (μ χ η bB) dE)) η gz) bB)) η gz)))) (θ (aw (eI hr (jv 5) jH) (θ (dX (gG (jv 2) (μ (bQ (Θ (jv 5) (μ (g8 (ys:=["_law_some"]) (Μ:=[6]) (.of b_ rfl rfl rfl) (aT (jv 6)) (λC s H fp=>(bQ (Θ (jv 0) (μ (bQ (μ χ (μ χ η bB) bB)) (μ (bQ (μ χ (μ (dc E.bS (Θ (jv 1) η)) η cw) bB)) η gz) gz))))) η))) η gz)))) (θ (dX (gG (jv 2) (μ (bQ (Θ (jv 5) (μ (g8 (ys:=[]) (Μ:=[]) (.of b_ rfl rfl rfl) (aT (jv 6)) (λC s H fp=>(bQ (Θ (jv 0) (μ (bQ (μ (nU (jv 0) χ) (μ χ η bB) dE)) η gz))))) η))) η gz))))))))))))
   (θ (Β (jv 2)))))),λds M q x h=>?_⟩)
 ·have⟨ns,rfl,_⟩:=h;rfl
 ·have⟨ns,rfl,h⟩:=h;refine⟨ns,0,rfl,@_,@_,λn0 hn0=>⟨@_,?_⟩⟩;obtain⟨sz,hz,z1,z6⟩:∃sz:Nat,1+n0 % 9=(sz:Int)/\1<=sz/\sz<=9:=⟨(1+n0 % 9).toNat,(),(),()⟩;dsimp only[IL];rw[hz];refine⟨@_,⟨(),()⟩,?_⟩;refine kz (λzs ρ M2=>∃(n k:Nat) (rs:List Rw) (o1 o2 o3 o4:Option Dt),zs=eC k n/\k+n=sz/\rs.length=k/\(∀r∈rs,Qu sz r)/\M2=M++[MO.lst (rs.map ao)]/\ρ=[some (.ji ns),some (.int sz),some (.loc M.length),o1,o2,o3,o4]) (λx zs ρ M2 hj fC=>?_) (λρ M2 hj=>?_) _ _ _ ⟨sz,0,[],none,none,none,none,by simp,by simp,rfl,λ_ z=>(nomatch z),rfl,rfl⟩
  ·have⟨n,k,rs,o1,o2,o3,o4,ex,Z_,hl,hd,rfl,rfl⟩:=hj;have⟨m,rfl,rfl,rfl⟩:=kL ex;have k9:(k:Int) < 9:=()
   have bk:jL (k:Int):=bg (k:=10) ();have yD:(M++[MO.lst (rs.map ao)])[M.length]? =some (.lst (rs.map ao)):=aQ;have setM:∀y:Rw,(M++[MO.lst (rs.map ao)]).set M.length (.lst (rs.map ao++[ao y]))=M++[.lst ((rs++[y]).map ao)]:=λy=>by simp
   have lt:(rs.map ao).length < sizeLine:=by rw[aah,hl];exact abc (show k<=12 by omega) @_
   have more:∀y,Qu sz y->∀r∈rs++[y],Qu sz r:=λy hy r hr=>by
    rcases aa8.mp hr with hr| hr
    ·exact hd r hr
    ·have:r=y:=by simpa using hr
     rw[this];exact hy
   refine⟨⟨bg (k:=10) @_,bk⟩,ns,_,rfl,(),(),λf hf=>⟨@_,?_⟩⟩;have⟨kd,ek,X7⟩:=Im (n:=f);refine Ζ rfl ek ?_;walk_at "vc";obtain⟨mn,emn,mn1,mn2⟩:∃mn:Nat,1+f / 6 % 2=(mn:Int)/\1<=mn/\mn<=2:=⟨(1+f / 6 % 2).toNat,(),(),()⟩;refine⟨⟨@_,bg (k:=4) @_⟩,@_,?_⟩;dsimp only[IL];rw[emn];refine⟨⟨(),()⟩,by rw[fc];exact aax (show _<=6 by omega) @_,?_⟩;refine mr (f:=Dt.int) (λt:Int=>0<=t/\t < (sz:Int)) _ [] (λ_ z=>(nomatch z)) (λx Uj q' hq=>?_) λts Wy ht=>?_
   ·have⟨j,hj,rfl⟩:=iS Uj;have hj2:(j:Int) < 2:=()
    refine⟨⟨bg (k:=10) @_,bk⟩,ns,_,rfl,(),(),λv hv=>⟨(),hq _ ⟨ab3 _ (),ach _ ()⟩⟩⟩
   have Wy:ts.length=mn:=by rw[Wy,fc];simp
   have two:2<=sizeLine:=@_
   refine⟨λz=>?_,λz=>?_⟩
   ·refine⟨⟨M.length,_,rfl,yD⟩,⟨@_,bg (k:=4) @_⟩,@_,two,two,M.length,_,_,rfl,rfl,yD,lt,?_⟩;refine fC _ _ ⟨m,k+1,rs++[Rw.fin (f / 6 % 9 - 4,1)],_,_,_,_,by simp,(),by simp[hl],more _ ⟨⟨show(0:Int) < 1 by decide,uX () ()⟩,λ_ _ z=>(nomatch z)⟩,setM (.fin (f / 6 % 9 - 4,1)),rfl⟩
   have z:kd≠"end":=aaR z;refine⟨λz2=>?_,λz2=>?_⟩
   ·have z2:kd="chance":=aaC z2;refine⟨⟨M.length,_,rfl,yD⟩,?_⟩;walk_at "vc";show da _ _ _ _ _;refine aW (i:=6) (d:=.lst (ts.map .int)) rfl rfl ⟨by rw[aah,Wy];exact aax mn2 @_,?_⟩;refine cF (F:=λx a=>x=Dt.int a/\a∈ts) (f:=λt=>eY (J2 ts.length t)) trivial (λx a ha q' jF=>?_) (gC Dt.int ts ts λ_ h=>h) ?_
    ·have⟨rfl,ha⟩:=ha;walk_at "vc";refine⟨two,(aJ (d:=.lst (ts.map .int)) (xs:=ts.map .int) rfl ?_:gK [.lst (ts.map .int)] _ _)⟩;rw[aah];exact⟨two,@_,jF⟩
    rw[aaS,show ts.map (λt=>eY (J2 ts.length t))=(ts.map (J2 ts.length)).map eY by rw[aaV];rfl];refine⟨two,M.length,_,_,rfl,rfl,yD,lt,?_⟩;subst z2;exact fC _ _ ⟨m,k+1,rs++[Rw.Γ "chance" (ts.map (J2 ts.length))],_,_,_,_,by simp,(),by simp[hl],more _ (zo () () ht),setM (.Γ "chance" (ts.map (J2 ts.length))),rfl⟩
   ·have z2:kd≠"chance":=aaR z2;have hk:aa kd=true:=by
     rcases X7 with hk| hk| hk
     ·exact hk
     ·exact aaK hk z2
     ·exact aaK hk z
    refine⟨⟨M.length,_,rfl,yD⟩,?_⟩;walk_at "vc";show da _ _ _ _ _;refine aW (i:=6) (d:=.lst (ts.map .int)) rfl rfl ⟨by rw[aah,Wy];exact aax mn2 @_,?_⟩;refine cF (F:=λx a=>x=Dt.int a/\a∈ts) (f:=λt=>eY (Sb t)) trivial (λx a ha q' jF=>?_) (gC Dt.int ts ts λ_ h=>h) ?_
    ·have⟨rfl,ha⟩:=ha;exact⟨two,two,jF⟩
    rw[aaS,show ts.map (λt=>eY (Sb t))=(ts.map Sb).map eY by rw[aaV];rfl];refine⟨two,M.length,_,_,rfl,rfl,yD,lt,?_⟩;exact fC _ _ ⟨m,k+1,rs++[Rw.Γ kd (ts.map Sb)],_,_,_,_,by simp,(),by simp[hl],more _ (J' hk () () ht ()),setM (.Γ kd (ts.map Sb)),rfl⟩
  ·have⟨n,k,rs,o1,o2,o3,o4,ex,Z_,hl,hd,rfl,rfl⟩:=hj;have hn:n=0:=by have:=aaZ List.length ex;unfold eC at this;simpa using this.symm
   have e:rs.length=sz:=()
   exact h rs () () (by rw[e];exact hd)
def T_:DF:=λas M q _=>∃n sz:Int,as=[.int n,.int sz]/\0<=sz/\sz<=12/\∀r:Int,q (.int r) M
def KQ:Ε ["_law_number_here","_law_size"] ["_law_number_here","_law_size"] (ν xo):=.of rfl
def FI(F:cQ K "_law_odd" "_law_odd" xo f fd)(E:Ev K mg Cm CN CF Ca Cj Cd Ce Cg Ci Cb Cc Ck):ah P w K mg base (bM P w) 1 f fd ["_law_number_here","_law_size"] (cZ K T_):=by
 refine F.eB KQ (λds M q x h=>?_) (λaY A outer s H E' hr=>⟨_,(ζ (aw (eI hr (dU (jv 0) χ) χ) (θ (Β (Τ (iI (μ (y8 χ χ) (μ (nU χ (y8 χ χ)) η dE) dE)) (dU (jC (jv 0) χ) χ)))) Η)
   (θ (Β (nU (dU (jC (jv 0) χ) (eJ (jv 1) χ)) χ)))),λds M q x h=>?_⟩)
 ·have⟨n,sz,rfl,_⟩:=h;rfl
 ·have⟨n,sz,rfl,s0,s1,h⟩:=h;refine⟨@_,λz=>?_,λz=>?_⟩
  ·refine⟨p30,p30,@_,⟨@_,bg (k:=4) @_⟩,@_,?_⟩;have:n / 12 % 2=0\/n / 12 % 2=1:=()
   obtain⟨v,e⟩:∃v:Int,ki [Dt.int (10 ^ (30:Int).toNat),Dt.int (0 - 10 ^ (30:Int).toNat)] (n / 12 % 2)=some (.int v):=by
    rcases this with e| e
    ·rw[e];exact⟨_,bJ⟩
    ·rw[e];exact⟨_,ag (j:=1) rfl⟩
   exact Ζ rfl e (h v)
  ·exact⟨⟨@_,bg (k:=4) @_⟩,by show(0:Int) < sz+4;omega,h _⟩
def O9:DF:=λas M q _=>∃(ns:List Int) (γ:List Rw),as=[.ji ns,.lst (γ.map ao)]/\γ.length<=12/\(∀r∈γ,cY r)/\∀is:List Int,is.length<=20->q (.lst (is.map Dt.int)) M/\q (.loc M.length) (M++[.lst (is.map Dt.int)])/\∀m,q (.lst (is.map Dt.int)) (M++[m])
def cU:Ε ["_law_script","_law_rows_here","_law_number_here","_law_some","_law_left_out","_law_place","_law_at"] ["_law_script","_law_rows_here"] (ν tw):=.of rfl
def Dg(F:cQ K "_law_list" "_law_list" tw f fd)(E:Ev K mg Cm CN CF Ca Cj Cd Ce Cg Ci Cb Cc Ck)(aA:aB P w K mg base 1 "_law_number" ["_law_script","_law_k"] Np gD gw){MQ:Addr}{Mc:FuncData}(nN:aB P w K mg base 1 "_law_odd" ["_law_number_here","_law_size"] T_ MQ Mc):ah P w K mg base (bM P w) 2 f fd ["_law_script","_law_rows_here"] (cZ K O9):=by
 refine F.eB cU (λds M q x h=>?_) (λaY A outer s H E' hr=>⟨_,(ζ (Δ 2 cU.nd (ar aA hr ο (Θ (jv 0) (μ χ η bB))))
   (ζ (aw (eI hr (dU (jv 2) χ) χ) (θ (Β (CY (ys:=["_law_script","_law_rows_here"]) (Μ:=[0,1]) (.of cU rfl rfl rfl) (d8 E.cW (μ (dU (jC (jv 2) χ) χ) η dE)) (λC s H fp=>(ar nN hr (cL (P:=P) (w:=w)) (μ (ar aA hr (cL (P:=P) (w:=w)) (Θ (jv 1) (μ (eJ χ (jv 0)) η dE))) (μ (dc E.bS (Θ (jv 2) η)) η cw) cw)))))) Η)
   (ζ (Δ 3 cU.nd (oV η))
   (ζ (Δ 4 cU.nd (ar aA hr ο (Θ (jv 0) (μ χ η bB))))
   (ζ (ye (d8 E.cW (μ (dc E.bS (Θ (jv 1) η)) η cw)) (au (i:=5) cU.nd rfl (Or.inl rfl)) aK (ζ (sT (aw (JW.jt (DB (eI hr (Τ (Τ (jv 1) (jv 5)) χ) jH) (xT (zd (dU (jv 4) χ) χ)))) (θ (dX (gG (jv 3) (Θ (jv 5) η)))) Η))
   (θ (Δ 4 cU.nd (jC (jv 4) χ)))))
   (ζ (sT (aw (zd (dU (jC (jv 2) χ) χ) χ) (ζ (Δ 6 cU.nd (dU (jC (jv 2) χ) (eJ (dc E.bS (Θ (jv 3) η)) χ)))
   (θ (Δ 3 cU.nd (jf (jf (cz (x_ (jv 3) (jv 6))) (iI (μ (ar nN hr ο (μ (ar aA hr ο (Θ (jv 0) (μ χ η bB))) (μ (dc E.bS (Θ (jv 1) η)) η cw) cw)) η cw))) (cz (k8 (jv 3) (jv 6))))))) Η))
   (θ (Β (jv 3))))))))),λds M q x h=>?_⟩)
 ·have⟨ns,γ,rfl,_⟩:=h;rfl
 ·have⟨ns,γ,rfl,S7,ro,h⟩:=h;have hlen:∀{M':Ms} {q':DQ},q' (.int (γ.length:Int)) M'->gK [.lst (γ.map ao)] M' q':=λhq=>by refine aJ (d:=.lst (γ.map ao)) (xs:=γ.map ao) rfl ?_;rw[aah];exact hq
  refine⟨ns,1,rfl,@_,@_,λn1 hn1=>⟨@_,λz=>?_,λz=>?_⟩⟩
  ·walk_at "vc";refine⟨⟨@_,bg (k:=4) @_⟩,@_,⟨(),()⟩,by rw[fc];exact aax (show _<=7 by omega) @_,?_⟩;refine mr (f:=Dt.int) (λ_=>True) _ [] (λ_ z=>(nomatch z)) (λx Uj q' hq=>?_) λis hl _=>?_
   ·have⟨j,hj,rfl⟩:=iS Uj;have hj7:(j:Int) < 7:=()
    refine⟨ns,_,rfl,(),(),λv hv=>?_⟩;walk_at "vc";refine(hlen ?_:gK [.lst (γ.map ao)] _ _);exact⟨v,_,rfl,(),(),λr=>hq r trivial⟩
   have hl:is.length<=20:=by rw[hl,fc];simp;omega
   exact(h is hl).1
  ·refine⟨@_,ns,2,rfl,@_,@_,λn2 Sn=>?_⟩;walk_at "vc";refine hlen ⟨⟨(),()⟩,?_⟩;refine kz (λzs ρ M2=>∃(n k:Nat) (is:List Int) (lo:Int) (o1:Option Dt),zs=eC k n/\k+n=γ.length/\is.length<=k/\Nm lo/\M2=M++[MO.lst (is.map Dt.int)]/\ρ=[some (.ji ns),some (.lst (γ.map ao)),some (.int n1),some (.loc M.length),some (.int lo),o1,none]) (λx zs ρ M2 hj fC=>?_) (λρ M2 hj=>?_) _ _ _ ⟨γ.length,0,[],n2,none,by simp,by simp,Nat.le_refl _,Sn,rfl,rfl⟩
   ·have⟨n,k,is,lo,o1,ex,Z_,hl,ZR,rfl,rfl⟩:=hj;have⟨m,rfl,rfl,rfl⟩:=kL ex;have hk:k < γ.length:=()
    have rk:γ[k]? =some γ[k]:=aac hk;generalize γ[k]=r at rk;have a1:ki (γ.map ao) (k:Int)=some (ao r):=ag (qr rk);have yD:(M++[MO.lst (is.map Dt.int)])[M.length]? =some (.lst (is.map Dt.int)):=aQ;have lt:(is.map Dt.int).length < sizeLine:=by rw[aah];exact abc (show is.length<=12 by omega) @_
    refine⟨λρ M2=>∃zu:List Int,zu.length<=k+1/\M2=M++[MO.lst (zu.map Dt.int)]/\ρ=[some (.ji ns),some (.lst (γ.map ao)),some (.int n1),some (.loc M.length),some (.int lo),some (.int (k:Int)),none],?_,?_⟩
    ·have same:∃zu:List Int,zu.length<=k+1/\M++[MO.lst (is.map Dt.int)]=M++[MO.lst (zu.map Dt.int)]/\[some (Dt.ji ns),some (.lst (γ.map ao)),some (.int n1),some (.loc M.length),some (.int lo),some (.int (k:Int)),none]=[some (.ji ns),some (.lst (γ.map ao)),some (.int n1),some (.loc M.length),some (.int lo),some (.int (k:Int)),none]:=⟨is,(),rfl,rfl⟩;walk_at "vc";refine(Ζ (d:=.lst (γ.map ao)) rfl a1 ?_:fo (.lst (γ.map ao)) (.int (k:Int)) _ _);obtain⟨e,er⟩:∃e,ao r= .tup [.str (kindOf r),e]:=by
      cases r with
      | fin p=>exact⟨_,rfl⟩
      | Γ k ds=>exact⟨_,rfl⟩
     rw[er];refine(Ζ (d:=.tup [.str (kindOf r),e]) rfl bJ ?_:fo (.tup [.str (kindOf r),e]) (.int 0) _ _);refine⟨λ_=>⟨@_,λ_=>?_,λ_=>same⟩,λ_=>⟨nofun,λ_=>same⟩⟩;refine⟨⟨M.length,_,rfl,yD⟩,M.length,_,_,rfl,rfl,yD,lt,is++[(k:Int)],by simp;omega,by simp,rfl⟩
    ·rintro ρ2 M2 ⟨zu,EY,rfl,rfl⟩;exact⟨⟨@_,bg (k:=4) @_⟩,fC _ _ ⟨m,k+1,zu,_,_,by simp,(),EY,QM ZR @_,rfl,rfl⟩⟩
   ·have⟨n,k,is,lo,o1,ex,Z_,hl,ZR,rfl,rfl⟩:=hj;refine⟨λρ M2=>(∃o1 o2:Option Dt,∃zu:List Int,zu.length<=20/\M2=M++[MO.lst (zu.map Dt.int)]/\ρ=[some (.ji ns),some (.lst (γ.map ao)),some (.int n1),some (.loc M.length),o1,o2,none])\/(∃o1 o2 o3:Option Dt,∃zu:List Int,zu.length<=20/\(∃m,M2=M++[m])/\ρ=[some (.ji ns),some (.lst (γ.map ao)),some (.int n1),some (.lst (zu.map Dt.int)),o1,o2,o3]),?_,?_⟩
    ·walk_at "vc";refine⟨⟨@_,bg (k:=4) @_⟩,@_,λz=>?_,λz=>.inl ⟨_,_,is,(),rfl,rfl⟩⟩;have yD:(M++[MO.lst (is.map Dt.int)])[M.length]? =some (.lst (is.map Dt.int)):=aQ;have lq:gH (M++[MO.lst (is.map Dt.int)]) (.loc M.length)=some (is.map Dt.int):=by show(match (M++[MO.lst (is.map Dt.int)])[M.length]? with| some (.lst xs)=>some xs| _=>none)=_;rw[yD]
     have sz:∀{n:Nat},n<=40->n<=sizeLine:=λh=>aax h @_;refine⟨⟨@_,bg (k:=4) @_⟩,(aJ (d:=.loc M.length) (xs:=is.map Dt.int) (by show(match (M++[MO.lst (is.map Dt.int)])[M.length]? with| some (.lst xs)=>some xs| _=>none)=_;rw[yD]) ?_:gK [.loc M.length] _ _)⟩;rw[aah];refine⟨by show(0:Int) < (is.length:Int)+1;omega,?_⟩;obtain⟨j,ej⟩:∃j:Nat,n1 / 10 % ((is.length:Int)+1)=(j:Int):=⟨(n1 / 10 % ((is.length:Int)+1)).toNat,by have:=ab3 (n1 / 10) (show(is.length:Int)+1≠0 by omega);omega⟩;rw[ej];refine⟨is.map Dt.int,j,lq,rfl,?_⟩;rw[<-List.map_take];refine dt (g9 _) ?_;refine⟨ns,9,rfl,@_,@_,λn9 h9=>hlen ⟨n9,_,rfl,(),(),λr=>⟨sz @_,(is.take j).map Dt.int,[.int r],rfl,rfl,sz (by simp;omega),?_⟩⟩⟩;refine⟨is.map Dt.int,j,lq,rfl,?_⟩;rw[<-acg];refine dt (g9 _) ?_;refine⟨(is.take j).map Dt.int++[.int r],(is.drop j).map Dt.int,rfl,rfl,sz (by simp;omega),?_⟩;refine .inr ⟨some (.int lo),o1,some (.int (j:Int)),is.take j++[r]++is.drop j,by simp;omega,⟨_,rfl⟩,?_⟩;rw[aaT,aaT];rfl
    ·rintro ρ2 M2 (⟨o1,o2,zu,EY,rfl,rfl⟩| ⟨o1,o2,o3,zu,EY,⟨m,rfl⟩,rfl⟩)
     ·exact(h zu EY).2.1
     ·exact(h zu EY).2.2 m
def MC(i:Int):ue (V.int i) (V.int i)=true:=by unfold ue;simp
def LS{l:List Nat}{f:Nat->Bool}(h:∀j,f j=true):l.all f=true:=aa5.mpr λj _=>h j
def Ny{n:Nat}(i:Int):ui M n (.int i) (.int i) true:=by have:=ui.flat (M:=M) (n:=n) (d:=.int i) (e:=.int i) rfl rfl;rwa[MC]at this
def MF{n:Nat}{d e:Dt}{ds:List Dt}(h1:gH M d=some ds)(h2:gH M e=some ds)(h:∀d∈ds,ui M n d d true):ui M (n+1) d e true:=by
 have:=ui.lst (M:=M) (n:=n) (d:=d) (e:=e) (f:=λ_=>true) h1 h2 rfl λj d e h1 h2=>by rw[h1]at h2;cases h2;exact h d (aar h1)
 rwa[LS λ_=>rfl]at this
def zP:Option Int->Dt
 | none=>.aE
 | some a=>.int a
def yB:Option Int->Int
 | none=> -1
 | some a=>a
def GI(M:Ms)(g:Dt)(is:List Int):Prop:=g= .lst (is.map Dt.int)\/∃k,g= .loc k/\M[k]? =some (.lst (is.map Dt.int))
def GI.app{E:Ms}{g:Dt}(h:GI M g is):GI (M++E) g is:=by
 rcases h with h| ⟨k,e,h⟩
 ·exact .inl h
 ·exact .inr ⟨k,e,bu h⟩
def GI.it{g:Dt}(h:GI M g is):∃ok,gu M g=some (is.map Dt.int,ok)/\ok M/\fG M g=some (is.map Dt.int)/\gH M g=some (is.map Dt.int)/\iz M g=some (is.map Dt.int,ok):=by
 rcases h with rfl| ⟨k,rfl,h⟩
 ·exact⟨λ_=>True,rfl,trivial,rfl,rfl,rfl⟩
 ·have e:iz M (.loc k)=some (is.map Dt.int,λM':Ms=>M'[k]? =some (MO.lst (is.map Dt.int))):=by show(match M[k]? with| some (MO.lst xs)=>some (xs,λM':Ms=>M'[k]? =some (MO.lst xs))| _=>none)=_;rw[h]
  refine⟨_,e,h,?_,?_,e⟩
  ·show(match M[k]? with| some (MO.lst xs)=>some xs| _=>none)=_;rw[h]
  ·show(match M[k]? with| some (MO.lst xs)=>some xs| _=>none)=_;rw[h]
def GI.q{g:Dt}(h:GI M g is):gH M g=some (is.map Dt.int):=let ⟨_,_,_,_,a,_⟩:=h.it;a
def tq{n:Nat}{d e:Dt}{S:List Int}(h1:gH M d=some (S.map Dt.int))(h2:gH M e=some (S.map Dt.int)):ui M (n+1) d e true:=MF h1 h2 λd hd=>by have⟨p,_,rfl⟩:=aau.mp hd;exact Ny _
def D6{γ:List Rw}:∀{is:List Int} {a:Int},-1<=a->fb γ a is=none->∃gs:List Nat,is=gs.map (λg:Nat=>(g:Int))/\dY γ gs/\∀g∈gs,a < (g:Int)
 | [],a,_,_=>⟨[],rfl,⟨.nil,λ_ z=>(nomatch z)⟩,λ_ z=>(nomatch z)⟩
 | p ::is,a,ha,h=>by
  have h:(if rE γ a p then fb γ p is else some p)=none:=h;by_cases c:rE γ a p=true
  ·rw[aay c]at h;unfold rE at c;rw[aam,aam,aaN,aaN]at c;have⟨c1,c2,c3⟩:=c;have⟨gs,rfl,go,hg⟩:=D6 (a:=p) () h;obtain⟨j,rfl⟩:∃j:Nat,p=(j:Int):=⟨p.toNat,()⟩;refine⟨j::gs,rfl,⟨List.pairwise_cons.mpr ⟨λg Gm=>by have:=hg g Gm;omega,go.up⟩,λg Gm=>?_⟩,λg Gm=>?_⟩
   ·rcases aaG.mp Gm with rfl| Gm
    ·rw[aaY]at c3;cases hr:γ[g]? with
     | none=>rw[hr]at c3;cases c3
     | some r=>
      rw[hr]at c3;cases r with
      | fin q=>exact⟨q,rfl⟩
      | Γ k ds=>cases c3
    ·exact go.fin g Gm
   ·rcases aaG.mp Gm with rfl| Gm
    ·exact c1
    ·have:=hg g Gm;omega
  ·rw[aaF c]at h;cases h
def IY(gs:List Nat):(gs.map (λg:Nat=>(g:Int))).map Dt.int=gs.map cf:=by rw[aaV];rfl
def JG:DF:=λas M q _=>∃(γ:List Rw) (o:Option Int) (p:Int),as=[.lst (γ.map ao),zP o,.int p]/\(∀r∈γ,cY r)/\ -1<=yB o/\q (.bl (rE γ (yB o) p)) M
def GA:Ε ["_law_rows_here","_law_last","_law_place"] ["_law_rows_here","_law_last","_law_place"] (ν sN):=.of rfl
def Dj(F:cQ K "_law_good" "_law_good" sN f fd)(E:Ev K mg Cm CN CF Ca Cj Cd Ce Cg Ci Cb Cc Ck):ah P w K mg base (bM P w) 1 f fd ["_law_rows_here","_law_last","_law_place"] (cZ K JG):=by
 refine F.eB GA (λds M q x h=>?_) (λaY A outer s H E' hr=>⟨_,(ζ (aw (JW.jt (DB (xY (jv 1) kj) (xT (OM (jv 2) (jv 1))))) (θ (Β AZ)) Η)
   (θ (Β (fA (MH (p:=λi j=>decide (i<=j)) (p':=λi j=>decide (i < j)) KJ Ig χ (jv 2) (dc E.bS (Θ (jv 0) η))) (jx (Qj hr (Τ (Τ (jv 0) (jv 2)) χ) jH)))))),λds M q x h=>?_⟩)
 ·have⟨γ,o,p,rfl,_⟩:=h;rfl
 ·have⟨γ,o,p,rfl,ro,ha,h⟩:=h;have hlen:∀{M':Ms} {q':DQ},q' (.int (γ.length:Int)) M'->gK [.lst (γ.map ao)] M' q':=λhq=>by refine aJ (d:=.lst (γ.map ao)) (xs:=γ.map ao) rfl ?_;rw[aah];exact hq
  have rest:(p<=yB o->p<= -1)->∀y,(M9 (wa (λi j=>decide (i<=j)) (λi j=>decide (i < j)) (dC (.int 0)) (j0 2) (CI gK (pS (j0 0) BG))) (iW Lv (iW fo (iW fo (j0 0) (j0 2)) (dC (.int 0))) (dC (.str "end")))) [some (.lst (γ.map ao)),some (zP o),some (.int p)] M q y:=λhz y=>by
   unfold rE at h;dsimp only[M9,wa];walk_at "vc";refine⟨0,p,rfl,rfl,λz0=>?_,λz0=>⟨nofun,λ_=>?_⟩⟩
   ·have z0:0<=p:=aaC z0;have hl:yB o < p:=Int.not_le.mp λz=>aaK (hz z) ();rw[aaO hl,Bool.true_and]at h;refine hlen ⟨_,rfl,λz1=>?_,λz1=>?_⟩
    ·rw[show decide (p < (γ.length:Int))=true from z1,Bool.true_and]at h;have z1:p < γ.length:=aaC z1;have pl:p.toNat < γ.length:=()
     have rk:γ[p.toNat]? =some γ[p.toNat]:=aac pl;have rm:=ro _ (aaw pl);rw[rk]at h;generalize γ[p.toNat]=r at rk rm h;have a1:ki (γ.map ao) p=some (ao r):=by have:=ag (qr rk);rwa[show((p.toNat:Nat):Int)=p by omega]at this
     refine(Ζ (d:=.lst (γ.map ao)) rfl a1 ?_:fo (.lst (γ.map ao)) (.int p) _ _);cases r with
     | fin e=>exact h
     | Γ kd ds=>
      show q (.bl (decide (kd="end"))) M;rw[aat rm.1];exact h
    ·rw[show decide (p < (γ.length:Int))=false from z1,Bool.false_and]at h;exact h
   ·have z0:¬0<=p:=aaR z0;rw[aat (show¬yB o < p by omega),Bool.false_and]at h;exact h
  cases o with
  | none=>exact⟨nofun,λ_=>⟨nofun,λ_=>rest (λz=>z) _⟩⟩
  | some a=>
   refine⟨λ_=>⟨λz=>?_,λz=>?_⟩,nofun⟩
   ·have z:p<=a:=aaC z;have e:rE γ (yB (some a)) p=false:=by unfold rE;rw[aat (show¬yB (some a) < p fromλy=>aaK (show a < p from y) ())];rfl
    rw[e]at h;exact h
   ·have z:¬p<=a:=aaR z;exact rest (λy=>aaK y z) _
def J8:DF:=λas M q _=>∃(γ:List Rw) (g:Dt) (is:List Int),as=[.lst (γ.map ao),g]/\GI M g is/\(∀r∈γ,cY r)/\q (zP (fb γ (-1) is)) M
def e_:Ε ["_law_rows_here","_law_some","_law_last","_law_place"] ["_law_rows_here","_law_some"] (ν ju):=.of rfl
def rq(F:cQ K "_law_first_bad" "_law_first_bad" ju f fd)(E:Ev K mg Cm CN CF Ca Cj Cd Ce Cg Ci Cb Cc Ck){sJ:Addr}{sA:FuncData}(fT:aB P w K mg base 1 "_law_good" ["_law_rows_here","_law_last","_law_place"] JG sJ sA):ah P w K mg base (bM P w) 2 f fd ["_law_rows_here","_law_some"] (cZ K J8):=by
 refine F.eB e_ (λds M q x h=>?_) (λaY A outer s H E' hr=>⟨_,(ζ (Δ 2 e_.nd kj)
   (ζ (bK (aT (jv 1)) (au (i:=3) e_.nd rfl (Or.inl rfl)) aK (ζ (aw (km (ba (ar fT hr ο (Θ (jv 0) (Θ (jv 2) (Θ (jv 3) η)))))) (θ (Β (jv 3))) Η)
   (θ (Δ 2 e_.nd (jv 3)))))
   (θ (Β kj)))),λds M q x h=>?_⟩)
 ·have⟨γ,g,is,rfl,_⟩:=h;rfl
 ·have⟨γ,g,is,rfl,ga,ro,h⟩:=h;have⟨ok,g1,g2,g3,_⟩:=ga.it;dsimp only[Dx,rD,nD,da];walk_at "vc";show(match gu M g with| some (xs,ok)=>_| none=>False);rw[g1];refine aO (λxs ρ M'=>M'=M/\∃(rest:List Int) (o:Option Int) (b':Option Dt),xs=rest.map Dt.int/\ -1<=yB o/\fb γ (-1) is=fb γ (yB o) rest/\ρ=[some (.lst (γ.map ao)),some g,some (zP o),b']) (λxs ρ M' hj=>by have⟨rfl,_⟩:=hj;exact g2) (λx xs ρ M' hj fC=>?_) (λρ M' hj=>?_) _ _ _ ⟨rfl,is,none,none,rfl,@_,rfl,rfl⟩
  ·have⟨rfl,rest,o,b',ex,ha,hf,rfl⟩:=hj;cases rest with
   | nil=>cases ex
   | cons p rest=>
    cases ex;have hf:fb γ (-1) is=if rE γ (yB o) p then fb γ p rest else some p:=hf
    refine⟨γ,o,p,rfl,ro,ha,λz=>?_,λz=>?_⟩
    ·have z:rE γ (yB o) p=false:=by simpa using z
     rw[hf,z]at h;exact h
    ·have z:rE γ (yB o) p=true:=by simpa using z
     rw[aay z]at hf;refine fC _ _ ⟨rfl,rest,some p,_,rfl,?_,hf,rfl⟩;unfold rE at z;rw[aam,aaN]at z;show -1<=p;omega
  ·have⟨rfl,rest,o,b',ex,ha,hf,rfl⟩:=hj;cases rest with
   | nil=>
    have hf:fb γ (-1) is=none:=hf;rw[hf]at h;exact h
   | cons p rest=>cases ex
def pk:bootBuiltins "ValueError"=some (.type "ValueError"):=by decide+kernel
def NH{x:Addr}{d:Dt}{Dn:iM}{ρ ρ':En}(e:(ρ.set i none).map (So x d)=ρ')(h:Dn.nx ρ' M):(D3 i x d Dn).nx ρ M:=by show Dn.nx ((ρ.set i none).map (So x d)) M;rw[e];exact h
def FL{S2:Sp}{a:Pl}{g:Nat}(t:V7 γ gs S S2 p a tb)(go:dY γ gs)(hg:g∈gs):ki (tb.map az) (g:Int)=some (az (1,1)):=by
 have⟨q,hi⟩:=go.fin g hg;have il:=(aai.mp hi).1;have:=t.dr.2 g _ hi;have e:at_ S g=if g∈gs then some 0 else none:=this
 rw[aay hg]at e;have eq:=t.kp.ch.tab.eq g il;have w0:fL γ S (aF p a) g=[]:=by unfold fL;rw[e]
 have g0:o9 S g=(1,1):=by unfold o9;rw[e];rfl
 rw[w0,g0]at eq;have v1:tb.getD g (0,1)=(1,1):=qG (t.kp.ch.tab.red g il) ⟨@_,@_⟩ (by rw[eq];unfold aI;grind);have gl:g < tb.length:=by rw[t.kp.ch.tab.len];exact il
 rw[aad,aac gl]at v1;have v1:tb[g]=(1,1):=v1;exact ag (by rw[aap,aac gl,v1];rfl)
def Gu{g:Nat}(d:aL γ gs S)(go:dY γ gs)(hg:g∈gs):ki (S.map eX) (g:Int)=some (.int 0):=by
 have⟨q,hi⟩:=go.fin g hg;have il:=(aai.mp hi).1;have e:at_ S g=if g∈gs then some 0 else none:=d.2 g _ hi
 rw[aay hg]at e;have:=vx (S:=S) (p:=g) (by rw[d.1];exact il);rw[e]at this;exact this
def Ans(M:Ms)(way:Int)(gs:List Nat)(d:Dt):Prop:=(way=0/\∃a k xs,d= .tup [a,.loc k]/\M[k]? =some (.lst xs)/\∀g∈gs,ki xs (g:Int)=some (.int 0))\/(way=1/\∃k a b c xs,d= .tup [.loc k,a,b,c]/\M[k]? =some (.lst xs)/\∀g∈gs,ki xs (g:Int)=some (az (1,1)))
def Ow(A CG:Addr):DF:=λas M q _=>∃(ε:Fr) (γ:List Rw) (k:Nat) (is:List Int) (way:Int),as=[Ο A ε γ,.loc k,.int way]/\M[k]? =some (.lst (is.map Dt.int))/\FR ε γ/\(way=0\/way=1)/\(∀b,fb γ (-1) is=some b->q (.tup [.aE,.exc CG ["place"] [.int b]]) M)/\(∀gs:List Nat,fb γ (-1) is=none->is=gs.map (λg:Nat=>(g:Int))->dY γ gs->∀d E,Ans (M++E) way gs d->q (.tup [d,.aE]) (M++E))
def eW:Ε ["_law_floor","_law_some","_law_way","_law_error","_law_found","e"] ["_law_floor","_law_some","_law_way"] (ν sP):=.of rfl
def B5(F:cQ K "_law_told" "_law_told" sP f fd)(E:Ev K mg Cm CN CF Ca Cj Cd Ce Cg Ci Cb Cc Ck)(i4:aB P w K mg base 5 "draw" ["floor","goals"] (EV Cm Cj) yS AD){IE:Addr}{Ia:FuncData}(oJ:aB P w K mg base 9 "chances" ["floor","goals"] (yQ Cm Cj) IE Ia):ah P w K mg base (bM P w) 10 f fd ["_law_floor","_law_some","_law_way"] (cZ K (Ow Cm Cj)):=by
 refine F.eB eW (λds M q x h=>?_) (λaY A outer s H E' hr=>⟨_,(ζ (Δ 3 eW.nd kj)
   (ζ (Δ 4 eW.nd kj)
   (ζ (L_ (i:=5) eW.nd rfl E.tj (by decide+kernel) E.mL (λR δ=>(θ (aw (eI hr (jv 2) χ) (θ (Δ 4 eW.nd (ar i4 hr D8 (Θ (jv 0) (Θ (jv 1) η))))) (θ (Δ 4 eW.nd (ar oJ hr D8 (Θ (jv 0) (Θ (jv 1) η)))))))) (λx pn=>(θ (Δ 3 eW.nd (jv 5)))))
   (θ (Β (bQ (Θ (jv 4) (Θ (jv 3) η)))))))),λds M q x h=>?_⟩)
 ·have⟨ε,γ,k,is,way,rfl,_⟩:=h;rfl
 ·have⟨ε,γ,k,is,way,rfl,hk,fr,hw,hb,hg⟩:=h;have two:2<=sizeLine:=@_
  have ga:GI M (.loc k) is:=.inr ⟨k,rfl,hk⟩;have⟨ok,g1,g2,g3,_⟩:=ga.it;have ro:∀r∈γ,cY r:=λr hr=>(fr.pl.row r hr).1;dsimp only[Dx,rD,dC];walk_at "vc";dsimp only[Oh];walk_at "vc";cases hf:fb γ (-1) is with
  | some b=>
   have bad:∀{qq:DQ} {xx},(PySem.W.subIn K (.ref Cj) (.ref Ca)=some true->xx Cj [("place",.int b)] M)->EZ Cm Cj [Ο Cm ε γ,.loc k] M qq xx:=λh=>⟨ε,γ,.loc k,is,ok,b,rfl,g1,g2,ro,hf,h E.nC⟩;have fin:PySem.W.subIn K (.ref Cj) (.ref Ca)=some true/\∀x:Addr,(D3 5 x (.exc Cj ["place"] [.int b]) {nx:=λρ M'=>QS (pS (j0 4) (pS (j0 3) BG)) ρ M' q iL,rt:=q}).nx [some (Ο Cm ε γ),some (.loc k),some (.int way),some (.ref x),some .aE,some (.ref x)] M:=by refine⟨E.nC,λx=>?_⟩;refine NH (ρ':=[some (Ο Cm ε γ),some (.loc k),some (.int way),some (.exc Cj ["place"] [.int b]),some .aE,none]) ?_ ⟨two,hb b hf⟩;show[some (Ο Cm ε γ),some (.loc k),some (.int way),(if x=x then some (.exc Cj ["place"] [.int b]) else some (.ref x)),some .aE,none]=_;rw[aay rfl]
   refine⟨λz=>?_,λz=>?_⟩
   ·exact .inr (bad λ_=>fin)
   ·exact .inr (bad λ_=>fin)
  | none=>
   have⟨gs,rfl,go,_⟩:=D6 @_ hf;rw[IY]at hk g1 g3;refine⟨λz=>?_,λz=>?_⟩
   ·have z:way=0:=aaC z;refine .inl ⟨ε,γ,.loc k,gs,ok,rfl,g1,g2,g3,go,fr.Sx,λS dr=>⟨two,?_⟩⟩;refine hg gs hf rfl go _ _ (.inl ⟨z,_,M.length,S.map eX,rfl,?_,λg Gm=>Gu dr go Gm⟩);rw[aaB (aao _),abU];rfl
   ·have z:way≠0:=aaR z;refine .inl ⟨ε,γ,.loc k,gs,rfl,fr,.inr ⟨k,rfl,hk⟩,go,λS S2 p a tb E2 kt ka ks t _ _ _ _ Fb _=>⟨two,?_⟩⟩;rw[aaJ]at Fb⊢;exact hg gs hf rfl go _ _ (.inr ⟨hw.resolve_left z,kt,_,_,_,tb.map az,rfl,Fb,λg Gm=>FL t go Gm⟩)
def Ai(CP:Addr):DF:=λas M q _=>∃j:Int,as=[.exc CP ["place"] [.int j],.int j]/\q (.bl true) M
def xX:Ε ["_law_error","_law_due"] ["_law_error","_law_due"] (ν jY):=.of rfl
def uc(F:cQ K "_law_refused" "_law_refused" jY f fd)(E:Ev K mg Cm CN CF Ca Cj Cd Ce Cg Ci Cb Cc Ck):ah P w K mg base (bM P w) 1 f fd ["_law_error","_law_due"] (cZ K (Ai Cj)):=by
 refine F.eB xX (λds M q x h=>?_) (λaY A outer s H E' hr=>⟨_,(ζ (aw (JW.jt (gY (km (ba (iO K E.Χ (Θ (jv 0) (Θ (hX E.Ei) η))))) (h8 (km (ba (iO K E.Χ (Θ (jv 0) (Θ (KS E.fF pk) η)))))))) (θ (Β AZ)) Η)
   (ζ (aw (JW.jt (gY (ba (iO K E.Χ (Θ (jv 0) (Θ (hX E.vo) η)))) (gY (ba (iO K E.Χ (Θ (jv 0) (Θ (hX E.Fd) η)))) (h8 (ba (iO K E.Χ (Θ (jv 0) (Θ (hX E.ES) η)))))))) (θ (Β AZ)) Η)
   (ζ (aw (JW.jt (gY (ba (iO K E.Χ (Θ (jv 0) (Θ (hX E.zb) η)))) (gY (ba (iO K E.Χ (Θ (jv 0) (Θ (hX E.zV) η)))) (h8 (ba (iO K E.Χ (Θ (jv 0) (Θ (hX E.EL) η)))))))) (θ (Β AZ)) Η)
   (ζ (aw (JW.jt (gY (ba (iO K E.Χ (Θ (jv 0) (Θ (hX E.vK) η)))) (gY (ba (iO K E.Χ (Θ (jv 0) (Θ (hX E.om) η)))) (h8 (ba (iO K E.Χ (Θ (jv 0) (Θ (hX E.J1) η)))))))) (θ (Β AZ)) Η)
   (θ (Β (fA (iO K E.Χ (μ (CV K (jv 0)) (Θ (KS E.D1 Gw) η))) (fA (RE (iO K E.Χ (μ (CV K (jv 0)) (Θ (KS E.wd C5) η)))) (jx (Qj hr (CV K (jv 0)) (jv 1))))))))))),λds M q x h=>?_⟩)
 ·have⟨j,rfl,_⟩:=h;rfl
 ·have⟨j,rfl,h⟩:=h;refine Or.inl ⟨Cj,_,_,_,_,true,rfl,E.b6,rfl,MG,nofun,λ_=>?_⟩;refine Or.inl ⟨Cj,_,_,_,_,true,rfl,E.b6,rfl,E.k_,nofun,λ_=>?_⟩;refine Or.inl ⟨Cj,_,_,_,_,false,rfl,E.b6,rfl,E.bU,nofun,λ_=>?_⟩;refine Or.inl ⟨Cj,_,_,_,_,false,rfl,E.b6,rfl,E.cX,nofun,λ_=>?_⟩;refine Or.inl ⟨Cj,_,_,_,_,false,rfl,E.b6,rfl,E.cT,nofun,λ_=>?_⟩;refine Or.inl ⟨Cj,_,_,_,_,false,rfl,E.b6,rfl,E.ck,nofun,λ_=>?_⟩;refine Or.inl ⟨Cj,_,_,_,_,false,rfl,E.b6,rfl,E.cq,nofun,λ_=>?_⟩;refine Or.inl ⟨Cj,_,_,_,_,false,rfl,E.b6,rfl,E.cM,nofun,λ_=>?_⟩;refine Or.inl ⟨Cj,_,_,_,_,false,rfl,E.b6,rfl,E.bY,nofun,λ_=>?_⟩;refine Or.inl ⟨Cj,_,_,_,_,false,rfl,E.b6,rfl,E.bA,nofun,λ_=>?_⟩;refine Or.inl ⟨Cj,_,_,_,_,false,rfl,E.b6,rfl,E.dh,nofun,λ_=>?_⟩;refine⟨Cj,_,_,_,rfl,E.b6,E.dR,rfl,?_⟩;refine Or.inr ⟨_,_,_,_,true,rfl,rfl,rfl,xZ,λ_=>?_,nofun⟩;refine⟨Cj,_,_,_,rfl,E.b6,E.dR,rfl,?_⟩;refine Or.inr ⟨_,_,_,_,false,rfl,rfl,rfl,E.ib,λ_=>?_,nofun⟩;refine⟨Cj,_,_,_,rfl,E.b6,E.dR,rfl,?_⟩;show q (.bl (decide (j=j))) M;rw[aaO rfl];exact h
def OW:DF:=λas M q _=>∃(d g:Dt) (way:Int) (gs:List Nat),as=[d,.int way,g]/\Ans M way gs d/\GI M g (gs.map (λg:Nat=>(g:Int)))/\gs.length<=40/\q (.bl true) M
def e7:Ε ["_law_found","_law_way","_law_goals","_law_some","_law_whole"] ["_law_found","_law_way","_law_goals"] (ν jr):=.of rfl
def sL(F:cQ K "_law_answered" "_law_answered" jr f fd)(E:Ev K mg Cm CN CF Ca Cj Cd Ce Cg Ci Cb Cc Ck):ah P w K mg base (bM P w) 1 f fd ["_law_found","_law_way","_law_goals"] (cZ K OW):=by
 refine F.eB e7 (λds M q x h=>?_) (λaY A outer s H E' hr=>⟨_,(ζ (aw (JW.jt (gY (km (ba (Lq K E.Χ (Θ (jv 0) (Θ (KS E.qt zg) η))))) (h8 (s_ hr (dc E.bS (Θ (jv 0) η)) (Τ (fM 3 (d:=.lst [.int 2,.int 4]) (by rfl)) (jv 1)))))) (θ (Β AZ)) Η)
   (ζ (Δ 3 e7.nd (Τ (jv 0) (nU χ (jv 1))))
   (ζ (aw (km (ba (Lq K E.Χ (Θ (jv 3) (Θ (KS E.kI sF) η))))) (θ (Β AZ)) Η)
   (ζ (Δ 4 e7.nd (Τ (fM 3 (d:=.lst [.int 0,.tup [.int 1,.int 1]]) (by rfl)) (jv 1)))
   (θ (Β (VE 1 hr (tS (ys:=["_law_whole","_law_some"]) (Μ:=[4,3]) (.of e7 rfl rfl rfl) (aT (jv 2)) (λC s H fp=>(s_ hr (Τ (jv 2) (jv 0)) (jv 1))) (λC s H fp=>(jv 0))) (iI η)))))))),λds M q x h=>?_⟩)
 ·have⟨d,g,way,gs,rfl,_⟩:=h;rfl
 ·have⟨d,g,way,gs,rfl,an,ga,gl,h⟩:=h;have⟨ok,_,g2,g3,_,g1⟩:=ga.it;rw[IY]at g1;have lst:∀{k:Nat} {xs:List Dt},M[k]? =some (.lst xs)->ID M (.loc k)=some (.type "list"):=λ{k xs} hk=>by show(match M[k]? with| some (.lst _)=>some (Value.type "list")| _=>none)=_;rw[hk]
  have Tz:∀{k:Nat} {xs:List Dt},M[k]? =some (.lst xs)->fG M (.loc k)=some xs:=λ{k xs} hk=>by show(match M[k]? with| some (.lst xs)=>some xs| _=>none)=_;rw[hk]
  have nf:(gs.map cf).filter (λ_=>false)=[]:=by simp
  have last:Q4 1 (.lst (([]:List Int).map Dt.int)) (.lst []) M q:=⟨true,.inr ⟨_,rfl⟩,.inr ⟨_,rfl⟩,tq (S:=[]) rfl rfl,h⟩;walk_at "vc";refine⟨d,_,.type "tuple",_,true,rfl,?_,rfl,xZ,nofun,λ_=>?_⟩
  ·rcases an with ⟨rfl,a,k,xs,rfl,hk,hv⟩| ⟨rfl,k,a,b,c,xs,rfl,hk,hv⟩ <;> rfl
  rcases an with ⟨rfl,a,k,xs,rfl,hk,hv⟩| ⟨rfl,k,a,b,c,xs,rfl,hk,hv⟩
  ·refine(aJ (d:=.tup [a,.loc k]) (xs:=[a,.loc k]) rfl ?_:gK [.tup [a,.loc k]] _ _);refine(Ζ (d:=.lst [Dt.int 2,Dt.int 4]) rfl bJ ?_:fo (.lst [Dt.int 2,Dt.int 4]) (.int 0) _ _);refine⟨nofun,λ_=>?_⟩;show yy (.int 1) (.int 0) M _;dsimp only[yy];refine(Ζ (d:=.tup [a,.loc k]) (xs:=[a,.loc k]) rfl (ag (j:=1) rfl) ?_:fo (.tup [a,.loc k]) (.int 1) _ _);refine⟨.loc k,_,.type "list",_,true,rfl,lst hk,rfl,xZ,nofun,λ_=>?_⟩;refine(Ζ (d:=.lst [Dt.int 0,.tup [.int 1,.int 1]]) rfl bJ ?_:fo (.lst [Dt.int 0,.tup [.int 1,.int 1]]) (.int 0) _ _);show da _ _ _ _ _;refine aW (i:=2) (d:=g) rfl g1 ⟨by rw[aah];exact aax gl @_,?_⟩;refine bX g2 (λ_=>false) (λx=>x) _ _ (λx hx q' p' h1 h2=>?_) (by rw[nf];exact⟨abW _,last⟩);have⟨y,hy,rfl⟩:=aau.mp hx;have key:fo (.loc k) (.int (y:Int)) M (λd M1=>Jn d (.int 0) M1 (λd M2=>match d with| .bl c=>(match c with| true=>q' (cf y) M2| false=>p' M2)| _=>False)):=Ζ (d:=.loc k) (Tz hk) (hv y hy) (h2 rfl);exact key
  ·refine(aJ (d:=.tup [.loc k,a,b,c]) (xs:=[.loc k,a,b,c]) rfl ?_:gK [.tup [.loc k,a,b,c]] _ _);refine(Ζ (d:=.lst [Dt.int 2,Dt.int 4]) rfl (ag (j:=1) rfl) ?_:fo (.lst [Dt.int 2,Dt.int 4]) (.int 1) _ _);refine⟨nofun,λ_=>?_⟩;show yy (.int 1) (.int 1) M _;dsimp only[yy];refine(Ζ (d:=.tup [.loc k,a,b,c]) (xs:=[.loc k,a,b,c]) rfl bJ ?_:fo (.tup [.loc k,a,b,c]) (.int 0) _ _);refine⟨.loc k,_,.type "list",_,true,rfl,lst hk,rfl,xZ,nofun,λ_=>?_⟩;refine(Ζ (d:=.lst [Dt.int 0,.tup [.int 1,.int 1]]) rfl (ag (j:=1) rfl) ?_:fo (.lst [Dt.int 0,.tup [.int 1,.int 1]]) (.int 1) _ _);show da _ _ _ _ _;refine aW (i:=2) (d:=g) rfl g1 ⟨by rw[aah];exact aax gl @_,?_⟩;refine bX g2 (λ_=>false) (λx=>x) _ _ (λx hx q' p' h1 h2=>?_) (by rw[nf];exact⟨abW _,last⟩);have⟨y,hy,rfl⟩:=aau.mp hx;have key:fo (.loc k) (.int (y:Int)) M (λd M1=>Jn d (az (1,1)) M1 (λd M2=>match d with| .bl c=>(match c with| true=>q' (cf y) M2| false=>p' M2)| _=>False)):=Ζ (d:=.loc k) (Tz hk) (hv y hy) (h2 rfl);exact key
def Jz(A:Addr):DF:=λas M q _=>∃(ε:Fr) (γ:List Rw) (g:Dt) (is:List Int) (way:Int),as=[Ο A ε γ,.lst (γ.map ao),g,.int way]/\GI M g is/\FR ε γ/\(way=0\/way=1)/\is.length<=40/\∀E,q (.bl true) (M++E)
def gy:Ε ["_law_floor","_law_rows_here","_law_some","_law_way","_law_handed","_law_found","_law_error","_law_due"] ["_law_floor","_law_rows_here","_law_some","_law_way"] (ν oH):=.of rfl
def Ay(F:cQ K "_law_asked" "_law_asked" oH f fd)(E:Ev K mg Cm CN CF Ca Cj Cd Ce Cg Ci Cb Cc Ck){J5:Addr}{Jl:FuncData}(pj:aB P w K mg base 10 "_law_told" ["_law_floor","_law_some","_law_way"] (Ow Cm Cj) J5 Jl){we:Addr}{w6:FuncData}(ix:aB P w K mg base 2 "_law_first_bad" ["_law_rows_here","_law_some"] J8 we w6){wF:Addr}{yv:FuncData}(hW:aB P w K mg base 1 "_law_answered" ["_law_found","_law_way","_law_goals"] OW wF yv){zT:Addr}{zW:FuncData}(i8:aB P w K mg base 1 "_law_refused" ["_law_error","_law_due"] (Ai Cj) zT zW):ah P w K mg base (bM P w) 11 f fd ["_law_floor","_law_rows_here","_law_some","_law_way"] (cZ K (Jz Cm)):=by
 refine F.eB gy (λds M q x h=>?_) (λaY A outer s H E' hr=>⟨_,(ζ (Δ 4 gy.nd (xw E.kI (Θ (jv 2) η)))
   (ζ (M7 (ar pj hr ο (Θ (jv 0) (Θ (jv 4) (Θ (jv 3) η)))) (oE rfl (b8 (au (i:=5) gy.nd rfl (Or.inl rfl)) (b8 (au (i:=6) gy.nd rfl (Or.inl rfl)) kO))))
   (ζ (aw (Qn 1 hr (jv 4) (jv 2)) (θ (Β AZ)) Η)
   (ζ (Δ 7 gy.nd (ar ix hr ο (Θ (jv 1) (Θ (jv 2) η))))
   (ζ (aw (R6 (jv 7) kj) (θ (Β (fA (OS (jv 6) kj) (jx (ar hW hr ο (Θ (jv 5) (Θ (jv 3) (Θ (jv 2) η)))))))) Η)
   (θ (Β (fA (OS (jv 5) kj) (jx (ar i8 hr ο (Θ (jv 6) (Θ (jv 7) η)))))))))))),λds M q x h=>?_⟩)
 ·have⟨ε,γ,g,is,way,rfl,_⟩:=h;rfl
 ·have⟨ε,γ,g,is,way,rfl,ga,fr,hw,hl,h⟩:=h;have⟨ok,_,g2,g3,_,g1⟩:=ga.it;have ro:∀r∈γ,cY r:=λr hr=>(fr.pl.row r hr).1;walk_at "vc";show(match fG M g with| some xs=>_| none=>False);rw[g3];have hM:(M++[MO.lst (is.map Dt.int)])[M.length]? =some (.lst (is.map Dt.int)):=aQ;refine⟨ε,γ,M.length,is,way,rfl,hM,fr,hw,λb hb=>?_,λgs hf ei go d E an=>?_⟩
  ·walk_at "vc";refine⟨true,.inr ⟨_,sC (gW hM)⟩,.inr ⟨_,(ga.app (E:=[MO.lst (is.map Dt.int)])).q⟩,tq (sC (gW hM)) (ga.app).q,nofun,λ_=>?_⟩;refine⟨γ,g,is,rfl,ga.app,ro,?_⟩;rw[hb];refine⟨rfl,nofun,λ_=>?_⟩;exact⟨rfl,λ_=>⟨b,rfl,h _⟩,nofun⟩
  ·have WQ:=bu (E:=E) hM;have V9:GI (M++[MO.lst (is.map Dt.int)]++E) g is:=ga.app.app;walk_at "vc";refine⟨true,.inr ⟨_,sC (gW WQ)⟩,.inr ⟨_,V9.q⟩,tq (sC (gW WQ)) V9.q,nofun,λ_=>?_⟩;refine⟨γ,g,is,rfl,V9,ro,?_⟩;rw[hf];subst ei;refine⟨rfl,λ_=>?_,nofun⟩;refine⟨rfl,λ_=>⟨d,g,way,gs,rfl,an,V9,by rw[aah]at hl;exact hl,?_⟩,nofun⟩;rw[aaJ];exact h _
def FR.of(hs:iP ε=true)(n1:1<=γ.length)(HC:γ.length<=12)(hg:∀r∈γ,Qu γ.length r):FR ε γ:=⟨⟨hs,HC,λr hr=>(hg r hr).1⟩,n1,λk ds hm hh d hd=>(hg _ hm).2 k ds rfl hh d hd⟩
def Av{M:Ms}:∀rs:List Rw,Paired (jy M) (rs.map ao) rs
 | []=>.nil
 | r::rs=>.cons (yk _ r) (Av rs)
def LC{q:DQ}{A:Addr}(h:q (Ο A ε γ) M):tK M q (.loc M.length) ((M++[MO.ins A [] []]).set M.length (.ins A ["kept_share","kept_rows"] [az ε,.lst (γ.map ao)])):=by rw[e9];exact hU (d':=Ο A ε γ) (.UY (Nat.le_refl _) (by simp) (.cons (.old (pq ε)) (.cons (.old (kH γ)) .nil))) h
structure Uk(γ:List Rw)(ms:List Int)(o:Option Int):Prop where
 run:∀ps,fb γ (-1) (ms++ps)=fb γ (yB o) ps
 top:∀a∈ms,a<=yB o
 mem:∀a,o=some a->a∈ms
 nil:o=none->ms=[]
 ge: -1<=yB o
def Uk.more{ms:List Int}{o:Option Int}{p:Int}(h:Uk γ ms o)(c:rE γ (yB o) p=true):Uk γ (ms++[p]) (some p):=by
 have lt:yB o < p:=by have c:=c;unfold rE at c;rw[aam,aaN]at c;exact c.1
 have ge:=h.ge;refine⟨λps=>?_,λa ha=>?_,λa e=>?_,nofun,show -1<=p by omega⟩
 ·rw[aaJ,h.run];show(if rE γ (yB o) p then fb γ p ps else some p)=_;rw[aay c];rfl
 ·rcases aa8.mp ha with ha| ha
  ·have:=h.top a ha;show a<=p;omega
  ·have:a=p:=by simpa using ha
   rw[this];exact Int.le_refl _
 ·cases e;simp
def Rn{ms:List Int}{o:Option Int}{e:Dt}{q:DQ}{ρ:En}{x:DX}(i:Nat)(hi:ρ[i]? =some (some e))(mn:Uk γ ms o)(hk:gH M e=some (ms.map Dt.int))(h:q (zP o) M):Iv (pS (j0 i) BG) (dC .aE) ρ M q x:=by
 dsimp only[Iv,pS,j0,BG,dC];rw[hi];refine⟨e,ms,rfl,hk,λz=>?_,λm hm hle=>?_⟩
 ·cases o with
  | none=>exact h
  | some a=>have:=mn.mem a rfl;rw[z]at this;cases this
 ·cases o with
  | none=>rw[mn.nil rfl]at hm;cases hm
  | some a=>
   have e1:=mn.top m hm;have e2:=hle a (mn.mem a rfl);have e1:m<=a:=e1;have:a=m:=()
   rw[<-this];exact h
def nL:Ε ["_law_script","_law_rows_here","_law_floor","_law_some","_law_way","_law_mended_list","_law_place","_law_turn","_law_asked_here"] ["_law_script"] (ν QI):=.of rfl
def RC(F:cQ K "law" "law" QI f fd)(E:Ev K mg Cm CN CF Ca Cj Cd Ce Cg Ci Cb Cc Ck){Ks:Addr}{K8:FuncData}(ph:aB P w K mg base 2 "_law_rows" ["_law_script"] Ez Ks K8){mw:Addr}{lY:FuncData}(dJ:N0 P w K mg base 5 "Floor" Cm ["self","share","rows"] (JB Cm) mw lY){Kb:Addr}{JY:FuncData}(pD:aB P w K mg base 2 "_law_list" ["_law_script","_law_rows_here"] O9 Kb JY)(aA:aB P w K mg base 1 "_law_number" ["_law_script","_law_k"] Np gD gw){sJ:Addr}{sA:FuncData}(fT:aB P w K mg base 1 "_law_good" ["_law_rows_here","_law_last","_law_place"] JG sJ sA){GO:Addr}{FQ:FuncData}(mS:aB P w K mg base 11 "_law_asked" ["_law_floor","_law_rows_here","_law_some","_law_way"] (Jz Cm) GO FQ):ah P w K mg base (bM P w) 12 f fd ["_law_script"] (cZ K RF):=by
 refine F.eB nL (λds M q x h=>?_) (λaY A outer s H E' hr=>⟨_,(ζ (Δ 1 nL.nd (cz (ar ph hr ο (Θ (jv 0) η))))
   (ζ (Δ 2 nL.nd (cz (Iw dJ hr ο (μ (bQ (μ χ (μ χ η bB) bB)) (μ (cz (xw E.kI (Θ (jv 1) η))) η cw) gz))))
   (ζ (Δ 3 nL.nd (cz (ar pD hr ο (Θ (jv 0) (Θ (jv 1) η)))))
   (ζ (Δ 4 nL.nd (dU (jC (ar aA hr ο (Θ (jv 0) (μ χ η bB))) χ) χ))
   (ζ (Δ 5 nL.nd (oV η))
   (ζ (bK (aT (jv 3)) (au (i:=6) nL.nd rfl (Or.inl rfl)) aK (θ (aw (ba (ar fT hr ο (Θ (jv 1) (μ (P_ E.Ed (Θ (jv 5) η) kj) (Θ (jv 6) η) cw)))) (θ (dX (gG (jv 5) (Θ (jv 6) η)))) Η)))
   (ζ (bK (aT (iI (Θ (jv 4) (μ (nU χ (jv 4)) η dE)))) (au (i:=7) nL.nd rfl (Or.inl rfl)) aK (θ (bK (aT (iI (Θ (jv 3) (Θ (jv 5) (Θ (jv 3) η))))) (au (i:=8) nL.nd rfl (Or.inl rfl)) aK (θ (aw (km (ba (ar mS hr ο (Θ (jv 2) (Θ (jv 1) (Θ (jv 8) (Θ (jv 7) η))))))) (θ (Β AZ)) Η)))))
   (θ (Β AZ))))))))),λds M q x h=>?_⟩)
 ·have⟨ns,rfl,_⟩:=h;rfl
 ·have⟨ns,rfl,hl,hq⟩:=h;refine⟨ns,rfl,λγ r1 S7 hg=>dt (kH γ) ?_⟩;have fr:FR (1,2) γ:=.of @_ r1 S7 hg;have ro:∀r∈γ,cY r:=λr hr=>(hg r hr).1.1;walk_at "vc";refine⟨D2,?_⟩;refine MP (kH γ) ?_;refine⟨M.length,.lst (γ.map ao),(1,2),γ.map ao,γ,λ_=>True,rfl,aQ,rfl,Av γ,@_,r1,S7,λr hr=>(hg r hr).1,rfl,LC ?_⟩
  suffices body:∀is:List Int,is.length<=20->_ from⟨ns,γ,rfl,S7,ro,λis hl=>⟨D_ (d:=.lst (is.map Dt.int)) (g9 is) (body is hl),dt (g9 _) (body is hl),λm=>hU (d:=.lst (is.map Dt.int)) (.old (g9 is)) (body is hl)⟩⟩
  intro is FV;refine⟨ns,1,rfl,@_,@_,λn1 hn1=>⟨⟨@_,bg (k:=10) @_⟩,@_,@_,?_⟩⟩;have Qf:n1 / 1000 % 2=0\/n1 / 1000 % 2=1:=()
  generalize n1 / 1000 % 2=way at Qf;refine aW (i:=3) (d:=.lst (is.map Dt.int)) rfl rfl ?_;refine aO (λxs ρ M'=>∃(rest ms:List Int) (o:Option Int) (b':Option Dt),xs=rest.map Dt.int/\ms.length+rest.length<=20/\Uk γ ms o/\M'=M++[MO.lst (ms.map Dt.int)]/\ρ=[some (.ji ns),some (.lst (γ.map ao)),some (Ο Cm (1,2) γ),some (.lst (is.map Dt.int)),some (.int way),some (.loc M.length),b',none,none]) (λxs ρ M' hj=>trivial) (λx xs ρ M' hj fC=>?_) (λρ M' hj=>?_) _ _ _ ⟨is,[],none,none,rfl,by simpa using FV,⟨λ_=>rfl,λ_ z=>(nomatch z),λ_ z=>(nomatch z),λ_=>rfl,@_⟩,rfl,rfl⟩
  ·have⟨rest,ms,o,b',ex,len,mn,rfl,rfl⟩:=hj;cases rest with
   | nil=>cases ex
   | cons p rest=>
    cases ex;have len:ms.length+(rest.length+1)<=20:=len;have yD:(M++[MO.lst (ms.map Dt.int)])[M.length]? =some (.lst (ms.map Dt.int)):=aQ;have lq:gH (M++[MO.lst (ms.map Dt.int)]) (.loc M.length)=some (ms.map Dt.int):=sC (gW yD);have lt:(ms.map Dt.int).length < sizeLine:=by rw[aah];exact abc (show ms.length<=20 by omega) @_
    walk_at "vc";refine Rn 5 rfl mn lq ?_;refine⟨γ,o,p,rfl,ro,mn.ge,λz=>?_,λz=>?_⟩
    ·refine⟨⟨M.length,_,rfl,yD⟩,M.length,_,_,rfl,rfl,yD,lt,fC _ _ ⟨rest,ms++[p],some p,_,rfl,by simp;omega,mn.more z,?_,rfl⟩⟩;rw[e9,aaT];rfl
    ·exact fC _ _ ⟨rest,ms,o,_,rfl,(),mn,rfl,rfl⟩
  ·have⟨rest,ms,o,b',ex,len,mn,rfl,rfl⟩:=hj;have er:rest=[]:=by
    cases rest with
    | nil=>rfl
    | cons p rest=>cases ex
   subst er;have yD:(M++[MO.lst (ms.map Dt.int)])[M.length]? =some (.lst (ms.map Dt.int)):=aQ;have len:ms.length+0<=20:=len;generalize M++[MO.lst (ms.map Dt.int)]=M1 at *
   dsimp only[Dx,nD,da];walk_at "vc";refine⟨D2,?_⟩;refine aO (λxs ρ M'=>∃(E:Ms) (o7 o8:Option Dt),(∀x∈xs,x= .int 0\/x= .int 1)/\M'=M1++E/\ρ=[some (.ji ns),some (.lst (γ.map ao)),some (Ο Cm (1,2) γ),some (.lst (is.map Dt.int)),some (.int way),some (.loc M.length),b',o7,o8]) (λxs ρ M' hj=>trivial) (λx xs ρ M' hj fC=>?_) (λρ M' hj=>?_) _ _ _ ⟨[],none,none,?_,by simp,rfl⟩
   ·have⟨E,o7,o8,hx,rfl,rfl⟩:=hj;obtain⟨turn,rfl,ht⟩:∃turn:Int,x= .int turn/\(turn=0\/turn=1):=by
     rcases hx x aaf with rfl| rfl
     ·exact⟨0,rfl,.inl rfl⟩
     ·exact⟨1,rfl,.inr rfl⟩
    walk_at "vc";refine⟨by show 3<=sizeLine;decide,?_⟩;refine aO (λys ρ M'=>∃(E:Ms) (o8:Option Dt),(∀y∈ys,y= .lst (is.map Dt.int)\/y= .loc M.length)/\M'=M1++E/\ρ=[some (.ji ns),some (.lst (γ.map ao)),some (Ο Cm (1,2) γ),some (.lst (is.map Dt.int)),some (.int way),some (.loc M.length),b',some (.int turn),o8]) (λxs ρ M' hj=>trivial) (λy ys ρ M' hj ZH=>?_) (λρ M' hj=>?_) _ _ _ ⟨E,o8,?_,rfl,rfl⟩
    ·have⟨E2,o8',hy,rfl,rfl⟩:=hj;have any:∃js:List Int,GI (M1++E2) y js/\js.length<=40:=by
      rcases hy y aaf with rfl| rfl
      ·exact⟨is,.inl rfl,()⟩
      ·exact⟨ms,.inr ⟨M.length,rfl,bu yD⟩,()⟩
     have⟨js,ja,jl⟩:=any;refine⟨(1,2),γ,y,js,turn,rfl,ja,fr,ht,jl,λE3=>⟨nofun,λ_=>?_⟩⟩;exact ZH _ _ ⟨E2++E3,_,λz hz=>hy z (List.mem_cons_of_mem _ hz),by simp,rfl⟩
    ·have⟨E2,o8',_,rfl,rfl⟩:=hj;exact fC _ _ ⟨E2,_,_,λz hz=>hx z (aae _ hz),rfl,rfl⟩
    ·intro y hy;simp only[List.mem_cons,List.not_mem_nil,or_false]at hy;rcases hy with rfl| rfl| rfl
     ·exact .inl rfl
     ·exact .inr rfl
     ·exact .inl rfl
   ·have⟨E,o7,o8,hx,rfl,rfl⟩:=hj;exact hq _
   ·intro x hx;simp only[List.mem_cons,List.not_mem_nil,or_false]at hx;rcases hx with rfl| rfl
    ·rcases Qf with rfl| rfl
     ·exact .inl rfl
     ·exact .inr rfl
    ·rcases Qf with rfl| rfl
     ·exact .inr rfl
     ·exact .inl rfl
structure FT(K:tf)(f:Addr)(x:Str)(st:Stmt):Prop where
 a:PySem.W.nsIn K mainGlobals x=some (some (.ref f))
 e:∃fd,cQ K x x st f fd
structure FM(K:tf)(C f:Addr)(m x:Str)(st:Stmt):Prop where
 a:PySem.W.findIn K (.ref C) m=some (some (.ref f))
 i:PySem.W.isFn K (.ref f)=true
 e:∃fd,cQ K m x st f fd
section
variable{K:tf}{C:Addr}{m x:Str}{st:Stmt}{oc:Value}{od an:Option Addr}{BF:Array (Option Value)}{kV doc pm aY ct:Value}
def FT.of(a:PySem.W.nsIn K mainGlobals x=some (some (.ref f)))(l:K.lookup f=some ⟨oc,od,.func (PySem.W.fnOf x x (k7 st) (fH st) (ν st) .none kV doc pm an aY ct),BF⟩)(c:PySem.W.codeIn K aY x=true)(k:PySem.W.keepIn K (.ref f)=true):FT K f x st:=⟨a,_,Kd l c k⟩
def FM.of(a:PySem.W.findIn K (.ref C) m=some (some (.ref f)))(i:PySem.W.isFn K (.ref f)=true)(l:K.lookup f=some ⟨oc,od,.func (PySem.W.fnOf m x (k7 st) (fH st) (ν st) .none kV doc pm an aY ct),BF⟩)(c:PySem.W.codeIn K aY x=true)(k:PySem.W.keepIn K (.ref f)=true):FM K C f m x st:=⟨a,i,_,Kd l c k⟩
end
section
variable{P:List Value->Prop}
def TU(h:P []):∀us:List Value,us.length=0->P us
 | [],_=>h
 | _::_,e=>nomatch e
def gh(h:∀a0:Value,P [a0]):∀us:List Value,us.length=1->P us
 | [],e=>nomatch e
 | a::us,e=>TU (P:=λus=>P (a::us)) (h a) us (Nat.succ.inj e)
def b9(h:∀a0 a1:Value,P [a0,a1]):∀us:List Value,us.length=2->P us
 | [],e=>nomatch e
 | a::us,e=>gh (P:=λus=>P (a::us)) (h a) us (Nat.succ.inj e)
def gU(h:∀a0 a1 a2:Value,P [a0,a1,a2]):∀us:List Value,us.length=3->P us
 | [],e=>nomatch e
 | a::us,e=>b9 (P:=λus=>P (a::us)) (h a) us (Nat.succ.inj e)
def vm(h:∀a0 a1 a2 a3:Value,P [a0,a1,a2,a3]):∀us:List Value,us.length=4->P us
 | [],e=>nomatch e
 | a::us,e=>gU (P:=λus=>P (a::us)) (h a) us (Nat.succ.inj e)
def Va(h:∀a0 a1 a2 a3 a4:Value,P [a0,a1,a2,a3,a4]):∀us:List Value,us.length=5->P us
 | [],e=>nomatch e
 | a::us,e=>vm (P:=λus=>P (a::us)) (h a) us (Nat.succ.inj e)
end
def x4{K:tf}(h:PySem.W.subIn K (.type "int") (.type "bool")=some false):PySem.W.kitOne K (.type "int") (.type "bool")=some false:=by unfold PySem.W.kitOne PySem.W.kitCls;rw[aaF (by decide+kernel)];show(if PySem.W.kitMeta "bool"=true then _ else _)=_;rw[aay (by decide+kernel)];exact h
def zM{K:tf}(h:PySem.W.subIn K (.type "int") (.type "str")=some false):PySem.W.kitOne K (.type "int") (.type "str")=some false:=by unfold PySem.W.kitOne PySem.W.kitCls;rw[aaF (by decide+kernel)];show(if PySem.W.kitMeta "str"=true then _ else _)=_;rw[aay (by decide+kernel)];exact h
def uG{K:tf}(h:PySem.W.subIn K (.type "tuple") (.type "str")=some false):PySem.W.kitOne K (.type "tuple") (.type "str")=some false:=by unfold PySem.W.kitOne PySem.W.kitCls;rw[aaF (by decide+kernel)];show(if PySem.W.kitMeta "str"=true then _ else _)=_;rw[aay (by decide+kernel)];exact h
def uB{K:tf}(h:PySem.W.subIn K (.type "tuple") (.type "int")=some false):PySem.W.kitOne K (.type "tuple") (.type "int")=some false:=by unfold PySem.W.kitOne PySem.W.kitCls;rw[aaF (by decide+kernel)];show(if PySem.W.kitMeta "int"=true then _ else _)=_;rw[aay (by decide+kernel)];exact h
def xc{K:tf}(h:PySem.W.subIn K (.type "list") (.type "str")=some false):PySem.W.kitOne K (.type "list") (.type "str")=some false:=by unfold PySem.W.kitOne PySem.W.kitCls;rw[aaF (by decide+kernel)];show(if PySem.W.kitMeta "str"=true then _ else _)=_;rw[aay (by decide+kernel)];exact h
def xn{K:tf}(h:PySem.W.subIn K (.type "list") (.type "int")=some false):PySem.W.kitOne K (.type "list") (.type "int")=some false:=by unfold PySem.W.kitOne PySem.W.kitCls;rw[aaF (by decide+kernel)];show(if PySem.W.kitMeta "int"=true then _ else _)=_;rw[aay (by decide+kernel)];exact h
def rJ{K:tf}(h:PySem.W.subIn K (.type "tuple") (.type "list")=some false):PySem.W.kitOne K (.type "tuple") (.type "list")=some false:=by unfold PySem.W.kitOne PySem.W.kitCls;rw[aaF (by decide+kernel)];show(if PySem.W.kitMeta "list"=true then _ else _)=_;rw[aay (by decide+kernel)];exact h
def rM{K:tf}(h:PySem.W.subIn K (.type "list") (.type "tuple")=some false):PySem.W.kitOne K (.type "list") (.type "tuple")=some false:=by unfold PySem.W.kitOne PySem.W.kitCls;rw[aaF (by decide+kernel)];show(if PySem.W.kitMeta "tuple"=true then _ else _)=_;rw[aay (by decide+kernel)];exact h
open PySem.W in
def all_mk{l:OpenLaw}{w:World}{K:Frag}{h:Heap}{fa Cl Cf Ca Cm Eh Cj Cd Ce Cg Ci Cb Cc Ck f1 f2 f3 f4 f5 f6 f7 f8 f9 f10 f11 V8 f13 f14 f15 f16 f17 f18 f19 f20 f21 f22 f23 f24 f25 f26 f27 f28 f29 f30 f31 f32 f33 f34 f35 f36 f37 f38 f39 f40 f41 f42 f43 f44 f45 f46 f47 f48 f49 f50 f51 f52 f53 f54 f55 f56 f57 f58:Addr}(X:K.In h)(G:h.Ns mainGlobals mg)(hfa:mg "law"=some (.ref fa))
  {xy uk ug lC:Tok}
  (BR:nsIn K mainGlobals "NoNumber"=some (some (.ref Cl))) (C7:excIn K Cl [.type "ValueError",.type "Exception",.type "BaseException",.type "object"] "ValueError.__new__"=true)
  (Hk:nsIn K mainGlobals "NoFloor"=some (some (.ref Cf))) (GR:excIn K Cf [.type "ValueError",.type "Exception",.type "BaseException",.type "object"] "ValueError.__new__"=true)
  (As:nsIn K mainGlobals "DuelError"=some (some (.ref Ca))) (Ar:excIn K Ca [.type "ValueError",.type "Exception",.type "BaseException",.type "object"] "ValueError.__new__"=true)
  (Ag:nsIn K mainGlobals "NoGoal"=some (some (.ref Cj)))
  (Je:nsIn K mainGlobals "NoText"=some (some (.ref Cd)))
  (HQ:nsIn K mainGlobals "NoName"=some (some (.ref Ce)))
  (Fu:nsIn K mainGlobals "NoPlace"=some (some (.ref Cg)))
  (Ja:nsIn K mainGlobals "NoPlan"=some (some (.ref Ci)))
  (CB:nsIn K mainGlobals "NoAnswer"=some (some (.ref Cb)))
  (uz:nsIn K mainGlobals "ManyAnswers"=some (some (.ref Cc)))
  (Mu:nsIn K mainGlobals "NoRow"=some (some (.ref Ck)))
  (wY:nsIn K mainGlobals "MOST_DOORS"=some (some (.int (6) xy)))
  (uF:nsIn K mainGlobals "MOST_BOTTOM"=some (some (.int (1000000) uk)))
  (uf:nsIn K mainGlobals "MOST_PLACES"=some (some (.int (12) ug)))
  (lA:nsIn K mainGlobals "MOST_SHARE_BOTTOM"=some (some (.int (1000) lC)))
  (Nb:nsIn K mainGlobals "Floor"=some (some (.ref Cm))) (lj:plainGet K Cm Str.empty=true) (lh:hasDictIn K Cm=true) (kJ:plainOver K Cm=true) (kU:findIn K (.ref Cm) "__setattr__"=some (some (.builtin "object.__setattr__"))) (NA:makesIn K Cm=true) (Nn:keepIn K (.ref Cm)=true)
  (yc:findIn K (.ref Cm) "kept_rows"=some none)
  (tZ:findIn K (.ref Cm) "kept_share"=some none)
  {KN Ke:Tok} {Ll:Option Addr} {Kw:Array (Option Value)} {HJ:Nat} (Jd:nsIn K mainGlobals "HANDS"=some (some (.ref Eh))) (Ij:K.lookup Eh=some ⟨.type "tuple",Ll,.seq #[(.str "one" KN),(.str "other" Ke)] HJ,Kw⟩)
  (AH:subIn K (.type "int") (.type "bool")=some false)
  (Dc:subIn K (.type "int") (.type "str")=some false)
  (yn:subIn K (.type "tuple") (.type "str")=some false)
  (wM:subIn K (.type "tuple") (.type "int")=some false)
  (zm:subIn K (.type "list") (.type "str")=some false)
  (zN:subIn K (.type "list") (.type "int")=some false)
  (tX:subIn K (.type "tuple") (.type "list")=some false)
  (tY:subIn K (.type "list") (.type "tuple")=some false)
  (t1:FT K f1 "_law_number" mz)
  (t2:FT K f2 "_law_rows" qM)
  (t3:FT K f3 "fits_share" mD)
  (t4:FT K f4 "fits_pay" rY)
  (t5:FT K f5 "fits_door" pb)
  (t6:FT K f6 "fits_doors" mf)
  (t7:FT K f7 "common_divisor" gf)
  (t8:FT K f8 "common_bottom" hV)
  (t9:FT K f9 "fits_chances" jj)
  (t10:FT K f10 "fits_row" qN)
  (t11:FT K f11 "copied_row" my)
  (t12:FM K Cm V8 "__init__" "Floor.__init__" mP)
  (t13:FT K f13 "_law_odd" xo)
  (t14:FT K f14 "_law_list" tw)
  (t15:FT K f15 "_law_good" sN)
  (t16:FM K Cm f16 "kind" "Floor.kind" lW)
  (t17:FM K Cm f17 "size" "Floor.size" md)
  (t18:FM K Cj f18 "__init__" "NoGoal.__init__" j1)
  (t19:FT K f19 "check_goals" j5)
  (t20:FM K Cm f20 "doors" "Floor.doors" jT)
  (t21:FT K f21 "is_drawn" qK)
  (t22:FT K f22 "drawn_next" mW)
  (t23:FT K f23 "draw" K1)
  (t24:FT K f24 "places_of" oM)
  (t25:FT K f25 "drawn_door" mI)
  (t26:FT K f26 "drawn_plan" mV)
  (t27:FT K f27 "first_plan" mj)
  (t28:FT K f28 "with_weights" jh)
  (t29:FT K f29 "number_of_head" ij)
  (t30:FT K f30 "moved_ahead" jX)
  (t31:FT K f31 "cleared_line" jn)
  (t32:FT K f32 "cleared" rH)
  (t33:FT K f33 "fraction" pM)
  (t34:FT K f34 "quotients" l9)
  (t35:FT K f35 "answer_of" oF)
  (t36:FT K f36 "minus" BN)
  (t37:FT K f37 "times" C4)
  (t38:FT K f38 "whole_row" oY)
  (t39:FT K f39 "led_row" wA)
  (t40:FT K f40 "ways_from" pw)
  (t41:FT K f41 "chance_row" mR)
  (t42:FT K f42 "chances_by" mH)
  (t43:FT K f43 "under" Cn)
  (t44:FT K f44 "greatest" pN)
  (t45:FT K f45 "least" BS)
  (t46:FT K f46 "better_led" mB)
  (t47:FT K f47 "kept_least" mJ)
  (t48:FM K Cm f48 "rows" "Floor.rows" lQ)
  (t49:FT K f49 "held_row" qO)
  (t50:FM K Cm f50 "share" "Floor.share" jV)
  (t51:FT K f51 "steps_by" tQ)
  (t52:FT K f52 "chances" tG)
  (t53:FT K f53 "_law_told" sP)
  (t54:FT K f54 "_law_first_bad" ju)
  (t55:FT K f55 "_law_answered" jr)
  (t56:FT K f56 "_law_refused" jY)
  (t57:FT K f57 "_law_asked" oH)
  (t58:FT K f58 "law" QI)
  (UZ:nsIn K mainGlobals "len"=some none)
  (SO:nsIn K mainGlobals "abs"=some none)
  (xg:nsIn K mainGlobals "isinstance"=some none)
  (T3:nsIn K mainGlobals "int"=some none)
  (Qb:nsIn K mainGlobals "bool"=some none)
  (T5:nsIn K mainGlobals "str"=some none)
  (NL:nsIn K mainGlobals "tuple"=some none)
  (Rr:nsIn K mainGlobals "list"=some none)
  (Mh:nsIn K mainGlobals "range"=some none)
  (AS:nsIn K mainGlobals "enumerate"=some none)
  (Ud:nsIn K mainGlobals "any"=some none)
  (VP:nsIn K mainGlobals "all"=some none)
  (U8:nsIn K mainGlobals "sum"=some none)
  (UE:nsIn K mainGlobals "zip"=some none)
  (Uh:nsIn K mainGlobals "max"=some none)
  (S8:nsIn K mainGlobals "min"=some none)
  (w_:nsIn K mainGlobals "ValueError"=some none)
  (RP:nsIn K mainGlobals "dict"=some none)
  (Vl:specialIn K (.ref Ca) "__getattribute__"=some (some (.builtin "type.__getattribute__")))
  (UA:readsIn K Ca (.type "type")=true)
  (TN:findCls K (.ref Ca) (.type "type") "__init__"=some (.val (.builtin "ValueError.__init__")))
  (zD:isClsIn K Cj=true)
  (Co:findIn K (.ref Cj) "__getattribute__"=some (some (.builtin "BaseException.__getattribute__")))
  (B':findIn K (.ref Cj) "__getattr__"=some none)
  (BC:findIn K (.ref Cj) "__class__"=some (some (.builtin "object.__class__")))
  (Df:mroIn K Cj (.type "object")=some true)
  (CO:subIn K (.ref Cj) (.type "BaseException")=some true)
  (nC:subIn K (.ref Cj) (.ref Ca)=some true)
  (k_:kitOne K (.ref Cj) (.type "ValueError")=some true)
  (IW:hasDictIn K Cj=true)
  (qe:takerIn K Cj "place"=some none)
  (qb:findIn K (.ref Cj) "place"=some none)
  (bU:kitOne K (.ref Cj) (.ref Cl)=some false)
  (ck:kitOne K (.ref Cj) (.ref Cf)=some false)
  (cX:kitOne K (.ref Cj) (.ref Cd)=some false)
  (cT:kitOne K (.ref Cj) (.ref Ce)=some false)
  (cq:kitOne K (.ref Cj) (.ref Cg)=some false)
  (cM:kitOne K (.ref Cj) (.ref Ci)=some false)
  (bY:kitOne K (.ref Cj) (.ref Cb)=some false)
  (bA:kitOne K (.ref Cj) (.ref Cc)=some false)
  (dh:kitOne K (.ref Cj) (.ref Ck)=some false)
  (zY:L2.BE K Cj [.type "ValueError",.type "Exception",.type "BaseException",.type "object"] "ValueError.__new__" f18=true)
  (zE:findIn K (.ref Cj) "__setattr__"=some (some (.builtin "object.__setattr__")))
  (zy:nY K Cj=true)
  :∃fd:FuncData,(∀(s:Shared) (v:Value),BindsTo s fd ⟨[v],[]⟩ [("_law_script",v)])/\∀base:Heap,K.In base->base.Ns mainGlobals mg->ah l.prog w K mg base Wk 12 fa fd ["_law_script"] (y4 K):=by
 have⟨a1,_,F1⟩:=t1;have⟨a2,_,F2⟩:=t2;have⟨a3,_,F3⟩:=t3;have⟨a4,_,F4⟩:=t4;have⟨a5,_,F5⟩:=t5;have⟨a6,_,F6⟩:=t6;have⟨a7,_,F7⟩:=t7;have⟨a8,_,F8⟩:=t8;have⟨a9,_,F9⟩:=t9;have⟨Y',_,Yd⟩:=t10;have⟨a11,_,Zl⟩:=t11;have⟨a12,i12,_,F12⟩:=t12;have⟨a13,_,Yp⟩:=t13;have⟨a14,_,W4⟩:=t14;have⟨a15,_,X5⟩:=t15;have⟨a16,i16,_,Xq⟩:=t16;have⟨a17,i17,_,ZN⟩:=t17;have⟨a18,i18,_,F18⟩:=t18;have⟨a19,_,Yr⟩:=t19;have⟨a20,i20,_,Xl⟩:=t20;have⟨a21,_,Zt⟩:=t21;have⟨a22,_,YX⟩:=t22;have⟨a23,_,XG⟩:=t23;have⟨a24,_,Zr⟩:=t24;have⟨a25,_,YC⟩:=t25;have⟨a26,_,Xw⟩:=t26;have⟨a27,_,YO⟩:=t27;have⟨a28,_,Zw⟩:=t28;have⟨a29,_,Yb⟩:=t29;have⟨a30,_,XW⟩:=t30;have⟨a31,_,Ym⟩:=t31;have⟨a32,_,YK⟩:=t32;have⟨a33,_,XZ⟩:=t33;have⟨a34,_,Z9⟩:=t34;have⟨a35,_,ZC⟩:=t35;have⟨a36,_,YZ⟩:=t36;have⟨a37,_,W5⟩:=t37;have⟨a38,_,ZD⟩:=t38;have⟨a39,_,Xu⟩:=t39;have⟨a40,_,Zq⟩:=t40;have⟨a41,_,Xz⟩:=t41;have⟨a42,_,X2⟩:=t42;have⟨a43,_,ZJ⟩:=t43;have⟨a44,_,Xf⟩:=t44;have⟨a45,_,Zs⟩:=t45;have⟨a46,_,Xo⟩:=t46;have⟨a47,_,ZE⟩:=t47;have⟨a48,i48,_,YT⟩:=t48;have⟨a49,_,Z5⟩:=t49;have⟨a50,i50,_,ZO⟩:=t50;have⟨a51,_,YQ⟩:=t51;have⟨a52,_,XY⟩:=t52;have⟨a53,_,Xx⟩:=t53;have⟨a54,_,Zm⟩:=t54;have⟨a55,_,Z1⟩:=t55;have⟨a56,_,YM⟩:=t56;have⟨a57,_,Z8⟩:=t57;have⟨a58,dL,F58⟩:=t58;have e:=hfa.symm.trans (mg_of X G a58);cases e;have B2:=mg_of X G BR;have Gf:gA K Cl _ _:=⟨C7⟩;have Hc:=mg_of X G Hk;have Ki:gA K Cf _ _:=⟨GR⟩;have Ad:=mg_of X G As;have Bg:gA K Ca _ _:=⟨Ar⟩;have xp:=mg_of X G wY;have uy:=mg_of X G uF;have uv:=mg_of X G uf;have lD:=mg_of X G lA;have bS:=mg_none_of X G UZ;have va:=mg_none_of X G SO;have Χ:=mg_none_of X G xg;have D1:=mg_none_of X G T3;have wd:=mg_none_of X G Qb;have KW:=mg_none_of X G T5;have qt:=mg_none_of X G NL;have kI:=mg_none_of X G Rr;have cW:=mg_none_of X G Mh;have bT:=mg_none_of X G AS;have yJ:=mg_none_of X G Ud;have AO:=mg_none_of X G VP;have EU:=mg_none_of X G U8;have zc:=mg_none_of X G UE;have Ed:=mg_none_of X G Uh;have IX:=mg_none_of X G S8;have fF:=mg_none_of X G w_;have yr:=mg_none_of X G RP;have E:Ev K mg Cm Cl Cf Ca Cj Cd Ce Cg Ci Cb Cc Ck:={bS:=bS,va:=va,Χ:=Χ,D1:=D1,wd:=wd,KW:=KW,qt:=qt,kI:=kI,cW:=cW,bT:=bT,yJ:=yJ,AO:=AO,EU:=EU,zc:=zc,Ed:=Ed,IX:=IX,fF:=fF,ib:=x4 AH,kis:=zM Dc,kts:=uG yn,kti:=uB wM,kls:=xc zm,kli:=xn zN,W0:=rJ tX,klt:=rM tY,vo:=B2,zb:=Hc,mL:=Ad,Ei:=mg_of X G Ag,Fd:=mg_of X G Je,ES:=mg_of X G HQ,zV:=mg_of X G Fu,EL:=mg_of X G Ja,vK:=mg_of X G CB,om:=mg_of X G uz,J1:=mg_of X G Mu,GL:=Gf,KY:=Ki,tj:=Bg,qQ:=⟨Vl,UA,TN,@_⟩,b6:=⟨zD,Co,B',BC,Df,CO⟩,nC:=nC,k_:=k_,j7:=⟨qe⟩,dR:=⟨qb,IW⟩,bU:=bU,ck:=ck,cX:=cX,cT:=cT,cq:=cq,cM:=cM,bY:=bY,bA:=bA,dh:=dh,fi:=⟨lj,lh,kJ,kU⟩,cJ:=yc,h_:=tZ,yr:=yr,Dw:=⟨_,_,_,_,mg_of X G Jd,Ij,rfl,rfl,D2,.cons ⟨_,rfl⟩ (.cons ⟨_,rfl⟩ .nil)⟩,p8:=⟨_,xp⟩,jo:=⟨_,uy⟩,ny:=⟨_,uv⟩,fX:=⟨_,lD⟩};refine⟨dL,λs v=>by have⟨_,_,_,_,_,_,_,_,_,rfl,_⟩:=F58.ex;exact .of_eq rfl,λbase _ _=>?_⟩;have mc:=@aB.mk l.prog w K mg base;have aA:=(yi F1 E)&&&(F1,a1,b9 λ_ _=>rfl);have ph:=(By F2 E aA)&&&(F2,a2,gh λ_=>rfl);have kD:=(xi F3 E)&&&(F3,a3,gh λ_=>rfl);have fW:=(BA F4 E)&&&(F4,a4,gh λ_=>rfl);have mM:=(AU F5 E fW)&&&(F5,a5,b9 λ_ _=>rfl);have gO:=(wz F6 E mM)&&&(F6,a6,b9 λ_ _=>rfl);have bF:=(pG F7 E)&&&(F7,a7,b9 λ_ _=>rfl);have bO:=(qh F8 E bF)&&&(F8,a8,gh λ_=>rfl);have iq:=(r6 F9 E bO)&&&(F9,a9,gh λ_=>rfl);have pe:=(A4 Yd E fW gO iq)&&&(Yd,Y',b9 λ_ _=>rfl);have dI:=(xE Zl E)&&&(Zl,a11,gh λ_=>rfl);have dJ:N0 l.prog w K mg base _ "Floor" Cm _ _ _ _:=⟨xF F12 E kD pe dI,(F12.binds λ_ _ _ _ _ _=>gU λ_ _ _=>rfl),⟨NA,a12,i12,Nn⟩,mg_of X G Nb⟩;have nN:=(FI Yp E)&&&(Yp,a13,b9 λ_ _=>rfl);have pD:=(Dg W4 E aA nN)&&&(W4,a14,b9 λ_ _=>rfl);have fT:=(Dj X5 E)&&&(X5,a15,gU λ_ _ _=>rfl);have ae:fv l.prog w K mg base _ Cm "kind" _ _ _ _:=(xM Xq E)|||(Xq,a16,i16,b9 λ_ _=>rfl);have af:fv l.prog w K mg base _ Cm "size" _ _ _ _:=(wR ZN E)|||(ZN,a17,i17,gh λ_=>rfl);have i6:ZP l.prog w K mg base _ "NoGoal" Cj VB "ValueError.__new__" _ _ _ _:=⟨uI F18 E ⟨zY,i18,zE,zy⟩,(F18.binds λ_ _ _ _ _ _=>b9 λ_ _=>rfl),⟨zY,i18,zE,zy⟩,mg_of X G Ag⟩;have i5:=(um Yr E ae af i6)&&&(Yr,a19,b9 λ_ _=>rfl);have aG:fv l.prog w K mg base _ Cm "doors" _ _ _ _:=(uA Xl E ae)|||(Xl,a20,i20,b9 λ_ _=>rfl);have oZ:=(BY Zt E ae aG)&&&(Zt,a21,gU λ_ _ _=>rfl);have gZ:=(yf YX E af oZ)&&&(YX,a22,b9 λ_ _=>rfl);have i4:=(Nk XG E i5 af gZ)&&&(XG,a23,b9 λ_ _=>rfl);have eR:=(An Zr E af ae)&&&(Zr,a24,b9 λ_ _=>rfl);have jR:=(xu YC E aG)&&&(YC,a25,gU λ_ _ _=>rfl);have jM:=(wu Xw E eR jR)&&&(Xw,a26,b9 λ_ _=>rfl);have kh:=(xt YO E eR)&&&(YO,a27,b9 λ_ _=>rfl);have ik:=(qL Zw E)&&&(Zw,a28,gh λ_=>rfl);have fZ:=(qa Yb E)&&&(Yb,a29,gU λ_ _ _=>rfl);have i0:=(uh XW E)&&&(XW,a30,gU λ_ _ _=>rfl);have e6:=(sQ Ym E)&&&(Ym,a31,vm λ_ _ _ _=>rfl);have pH:=(CA YK E ik fZ i0 e6)&&&(YK,a32,b9 λ_ _=>rfl);have bW:=(y_ XZ E bF)&&&(XZ,a33,b9 λ_ _=>rfl);have j_:=(wq Z9 E bW)&&&(Z9,a34,vm λ_ _ _ _=>rfl);have ma:=(zO ZC E pH j_)&&&(ZC,a35,gh λ_=>rfl);have wU:=(IU YZ E bW)&&&(YZ,a36,b9 λ_ _=>rfl);have yp:=(LM W5 E bW)&&&(W5,a37,b9 λ_ _=>rfl);have mX:=(AL ZD E bO)&&&(ZD,a38,gh λ_=>rfl);have jQ:=(Gq Xu E af wU yp mX)&&&(Xu,a39,Va λ_ _ _ _ _=>rfl);have lR:=(yI Zq E aG ae)&&&(Zq,a40,gU λ_ _ _=>rfl);have kB:=(yo Xz E jQ lR)&&&(Xz,a41,vm λ_ _ _ _=>rfl);have j6:=(wc X2 E ma af kB)&&&(X2,a42,vm λ_ _ _ _=>rfl);have k6:=(Jj ZJ E)&&&(ZJ,a43,b9 λ_ _=>rfl);have lV:=(AB Xf E k6)&&&(Xf,a44,gh λ_=>rfl);have wZ:=(HL Zs E k6)&&&(Zs,a45,gh λ_=>rfl);have dH:=(yA Xo E aG ae lV wZ)&&&(Xo,a46,gU λ_ _ _=>rfl);have jP:=(v9 ZE E kh j6 dH)&&&(ZE,a47,gU λ_ _ _=>rfl);have kx:fv l.prog w K mg base _ Cm "rows" _ _ _ _:=(xr YT E dI)|||(YT,a48,i48,gh λ_=>rfl);have oS:=(BB Z5 E)&&&(Z5,a49,gU λ_ _ _=>rfl);have iZ:fv l.prog w K mg base _ Cm "share" _ _ _ _:=(uj ZO E)|||(ZO,a50,i50,gh λ_=>rfl);have pA:=(Bq YQ E kx oS i4 dJ iZ)&&&(YQ,a51,gU λ_ _ _=>rfl);have oJ:=(Bb XY E i4 jM jP dH pA)&&&(XY,a52,b9 λ_ _=>rfl);have pj:=(B5 Xx E i4 oJ)&&&(Xx,a53,gU λ_ _ _=>rfl);have ix:=(rq Zm E fT)&&&(Zm,a54,b9 λ_ _=>rfl);have hW:=(sL Z1 E)&&&(Z1,a55,gU λ_ _ _=>rfl);have i8:=(uc YM E)&&&(YM,a56,b9 λ_ _=>rfl);have mS:=(Ay Z8 E pj ix hW i8)&&&(Z8,a57,vm λ_ _ _ _=>rfl);exact PC (RC F58 E ph dJ pD aA fT mS)
def walk{l:PySem.W.OpenLaw}{q:Program}{loose:List Str}{XP:(Str->Option Value)->Heap->Prop}{YP:World->Heap->Prop}{d:DefRec}{K:Params->tf}(hn:l.most=some 63)(U4:d.params.defaults=[])
  (hY:∀(w:World) (h:Heap),YP w h->(K w.params).In h)
  (F:∀(w:World) (mg:Str->Option Value) (fa:Addr) (h:Heap),(K w.params).In h->h.Ns mainGlobals mg->mg d.name=some (.ref fa)->
   ∃fd:FuncData,(∀(s:Shared) (u:Value),BindsTo s fd ⟨[u],[]⟩ [("_law_script",u)])/\∀base:Heap,(K w.params).In base->base.Ns mainGlobals mg->ah l.prog w (K w.params) mg base Wk 12 fa fd ["_law_script"] (y4 (K w.params))):
  PySem.W.WalkO q loose XP YP l.row.toRowW d [] (λf vs=>PySem.call f vs):=
 L2.wQ (n:=63) (k:=12) (x:="_law_script") (CX:=λ_=>Wk) (sp:=λw=>y4 (K w.params)) hn @_ U4 ⟨rfl,@_,@_⟩ hY F (λ_ _ a ns hl _ hS=>⟨a,ns,rfl,hS,hl,λ_=>rfl⟩) λ_ _ _ _ _ z=>z
end
end Pg
open PySem PySem.W PyProof.Rows
set_option maxRecDepth 100000 in
set_option maxHeartbeats 0 in
theorem PySem.Challenge.cw_chanceduel_k42_no_goals_holds : PySem.Challenge.rw_chanceduel_k42_no_goals.Holds := by
 w_on;o_law
 refine holds_open (q:=Hd.q) (loose:=[]) (Xt:=Hd.Xt) (XP:=XL Hd.q [])
  (Yf:=Hd.H.obs) (Ya:=Hd.H.val) (YP:=Hd.H.says) Hd.left Hd.H.of Hd.H.keeps
  (λs e=>xl_of s (Bool.and_eq_true_iff.mp e).1) XL.keeps (by rfl) (by rfl) (by rfl)
  (λs e=>recFacts_of (Bool.and_eq_true_iff.mp e).2) (by rfl) (by assumption) (by decide+kernel)
  ⟨rfl,rfl,rfl,rfl,rfl,by decide+kernel⟩ ?hw ?hc
 (case hw=>w_witness2)
 refine Pg.walk (l:=PySem.Challenge.rw_chanceduel_k42_no_goals) rfl rfl (fun w h Y=>PySem.W.kIn_of Y) ?F
 case F=>
  k_fill
  intro w mg fa h KX G Mt
  refine' Pg.all_mk KX G Mt ?_ ?_ ?_ ?_ ?_ ?_ ?_ ?_ ?_ ?_ ?_ ?_ ?_ ?_ ?_ ?_ ?_ ?_ ?_ ?_ ?_ ?_ ?_ ?_ ?_ ?_ ?_ ?_ ?_ ?_ ?_ ?_ ?_ ?_ ?_ ?_ ?_ ?_ ?_ ?_ ?_ ?_ ?_ ?_ ?_ ?_ ?_ ?_ ?_ ?_ ?_ ?_ ?_ ?_ ?_ ?_ ?_ ?_ ?_ ?_ ?_ ?_ ?_ ?_ ?_ ?_ ?_ ?_ ?_ ?_ ?_ ?_ ?_ ?_ ?_ ?_ ?_ ?_ ?_ ?_ ?_ ?_ ?_ ?_ ?_ ?_ ?_ ?_ ?_ ?_ ?_ ?_ ?_ ?_ ?_ ?_ ?_ ?_ ?_ ?_ ?_ ?_ ?_ ?_ ?_ ?_ ?_ ?_ ?_ ?_ ?_ ?_ ?_ ?_ ?_ ?_ ?_ ?_ ?_ ?_ ?_ ?_ ?_ ?_ ?_ ?_ ?_ ?_ ?_ ?_ ?_ ?_ ?_ ?_ ?_ ?_ ?_ ?_ ?_
  all_goals try first| (refine' Pg.FT.of ?_ ?_ ?_ ?_ <;> try k_is)| (refine' Pg.FM.of ?_ ?_ ?_ ?_ ?_ <;> try k_is)| k_is| k_exc| kernel_rfl
