import PyProof.Rows.All
import Wide.All
import OpenK.AllK
import Wide.FinOn
import Lean
import PyProof.EqAt
import PyProof.EqKinds
import PyProof.TupleCall
import PyProof.NeKinds
import PyProof.ZipIter
import PyProof.DictUpdate
import PyProof.FactsAll.dict_1
import PyProof.DictIter
import PyProof.DictWalks
import KE.KDictLaws
import PySem.Challenge.RW_chanceduel_k64_a_mean_by_all_plays
set_option Elab.async false
set_option linter.all false
set_option maxRecDepth 100000
set_option maxHeartbeats 4000000
set_option compiler.extract_closed false
def aaa:=@List.getElem?_eq_getElem
def aab:=@List.getD_eq_getElem?_getD
def aac:=@List.length_map
def aad:=@List.mem_cons_of_mem
def aae:=@List.mem_cons_self
def aaf:=@List.length_append
def aag:=@List.mem_of_getElem?
def aah:=@List.getElem?_eq_some_iff
def aai:=@Int.le_of_lt
def aaj:=@Int.mul_le_mul_of_nonneg_right
def aak:=@PySem.wpAny_bind
def aal:=@PySem.Heap.get?_push_of_some
def aam:=@Nat.le_refl
def aan:=@Option.some.inj
def aao:=@PySem.Heap.lt_size
def aap:=@List.getElem?_append_right
def aaq:=@Nat.lt_of_lt_of_le
def aar:=@Int.lt_of_le_of_lt
def aas:=@List.mem_map
def aat:=@decide_eq_true_iff
def aau:=@Bool.false_ne_true
def aav:=@decide_eq_true
def aaw:=@List.length_cons
def aax:=@List.getElem?_map
def aay:=@List.getElem?_append_left
def aaz:=@List.getElem_mem
def aaA:=@if_neg
def aaB:=@List.mem_append_right
def aaC:=@Int.mul_pos
def aaD:=@decide_eq_false
def aaE:=@if_pos
def aaF:=@Bool.and_eq_true
def aaG:=@List.append_nil
def aaH:=@of_decide_eq_true
def aaI:=@Nat.le_trans
def aaJ:=@absurd
def aaK:=@Nat.ne_of_lt
def aaL:=@PySem.wpAny_pure
def aaM:=@Nat.lt_of_le_of_lt
def aaN:=@Int.emod_lt_of_pos
def aaO:=@List.map_map
def aaP:=@List.mem_cons
def aaQ:=@PySem.Heap.get?_push_size
def aaR:=@Int.ne_of_gt
def aaS:=@List.map_cons
def aaT:=@Int.mul_comm
def aaU:=@Int.emod_nonneg
def aaV:=@List.length_replicate
def aaW:=@of_decide_eq_false
def aaX:=@List.zip_cons_cons
def aaY:=@Rat.intCast_mul
def aaZ:=@List.size_toArray
def aa0:=@Int.pow_succ
def aa1:=@Int.lt_of_lt_of_le
def aa2:=@List.mem_append
def aa3:=@List.nil_append
def aa4:=@Int.mul_nonneg
def aa5:=@congrArg
def aa6:=@Nat.pow_le_pow_right
def aa7:=@Int.natAbs_of_nonneg
def aa8:=@Int.mul_le_mul_of_nonneg_left
def aa9:=@List.replicate_succ
def aba:=@Int.mul_le_mul
def abb:=@List.length_zip
def abc:=@Int.natCast_add
def abd:=@List.map_append
def abe:=@List.getElem?_set_self
def abf:=@Int.toNat_of_nonneg
def abg:=@List.drop_eq_getElem_cons
def abh:=@Int.natAbs_mul
def abi:=@beq_iff_eq
def abj:=@Int.mul_ediv_cancel_left
def abk:=@Nat.le_add_right
def abl:=@List.getElem?_set_ne
def abm:=@List.flatten_cons
def abn:=@List.append_assoc
def abo:=@Int.toNat_natCast
def abp:=@List.of_mem_zip
def abq:=@List.length_set
def abr:=@Int.pow_pos
def abt:=@List.map_congr_left
def abu:=@Int.fmod_eq_emod_of_nonneg
def abv:=@Int.fdiv_eq_ediv_of_nonneg
def abw:=@List.lookup_cons
def abx:=@Nat.lt_irrefl
def aby:=@Int.eq_of_mul_eq_mul_left
def abz:=@List.mem_append_left
def abA:=@Option.isSome_iff_exists
def abB:=@Int.ofNat_lt
def abC:=@List.getElem?_replicate
def abD:=@List.all_cons
def abE:=@List.any_cons
def abF:=@List.getElem?_range
def abG:=@PySem.wpAny_mono
def abH:=@List.range_succ_eq_map
def abI:=@List.drop_eq_nil_of_le
def abJ:=@Option.map_eq_some_iff
def abK:=@Nat.zero_le
def abL:=@List.nodup_cons
def abM:=@List.range_succ
def abN:=@Int.natCast_pow
def abO:=@Int.one_mul
def abP:=@List.getElem?_eq_none
def abQ:=@Int.mul_assoc
def abR:=@Array.getElem?_eq_some_iff
def abS:=@List.getElem?_zip_eq_some
def abT:=@Array.getElem?_eq_getElem
def abU:=@List.mem_range
def abV:=@Int.mul_neg_of_pos_of_neg
def abW:=@Int.le_of_mul_le_mul_left
def abX:=@Nat.lt_succ_self
def abY:=@List.all_eq_true
def abZ:=@Nat.succ_le_succ
def ab0:=@Int.mul_one
def ab1:=@Int.le_trans
def ab2:=@List.mem_filterMap
def ab3:=@List.foldl_cons
def ab4:=@Int.le_of_dvd
def ab5:=@Bool.true_and
def ab6:=@Nat.not_lt_zero
def ab7:=@Bool.or_eq_true
def ab8:=@List.length_range
def ab9:=@Int.pow_add
def aca:=@Int.pow_nonneg
def acb:=@Nat.ne_of_gt
def acd:=@Int.dvd_zero
def ace:=@Int.lt_or_le
def acf:=@Int.lt_trans
def acg:=@Nat.succ.inj
namespace Hd
open PySem PySem.W PyProof.Rows
def at_(i:Nat):Stmt:=PySem.Challenge.pw_chanceduel_k64_a_mean_by_all_plays.main.body.getD i (.Pass ⟨0,0,0,0⟩)
def Gv:Stmt->Nat->Stmt
  | .ClassDef _ _ _ b _ _ _ _ _ _ _,j=>b.getD j (.Pass ⟨0,0,0,0⟩)
  | s,_=>s
def dA:Stmt->Arguments
  | .FunctionDef _ a _ _ _ _ _ _ _ _=>a
  | _=>⟨[],[],none,[],[],none,[]⟩
def dB:Stmt->List Stmt
  | .FunctionDef _ _ b _ _ _ _ _ _ _=>b
  | _=>[]
def dS:Stmt->Scope
  | .FunctionDef _ _ _ _ _ _ c _ _ _=>c
  | _=>{kind:= .function,names:=[],isGenerator:=false,isCoroutine:=false}
abbrev row:=PySem.Challenge.rw_chanceduel_k64_a_mean_by_all_plays.row
abbrev en(P:Params)(x:Str)(t:Tok)(v:Value):DictEntry:=⟨PyData.keyHash P x, .str x t,v⟩
def q:Program:={PySem.Challenge.pw_chanceduel_k64_a_mean_by_all_plays with main:={PySem.Challenge.pw_chanceduel_k64_a_mean_by_all_plays.main with body:=[at_ 0,at_ 2,at_ 3,at_ 4,at_ 5,at_ 6,at_ 8,at_ 9,at_ 10,at_ 11,at_ 12,at_ 14,at_ 15,at_ 16,at_ 17,at_ 18,at_ 19,at_ 20,at_ 21,at_ 22,at_ 23,at_ 25,at_ 26,at_ 27,at_ 28,at_ 29,at_ 30,at_ 31,at_ 33,at_ 34,at_ 35,at_ 37,at_ 38,at_ 39,at_ 40,at_ 41,at_ 42,at_ 43,at_ 45,at_ 46,at_ 47,at_ 48,at_ 49,at_ 50,at_ 51,at_ 52,at_ 53,at_ 54,at_ 55,at_ 56,at_ 57,at_ 58,at_ 59]}}
abbrev cO(x q:Str)(t l n f a m:Nat):Obj:=⟨.type "code",none, .fields #[.str x t, .str q (t+1), .str "/claim/cut.py" (t+2), .int l 0, .int n 0, .int 0 0, .int 0 0, .int f 0, .ref a, .bool true, .int 181 0, .ref (a+1), .none, .ref (a+2), .ref (a+3), .ref (a+4), .int m 0, .int l 0, .str "/claim/cut.py" (m+1)], #[]⟩
abbrev dO(x q:Str)(t l n f a m:Nat):Obj:=⟨.type "code",none, .fields #[.str x t, .str q (t+1), .str "/claim/cut.py" (t+2), .int l 0, .int n 0, .int 0 0, .int 0 0, .int f 0, .ref a, .bool true, .int 181 0, .ref (a+1), .none, .none, .none, .ref (a+2), .int m 0, .int l 0, .str "/claim/cut.py" (m+1)], #[]⟩
abbrev eO(x:Str)(a d b t u:Nat):Obj:=⟨.type "type",none, .cls ⟨x,[.ref 31],[.ref a, .ref 31, .type "ValueError", .type "Exception", .type "BaseException", .type "object"],d,x,true,[],[],false,none,false⟩, #[some (.ref b),none,some (.str x t),some (.str x u),some (.builtin "ValueError.__new__"),some (.bool true)]⟩
abbrev fO(x q:Str)(s:Stmt)(m:Value)(c:Nat):Obj:=⟨.type "function",none, .func ⟨x,q,(dA s), .stmts (dB s),(dS s),3,[], .none, .none, .none,m,none, .ref c, .none,0⟩, #[]⟩
abbrev m0:Value:= .str "chanceduel.parts" 296
abbrev m1:Value:= .str "chanceduel.places" 342
abbrev m2:Value:= .str "chanceduel.floors" 400
abbrev m3:Value:= .str "chanceduel.plans" 546
abbrev m4:Value:= .str "chanceduel.plays" 578
abbrev m5:Value:= .str "law_chanceduel_k64_a_mean_by_all_plays" 649
noncomputable def K:Params->Frag:=λP=>
(nat_lit 2,⟨.none,none,(.dict #[] 0), #[]⟩)::
(nat_lit 3,⟨(.type "dict"),none,(.dict #[(en P "__name__" 165 m5),(en P "__doc__" 166 .none),(en P "__package__" 167 .none),(en P "__loader__" 168 (.builtin "__main__.__loader__#opaque")),(en P "__spec__" 169 .none),(en P "__annotations__" 170 (.ref 6)),(en P "__builtins__" 171 (.ref 4)),(en P "__file__" 173 (.str "/claim/cut.py" 172)),(en P "__cached__" 174 .none),(en P "_wall" 193 (.ref 21)),(en P "DuelError" 213 (.ref 31)),(en P "NoNumber" 229 (.ref 44)),(en P "NoFloor" 245 (.ref 56)),(en P "NoPlace" 270 (.ref 75)),(en P "NoPlan" 295 (.ref 94)),(en P "common_divisor" 308 (.ref 103)),(en P "fraction" 317 (.ref 110)),(en P "plus" 325 (.ref 117)),(en P "times" 333 (.ref 124)),(en P "under" 341 (.ref 131)),(en P "HANDS" 346 (.ref 132)),(en P "MOST_DOORS" 348 (.int 6 347)),(en P "MOST_BOTTOM" 350 (.int 1000000 349)),(en P "fits_pay" 357 (.ref 139)),(en P "fits_door" 365 (.ref 146)),(en P "common_bottom" 374 (.ref 153)),(en P "fits_chances" 380 (.ref 158)),(en P "fits_doors" 386 (.ref 163)),(en P "fits_row" 392 (.ref 168)),(en P "copied_row" 399 (.ref 175)),(en P "MOST_PLACES" 403 (.int 12 402)),(en P "MOST_SHARE_BOTTOM" 405 (.int 1000 404)),(en P "fits_share" 412 (.ref 182)),(en P "weighed" 423 (.ref 189)),(en P "greatest" 432 (.ref 196)),(en P "least" 441 (.ref 203)),(en P "Floor" 545 (.ref 282)),(en P "has_door" 556 (.ref 293)),(en P "doors_of" 567 (.ref 300)),(en P "ways_from" 577 (.ref 307)),(en P "chance_door" 591 (.ref 314)),(en P "door_by" 597 (.ref 319)),(en P "played" 612 (.ref 326)),(en P "more_means" 623 (.ref 333)),(en P "first_means" 629 (.ref 338)),(en P "chances_next" 642 (.ref 345)),(en P "mean_of" 648 (.ref 350)),(en P "_law_far" 658 (.ref 357)),(en P "_law_number" 668 (.ref 364)),(en P "_law_rest" 677 (.ref 371)),(en P "_law_lowest" 687 (.ref 378)),(en P "_law_share" 695 (.ref 385)),(en P "_law_pay" 702 (.ref 392)),(en P "_law_doors" 708 (.ref 397)),(en P "_law_rows" 723 (.ref 404)),(en P "_law_plans" 735 (.ref 411)),(en P "_law_starts" 745 (.ref 418)),(en P "_law_plays" 768 (.ref 425)),(en P "_law_plus" 778 (.ref 432)),(en P "_law_fraction_is" 786 (.ref 439)),(en P "_law_holds" 792 (.ref 444)),(en P "law" 812 (.ref 451))] 62), #[]⟩)::
(nat_lit 30,⟨(.type "dict"),none,(.dict #[(en P "__module__" 203 (.str "chanceduel.errors" 194)),(en P "__firstlineno__" 207 (.int 5 206)),(en P "__static_attributes__" 208 (.ref 29)),(en P "__weakref__" 210 (.ref 32)),(en P "__doc__" 211 .none)] 3), #[]⟩)::
(nat_lit 31,⟨(.type "type"),none,(.cls ⟨"DuelError",[(.type "ValueError")],[(.ref 31),(.type "ValueError"),(.type "Exception"),(.type "BaseException"),(.type "object")],30,"DuelError",true,[],[(.ref 44),(.ref 56),(.ref 75),(.ref 94)],false,none,false⟩), #[(some (.ref 22)),none,(some (.str "DuelError" 196)),(some (.str "DuelError" 204)),(some (.builtin "ValueError.__new__")),(some (.bool true))]⟩)::
(nat_lit 44,eO "NoNumber" 44 43 35 214 222)::
(nat_lit 56,eO "NoFloor" 56 55 47 230 238)::
(nat_lit 75,eO "NoPlace" 75 74 59 246 254)::
(nat_lit 94,eO "NoPlan" 94 93 78 271 279)::
(nat_lit 102,cO "common_divisor" "common_divisor" 298 22 2 3 97 306)::
(nat_lit 103,fO "common_divisor" "common_divisor" (at_ 8) m0 102)::
(nat_lit 109,cO "fraction" "fraction" 309 30 2 3 104 315)::
(nat_lit 110,fO "fraction" "fraction" (at_ 9) m0 109)::
(nat_lit 116,cO "plus" "plus" 318 37 2 3 111 323)::
(nat_lit 117,fO "plus" "plus" (at_ 10) m0 116)::
(nat_lit 123,cO "times" "times" 326 39 2 3 118 331)::
(nat_lit 124,fO "times" "times" (at_ 11) m0 123)::
(nat_lit 130,cO "under" "under" 334 41 2 3 125 339)::
(nat_lit 131,fO "under" "under" (at_ 12) m0 130)::
(nat_lit 132,⟨(.type "tuple"),none,(.seq #[(.str "one" 344),(.str "other" 345)] 0), #[]⟩)::
(nat_lit 138,cO "fits_pay" "fits_pay" 351 47 1 3 133 355)::
(nat_lit 139,fO "fits_pay" "fits_pay" (at_ 17) m1 138)::
(nat_lit 145,cO "fits_door" "fits_door" 358 49 2 3 140 363)::
(nat_lit 146,fO "fits_door" "fits_door" (at_ 18) m1 145)::
(nat_lit 152,cO "common_bottom" "common_bottom" 366 51 1 3 147 372)::
(nat_lit 153,fO "common_bottom" "common_bottom" (at_ 19) m1 152)::
(nat_lit 157,dO "fits_chances" "fits_chances" 375 56 1 3 154 378)::
(nat_lit 158,fO "fits_chances" "fits_chances" (at_ 20) m1 157)::
(nat_lit 162,dO "fits_doors" "fits_doors" 381 62 2 3 159 384)::
(nat_lit 163,fO "fits_doors" "fits_doors" (at_ 21) m1 162)::
(nat_lit 167,dO "fits_row" "fits_row" 387 66 2 3 164 390)::
(nat_lit 168,fO "fits_row" "fits_row" (at_ 22) m1 167)::
(nat_lit 174,cO "copied_row" "copied_row" 393 75 1 3 169 397)::
(nat_lit 175,fO "copied_row" "copied_row" (at_ 23) m1 174)::
(nat_lit 181,cO "fits_share" "fits_share" 406 82 1 3 176 410)::
(nat_lit 182,fO "fits_share" "fits_share" (at_ 27) m2 181)::
(nat_lit 188,cO "weighed" "weighed" 413 84 2 3 183 421)::
(nat_lit 189,fO "weighed" "weighed" (at_ 28) m2 188)::
(nat_lit 195,cO "greatest" "greatest" 424 89 1 3 190 430)::
(nat_lit 196,fO "greatest" "greatest" (at_ 29) m2 195)::
(nat_lit 202,cO "least" "least" 433 95 1 3 197 439)::
(nat_lit 203,fO "least" "least" (at_ 30) m2 202)::
(nat_lit 214,dO "__init__" "Floor.__init__" 454 103 3 3 211 457)::
(nat_lit 215,fO "__init__" "Floor.__init__" (Gv (at_ 31) 0) m2 214)::
(nat_lit 221,cO "size" "Floor.size" 460 114 1 3 216 464)::
(nat_lit 222,fO "size" "Floor.size" (Gv (at_ 31) 1) m2 221)::
(nat_lit 228,cO "share" "Floor.share" 467 117 1 3 223 471)::
(nat_lit 229,fO "share" "Floor.share" (Gv (at_ 31) 2) m2 228)::
(nat_lit 235,cO "kind" "Floor.kind" 474 120 2 3 230 479)::
(nat_lit 236,fO "kind" "Floor.kind" (Gv (at_ 31) 3) m2 235)::
(nat_lit 242,cO "doors" "Floor.doors" 482 123 2 3 237 487)::
(nat_lit 243,fO "doors" "Floor.doors" (Gv (at_ 31) 4) m2 242)::
(nat_lit 249,cO "pay" "Floor.pay" 490 128 2 3 244 495)::
(nat_lit 250,fO "pay" "Floor.pay" (Gv (at_ 31) 5) m2 249)::
(nat_lit 261,cO "shown" "Floor.shown" 504 136 4 3 256 512)::
(nat_lit 262,fO "shown" "Floor.shown" (Gv (at_ 31) 7) m2 261)::
(nat_lit 266,dO "all_shown" "Floor.all_shown" 515 140 3 3 263 518)::
(nat_lit 267,fO "all_shown" "Floor.all_shown" (Gv (at_ 31) 8) m2 266)::
(nat_lit 271,dO "look" "Floor.look" 521 143 3 3 268 524)::
(nat_lit 272,fO "look" "Floor.look" (Gv (at_ 31) 9) m2 271)::
(nat_lit 281,⟨(.type "dict"),none,(.dict #[(en P "__module__" 449 m2),(en P "__firstlineno__" 453 (.int 101 452)),(en P "__init__" 459 (.ref 215)),(en P "size" 466 (.ref 222)),(en P "share" 473 (.ref 229)),(en P "kind" 481 (.ref 236)),(en P "doors" 489 (.ref 243)),(en P "pay" 497 (.ref 250)),(en P "rows" 503 (.ref 255)),(en P "shown" 514 (.ref 262)),(en P "all_shown" 520 (.ref 267)),(en P "look" 526 (.ref 272)),(en P "best" 535 (.ref 279)),(en P "__static_attributes__" 538 (.ref 280)),(en P "__dict__" 540 (.ref 283)),(en P "__weakref__" 542 (.ref 284)),(en P "__doc__" 543 .none)] 4), #[]⟩)::
(nat_lit 282,⟨(.type "type"),none,(.cls ⟨"Floor",[(.type "object")],[(.ref 282),(.type "object")],281,"Floor",true,[],[],false,none,false⟩), #[none,none,(some (.str "Floor" 442)),(some (.str "Floor" 450)),(some (.builtin "object.__new__")),(some (.bool true))]⟩)::
(nat_lit 292,cO "has_door" "has_door" 548 156 3 3 287 554)::
(nat_lit 293,fO "has_door" "has_door" (at_ 33) m3 292)::
(nat_lit 299,cO "doors_of" "doors_of" 557 158 2 3 294 565)::
(nat_lit 300,fO "doors_of" "doors_of" (at_ 34) m3 299)::
(nat_lit 306,cO "ways_from" "ways_from" 568 168 3 3 301 575)::
(nat_lit 307,fO "ways_from" "ways_from" (at_ 35) m3 306)::
(nat_lit 313,cO "chance_door" "chance_door" 580 174 2 3 308 589)::
(nat_lit 314,fO "chance_door" "chance_door" (at_ 37) m4 313)::
(nat_lit 318,dO "door_by" "door_by" 592 183 3 3 315 595)::
(nat_lit 319,fO "door_by" "door_by" (at_ 38) m4 318)::
(nat_lit 325,cO "played" "played" 598 188 3 3 320 610)::
(nat_lit 326,fO "played" "played" (at_ 39) m4 325)::
(nat_lit 332,cO "more_means" "more_means" 613 204 3 3 327 621)::
(nat_lit 333,fO "more_means" "more_means" (at_ 40) m4 332)::
(nat_lit 337,dO "first_means" "first_means" 624 212 1 3 334 627)::
(nat_lit 338,fO "first_means" "first_means" (at_ 41) m4 337)::
(nat_lit 344,cO "chances_next" "chances_next" 630 214 3 3 339 640)::
(nat_lit 345,fO "chances_next" "chances_next" (at_ 42) m4 344)::
(nat_lit 349,dO "mean_of" "mean_of" 643 223 5 3 346 646)::
(nat_lit 350,fO "mean_of" "mean_of" (at_ 43) m4 349)::
(nat_lit 356,cO "_law_far" "_law_far" 651 232 2 3 351 656)::
(nat_lit 357,fO "_law_far" "_law_far" (at_ 45) m5 356)::
(nat_lit 363,cO "_law_number" "_law_number" 659 234 2 3 358 666)::
(nat_lit 364,fO "_law_number" "_law_number" (at_ 46) m5 363)::
(nat_lit 370,cO "_law_rest" "_law_rest" 669 240 2 3 365 675)::
(nat_lit 371,fO "_law_rest" "_law_rest" (at_ 47) m5 370)::
(nat_lit 377,cO "_law_lowest" "_law_lowest" 678 245 2 3 372 685)::
(nat_lit 378,fO "_law_lowest" "_law_lowest" (at_ 48) m5 377)::
(nat_lit 384,cO "_law_share" "_law_share" 688 251 1 3 379 693)::
(nat_lit 385,fO "_law_share" "_law_share" (at_ 49) m5 384)::
(nat_lit 391,cO "_law_pay" "_law_pay" 696 254 1 3 386 700)::
(nat_lit 392,fO "_law_pay" "_law_pay" (at_ 50) m5 391)::
(nat_lit 396,dO "_law_doors" "_law_doors" 703 258 5 3 393 706)::
(nat_lit 397,fO "_law_doors" "_law_doors" (at_ 51) m5 396)::
(nat_lit 403,cO "_law_rows" "_law_rows" 709 269 3 3 398 721)::
(nat_lit 404,fO "_law_rows" "_law_rows" (at_ 52) m5 403)::
(nat_lit 410,cO "_law_plans" "_law_plans" 724 282 3 3 405 733)::
(nat_lit 411,fO "_law_plans" "_law_plans" (at_ 53) m5 410)::
(nat_lit 417,cO "_law_starts" "_law_starts" 736 289 1 3 412 743)::
(nat_lit 418,fO "_law_starts" "_law_starts" (at_ 54) m5 417)::
(nat_lit 424,cO "_law_plays" "_law_plays" 746 297 4 3 419 766)::
(nat_lit 425,fO "_law_plays" "_law_plays" (at_ 55) m5 424)::
(nat_lit 431,cO "_law_plus" "_law_plus" 769 316 3 3 426 776)::
(nat_lit 432,fO "_law_plus" "_law_plus" (at_ 56) m5 431)::
(nat_lit 438,cO "_law_fraction_is" "_law_fraction_is" 779 319 2 3 433 784)::
(nat_lit 439,fO "_law_fraction_is" "_law_fraction_is" (at_ 57) m5 438)::
(nat_lit 443,dO "_law_holds" "_law_holds" 787 323 6 3 440 790)::
(nat_lit 444,fO "_law_holds" "_law_holds" (at_ 58) m5 443)::
(nat_lit 450,cO "law" "law" 793 340 1 3 445 810)::
(nat_lit 451,fO "law" "law" (at_ 59) m5 450)::[]
noncomputable abbrev H:Hook:=kHook K [2,3,30,31,44,56,75,94,102,103,109,110,116,117,123,124,130,131,132,138,139,145,146,152,153,157,158,162,163,167,168,174,175,181,182,188,189,195,196,202,203,214,215,221,222,228,229,235,236,242,243,249,250,261,262,266,267,271,272,281,282,292,293,299,300,306,307,313,314,318,319,325,326,332,333,337,338,344,345,349,350,356,357,363,364,370,371,377,378,384,385,391,392,396,397,403,404,410,411,417,418,424,425,431,432,438,439,443,444,450,451] (λ_=>by kernel_rfl)
abbrev Xt:Shared->Bool:=λs=>xlAt q [] s&&recOk (RowW.records row.toRowW) s
theorem RG{A B C:Type}{o:Option C}{f:C->A}{g:C->B}{a:A}{b:B}(h:o.map f=some a)(k:o.map g=some b):o.map (λs=>(f s,g s))=some (a,b):=by
  cases o with
  | none=>exact nomatch h
  | some c=>injection h with h;injection k with k;subst h;subst k;rfl
section
variable{A B C D E F G X:Type}{o:Option X}{f:X->A×B×C×D×E×F×G}{t:A×B×C×D×E×F×G}
def p1:A×B×C×D×E×F×G->A
  | (a,_,_,_,_,_,_)=>a
def p2:A×B×C×D×E×F×G->B×C
  | (_,b,c,_,_,_,_)=>(b,c)
def p3:A×B×C×D×E×F×G->D
  | (_,_,_,d,_,_,_)=>d
def p5:A×B×C×D×E×F×G->E
  | (_,_,_,_,e,_,_)=>e
def p6:A×B×C×D×E×F×G->F
  | (_,_,_,_,_,f,_)=>f
def p4:A×B×C×D×E×F×G->G
  | (_,_,_,_,_,_,g)=>g
theorem pr(h:o.map (λx=>p1 (f x))=some t.1)(g:o.map (λx=>p2 (f x))=some (t.2.1,t.2.2.1))(k:o.map (λx=>p3 (f x))=some t.2.2.2.1)(k1:o.map (λx=>p5 (f x))=some t.2.2.2.2.1)(k2:o.map (λx=>p6 (f x))=some t.2.2.2.2.2.1)(l:o.map (λx=>p4 (f x))=some t.2.2.2.2.2.2):o.map f=some t:=by
  cases o with
  | none=>exact nomatch h
  | some x=>
    replace h:p1 (f x)=t.1:=aan h;replace g:p2 (f x)=(t.2.1,t.2.2.1):=aan g;replace k:p3 (f x)=t.2.2.2.1:=aan k;replace k1:p5 (f x)=t.2.2.2.2.1:=aan k1;replace k2:p6 (f x)=t.2.2.2.2.2.1:=aan k2;replace l:p4 (f x)=t.2.2.2.2.2.2:=aan l;show some (f x)=some t;revert h g k k1 k2 l;generalize f x=u;obtain ⟨a,b,c,d,e,f',y⟩:=u;obtain ⟨a',b',c',d',e',U0,y'⟩:=t;intro h g k k1 k2 l;cases (h:a=a');cases (g:(b,c)=(b',c'));cases (k:d=d');cases (k1:e=e');cases (k2:f'=U0);cases (l:y=y');rfl
end
def NT{A B:Type}(o:Option A)(c:A->Bool)(T:A->Option B):Option (A×B):=o.bind λa=>match c a with
  | true=>(T a).map λb=>(a,b)
  | false=>none
def NR {A B:Type} (o:Option A) (c:A->Bool) (T:A->Option B) (k:A->B->Bool):Option B:=o.bind λa=>match c a with
  | true=>(T a).bind λb=>match k a b with
    | true=>some b
    | false=>none
  | false=>none
theorem Sj {A B C:Type} {o:Option A} {c:A->Bool} {T:A->Option B} {k:A->B->Bool} {g:B->C} {v:C} (h:(NT o c T).map (λx=>k x.1 x.2)=some true) (l:(NT o c T).map (λx=>g x.2)=some v):(NR o c T k).map g=some v:=by
  unfold NT at h l;unfold NR;cases o with
  | none=>exact nomatch h
  | some a=>
    dsimp only [Option.bind] at h l⊢;cases hc:c a with
    | false=>rw [hc] at h;exact nomatch h
    | true=>
      rw [hc] at h l;dsimp only at h l⊢;cases hT:T a with
      | none=>rw [hT] at h;exact nomatch h
      | some b=>
        rw [hT] at h l;injection h with h;injection l with l
        dsimp only [Option.bind];rw [show k a b=true from h];exact aa5 some l
noncomputable abbrev oA(p:Program)(w:World)(N:Nat):Option Shared:=(Fast.tw10274390034422433532 Fast.tw14364793385576792824 (opening p) w N (Fast.tw1435165496053646825 (opening p)).1 (Fast.tw1435165496053646825 (opening p)).2).bind (fenceModules? p)
abbrev cA(s:Shared):Bool:=s.heap.isNs mainGlobals&&s.gens.size==0
noncomputable abbrev tA(p:Program)(w:World)(N:Nat)(s₀:Shared):Option Shared:=Fast.tw14082659384304107361 Fast.tw14364793385576792824 p w s₀.heap.objs.size (s₀.heap.nsMap mainGlobals "__annotations__") N s₀ (topStub p)
abbrev kA(p:Program)(s₀ s₁:Shared):Bool:=staticsOk (importedModules p.main.body) s₀.heap s₁.heap&&namesBound p s₁.heap&&gensDone s₁&&laidKept s₀.heap s₁.heap
theorem oe(p:Program)(w:World)(N:Nat):openEnds treeTable p w N=NR (oA p w N) cA (tA p w N) (kA p):=by unfold openEnds fencedOpening topFrom NR oA tA;rewrite [Fast.te14082659384304107361,Fast.te14364793385576792824,Fast.te10274390034422433532,Fast.te1435165496053646825];rfl
noncomputable abbrev go(w:World):=NT (oA row.prog w 6220) cA (tA row.prog w 6220)
abbrev gd:=openGood q []
noncomputable abbrev sn(x:Shared×Shared):=Fast.tw4187177175401517315 q [] (importedModules row.prog.main.body) Xt true x.2
theorem la(w:World):(go w).map (λx=>p1 (sn x))=some gd.1:=by kernel_rfl
theorem lb(w:World):(go w).map (λx=>p2 (sn x))=some (gd.2.1,gd.2.2.1):=by kernel_rfl
theorem lc(w:World):(go w).map (λx=>p3 (sn x))=some gd.2.2.2.1:=by kernel_rfl
theorem le(w:World):(go w).map (λx=>p5 (sn x))=some gd.2.2.2.2.1:=by kernel_rfl
theorem lg(w:World):(go w).map (λx=>p6 (sn x))=some gd.2.2.2.2.2.1:=by kernel_rfl
theorem ld(w:World):(go w).map (λx=>p4 (sn x))=some gd.2.2.2.2.2.2:=by kernel_rfl
theorem lk(w:World):(go w).map (λx=>kA row.prog x.1 x.2)=some true:=by kernel_rfl
theorem lo(w:World):(go w).map (λx=>H.obs x.2)=some (H.val w):=by kernel_rfl
theorem MJ(w:World):(openEnds treeTable row.prog w 6220).map (openSeen q [] (importedModules row.prog.main.body) Xt true)=some gd:=by rewrite [oe,Fast.te4187177175401517315];exact Sj (lk w) (pr (la w) (lb w) (lc w) (le w) (lg w) (ld w))
theorem Lu(w:World):(openEnds treeTable row.prog w 6220).map H.obs=some (H.val w):=by rewrite [oe];exact Sj (lk w) (lo w)
theorem left:LeftO row.prog q [] Xt H.obs H.val 6220:=λw=>RG (MJ w) (Lu w)
end Hd
theorem fI:2<=PySem.sizeLine:=by decide
abbrev fv:=PySem.W.Frag
namespace L2
open PySem PySem.Spec PyProof.Rows
variable{us:List Value}{a b dx C:Addr}{P prog:Program}{w:World}{h h' base:Heap}{ε:List (Addr×Obj)}{s:Shared}{g':Array GenState}{ch fp:List Addr}{i:Nat}{x:Str}{M:Model}{A:Around}{E Q:Value->Shared->Prop}{u:Value}{pos:Pos}{e c tg:Expr}{es:List Expr}{body:List Stmt}{f:Value->Value->Sem Value}{op:CmpOp}{mA mg:Str->Option Value}{kw:List (Str×Value)}{outer:List Env}{ps:List Str}
abbrev Key:=Sum Int Str
def qr:Key->Value->Bool
 | .inl k,v=>Value.isInt k v
 | .inr x,v=>Value.isStrOf x v
def PZ(w:World):Key->Int
 | .inl k=>hashInt k
 | .inr x=>hashStr w x
theorem bt:∀{k:Key} {v:Value},qr k v=true->(∃i t,k=Sum.inl i/\v=Value.int i t)\/(∃x t,k=Sum.inr x/\v=Value.str x t)
 | .inl i,v,h=>by obtain ⟨t,e⟩:=Value.isInt_shape (k:=i) (v:=v) h;exact .inl ⟨i,t,rfl,e⟩
 | .inr x,v,h=>by obtain ⟨t,e⟩:=Value.isStrOf_shape (x:=x) (v:=v) h;exact .inr ⟨x,t,rfl,e⟩
theorem zJ(i:Int)(t:Tok):qr (.inl i) (.int i t)=true:=by simp [qr,Value.isInt]
theorem AF(x:Str)(t:Tok):qr (.inr x) (.str x t)=true:=by simp [qr,Value.isStrOf]
theorem Jh(a b:Int):decide ((Sum.inl a:Key)=Sum.inl b)=(a==b):=by
 by_cases e:a=b
 ·subst e;simp
 ·have h:¬(Sum.inl a:Key)=Sum.inl b:=λq=>e (Sum.inl.inj q);rw [aaD h];exact (beq_eq_false_iff_ne.mpr e).symm
theorem Jd(a b:Str):decide ((Sum.inr a:Key)=Sum.inr b)=decide (a=b):=by
 by_cases e:a=b
 ·subst e;simp
 ·have h:¬(Sum.inr a:Key)=Sum.inr b:=λq=>e (Sum.inr.inj q);rw [aaD h,aaD e]
theorem Jn(a:Int)(b:Str):decide ((Sum.inl a:Key)=Sum.inr b)=false:=aaD (λq=>nomatch q)
theorem Kf(a:Str)(b:Int):decide ((Sum.inr a:Key)=Sum.inl b)=false:=aaD (λq=>nomatch q)
def bI(prog:Program)(w:World):PySem.KeyKind prog w Key where
 is:=qr
 hash:=PZ w
 inj:=λv a b ha hb=>by
  rcases bt ha with ⟨i,t,rfl,rfl⟩ | ⟨x,t,rfl,rfl⟩
  ·rcases bt hb with ⟨j,u,rfl,e⟩ | ⟨y,u,rfl,e⟩
   ·injection e with e1 _;rw [e1]
   ·exact nomatch e
  ·rcases bt hb with ⟨j,u,rfl,e⟩ | ⟨y,u,rfl,e⟩
   ·exact nomatch e
   ·injection e with e1 _;rw [e1]
 byValue:=λk v h=>by rcases bt h with ⟨i,t,rfl,rfl⟩ | ⟨x,t,rfl,rfl⟩ <;> rfl
 pyHash:=λhv h=>by
  rcases bt hv with ⟨i,t,rfl,rfl⟩ | ⟨x,t,rfl,rfl⟩
  ·exact wpAny_pyHash_int h
  ·exact wpAny_pyHash_str h
 eqBool:=λhu hv h=>by
  rcases bt hu with ⟨i,t,rfl,rfl⟩ | ⟨x,t,rfl,rfl⟩
  ·rcases bt hv with ⟨j,u,rfl,rfl⟩ | ⟨y,u,rfl,rfl⟩
   ·rw [Jh] at h;exact wpAny_eqBool_int h
   ·rw [Jn] at h;exact SeqAt.EqAt.int_str i t y u _ _ _ _ h
  ·rcases bt hv with ⟨j,u,rfl,rfl⟩ | ⟨y,u,rfl,rfl⟩
   ·rw [Kf] at h;exact SeqAt.EqAt.str_int x t j u _ _ _ _ h
   ·rw [Jd] at h;exact wpAny_eqBool_str h
 «strs»:=λk x t v h=>by
  rcases bt h with ⟨i,u,rfl,e⟩ | ⟨y,u,rfl,e⟩
  ·exact nomatch e
  ·injection e with e1 _
   subst e1;cases v <;> rfl
theorem ua(prog:Program)(w:World)(i:Int)(t:Tok):(bI prog w).is (.inl i) (.int i t)=true:=zJ i t
theorem vz(prog:Program)(w:World)(x:Str)(t:Tok):(bI prog w).is (.inr x) (.str x t)=true:=AF x t
inductive V where
 | ba | bl (b:Bool) | int (i:Int) | str (x:Str) | A6 (b:Array UInt8) | HV (b:UInt64) | ref (a:Addr) | ty (n:String)
 deriving DecidableEq
variable{v:V}
def ak:V->Value->Prop
 | .ba,u=>u=Value.none
 | .bl b,u=>u=Value.bool b
 | .int i,u=>∃t,u=Value.int i t
 | .str x,u=>∃t,u=Value.str x t
 | .A6 b,u=>∃t,u=Value.bytes b t
 | .HV b,u=>∃t,u=Value.float b t
 | .ref a,u=>u=Value.ref a
 | .ty n,u=>u=Value.type n
abbrev au:List V->List Value->Prop:=Paired ak
theorem au.length{xs:List V}(r:au xs us):xs.length=us.length:=Paired.length r
theorem au.get:∀{xs:List V} {us:List Value} {i:Nat} {x:V},au xs us->xs[i]? =some x->∃u,us[i]? =some u/\ak x u
 | _,_,_,_, .nil,e=>by simp at e
 | _,_,0,_, .cons r _,e=>by simp at e;subst e;exact ⟨_,rfl,r⟩
 | _,_,i+1,x, .cons _ t,e=>by obtain ⟨u,h1,h2⟩:=au.get (i:=i) (x:=x) t (by simpa using e);exact ⟨u,by simpa using h1,h2⟩
theorem au.set{x:V}{u:Value}(r:ak x u):∀{xs:List V} {us:List Value} (i:Nat),au xs us->au (xs.set i x) (us.set i u)
 | _,_,_, .nil=> .nil
 | _,_,0, .cons _ t=> .cons r t
 | _,_,i+1, .cons q t=> .cons q (au.set r i t)
theorem au.append:∀{xs ys:List V} {us ws:List Value},au xs us->au ys ws->au (xs++ys) (us++ws)
 | _,_,_,_, .nil,s=>s
 | _,_,_,_, .cons r t,s=> .cons r (au.append t s)
def i_:Option V->Option Value->Prop
 | some v,some u=>ak v u
 | none,none=>True
 | _,_=>False
def KV{κ:Type}:List (κ×V)->List (κ×Value)->Prop:=Paired λ(p:κ×V) (q:κ×Value)=>p.1=q.1/\ak p.2 q.2
def kV:Key->V
 | .inl i=> .int i
 | .inr x=> .str x
inductive HO where
 | lst (xs:List V)
 | tup (xs:List V)
 | dK (Β:List (Key×V)) | dT (Β:List (List Key×V))
 | set (S:Int->Bool) (n:Nat)
 | ins (C dx:Addr) (fs:List (Str×V))
 | own (x:Addr)
 | xd (fs:List (Str×V))
 | met (f x:Addr)
 | Qg (lo hi:Int)
 | qS (o:Obj) (u:HO)
 | Fy (ps:Array Value)
 | ext (φ:Heap->Prop)
variable{o:HO}
abbrev Hp:=Addr->Option HO
def upd(H:Hp)(a:Addr)(o:HO):Hp:=λb=>if b=a then some o else H b
theorem Τ{H:Hp}:upd H a o a=some o:=by unfold upd;rw [if_pos rfl]
theorem Γ{H:Hp}(h:b≠a):upd H a o b=H b:=by unfold upd;rw [if_neg h]
theorem LG{H:Hp}{u:HO}(h:H a=some o)(h':H b=some u)(d:o≠u):a≠b:=by intro e;subst e;rw [h] at h';exact d (aan h')
theorem bC{H:Hp}(h:H a=some o)(h':H b=none):a≠b:=by intro e;subst e;rw [h] at h';cases h'
section
variable(P:Program)(w:World)
def bO(H:Hp)(h:Heap)(a:Addr):HO->Prop
 | .lst xs=>xs.length<=sizeLine/\∃(its:List Value) (n:Nat),au xs its/\h.get? a=some {cls:= .type "list",data:= .seq its.toArray n}
 | .tup xs=>xs.length<=sizeLine/\∃its:List Value,au xs its/\IsTup h a its.toArray
 | .dK Β=>Β.length<=sizeLine/\(a==sysModules)=false/\∃vs,KV Β vs/\h.DictOf (bI P w) a vs
 | .dT Β=>Β.length<=sizeLine/\(a==sysModules)=false/\∃xs:List (List Key×Addr×Value),
   Paired (λ(p:List Key×V) (q:List Key×Addr×Value)=>p.1=q.1/\H q.2.1=some (.tup (p.1.map kV))/\ak p.2 q.2.2) Β xs/\
   ∃o es ep,h.get? a=some o/\o.ExactDict/\o.data= .dict es ep/\es.toList=xs.map (entryOfKey (tupleKind (bI P w)))/\(xs.map (·.1)).Nodup
 | .set S n=>h.SetOf (intKind P w) a S n
 | .ins C dx fs=>H dx=some (.own a)/\fs.length<=1000/\dx≠a/\h.get? a=some (PySem.W.instObj C dx)/\
   ∃mA,h.Ns1 dx mA/\(∀f,i_ (fs.lookup f) (mA f))/\PySem.Within mA (fs.map (·.1))
 | .own _=>∃o,h.get? a=some o
 | .xd fs=>∃mA,h.Ns1 a mA/\∀f,i_ (fs.lookup f) (mA f)
 | .Qg lo hi=>∃t u v,h.get? a=some {cls:= .type "range",data:= .fields #[.int lo t, .int hi u, .int 1 v]}
 | .qS o u=>h.get? a=some o/\bO H h a u
 | .Fy ps=>h.get? a=some {cls:= .none,data:= .fields ps}
 | .met f x=>h.get? a=some (PySem.W.methodObj (.ref f) (.ref x))
 | .ext φ=>φ h/\(∃o,h.get? a=some o)/\∀h1 h2:Heap,φ h1->(∀o,h1.get? a=some o->h2.get? a=some o)->φ h2
def ji(H:Hp)(h:Heap):Prop:=∀a o,H a=some o->bO P w H h a o
end
section
variable{H H':Hp}
theorem bO.lt(x:bO P w H h a o):a < h.objs.size:=by
 cases o with
 | lst xs=>obtain ⟨_,_,_,_,e⟩:=x;exact aao e
 | tup xs=>obtain ⟨_,_,_,p⟩:=x;exact p.lt
 | dK Β=>obtain ⟨_,_,_,_,o,_,_,e,_⟩:=x;exact aao e
 | dT Β=>obtain ⟨_,_,_,_,o,_,_,e,_⟩:=x;exact aao e
 | set S n=>obtain ⟨o,_,_,_,e,_⟩:=x;exact aao e
 | ins C dx fs=>obtain ⟨_,_,_,e,_⟩:=x;exact aao e
 | own y=>obtain ⟨_,e⟩:=x;exact aao e
 | xd fs=>obtain ⟨_,⟨_,_,_,e,_⟩,_⟩:=x;exact aao e
 | Qg lo hi=>obtain ⟨_,_,_,e⟩:=x;exact aao e
 | qS ob u=>obtain ⟨e,_⟩:=x;exact aao e
 | Fy ps=>exact aao (show h.get? a=some _ from x)
 | met f y=>exact aao (show h.get? a=some _ from x)
 | ext φ=>obtain ⟨_,⟨_,e⟩,_⟩:=x;exact aao e
theorem Paired.Ik{α β:Type}{F G:α->β->Prop}:∀{l₁:List α} {l₂:List β},Paired F l₁ l₂->(∀a b,F a b->G a b)->Paired G l₁ l₂
 | _,_, .nil,_=> .nil
 | _,_, .cons r t,f=> .cons (f _ _ r) (Paired.Ik t f)
theorem bO.wt(x:bO P w H h a o)(k:∀b u,(b=a\/H b=some (.own a))->h.get? b=some u->h'.get? b=some u)
  (ho:∀b,H b=some (.own a)->H' b=some (.own a)) (ht:∀b xs,H b=some (.tup xs)->H' b=some (.tup xs)):bO P w H' h' a o:=by
 induction o with
 | lst xs=>obtain ⟨z,its,n,r,e⟩:=x;exact ⟨z,its,n,r,k _ _ (.inl rfl) e⟩
 | tup xs=>obtain ⟨z,its,r,ob,e,c⟩:=x;exact ⟨z,its,r,ob,k _ _ (.inl rfl) e,c⟩
 | dK Β=>obtain ⟨z,y,vs,r,ob,es,ep,e,c⟩:=x;exact ⟨z,y,vs,r,ob,es,ep,k _ _ (.inl rfl) e,c⟩
 | dT Β=>
  obtain ⟨z,y,xs,r,ob,es,ep,e,c⟩:=x;exact ⟨z,y,xs,Paired.Ik r λp q z=>⟨z.1,ht _ _ z.2.1,z.2.2⟩,ob,es,ep,k _ _ (.inl rfl) e,c⟩
 | set S n=>obtain ⟨ob,es,ep,t,e,c⟩:=x;exact ⟨ob,es,ep,t,k _ _ (.inl rfl) e,c⟩
 | ins C dx fs=>
  obtain ⟨d,z,ne,e,mA,⟨od,es,ep,e2,c⟩,r⟩:=x;exact ⟨ho _ d,z,ne,k _ _ (.inl rfl) e,mA,⟨od,es,ep,k _ _ (.inr d) e2,c⟩,r⟩
 | own y=>obtain ⟨ob,e⟩:=x;exact ⟨ob,k _ _ (.inl rfl) e⟩
 | xd fs=>obtain ⟨mA,⟨od,es,ep,e,c⟩,r⟩:=x;exact ⟨mA,⟨od,es,ep,k _ _ (.inl rfl) e,c⟩,r⟩
 | Qg lo hi=>obtain ⟨t,u,v,e⟩:=x;exact ⟨t,u,v,k _ _ (.inl rfl) e⟩
 | qS ob u ih=>obtain ⟨e,q⟩:=x;exact ⟨k _ _ (.inl rfl) e,ih q⟩
 | Fy ps=>
  have e:h.get? a=some {cls:= .none,data:= .fields ps}:=x;show h'.get? a=some {cls:= .none,data:= .fields ps};exact k a _ (.inl rfl) e
 | met f y=>
  have e:h.get? a=some (PySem.W.methodObj (.ref f) (.ref y)):=x;show h'.get? a=some (PySem.W.methodObj (.ref f) (.ref y));exact k a _ (.inl rfl) e
 | ext φ=>obtain ⟨p,⟨o,e⟩,st⟩:=x;exact ⟨st _ _ p λo q=>k _ _ (.inl rfl) q,⟨o,k _ _ (.inl rfl) e⟩,st⟩
theorem ji.lt(x:ji P w H h)(e:H a=some o):a < h.objs.size:=(x a o e).lt
theorem ji.fresh(x:ji P w H h)(e:h.objs.size<=a):H a=none:=by
 cases q:H a with
 | none=>rfl
 | some u=>exact aaJ (aaq (x.lt q) e) (abx _)
theorem ji.kept(x:ji P w H h)(k:∀b u,h.get? b=some u->h'.get? b=some u):ji P w H h':=λa o e=>
 (x a o e).wt (λb u _ q=>k b u q) (λ_ q=>q) λ_ _ q=>q
theorem ji.laid(x:ji P w H h)(k:∀b u,h.get? b=some u->h'.get? b=some u)(hp:h.objs.size<=a)(new:bO P w (upd H a o) h' a o):ji P w (upd H a o) h':=λb u e=>by
 have hn:=x.fresh hp;by_cases hb:b=a
 ·subst hb;rw [Τ] at e;cases e;exact new
 ·rw [Γ hb] at e;exact (x b u e).wt (λc v _ q=>k c v q) (λc q=>by rw [Γ (bC q hn)];exact q) λc xs q=>by rw [Γ (bC q hn)];exact q
end
def Rd(H:Hp)(a:Addr)(u:HO):Prop:=H a=some u\/∃o,H a=some (.qS o u)
theorem Rd.ok{H:Hp}{u:HO}(r:Rd H a u)(x:ji P w H h):bO P w H h a u:=by
 rcases r with r | ⟨o,r⟩
 ·exact x a u r
 ·obtain ⟨_,q⟩:=x a _ r;exact q
def MB:Option HO->Prop
 | some (.lst _)=>True
 | some (.dK _)=>True
 | some (.dT _)=>True
 | some (.set _ _)=>True
 | some (.ins _ _ _)=>True
 | some (.ext _)=>True
 | _=>False
section
variable{H:Hp}{x e:Addr}{o':HO}
theorem ji.write(ok:ji P w H h)(mu:MB (H x))(he:e=x\/H e=some (.own x))(k:∀b u,b≠e->h.get? b=some u->h'.get? b=some u)(KG:∃u,h'.get? e=some u)
  (new:bO P w (upd H x o') h' x o'):ji P w (upd H x o') h':=λb u q=>by
 have M6:∀c y,H c=some (.own y)->c≠x:=λc y r z=>by subst z;rw [r] at mu;exact mu
 have Pj:∀c xs,H c=some (.tup xs)->c≠x:=λc xs r z=>by subst z;rw [r] at mu;exact mu
 by_cases hb:b=x
 ·subst hb;rw [Τ] at q;cases q;exact new
 ·rw [Γ hb] at q;by_cases Kg:b=e
  ·have q':H b=some (.own x):=by
    rcases he with z | z
    ·exact aaJ (Kg.trans z) hb
    ·rw [Kg];exact z
   rw [q] at q';cases q';obtain ⟨v,hv⟩:=KG;exact ⟨v,by rw [Kg];exact hv⟩
  ·refine (ok b u q).wt (λc v hc r=>k c v ?_ r) (λc r=>by rw [Γ (M6 c b r)];exact r) λc xs r=>by rw [Γ (Pj c xs r)];exact r
   rcases hc with rfl | hc
   ·exact Kg
   ·rintro rfl;rcases he with z | z
    ·exact M6 c b hc z
    ·rw [hc] at z;cases z;exact hb rfl
end
structure Un(fs ex:List Addr)(H H':Hp)(h h':Heap):Prop where
 keep:∀b o,h.get? b=some o->H b=none->b∉fs->b∉ex->h'.get? b=some o
 slot:∀b o,h.get? b=some o->H b=none->b∈fs->b∉ex->∃sl,h'.get? b=some {o with slots:=sl}
 free:∀b o,h.get? b=some o->H b=none->b∉ex->H' b=none
 there:∀b o,h.get? b=some o->b∉ex->∃o',h'.get? b=some o'
 mD:∀b xs,H b=some (.tup xs)->H' b=some (.tup xs)
 lY:∀b o u,H b=some (.qS o u)->H' b=some (.qS o u)
 mC:∀b ps,H b=some (.Fy ps)->∃more,H' b=some (.Fy (ps++more))
section
variable{fs Px ex VL:List Addr}{H H1 H2:Hp}{h1 h2:Heap}{x e:Addr}
theorem Un.any(u:Un fs ex H H1 h h1){ob:Obj}(q:h.get? b=some ob)(n:H b=none)(hx:b∉ex):∃sl,h1.get? b=some {ob with slots:=sl}:=by
 by_cases hb:b∈fs
 ·exact u.slot b ob q n hb hx
 ·exact ⟨ob.slots,u.keep b ob q n hb hx⟩
theorem Un.kept(k:∀b u,h.get? b=some u->h'.get? b=some u):Un fs ex H H h h':=
 ⟨λb ob q _ _ _=>k b ob q,λb ob q _ _ _=>⟨ob.slots,k b ob q⟩,λ_ _ _ n _=>n,λb ob q _=>⟨ob,k b ob q⟩,λ_ _ q=>q,λ_ _ _ q=>q,λ_ ps q=>⟨#[],by rw [q];simp⟩⟩
theorem Un.refl:Un fs ex H H h h:=Un.kept λ_ _ q=>q
theorem Un.laid(k:∀b u,h.get? b=some u->h'.get? b=some u)(hp:h.objs.size<=a)(hn:H a=none):Un fs ex H (upd H a o) h h' where
 keep:=λb u q _ _ _=>k b u q
 slot:=λb u q _ _ _=>⟨u.slots,k b u q⟩
 free:=λb u q n _=>by rw [Γ (aaK (aaq (aao q) hp))];exact n
 there:=λb u q _=>⟨u,k b u q⟩
 mD:=λb xs q=>by rw [Γ (bC q hn)];exact q
 lY:=λb u xs q=>by rw [Γ (bC q hn)];exact q
 mC:=λb ps q=>⟨#[],by rw [Γ (bC q hn),q];simp⟩
theorem Un.write(mu:MB (H x))(he:e=x\/H e=some (.own x))(k:∀b u,b≠e->h.get? b=some u->h'.get? b=some u)(KG:∃u,h'.get? e=some u):Un fs ex H (upd H x o) h h':=by
 have hx:∀b,H b=none->b≠x:=λb n z=>by subst z;rw [n] at mu;exact mu
 have hb:∀b,H b=none->b≠e:=λb n z=>by
  subst z;rcases he with r | r
  ·exact hx b n r
  ·rw [n] at r;cases r
 have hm:∀b u,H b=some u->¬MB (some u)->b≠x:=λb u q nm z=>by subst z;rw [q] at mu;exact nm mu
 refine ⟨λb u q n _ _=>k b u (hb b n) q,λb u q n _ _=>⟨u.slots,k b u (hb b n) q⟩,λb u q n _=>by rw [Γ (hx b n)];exact n,λb u q _=> ?_,
  λb xs q=>by rw [Γ (hm b _ q λz=>z)];exact q,λb u xs q=>by rw [Γ (hm b _ q λz=>z)];exact q,λb ps q=>⟨#[],by rw [Γ (hm b _ q λz=>z),q];simp⟩⟩
 by_cases Kg:b=e
 ·subst Kg;exact KG
 ·exact ⟨u,k b u Kg q⟩
end
def N1(h:Heap)(H:Hp):List Addr:=(List.range h.objs.size).filter λa=>(H a).isSome
def qZ(h:Heap)(H:Hp):Heap:=PySem.W.hideAll h (N1 h H)
theorem zw(h:Heap)(H:Hp):(qZ h H).objs.size=h.objs.size:=PySem.W.hideAll_size _ _
theorem Dv{H:Hp}{o:Obj}(e:h.get? b=some o)(n:H b=none):(qZ h H).get? b=some o:=
 PySem.W.hideAll_get _ e λhm=>by have q:(H b).isSome=true:=(List.mem_filter.mp hm).2;rw [n] at q;simp at q
theorem Ga{H:Hp}{o:Obj}(e:(qZ h H).get? b=some o):h.get? b=some o/\H b=none:=by
 have e':h.get? b=some o:=PySem.W.of_hideAll (N1 h H) e;refine ⟨e', ?_⟩;cases q:H b with
 | none=>rfl
 | some x=>
  have hm:b∈N1 h H:=List.mem_filter.mpr ⟨List.mem_range.mpr (Heap.lt_size e'),by simp [q]⟩;have z:(qZ h H).get? b=none:=PySem.W.hideAll_none (N1 h H) hm;rw [z] at e;cases e
structure Mod(K:fv)(mg:Str->Option Value)(base:Heap):Prop where
 LW:K.In base
 glob:base.Ns mainGlobals mg
 blt:∃mb,base.Ns builtinsNs mb/\∀x:Str,x≠"__name__"->mb x=bootBuiltins x
 nolimit:base.NoLimit
structure Cx where
 prog:Program
 w:World
 K:fv
 mg:Str->Option Value
 base:Heap
 A:Around
 N:List Str
 s₀:Shared
 H₀:Hp
 env:Env
 outer:List Env
 stack:List Env
 ex:List Addr
 fn:Str->Bool
 calm:Bool
 pn:List (Addr×Obj)
 xe:Value->Shared->Prop
variable{X:Cx}
def mE(l:List Env):List Addr:=l.filterMap (·.frame)
abbrev Cx.fs(X:Cx):List Addr:=mE X.outer
def Qb(sc:Scope)(x:Str):Prop:=sc.names.lookup x=some .local\/sc.names.lookup x=some .cell\/sc.names.lookup x=some .free
def Loc(sc:Scope)(x:Str):Prop:=sc.names.lookup x=some .local\/sc.names.lookup x=some .cell
def RH(env:Env)(h:Heap)(m:Str->Option Value)(x:Str)(u:Value):Prop:=
 (env.kindOf x=some .local/\m x=some u)\/((env.kindOf x=some .cell\/env.kindOf x=some .free)/\∃c,env.cells.lookup x=some c/\h.IsCell c (some u))
structure Cx.Ok(X:Cx):Prop where
 mod:Mod X.K X.mg X.base
 kind:X.env.scope.kind= .function
 glob:X.env.globals=mainGlobals
 blt:X.env.builtins=builtinsNs
 above:X.s₀.heap.objs.size<=X.env.locals
 inj:∀x y c,X.env.cells.lookup x=some c->X.env.cells.lookup y=some c->x=y
 has:∀x,(X.env.kindOf x=some .cell\/X.env.kindOf x=some .free)->∃c,X.env.cells.lookup x=some c
 Pt:∀x c,X.fn x=true->X.env.cells.lookup x=some c->X.s₀.heap.objs.size<=c
 hd:X.calm=true->X.A.handled=none
 frames:X.A.frames=some X.stack
 RI:X.stack=X.outer\/(X.stack=X.env::X.outer/\X.env.frame=some X.env.locals)
 Sw:∀b∈X.ex,b≠X.env.locals/\∀x c,X.env.cells.lookup x=some c->c≠b
 bs:∀b o,X.base.get? b=some o->X.s₀.heap.get? b=some o/\X.H₀ b=none
 KN:X.base.objs.size<=X.s₀.heap.objs.size
 IJ:∀b o,X.base.get? b=some o->b∉X.ex
 Kv:∀b∈X.ex,b∉X.fs
 pV:X.s₀.heap.FunFrames X.base X.outer
 KU:∀b∈X.fs,X.H₀ b=none
structure Inv(X:Cx)(ε:List (Addr×Obj))(σ:List (Option V))(H:Hp)(s:Shared):Prop where
 ok:X.Ok
 os:s.os=X.s₀.os
 bare:AllBare s.gens
 base:Un X.fs X.ex X.H₀ H X.s₀.heap s.heap
 loc:∃m,s.heap.Ns X.env.locals m/\∀(i:Nat) (x:Str) (v:V),X.N[i]? =some x->σ[i]? =some (some v)->Qb X.env.scope x->∃u,ak v u/\RH X.env s.heap m x u
 cell:∀x c,X.env.cells.lookup x=some c->∃v,s.heap.IsCell c v
 free:H X.env.locals=none
 mh:∀x c,X.env.cells.lookup x=some c->H c=none
 pin:∀p∈X.pn++ε,s.heap.get? p.1=some p.2/\H p.1=none/\p.1≠X.env.locals/\p.1∉X.fs/\∀v,p.2.data≠ .cell v
 aR:ji X.prog X.w H s.heap
 len:σ.length=X.N.length
section
variable{σ:List (Option V)}{H H':Hp}
theorem Cx.Ok.Qu(ok:X.Ok){o:Obj}(e:X.base.get? b=some o):b∉X.fs:=λhb=>by have:=(ok.pV.mem hb).1;rw [e] at this;cases this
theorem Inv.bs(I:Inv X ε σ H s):∀b o,X.base.get? b=some o->s.heap.get? b=some o/\H b=none:=λb o e=>
 ⟨I.base.keep b o (I.ok.bs b o e).1 (I.ok.bs b o e).2 (I.ok.Qu e) (I.ok.IJ b o e),I.base.free b o (I.ok.bs b o e).1 (I.ok.bs b o e).2 (I.ok.IJ b o e)⟩
theorem Inv.bk(I:Inv X ε σ H s):∀b o,X.base.get? b=some o->s.heap.get? b=some o:=λb o e=>(I.bs b o e).1
theorem Inv.mod(I:Inv X ε σ H s):Mod X.K X.mg X.base:=I.ok.mod
theorem Inv.mK(I:Inv X ε σ H s):X.K.In s.heap:=I.ok.mod.LW.keeps I.bk
theorem Inv.lt(I:Inv X ε σ H s):X.env.locals < s.heap.objs.size:=let ⟨_,hn,_⟩:=I.loc;hn.lt
theorem Inv.sz(I:Inv X ε σ H s):X.s₀.heap.objs.size<=s.heap.objs.size:=aaI I.ok.above (Nat.le_of_lt I.lt)
theorem Inv.O7(I:Inv X ε σ H s)(h:s.heap.objs.size<=a):a∉X.fs:=λhb=>by obtain ⟨_,o,ho,_⟩:=I.ok.pV.mem hb;exact aaJ (aaq (aao ho) (aaI I.sz h)) (abx _)
theorem Inv.Et(I:Inv X ε σ H s):∀x c,X.env.cells.lookup x=some c->c≠X.env.locals:=λx c e z=>by obtain ⟨v,o,ho,hd⟩:=I.cell x c e;obtain ⟨m,⟨o',es,ep,As,Mp,_⟩,_⟩:=I.loc;rw [z,As] at ho;cases ho;rw [Mp] at hd;cases hd
theorem Inv.pV(I:Inv X ε σ H s):s.heap.FunFrames X.base X.outer:=by
 have all:∀(l:List Env),(∀b∈mE l,b∈X.fs)->X.s₀.heap.FunFrames X.base l->s.heap.FunFrames X.base l:=by
  intro l
  induction l with
  | nil=>intro _ _;trivial
  | cons env r ih=>
   intro hs hl;obtain ⟨hk,⟨L,o,hf,hn,ho,hd⟩,hr⟩:=hl;have hL:L∈X.fs:=hs L (by unfold mE;rw [List.filterMap_cons,hf];exact List.mem_cons_self);obtain ⟨sl,e⟩:=I.base.slot L o ho (I.ok.KU L hL) hL λz=>I.ok.Kv L z hL;exact ⟨hk,⟨L,_,hf,hn,e,hd⟩,ih (λb hb=>hs b (by unfold mE;rw [List.filterMap_cons,hf];exact List.mem_cons_of_mem _ hb)) hr⟩
 exact all X.outer (λ_ hb=>hb) I.ok.pV
theorem Inv.stack(I:Inv X ε σ H s):s.heap.FunFrames X.base X.stack:=by
 rcases I.ok.RI with e | ⟨e,hf⟩
 ·rw [e];exact I.pV
 ·rw [e];obtain ⟨m,hn,_⟩:=I.loc;refine .cons (by rw [I.ok.kind];decide) hf hn ?_ I.pV;exact Heap.get?_none_of_le (aaI I.ok.KN I.ok.above)
theorem Inv.sj(I:Inv X ε σ H s):∀b∈mE X.stack,b∈X.env.locals::X.fs:=λb hb=>by
 rcases I.ok.RI with e | ⟨e,hf⟩
 ·rw [e] at hb;exact aad _ hb
 ·rw [e] at hb;unfold mE at hb;rw [List.filterMap_cons,hf] at hb;exact hb
theorem Inv.sP(I:Inv X ε σ H s):∀b∈mE X.stack,H b=none:=λb hb=>by
 rcases aaP.mp (I.sj b hb) with e | hb
 ·rw [e];exact I.free
 ·obtain ⟨_,o,ho,_⟩:=I.ok.pV.mem hb;exact I.base.free b o ho (I.ok.KU b hb) λz=>I.ok.Kv b z hb
theorem Inv.step{t':Nat}{d':Drawn}(I:Inv X ε σ H s)
  (mR:∀b∈ch,(b∈X.ex\/X.s₀.heap.objs.size<=b)/\b≠X.env.locals/\(∀x c,X.env.cells.lookup x=some c->c≠b)/\∀p∈X.pn++ε,p.1≠b)
  (keep:∀b o,b≠X.env.locals->b∉X.fs->b∉ch->s.heap.get? b=some o->H b=none->h'.get? b=some o)
  (slot:∀b o,b≠X.env.locals->b∈X.fs->b∉ch->s.heap.get? b=some o->H b=none->∃sl,h'.get? b=some {o with slots:=sl}) (free:∀b o,b∉ch->s.heap.get? b=some o->H b=none->H' b=none)
  (there:∀b o,b∉ch->s.heap.get? b=some o->∃o',h'.get? b=some o')
  (mD:∀b xs,H b=some (.tup xs)->H' b=some (.tup xs)) (lY:∀b o u,H b=some (.qS o u)->H' b=some (.qS o u)) (mC:∀b ps,H b=some (.Fy ps)->∃more,H' b=some (.Fy (ps++more)))
  (ns:∀m,s.heap.Ns X.env.locals m->h'.Ns X.env.locals m) (aR:ji X.prog X.w H' h') (hg:AllBare g'):
  Inv X ε σ H' {s with heap:=h',gens:=g',drawn:=d',toks:=t'}:=by
 have R0:∀b o,X.s₀.heap.get? b=some o->b≠X.env.locals:=λb o e=>aaK (aaq (aao e) I.ok.above);have NZ:∀b o,X.s₀.heap.get? b=some o->b∉X.ex->b∉ch:=λb o e hx hb=>by
  rcases (mR b hb).1 with z | z
  ·exact hx z
  ·exact aaJ (aaq (aao e) z) (abx _)
 have cellK:∀x c,X.env.cells.lookup x=some c->∀v,s.heap.IsCell c v->h'.IsCell c v:=λx c e v ⟨o,ho,hd⟩=>by
  have LK:c∉ch:=λz=>(mR c z).2.2.1 x c e rfl;by_cases hc:c∈X.fs
  ·obtain ⟨sl,q⟩:=slot c o (I.Et x c e) hc LK ho (I.mh x c e);exact ⟨_,q,hd⟩
  ·exact ⟨o,keep c o (I.Et x c e) hc LK ho (I.mh x c e),hd⟩
 refine ⟨I.ok,I.os,hg,⟨λb o e n hb hx=> ?_,λb o e n hb hx=> ?_,λb o e n hx=> ?_,λb o e hx=> ?_,λb xs e=>mD b xs (I.base.mD b xs e),λb o xs e=>lY b o xs (I.base.lY b o xs e),λb ps e=> ?_⟩, ?_,λx c e=> ?_, ?_,λx c e=> ?_,λp hp=> ?_,aR,I.len⟩
 ·exact keep b o (R0 b o e) hb (NZ b o e hx) (I.base.keep b o e n hb hx) (I.base.free b o e n hx)
 ·obtain ⟨sl,e1⟩:=I.base.slot b o e n hb hx;obtain ⟨VP,e2⟩:=slot b _ (R0 b o e) hb (NZ b o e hx) e1 (I.base.free b o e n hx);exact ⟨VP,e2⟩
 ·obtain ⟨o',e1⟩:=I.base.there b o e hx;exact free b o' (NZ b o e hx) e1 (I.base.free b o e n hx)
 ·obtain ⟨o',e1⟩:=I.base.there b o e hx;exact there b o' (NZ b o e hx) e1
 ·obtain ⟨m1,e1⟩:=I.base.mC b ps e;obtain ⟨m2,e2⟩:=mC b _ e1;exact ⟨m1++m2,by rw [e2,Array.append_assoc]⟩
 ·obtain ⟨m,hn,hl⟩:=I.loc;refine ⟨m,ns m hn,λi x v e1 e2 e3=> ?_⟩;obtain ⟨u,r,l⟩:=hl i x v e1 e2 e3;refine ⟨u,r, ?_⟩;rcases l with l | ⟨k,c,e,z⟩
  ·exact .inl l
  ·exact .inr ⟨k,c,e,cellK x c e _ z⟩
 ·obtain ⟨v,z⟩:=I.cell x c e;exact ⟨v,cellK x c e v z⟩
 ·obtain ⟨m,⟨o,_,_,ho,_⟩,_⟩:=I.loc;exact free _ o (λz=>(mR _ z).2.1 rfl) ho I.free
 ·obtain ⟨v,o,ho,hd⟩:=I.cell x c e;exact free c o (λz=>(mR c z).2.2.1 x c e rfl) ho (I.mh x c e)
 ·obtain ⟨e,n,ne,nf,d⟩:=I.pin p hp;have LK:p.1∉ch:=λz=>(mR p.1 z).2.2.2 p hp rfl;exact ⟨keep p.1 p.2 ne nf LK e n,free p.1 p.2 LK e n,ne,nf,d⟩
theorem Inv.un{t':Nat}(I:Inv X ε σ H s)(u:Un X.fs [] H H' s.heap h')(aR:ji X.prog X.w H' h'):Inv X ε σ H' {s with heap:=h',toks:=t'}:=by
 obtain ⟨m,⟨o,es,ep,ho,r⟩,_⟩:=id I.loc;obtain ⟨sl,hL⟩:=u.any ho I.free (by simp)
 exact I.step (g':=s.gens) (d':=s.drawn) (ch:=[]) (λ_ z=>nomatch z) (λb o _ hb _ e n=>u.keep b o e n hb (by simp)) (λb o _ hb _ e n=>u.slot b o e n hb (by simp)) (λb o _ e n=>u.free b o e n (by simp)) (λb o _ e=>u.there b o e (by simp)) u.mD u.lY u.mC (λm' hm=>by
  obtain ⟨o',Q4,OJ,As,r'⟩:=hm;rw [ho] at As;cases As
  exact ⟨_,Q4,OJ,hL,r'⟩) aR I.bare
theorem Inv.call{t':Nat}{d':Drawn}(I:Inv X ε σ H s)(u:Un (mE X.stack) ch H H' s.heap h')(aR:ji X.prog X.w H' h')(hg:AllBare g')
  (mR:∀b∈ch,(b∈X.ex\/X.s₀.heap.objs.size<=b)/\b≠X.env.locals/\(∀x c,X.env.cells.lookup x=some c->c≠b)/\∀p∈X.pn++ε,p.1≠b):
  Inv X ε σ H' {s with heap:=h',gens:=g',drawn:=d',toks:=t'}:=by
 obtain ⟨m,⟨o,es,ep,ho,r⟩,_⟩:=id I.loc;obtain ⟨sl,hL⟩:=u.any ho I.free λz=>(mR _ z).2.1 rfl
 exact I.step (ch:=ch) mR (λb o hL hb hc e n=>u.keep b o e n (λz=>(aaP.mp (I.sj b z)).elim hL hb) hc) (λb o _ _ hc e n=>u.any e n hc) (λb o hc e n=>u.free b o e n hc) (λb o hc e=>u.there b o e hc) u.mD u.lY u.mC (λm' hm=>by
  obtain ⟨o',Q4,OJ,As,r'⟩:=hm;rw [ho] at As;cases As
  exact ⟨_,Q4,OJ,hL,r'⟩) aR hg
theorem Inv.turned{t':Nat}{it:Addr}(I:Inv X ε σ H s)(k:∀b o,b≠it->s.heap.get? b=some o->h'.get? b=some o)(hn:H it=none)(hL:it≠X.env.locals)
  (h1:it∈X.ex\/X.s₀.heap.objs.size<=it) (h2:∀x c,X.env.cells.lookup x=some c->c≠it) (h3:∀p∈X.pn++ε,p.1≠it):Inv X ε σ H {s with heap:=h',toks:=t'}:=by
 have SR:∀b u,H b=some u->b≠it:=λb u e z=>by rw [z,hn] at e;cases e
 refine I.step (g':=s.gens) (d':=s.drawn) (ch:=[it]) (λb hb=> ?_) (λb o _ _ hc e _=>k b o (λz=>hc (by simp [z])) e) (λb o _ _ hc e _=>⟨o.slots,k b o (λz=>hc (by simp [z])) e⟩) (λ_ _ _ _ n=>n)
  (λb o hc e=>⟨o,k b o (λz=>hc (by simp [z])) e⟩) (λ_ _ e=>e) (λ_ _ _ e=>e) (λb ps e=>⟨#[],by rw [e];simp⟩) (λm hm=> ?_) (λb u e=> ?_) I.bare
 ·have e:b=it:=by simpa using hb
  subst e;exact ⟨h1,hL,h2,h3⟩
 ·obtain ⟨o,es,ep,ho,r⟩:=hm;exact ⟨o,es,ep,k _ o (Ne.symm hL) ho,r⟩
 ·refine (I.aR b u e).wt (λc v hc q=>k c v ?_ q) (λ_ q=>q) λ_ _ q=>q;rcases hc with z | z
  ·rw [z];exact SR b u e
  ·exact SR c _ z
theorem Inv.tok(I:Inv X ε σ H s)(t:Nat):Inv X ε σ H {s with toks:=t}:=I.un (h':=s.heap) (t':=t) Un.refl I.aR
theorem Inv.kept{t':Nat}(I:Inv X ε σ H s)(k:∀b u,s.heap.get? b=some u->h'.get? b=some u):Inv X ε σ H {s with heap:=h',toks:=t'}:=I.un (Un.kept k) (I.aR.kept k)
theorem Inv.laid{t':Nat}(I:Inv X ε σ H s)(k:∀b u,s.heap.get? b=some u->h'.get? b=some u)(hp:s.heap.objs.size<=a)(new:bO X.prog X.w (upd H a o) h' a o):
  Inv X ε σ (upd H a o) {s with heap:=h',toks:=t'}:=I.un (Un.laid k hp (I.aR.fresh hp)) (I.aR.laid k hp new)
theorem Inv.write{x e:Addr}{t':Nat}(I:Inv X ε σ H s)(mu:MB (H x))(he:e=x\/H e=some (.own x))(k:∀b u,b≠e->s.heap.get? b=some u->h'.get? b=some u)(KG:∃u,h'.get? e=some u)
  (new:bO X.prog X.w (upd H x o) h' x o):Inv X ε σ (upd H x o) {s with heap:=h',toks:=t'}:=I.un (Un.write mu he k KG) (I.aR.write mu he k KG new)
theorem Inv.yS{HD:List (Addr×Obj)}(I:Inv X ε σ H s)(h:∀p∈HD,s.heap.get? p.1=some p.2/\H p.1=none/\p.1≠X.env.locals/\p.1∉X.fs/\∀v,p.2.data≠ .cell v):Inv X HD σ H s:=
 ⟨I.ok,I.os,I.bare,I.base,I.loc,I.cell,I.free,I.mh,λp hp=>(aa2.mp hp).elim (λz=>I.pin p (abz _ z)) (h p),I.aR,I.len⟩
theorem uK{N:List Str}(hN:N.Nodup){j:Nat}(a:N[i]? =some x)(b:N[j]? =some x):i=j:=by obtain ⟨h1,e1⟩:=aah.mp a;obtain ⟨h2,e2⟩:=aah.mp b;exact (List.getElem_inj hN).mp (e1.trans e2.symm)
theorem qp{Q:Unit->Shared->Prop}(I:Inv X ε σ H s)(hN:X.N.Nodup)(hi:X.N[i]? =some x)(hx:Loc X.env.scope x)(r:ak v u)
  (h:∀s',Inv X ε (σ.set i (some v)) H s'->(∃a,Heap.SameBut a s.heap s'.heap/\(a=X.env.locals\/X.env.cells.lookup x=some a))->Q () s') (hf:X.fn x=true\/X.env.scope.names.lookup x=some .local:=by first | exact .inl rfl | exact .inr rfl | assumption):wpAny M A (storeName X.env x u) Q E s:=by
 obtain ⟨m,hn,hl⟩:=id I.loc;have Pp:(X.env.scope.kind== .class || (X.env.scope.kind== .module&&X.env.locals != X.env.globals))=false:=by rw [I.ok.kind];rfl
 have Nr:i < σ.length:=by rw [I.len];exact (aah.mp hi).1
 have Et:=I.Et;have tracked:∀{a:Addr} {h':Heap},(∃o,s.heap.get? a=some o/\H a=none)->Heap.SameBut a s.heap h'->ji X.prog X.w H h':=λ{a h'} ha hs b ob e=>by
  obtain ⟨_,_,Ht⟩:=ha;refine (I.aR b ob e).wt (λc w' hc q=>(hs.2 c ?_).trans q) (λ_ q=>q) λ_ _ q=>q;rintro rfl;rcases hc with rfl | hc
  ·rw [Ht] at e;cases e
  ·rw [Ht] at hc;cases hc
 rcases hx with hk | hk
 ·refine wpAny_storeName_local hk hn (λh' MX hs=> ?_) Pp;obtain ⟨oL,_,_,Tz,_⟩:=id hn;refine h _ ⟨I.ok,I.os,I.bare,⟨λb o e n hb hx=> ?_,λb o e n hb hx=> ?_,I.base.free,λb o e hx=> ?_,I.base.mD,I.base.lY,I.base.mC⟩,⟨_,MX,λj y v' e1 e2 e3=> ?_⟩,λy c e=> ?_,I.free,I.mh,λp hp=> ?_,tracked ⟨oL,Tz,I.free⟩ hs,by simpa using I.len⟩ ⟨_,hs, .inl rfl⟩
  ·exact (hs.2 b (aaK (aaq (aao e) I.ok.above))).trans (I.base.keep b o e n hb hx)
  ·obtain ⟨sl,e1⟩:=I.base.slot b o e n hb hx;exact ⟨sl,(hs.2 b (aaK (aaq (aao e) I.ok.above))).trans e1⟩
  ·obtain ⟨o',e1⟩:=I.base.there b o e hx;exact ⟨o',(hs.2 b (aaK (aaq (aao e) I.ok.above))).trans e1⟩
  ·by_cases hj:j=i
   ·subst hj;rw [hi] at e1;cases e1;rw [abe Nr] at e2;cases e2;exact ⟨u,r, .inl ⟨hk,by simp⟩⟩
   ·rw [abl (Ne.symm hj)] at e2;obtain ⟨u',r',q⟩:=hl j y v' e1 e2 e3;refine ⟨u',r', ?_⟩;rcases q with ⟨k,e⟩ | ⟨k,c,e,z⟩
    ·refine .inl ⟨k, ?_⟩;have:y≠x:=λe=>hj (uK hN e1 (e▸hi));simp [this,e]
    ·exact .inr ⟨k,c,e,z.sameBut hs (Et y c e)⟩
  ·obtain ⟨w',z⟩:=I.cell y c e;exact ⟨w',z.sameBut hs (Et y c e)⟩
  ·obtain ⟨e,n,ne,nf,d⟩:=I.pin p hp;exact ⟨(hs.2 p.1 ne).trans e,n,ne,nf,d⟩
 ·have Pb:X.fn x=true:=by
   rcases hf with z | z
   ·exact z
   ·rw [z] at hk;cases hk
  obtain ⟨c,hc⟩:=I.ok.has x (.inl hk);obtain ⟨w',z⟩:=I.cell x c hc;refine wpAny_storeName_cell I.ok.kind hk hc z (λh' NQ hs=> ?_);obtain ⟨oc,R_,RB⟩:=id z;refine h {s with heap:=h'} ⟨I.ok,I.os,I.bare,⟨λb o e n hb hx=> ?_,λb o e n hb hx=> ?_,I.base.free,λb o e hx=> ?_,I.base.mD,I.base.lY,I.base.mC⟩,⟨m,hn.sameBut hs (Ne.symm (Et x c hc)),λj y v' e1 e2 e3=> ?_⟩,λy c' e=> ?_,I.free,I.mh,λp hp=> ?_,tracked ⟨oc,R_,I.mh x c hc⟩ hs,by simpa using I.len⟩ ⟨c,hs, .inr hc⟩
  ·exact (hs.2 b (aaK (aaq (aao e) (I.ok.Pt x c Pb hc)))).trans (I.base.keep b o e n hb hx)
  ·obtain ⟨sl,e1⟩:=I.base.slot b o e n hb hx;exact ⟨sl,(hs.2 b (aaK (aaq (aao e) (I.ok.Pt x c Pb hc)))).trans e1⟩
  ·obtain ⟨o',e1⟩:=I.base.there b o e hx;exact ⟨o',(hs.2 b (aaK (aaq (aao e) (I.ok.Pt x c Pb hc)))).trans e1⟩
  ·by_cases hj:j=i
   ·subst hj;rw [hi] at e1;cases e1;rw [abe Nr] at e2;cases e2;exact ⟨u,r, .inr ⟨.inl hk,c,hc,NQ⟩⟩
   ·rw [abl (Ne.symm hj)] at e2;obtain ⟨u',r',q⟩:=hl j y v' e1 e2 e3;refine ⟨u',r', ?_⟩;rcases q with q | ⟨k,c',e,z'⟩
    ·exact .inl q
    ·refine .inr ⟨k,c',e,z'.sameBut hs ?_⟩;rintro rfl;exact hj (uK hN e1 (I.ok.inj _ _ _ e hc▸hi))
  ·by_cases Kz:c'=c
   ·subst Kz;exact ⟨_,NQ⟩
   ·obtain ⟨w2,z2⟩:=I.cell y c' e;exact ⟨w2,z2.sameBut hs Kz⟩
  ·obtain ⟨e,n,ne,nf,d⟩:=I.pin p hp;refine ⟨(hs.2 p.1 ?_).trans e,n,ne,nf,d⟩;intro q;rw [q,R_] at e;have q':oc=p.2:=aan e;exact d w' (by rw [<-q'];exact RB)
theorem kj{Q:Unit->Shared->Prop}(I:Inv X ε σ H s)(hN:X.N.Nodup)(hi:X.N[i]? =some x)(hx:Loc X.env.scope x)(r:ak v u)
  (h:∀s',Inv X ε (σ.set i (some v)) H s'->Q () s') (hf:X.fn x=true\/X.env.scope.names.lookup x=some .local:=by first | exact .inl rfl | exact .inr rfl | assumption):wpAny M A (storeName X.env x u) Q E s:=
 qp I hN hi hx r (λs' I' _=>h s' I') hf
theorem Inv.Mr{s':Shared}(I:Inv X ε σ H s)(ho:s'.os=s.os)(u:Un (mE X.stack) ch H H' s.heap s'.heap)(aR:ji X.prog X.w H' s'.heap)(hg:AllBare s'.gens)
  (mR:∀b∈ch,(b∈X.ex\/X.s₀.heap.objs.size<=b)/\b≠X.env.locals/\(∀x c,X.env.cells.lookup x=some c->c≠b)/\∀p∈X.pn++ε,p.1≠b):Inv X ε σ H' s':=by
 obtain ⟨h',g',d',t',o'⟩:=s';have e:o'=s.os:=ho;subst e;exact I.call (g':=g') (t':=t') (d':=d') u aR hg mR
end
abbrev XK:=Value->Option Addr->Hp->Prop
abbrev St:=List (Option V)
variable{σ:St}
abbrev VK:=V->Hp->Prop
abbrev TE:=St->Hp->VK->Prop
variable{ta te:TE}
abbrev TT:=St->Hp->(Bool->Hp->Prop)->Prop
abbrev TA:=St->Hp->(List V->Hp->Prop)->Prop
structure wg where
 nx:St->Hp->Prop
 rt:VK
 bk:St->Hp->Prop:=λ_ _=>False
 ct:St->Hp->Prop:=λ_ _=>False
abbrev TS:=wg->St->Hp->Prop
def EP(X:Cx)(ε:List (Addr×Obj))(σ:St)(Q:VK)(u:Value)(s':Shared):Prop:=∃v H',Inv X ε σ H' s'/\ak v u/\Q v H'
def TP(X:Cx)(ε:List (Addr×Obj))(σ:St)(Q:Bool->Hp->Prop)(b:Bool)(s':Shared):Prop:=∃H',Inv X ε σ H' s'/\Q b H'
def AP(X:Cx)(ε:List (Addr×Obj))(σ:St)(Q:List V->Hp->Prop)(us:List Value)(s':Shared):Prop:=∃vs H',Inv X ε σ H' s'/\au vs us/\Q vs H'
def SP(X:Cx)(ε:List (Addr×Obj))(D:wg)(f:Flow)(s':Shared):Prop:=
 match f with
 | .next=>∃σ' H',Inv X ε σ' H' s'/\D.nx σ' H'
 | .brk=>∃σ' H',Inv X ε σ' H' s'/\D.bk σ' H'
 | .cont=>∃σ' H',Inv X ε σ' H' s'/\D.ct σ' H'
 | .ret u=>∃v σ' H',Inv X ε σ' H' s'/\ak v u/\D.rt v H'
def PE(X:Cx)(e:Expr)(t:TE):Prop:=
 ∀(ε:List (Addr×Obj)) (s:Shared) (σ:St) (H:Hp) (Q:VK),Inv X ε σ H s->t σ H Q->wpAny (model X.prog X.w) X.A (eval e X.env) (EP X ε σ Q) X.xe s
def PT(X:Cx)(e:Expr)(t:TT):Prop:=
 ∀(ε:List (Addr×Obj)) (s:Shared) (σ:St) (H:Hp) (Q:Bool->Hp->Prop),Inv X ε σ H s->t σ H Q->wpAny (model X.prog X.w) X.A (isTrue e X.env (eval e X.env)) (TP X ε σ Q) X.xe s
def PW(X:Cx)(e:Expr)(t:TT):Prop:=
 ∀(whole:Sem Value) (ε:List (Addr×Obj)) (s:Shared) (σ:St) (H:Hp) (Q:Bool->Hp->Prop),Inv X ε σ H s->t σ H Q->wpAny (model X.prog X.w) X.A (isTrue e X.env whole) (TP X ε σ Q) X.xe s
def PA(X:Cx)(es:List Expr)(t:TA):Prop:=
 ∀(pos:Pos) (ε:List (Addr×Obj)) (s:Shared) (σ:St) (H:Hp) (Q:List V->Hp->Prop),Inv X ε σ H s->t σ H Q->wpAny (model X.prog X.w) X.A (spliced (backTo pos (starEach es X.env))) (AP X ε σ Q) X.xe s
def PS(X:Cx)(st:Stmt)(t:TS):Prop:=
 ∀(ε:List (Addr×Obj)) (s:Shared) (σ:St) (H:Hp) (D:wg),Inv X ε σ H s->t D σ H->wpAny (model X.prog X.w) X.A (exec st X.env) (SP X ε D) X.xe s
def A2(X:Cx)(st:List Stmt)(t:TS):Prop:=
 ∀(ε:List (Addr×Obj)) (s:Shared) (σ:St) (H:Hp) (D:wg),Inv X ε σ H s->t D σ H->wpAny (model X.prog X.w) X.A (execs st X.env) (SP X ε D) X.xe s
theorem bQ{α:Type}{t:Sem α}{Q Q':α->Shared->Prop}(h:wpAny M A t Q E s)(hQ:∀a s,Q a s->Q' a s):wpAny M A t Q' E s:=abG h hQ λ_ _ x=>x
section
def Pa(i:Nat):TE:=λσ H Q=>∃v,σ[i]? =some (some v)/\Q v H
def tC(v:V):TE:=λ_ H Q=>Q v H
theorem J9(hN:X.N[i]? =some x)(hv:Qb X.env.scope x)(hd:(x==("__debug__":Str))=false:=by decide)(Br:(x==("__classdict__":Str))=false:=by decide):PE X (.Name x pos) (Pa i):=by
 intro ε s σ H Q I h;obtain ⟨v,e,h⟩:=h;obtain ⟨m,hn,hl⟩:=I.loc;obtain ⟨u,r,l⟩:=hl i x v hN e hv;have fin:EP X ε σ Q u s:=⟨v,H,I,r,h⟩;rcases l with ⟨hk,hm⟩ | ⟨hk,c,hc,GN⟩
 ·exact wpAny_Name (wpAny_loadName_local I.ok.kind hk hn hm fin) hd
 ·rcases hk with hk | hk
  ·exact wpAny_Name (wpAny_loadName_cell I.ok.kind hk hc GN fin) hd
  ·exact wpAny_Name (wpAny_loadName_free I.ok.kind hk hc GN fin Br) hd
theorem JC{i j pos}:PE X (.Constant (.int i) j pos) (tC (.int i)):=λ_ _ _ H _ I h=>wpAny_Constant_int ⟨.int i,H,I.tok _,⟨_,rfl⟩,h⟩
theorem Mj{b j pos}:PE X (.Constant (.bool b) j pos) (tC (.bl b)):=λ_ _ _ H _ I h=>Constant_bool ⟨.bl b,H,I,rfl,h⟩
theorem IP{j pos}:PE X (.Constant .none j pos) (tC .ba):=λ_ _ _ H _ I h=>Constant_none ⟨.ba,H,I,rfl,h⟩
theorem D3{x j pos}:PE X (.Constant (.str x) j pos) (tC (.str x)):=λ_ _ _ H _ I h=>Calls.Constant_str ⟨.str x,H,I.tok _,⟨_,rfl⟩,h⟩
def Gl(X:Cx)(x:Str):Prop:=X.env.kindOf x=some .globalImplicit
theorem sk{H:Hp}(I:Inv X ε σ H s)(hg:Gl X x)(hm:X.mg x=some u)(h:Q u s)
  (hd:(x==("__debug__":Str))=false:=by decide):wpAny (model X.prog X.w) X.A (eval (.Name x pos) X.env) Q E s:=
 Calls.Name_function_global I.ok.kind hg (Calls.loadGlobal_global (by rw [I.ok.glob];exact I.mod.glob.keeps I.bk) hm h) hd
theorem k7{H:Hp}(I:Inv X ε σ H s)(hg:Gl X x)(hm:X.mg x=none)(hv:bootBuiltins x=some u)(h:Q u s)
  (hn:x≠"__name__":=by decide) (hd:(x==("__debug__":Str))=false:=by decide):wpAny (model X.prog X.w) X.A (eval (.Name x pos) X.env) Q E s:=by
 obtain ⟨mb,h1,h2⟩:=I.mod.blt;exact Calls.Name_function_global I.ok.kind hg (Calls.loadGlobal_builtin (by rw [I.ok.glob];exact I.mod.glob.keeps I.bk) hm (by rw [I.ok.blt];exact h1.keeps I.bk) ((h2 x hn).trans hv) h) hd
theorem y6(hg:Gl X x)(hm:X.mg x=some u)(r:ak v u)(hd:(x==("__debug__":Str))=false:=by decide):PE X (.Name x pos) (tC v):=
 λ_ _ _ H _ I h=>sk I hg hm ⟨v,H,I,r,h⟩ hd
theorem Gz(hg:Gl X x)(hm:X.mg x=none)(hv:bootBuiltins x=some u)(r:ak v u)(hn:x≠"__name__":=by decide)(hd:(x==("__debug__":Str))=false:=by decide):PE X (.Name x pos) (tC v):=
 λ_ _ _ H _ I h=>k7 I hg hm hv ⟨v,H,I,r,h⟩ hn hd
variable{a b:Expr}{tb:TE}
def tB(t:TE):TT:=λσ H Q=>t σ H λx H1=>∃c,x= .bl c/\Q c H1
theorem J2{t:TE}(h:PE X e t)(he:∀whole,isTrue e X.env whole=(do let v<-whole;standAt e.pos;holding [v] (truthy v)):=by intro _;rfl):PT X e (tB t):=by intro ε s σ H Q I hw;refine isTrue_plain (bQ (h ε s σ H _ I hw) λv s1 ⟨x,H1,I1,r1,q1⟩=> ?_) (he _);obtain ⟨d,rfl,q⟩:=q1;cases r1;exact wpAny_truthy_bool ⟨H1,I1,q⟩
variable{tA P1:TT}{Η:List Expr}
def Uu(t u:TT):TT:=λσ H Q=>t σ H λc H1=>if c=true then Q true H1 else u σ H1 Q
def Rj(t:TT):TT:=λσ H Q=>t σ H λc H1=>Q (!c) H1
theorem pw_or1(ha:PT X a tA):PW X (.BoolOp .Or [a] pos) tA:=by
 intro wh ε s σ H Q I h;refine isTrue_or (bQ (ha ε s σ H Q I h) λc s1 e=> ?_);cases c with
 | false=>exact isTrue_or_nil e
 | true=>exact e
theorem pw_or(ha:PT X a tA)(hb:PW X (.BoolOp .Or (b::Η) pos) P1):PW X (.BoolOp .Or (a::b::Η) pos) (Uu tA P1):=by
 intro wh ε s σ H Q I h;refine isTrue_or (bQ (ha ε s σ H _ I h) λc s1 ⟨H1,I1,q1⟩=> ?_);cases c with
 | true=>exact ⟨H1,I1,q1⟩
 | false=>exact hb wh ε s1 σ H1 Q I1 q1
theorem Jg(ha:PT X a tA):PT X (.UnaryOp .Not a pos) (Rj tA):=by intro ε s σ H Q I h;exact isTrue_not (ha ε s σ H (λc H1=>Q (!c) H1) I h)
def Nf(ta tb:TE):TE:=λσ H Q=>ta σ H λx H1=>∃c,x= .bl c/\if c=true then tb σ H1 Q else Q (.bl false) H1
def Q2(ta tb:TE):TE:=λσ H Q=>ta σ H λx H1=>∃c,x= .bl c/\if c=true then Q (.bl true) H1 else tb σ H1 Q
theorem IL{op}{t:TE}(h:PE X a t):PE X (.BoolOp op [a] pos) t:=λε s σ H Q I hw=>BoolOp_one (h ε s σ H Q I hw)
theorem Jv(ha:PE X a ta)(hb:PE X (.BoolOp .And (b::Η) pos) tb):PE X (.BoolOp .And (a::b::Η) pos) (Nf ta tb):=by
 intro ε s σ H Q I h;refine BoolOp_and (bQ (ha ε s σ H _ I h) λv s1 ⟨x,H1,I1,r1,q1⟩=> ?_);obtain ⟨c,rfl,q1⟩:=q1;cases r1;refine wpAny_truthy_bool ?_;cases c with
 | true=>exact hb ε s1 σ H1 Q I1 q1
 | false=>exact ⟨.bl false,H1,I1,rfl,q1⟩
theorem Lb(ha:PE X a ta)(hb:PE X (.BoolOp .Or (b::Η) pos) tb):PE X (.BoolOp .Or (a::b::Η) pos) (Q2 ta tb):=by
 intro ε s σ H Q I h;refine BoolOp_or (bQ (ha ε s σ H _ I h) λv s1 ⟨x,H1,I1,r1,q1⟩=> ?_);obtain ⟨c,rfl,q1⟩:=q1;cases r1;refine wpAny_truthy_bool ?_;cases c with
 | false=>exact hb ε s1 σ H1 Q I1 q1
 | true=>exact ⟨.bl true,H1,I1,rfl,q1⟩
def UW(t:TT)(ta tb:TE):TE:=λσ H Q=>t σ H λc H1=>if c=true then ta σ H1 Q else tb σ H1 Q
theorem Bq(hc:PT X c tA)(ha:PE X a ta)(hb:PE X b tb):PE X (.IfExp c a b pos) (UW tA ta tb):=by
 intro ε s σ H Q I h;refine wpAny_IfExp (bQ (hc ε s σ H _ I h) λd s1 ⟨H1,I1,q1⟩=> ?_);cases d with
 | true=>exact ha ε s1 σ H1 Q I1 q1
 | false=>exact hb ε s1 σ H1 Q I1 q1
end
def gM(K:fv)(H:Hp)(a:Addr)(xs:List V):Prop:=
 Rd H a (.lst xs)\/
  ∃(o:Obj) (its:Array Value) (n:Nat),K.lookup a=some o/\o.cls= .type "list"/\o.dict=none/\o.data= .seq its n/\its.size<=sizeLine/\au xs its.toList
def k8(K:fv)(H:Hp)(a:Addr)(xs:List V):Prop:=
 Rd H a (.tup xs)\/
  ∃(o:Obj) (its:Array Value) (n:Nat),K.lookup a=some o/\o.cls= .type "tuple"/\o.data= .seq its n/\its.size<=sizeLine/\au xs its.toList
def Pk:Value->Option V
 | .none=>some .ba
 | .bool b=>some (.bl b)
 | .int i _=>some (.int i)
 | .str x _=>some (.str x)
 | .bytes b _=>some (.A6 b)
 | .float b _=>some (.HV b)
 | .ref a=>some (.ref a)
 | .type n=>some (.ty n)
 | _=>none
theorem ak.abs{x:V}(r:ak x u):Pk u=some x:=by
 cases x with
 | ba=>cases r;rfl
 | bl _=>cases r;rfl
 | int _=>obtain ⟨t,rfl⟩:=r;rfl
 | str _=>obtain ⟨t,rfl⟩:=r;rfl
 | A6 _=>obtain ⟨t,rfl⟩:=r;rfl
 | HV _=>obtain ⟨t,rfl⟩:=r;rfl
 | ref _=>cases r;rfl
 | ty _=>cases r;rfl
theorem ak.inj{x y:V}{u:Value}(r:ak x u)(q:ak y u):x=y:=aan (r.abs.symm.trans q.abs)
theorem au.inj:∀{xs ys:List V} {us:List Value},au xs us->au ys us->xs=ys
 | _,_,_, .nil, .nil=>rfl
 | _,_,_, .cons r t, .cons r' t'=>by rw [r.inj r',au.inj t t']
section
variable{H:Hp}{xs ys:List V}
theorem gM.of{K:fv}(h:H a=some (.lst xs)):gM K H a xs:= .inl (.inl h)
theorem k8.of{K:fv}(h:H a=some (.tup xs)):k8 K H a xs:= .inl (.inl h)
theorem Inv.list(I:Inv X ε σ H s)(h:gM X.K H a xs):∃its:List Value,au xs its/\PlainL s.heap a its.toArray/\xs.length<=sizeLine:=by
 rcases h with h | ⟨o,its,n,hk,hc,hd,hs,hz,r⟩
 ·obtain ⟨z,its,n,r,e⟩:=h.ok I.aR;exact ⟨its,r,⟨_,n,e,rfl,rfl,rfl⟩,z⟩
 ·refine ⟨its.toList,r,⟨o,n,I.mK a o hk,hc,hd,by simpa using hs⟩, ?_⟩;have e:=r.length;simp only [Array.length_toList] at e;omega
theorem Inv.tuple(I:Inv X ε σ H s)(h:k8 X.K H a xs):∃its:List Value,au xs its/\IsTup s.heap a its.toArray/\xs.length<=sizeLine:=by
 rcases h with h | ⟨o,its,n,hk,hc,hs,hz,r⟩
 ·obtain ⟨z,its,r,p⟩:=h.ok I.aR;exact ⟨its,r,p,z⟩
 ·refine ⟨its.toList,r,⟨o,I.mK a o hk,hc,n,by simpa using hs⟩, ?_⟩;have e:=r.length;simp only [Array.length_toList] at e;omega
theorem Inv.j7(I:Inv X ε σ H s)(h:gM X.K H a xs)(h':gM X.K H a ys):xs=ys:=by
 obtain ⟨its,r,⟨o,n,e,_,_,d⟩,_⟩:=I.list h;obtain ⟨its',r',⟨o',n',e',_,_,d'⟩,_⟩:=I.list h';rw [e] at e';cases e';rw [d] at d';injection d' with d1 _
 have:its=its':=by simpa using congrArg Array.toList d1
 subst this;exact r.inj r'
theorem Inv.Ay(I:Inv X ε σ H s)(h:k8 X.K H a xs)(h':k8 X.K H a ys):xs=ys:=by
 obtain ⟨its,r,⟨o,e,_,n,d⟩,_⟩:=I.tuple h;obtain ⟨its',r',⟨o',e',_,n',d'⟩,_⟩:=I.tuple h';rw [e] at e';cases e';rw [d] at d';injection d' with d1 _
 have:its=its':=by simpa using congrArg Array.toList d1
 subst this;exact r.inj r'
end
section
variable{st:Stmt}{Η:List Stmt}{t u:TS}
def Mq:TS:=λD σ H=>D.nx σ H
def QD(t u:TS):TS:=λD σ H=>t {D with nx:=u D} σ H
theorem E9:A2 X [] Mq:=λ_ _ σ H _ I h=>wpAny_execs_nil ⟨σ,H,I,h⟩
theorem Bp(h1:PS X st t)(h2:A2 X Η u):A2 X (st::Η) (QD t u):=by
 intro ε s σ H D I h;refine wpAny_execs_cons (bQ (h1 ε s σ H {D with nx:=u D} I h) λf s1 q=> ?_);cases f with
 | next=>
  obtain ⟨σ',H',I',q⟩:=q;exact h2 ε s1 σ' H' D I' q
 | ret v=>exact q
 | brk=>exact q
 | cont=>exact q
theorem EM(h1:PS X st t):A2 X [st] t:=by
 intro ε s σ H D I h;refine wpAny_execs_cons (bQ (h1 ε s σ H D I h) λf s1 q=> ?_);cases f with
 | next=>exact wpAny_execs_nil q
 | ret v=>exact q
 | brk=>exact q
 | cont=>exact q
def JO:TS:=λD σ H=>D.bk σ H
def Mz:TS:=λD σ H=>D.ct σ H
theorem Dd:PS X (.Break pos) JO:=λ_ _ σ H _ I h=>wpAny_Break ⟨σ,H,I,h⟩
theorem uu:PS X (.Continue pos) Mz:=λ_ _ σ H _ I h=>wpAny_Continue ⟨σ,H,I,h⟩
theorem Inv.quiet{H:Hp}(I:Inv X ε σ H s):interactive X.env=false:=by simp [interactive,I.ok.kind]
def LL(te:TE):TS:=λD σ H=>te σ H λ_ H1=>D.nx σ H1
theorem Fc(he:PE X e te)(hs:swapsWith e none pos.line X.env=pure false:=by rfl):PS X (.Expr e pos) (LL te):=by intro ε s σ H D I h;exact wpAny_Expr_any (bQ (he ε s σ H _ I h) λv s1 ⟨x,H1,I1,r1,q1⟩=>⟨σ,H1,I1,q1⟩) I.quiet hs
def Pm(te:TE):TS:=λD σ H=>te σ H D.rt
theorem Kq(he:PE X e te):PS X (.Return (some e) pos) (Pm te):=by intro ε s σ H D I h;exact wpAny_Return_some (bQ (he ε s σ H _ I h) λv s1 ⟨x,H1,I1,r1,q1⟩=>⟨x,σ,H1,I1,r1,q1⟩)
def OO(c:TT)(t u:TS):TS:=λD σ H=>c σ H λb H1=>if b=true then t D σ H1 else u D σ H1
theorem ML{a b:List Stmt}{tc:TT}(hc:PT X c tc)(ha:A2 X a t)(hb:A2 X b u):PS X (.If c a b pos) (OO tc t u):=by
 intro ε s σ H D I h;refine wpAny_If (bQ (hc ε s σ H _ I h) λd s1 ⟨H1,I1,q1⟩=> ?_);cases d with
 | true=>exact ha ε s1 σ H1 D I1 q1
 | false=>exact hb ε s1 σ H1 D I1 q1
end
abbrev TG:=V->St->Hp->(St->Hp->Prop)->Prop
abbrev Ip:=List V->St->Hp->(St->Hp->Prop)->Prop
def PG(X:Cx)(target:Expr)(t:TG):Prop:=
 ∀(ε:List (Addr×Obj)) (s:Shared) (σ:St) (H:Hp) (v:V) (u:Value) (Q:St->Hp->Prop),Inv X ε σ H s->ak v u->t v σ H Q->
  wpAny (model X.prog X.w) X.A (assign target X.env u) (λ_ s'=>∃σ' H',Inv X ε σ' H' s'/\Q σ' H') X.xe s
def NH(X:Cx)(ts:List Expr)(t:Ip):Prop:=
 ∀(ε:List (Addr×Obj)) (s:Shared) (σ:St) (H:Hp) (vs:List V) (us:List Value) (Q:St->Hp->Prop),Inv X ε σ H s->au vs us->t vs σ H Q->
  wpAny (model X.prog X.w) X.A (assignInOrder ((assignEach ts X.env).map (·.2)) us) (λ_ s'=>∃σ' H',Inv X ε σ' H' s'/\Q σ' H') X.xe s
abbrev HX:=V->V->V->Hp->(Hp->Prop)->Prop
def Mm(X:Cx)(t:HX):Prop:=
 ∀(ε:List (Addr×Obj)) (s:Shared) (σ:St) (H:Hp) (o i v:V) (ov iv u:Value) (Q:Hp->Prop),Inv X ε σ H s->ak o ov->ak i iv->ak v u->t o i v H Q->
  wpAny (model X.prog X.w) X.A (setItem ov iv u) (λ_ s'=>∃H',Inv X ε σ H' s'/\Q H') X.xe s
section
def fC(i:Nat):TG:=λv σ H Q=>Q (σ.set i (some v)) H
theorem Ι(hN:X.N.Nodup)(hi:X.N[i]? =some x)(hx:Loc X.env.scope x)(hf:X.fn x=true\/X.env.scope.names.lookup x=some .local:=by first | exact .inl rfl | exact .inr rfl | assumption):PG X (.Name x pos) (fC i):=by intro ε s σ H v u Q I r h;exact wpAny_assign_Name (kj I hN hi hx r (λs' I'=>⟨_,H,I',h⟩) hf)
def BQ:Ip:=λvs σ H Q=>vs=[]/\Q σ H
def hZ(t:TG)(u:Ip):Ip:=λvs σ H Q=>∃v r,vs=v::r/\t v σ H λσ' H'=>u r σ' H' Q
theorem fN:NH X [] BQ:=by intro ε s σ H vs us Q I r h;obtain ⟨e,h⟩:=h;subst e;cases r;exact assignInOrder_nil ⟨σ,H,I,h⟩
theorem aM{t:TG}{u:Ip}(h1:PG X e t)(h2:NH X es u)
  (hs:(assignEach (e::es) X.env).map (·.2)=assign e X.env::(assignEach es X.env).map (·.2):=by rfl):NH X (e::es) (hZ t u):=by
 intro ε s σ H vs us Q I r h;obtain ⟨v,vr,e1,h⟩:=h;subst e1;cases r with
 | cons r rr=>
  rw [hs];refine assignInOrder_cons (bQ (h1 ε s σ H _ _ _ I r h) λ_ s1 ⟨σ1,H1,I1,q1⟩=> ?_);exact h2 ε s1 σ1 H1 _ _ Q I1 rr q1
def BY(K:fv)(n:Nat)(t:Ip):TG:=λv σ H Q=>∃a xs,v= .ref a/\k8 K H a xs/\xs.length=n/\t xs σ H Q
theorem h7{k:Nat}{t:Ip}{n:Nat}(hc:X.calm=true)(h:NH X es t)
  (hn:(assignEach es X.env).length=n:=by rfl) (Bo:(assignEach es X.env).findIdx? (·.1)=none:=by rfl):PG X (.Tuple es k pos) (BY X.K n t):=by
 intro ε s σ H v u Q I r hw;obtain ⟨a,xs,e1,hq,hl,hw⟩:=hw;subst e1;cases r;obtain ⟨its,rv,ht,hz⟩:=I.tuple hq;refine assign_Tuple_tuple (I.ok.hd hc) ht (by simp [hn,<-hl,rv.length]) Bo λh' hx=> ?_;have I1:Inv X ε σ H {s with heap:=h'}:=I.kept (t':=s.toks) λb o e=>hx b o (aaK (aao e)) e;exact h ε _ σ H xs _ Q I1 (by simpa using rv) hw
def OH(to ti:TE)(t:HX):TG:=λv σ H Q=>to σ H λo H1=>ti σ H1 λi H2=>t o i v H2 λH3=>Q σ H3
theorem IH{o i:Expr}{to ti:TE}{t:HX}(ho:PE X o to)(hi:PE X i ti)(hs:Mm X t)
  (ha:∀v,assign (.Subscript o i pos) X.env v=(do
   let ov<-holding [v] (eval o X.env)
   let iv<-holding [v,ov] (eval i X.env)
   standAt pos
   holding [v,ov,iv] (setItem ov iv v)
   release [v,ov,iv] []):=by intro _;rfl):PG X (.Subscript o i pos) (OH to ti t):=by
 intro ε s σ H v u Q I r h;rw [ha];refine aak (wpAny_holding (bQ (ho ε s σ H _ I h) λov s1 ⟨x,H1,I1,r1,q1⟩=> ?_));refine aak (wpAny_holding (bQ (hi ε s1 σ H1 _ I1 q1) λiv s2 ⟨y,H2,I2,r2,q2⟩=> ?_));refine aak (wpAny_standAt (aak (wpAny_holding (bQ (hs ε s2 σ H2 x y v ov iv u _ I2 r1 r2 r q2) λ_ s3 ⟨H3,I3,q3⟩=> ?_))));exact wpAny_release ⟨σ,H3,I3,q3⟩
def Mf(te:TE)(g:TG):TS:=λD σ H=>te σ H λx H1=>g x σ H1 D.nx
theorem wu{g:TG}(he:PE X e te)(hg:PG X tg g)(hs:swapsWithSole [tg] e pos.line X.env=pure false:=by rfl)(hw:swappedStores [tg] e X.env=pure none:=by rfl)
  (h1:(assignEach [tg] X.env).map (·.2)=[assign tg X.env]:=by rfl):PS X (.Assign [tg] e pos) (Mf te g):=by
 intro ε s σ H D I h;refine wpAny_Assign_stores (bQ (he ε s σ H _ I h) λv s1 ⟨x,H1,I1,r1,q1⟩=> ?_) hs hw;rw [h1];exact bQ (hg ε s1 σ H1 x v _ I1 r1 q1) λ_ s2 q=>q
theorem JR{pos':Pos}(hN:X.N.Nodup)(hi:X.N[i]? =some x)(hx:Loc X.env.scope x)(he:PE X e te)(hs:swapsWith e (some (.Name x pos')) pos.line X.env=pure false:=by rfl)(hf:X.fn x=true\/X.env.scope.names.lookup x=some .local:=by first | exact .inl rfl | exact .inr rfl | assumption):
  PS X (.Assign [.Name x pos'] e pos) (Mf te (fC i)):=by
 intro ε s σ H D I h;refine wpAny_Assign_Name (bQ (he ε s σ H _ I h) λv s1 ⟨y,H1,I1,r1,q1⟩=> ?_) hs;exact kj I1 hN hi hx r1 (λs2 I2=>⟨_,H1,I2,q1⟩) hf
def QF(i j:Nat)(ta:TA):TS:=λD σ H=>ta σ H λvs H1=>∃v w,vs=[v,w]/\D.nx ((σ.set i (some v)).set j (some w)) H1
theorem JH{j:Nat}{y:Str}{a b:Expr}{ta:TA}{px py pt:Pos}{kt k2 Jt}(hc:X.calm=true)(hN:X.N.Nodup)(hi:X.N[i]? =some x)(hj:X.N[j]? =some y)(Qt:i≠j)
  (hx:X.env.scope.names.lookup x=some .local) (hy:X.env.scope.names.lookup y=some .local) (ha:PA X [a,b] ta)
  (hw:swappedStores [.Tuple [.Name x px, .Name y py] kt pt] (.Tuple [a,b] k2 Jt) X.env=pure (some [x,y]))
  (hs:swapsWithSole [.Tuple [.Name x px, .Name y py] kt pt] (.Tuple [a,b] k2 Jt) pos.line X.env=pure false:=by rfl):
  PS X (.Assign [.Tuple [.Name x px, .Name y py] kt pt] (.Tuple [a,b] k2 Jt) pos) (QF i j ta):=by
 intro ε s σ H D I h;rw [exec_Assign_arm];refine aak (wpAny_standAt ?_);rw [hs];refine aak (aaL ?_);rw [aaA (by decide)];refine aak (Tuple_ (bQ (ha _ ε s σ H _ I h) λus s1 ⟨vs,H1,I1,r1,q1⟩=> ?_));obtain ⟨v,w,e1,q1⟩:=q1;subst e1;obtain ⟨u1,u2,rfl,rv,zx⟩:∃u1 u2,us=[u1,u2]/\ak v u1/\ak w u2:=by
  cases r1 with
  | cons p q=>
   cases q with
   | cons p' q'=>
    cases q';exact ⟨_,_,rfl,p,p'⟩
 refine wpAny_newObj_type ?_ fI;have I2:Inv X ε σ H1 {s1 with heap:=s1.heap.push {cls:= .type "tuple",data:= .seq [u1,u2].toArray}}:=I1.kept (t':=s1.toks) λb o e=>aal _ e;rw [hw];refine aak (aaL ?_);show wpAny (model X.prog X.w) X.A (do rule "assign.swapped-stores";let items<-unpackItems (.ref s1.heap.objs.size) 2 none;assignInOrder [λv=>bindName X.env y v,λv=>bindName X.env x v] items.reverse;pure Flow.next) _ _ _;refine aak (wpAny_rule (aak (unpackItems_tuple (items:= #[u1,u2]) (I.ok.hd hc) (IsTup.new s1.heap _) λh' Vh=> ?_)));have I3:=I2.kept (h':=h') (t':=s1.toks) λb o e=>Vh b o (aaK (aao e)) e;show wpAny _ _ (assignInOrder [λv=>bindName X.env y v,λv=>bindName X.env x v] [u2,u1] >>= λ_=>pure Flow.next) _ _ _;refine aak (assignInOrder_cons (wpAny_bindName (kj I3 hN hj (.inl hy) zx (λs2 I4=> ?_) (.inr hy))));refine assignInOrder_cons (wpAny_bindName (kj I4 hN hi (.inl hx) rv (λs3 I5=>assignInOrder_nil (aaL ?_)) (.inr hx)));rw [List.set_comm _ _ (Ne.symm Qt)] at I5;exact ⟨_,H1,I5,q1⟩
end
section
def Ke(c:TT)(tb:TS):TS:=λD σ H=>∃W:Nat->St->Hp->Prop,(∃m,W m σ H)/\∀m σ H,W m σ H->
 c σ H λb H1=>if b=true then∃N:St->Hp->Prop,(∀σ' H',N σ' H'->∃m',m' < m/\W m' σ' H')/\tb {D with nx:=N,ct:=N,bk:=D.nx} σ H1 else D.nx σ H1
theorem Bg{tc:TT}{tb:TS}(hp:PassesOwn (model X.prog X.w) X.A X.env X.xe)(hc:PT X c tc)(hb:A2 X body tb):PS X (.While c body [] pos) (Ke tc tb):=by
 intro ε s σ H D I h;obtain ⟨W,⟨m0,w0⟩,turn⟩:=h;refine wpAny_While (codeAny_whileLoop (λn s'=>∃σ' H',Inv X ε σ' H' s'/\W n σ' H') ?_ m0 ⟨σ,H,I,w0⟩);rintro n s1 ⟨σ1,H1,I1,w1⟩;refine wpAny_passesOwn hp (bQ (hc ε s1 σ1 H1 _ I1 (turn n σ1 H1 w1)) λb s2 ⟨H2,I2,q2⟩=> ?_);cases b with
 | true=>
  obtain ⟨N,hN,q2⟩:=q2;rw [aaE rfl];refine wpAny_passesOwn hp (bQ (hb ε s2 σ1 H2 _ I2 q2) λf s3 q3=> ?_);cases f with
  | next=>
   obtain ⟨σ3,H3,I3,n3⟩:=q3;obtain ⟨m',hm,w3⟩:=hN σ3 H3 n3;exact ⟨m',hm,σ3,H3,I3,w3⟩
  | cont=>
   obtain ⟨σ3,H3,I3,n3⟩:=q3;obtain ⟨m',hm,w3⟩:=hN σ3 H3 n3;exact ⟨m',hm,σ3,H3,I3,w3⟩
  | brk=>exact q3
  | ret v=>exact q3
 | false=>
  rw [aaA aau];exact wpAny_execs_nil ⟨σ1,H2,I2,q2⟩
end
structure It where
 go:Nat->Hp->Prop
 MY:Nat->Hp->V->Hp->Prop
 stop:Nat->Hp->Prop
def pA(X:Cx)(ε:List (Addr×Obj))(H:Hp)(b:Addr):Prop:=
 H b=none/\b≠X.env.locals/\b∉X.fs/\(b∈X.ex\/X.s₀.heap.objs.size<=b)/\(∀x c,X.env.cells.lookup x=some c->c≠b)/\∀p∈X.pn++ε,p.1≠b
theorem Inv.AE{H H':Hp}(I:Inv X ε σ H s)(hb:s.heap.objs.size<=b)(hn:H' b=none):pA X ε H' b:=by
 refine ⟨hn,acb (aaq I.lt hb),I.O7 hb, .inr (aaI I.sz hb),λx c e z=> ?_,λp hp z=> ?_⟩
 ·obtain ⟨v,q⟩:=I.cell x c e;exact aaJ (aaq q.lt (by rw [z];exact hb)) (abx _)
 ·exact aaJ (aaq (aao (I.pin p hp).1) (by rw [z];exact hb)) (abx _)
structure tY(P:Program)(w:World)(K:fv)(tg:Expr)(J:It)(fp:List Addr)(it:Addr)(tn:Nat->Heap->Prop):Prop where
 mem:it∈fp
 obj:∀i h,tn i h->∀b∈fp,∃o,h.get? b=some o/\∀v,o.data≠ .cell v
 keep:∀i h h',tn i h->(∀b∈fp,∀o,h.get? b=some o->h'.get? b=some o)->tn i h'
 item:∀(X:Cx),X.prog=P->X.w=w->X.K=K->X.calm=true->∀(i:Nat) (ε:List (Addr×Obj)) (s:Shared) (σ:St) (H:Hp) (E:Value->Shared->Prop),Inv X ε σ H s->(∀b∈fp,pA X ε H b)->tn i s.heap->J.go i H->
  wpAny (model P w) X.A (pyNext (.ref it)) (λr s1=>∃u,r=some u/\
   wpAny (model P w) X.A (letOwnedTupleGo tg (.ref it) u) (λ_ s2=>∃x H',Inv X ε σ H' s2/\ak x u/\J.MY i H x H'/\tn (i+1) s2.heap/\∀b∈fp,H' b=none) E s1) E s
 done:∀(X:Cx),X.prog=P->X.w=w->X.K=K->X.calm=true->∀(i:Nat) (ε:List (Addr×Obj)) (s:Shared) (σ:St) (H:Hp) (E:Value->Shared->Prop),Inv X ε σ H s->(∀b∈fp,pA X ε H b)->tn i s.heap->J.stop i H->
  wpAny (model P w) X.A (pyNext (.ref it)) (λr s1=>r=none/\Inv X ε σ H s1) E s
 self:∀(A:Around) (i:Nat) (s:Shared) (Q:Value->Shared->Prop) (E:Value->Shared->Prop),tn i s.heap->Q (.ref it) s->wpAny (model P w) A (pyIter (.ref it)) Q E s
abbrev TI:=St->Hp->(It->Hp->Prop)->Prop
def Gk(X:Cx)(ε:List (Addr×Obj))(σ:St)(tg:Expr)(R:It->Hp->Prop)(NX:Value)(s2:Shared):Prop:=
 ∃(it:Addr) (fp:List Addr) (tn:Nat->Heap->Prop) (J:It) (H':Hp),NX= .ref it/\Inv X ε σ H' s2/\tY X.prog X.w X.K tg J fp it tn/\tn 0 s2.heap/\(∀b∈fp,pA X ε H' b)/\R J H'
def PI(X:Cx)(tg iter:Expr)(wi:TI):Prop:=
 ∀(ε:List (Addr×Obj)) (s:Shared) (σ:St) (H:Hp) (R:It->Hp->Prop),Inv X ε σ H s->wi σ H R->
  wpAny (model X.prog X.w) X.A (eval iter X.env) (λv s1=>wpAny (model X.prog X.w) X.A (pyIter v) (Gk X ε σ tg R) X.xe s1) X.xe s
theorem vE   {E : Value -> Shared -> Prop}   {it : Addr}  {o : Obj} {n : String} {vs : Array Value} {Q : Unit -> Shared -> Prop} (ho : s.heap.get? it = some o) (hc : o.cls = .type n) (hd : o.data = .fields vs)
    (hn : ["enumerate", "zip", "dict_itemiterator", "dict_reverseitemiterator", "odict_iterator", "itertools.zip_longest", "itertools.pairwise"].contains n = false) (hQ : Q () s) : wpAny M A (letOwnedTupleGo tg (.ref it) u) Q E s := by
  unfold letOwnedTupleGo
  cases tg <;> first
    | exact aaL hQ
    | (cases u <;> first
        | exact aaL hQ
        | (refine aak (wpAny_load ho ?_)
           rw [hc, hd];show wpAny M A (if (["enumerate", "zip", "dict_itemiterator", "dict_reverseitemiterator", "odict_iterator", "itertools.zip_longest", "itertools.pairwise"].contains n && vs[0]? == some (rawInt _)) = true then _ else _) Q E s;rw [aaA (by intro h; rw [hn, Bool.false_and] at h; cases h)]
           exact aaL hQ))
def Oh(K:fv)(a:Addr):It:=
 ⟨λi H=>∃xs x,gM K H a xs/\xs[i]? =some x,λi H x H'=>H'=H/\∀xs,gM K H a xs->xs[i]? =some x,λi H=>∃xs,gM K H a xs/\xs.length<=i⟩
def Qf(K:fv)(a:Addr):It:=
 ⟨λi H=>∃xs x,k8 K H a xs/\xs[i]? =some x,λi H x H'=>H'=H/\∀xs,k8 K H a xs->xs[i]? =some x,λi H=>∃xs,k8 K H a xs/\xs.length<=i⟩
def NL(lo:Int)(n:Nat):It:=⟨λi _=>i < n,λi H x H'=>H'=H/\x= .int (lo+i),λi _=>n<=i⟩
theorem zZ{K:fv}(a it:Addr):tY P w K tg (Oh K a) [it] it (λi h=>h.IsListIter it a i) where
 mem:=by simp
 obj:=λi h st b hb=>by
  have e:b=it:=by simpa using hb
  subst e;obtain ⟨o,e,c,d⟩:=st;exact ⟨o,e,λv z=>by rw [d] at z;cases z⟩
 keep:=λi h h' st k=>st.at λo e=>k it (by simp) o e
 item:=by intro X hP hw hK hc i ε s σ H E I hf st hg;subst hP hw hK;obtain ⟨xs,x,hq,hx⟩:=hg;obtain ⟨its,rv,p,hz⟩:=I.list hq;obtain ⟨u,hu,ru⟩:=rv.get hx;obtain ⟨f0,f1,f2,f3,f4,f5⟩:=hf it (by simp);refine wpAny_pyNext_list_item st p.isList (x:=u) (by simpa using hu) λh' yR sb=> ?_;have I1:Inv X ε σ H {s with heap:=h'}:=I.turned (t':=s.toks) (λb o hb e=>(sb.2 b hb).trans e) f0 f1 f3 f4 f5;obtain ⟨o,e,c,d⟩:=id yR;exact ⟨u,rfl,vE (s:={s with heap:=h'}) e c d (by decide) ⟨x,H,I1,ru,⟨rfl,λys hy=>by rw [I.j7 hy hq];exact hx⟩,yR,λb hb=>(hf b hb).1⟩⟩
 done:=by intro X hP hw hK hc i ε s σ H E I hf st hg;subst hP hw hK;obtain ⟨xs,hq,hx⟩:=hg;obtain ⟨its,rv,p,hz⟩:=I.list hq;obtain ⟨f0,f1,f2,f3,f4,f5⟩:=hf it (by simp);have hl:=rv.length;exact wpAny_pyNext_list_end (I.ok.hd hc) st p.isList (by simp;omega) λh' eb=>⟨rfl,I.turned (t':=s.toks) (λb o hb e=>eb b o hb e) f0 f1 f3 f4 f5⟩
 self:=λ_ _ _ _ _ st h=>wpAny_pyIter_listiter st h
theorem xA{K:fv}(a it:Addr):tY P w K tg (Qf K a) [it] it (λi h=>h.IsTupleIter it a i) where
 mem:=by simp
 obj:=λi h st b hb=>by
  have e:b=it:=by simpa using hb
  subst e;obtain ⟨o,e,c,d⟩:=st;exact ⟨o,e,λv z=>by rw [d] at z;cases z⟩
 keep:=λi h h' st k=>st.at λo e=>k it (by simp) o e
 item:=by intro X hP hw hK hc i ε s σ H E I hf st hg;subst hP hw hK;obtain ⟨xs,x,hq,hx⟩:=hg;obtain ⟨its,rv,p,hz⟩:=I.tuple hq;obtain ⟨u,hu,ru⟩:=rv.get hx;obtain ⟨f0,f1,f2,f3,f4,f5⟩:=hf it (by simp);refine wpAny_pyNext_tuple_item st (show s.heap.IsTuple a its.toArray from p) (x:=u) (by simpa using hu) λh' yR sb=> ?_;have I1:Inv X ε σ H {s with heap:=h'}:=I.turned (t':=s.toks) (λb o hb e=>(sb.2 b hb).trans e) f0 f1 f3 f4 f5;obtain ⟨o,e,c,d⟩:=id yR;exact ⟨u,rfl,vE (s:={s with heap:=h'}) e c d (by decide) ⟨x,H,I1,ru,⟨rfl,λys hy=>by rw [I.Ay hy hq];exact hx⟩,yR,λb hb=>(hf b hb).1⟩⟩
 done:=by intro X hP hw hK hc i ε s σ H E I hf st hg;subst hP hw hK;obtain ⟨xs,hq,hx⟩:=hg;obtain ⟨its,rv,p,hz⟩:=I.tuple hq;obtain ⟨f0,f1,f2,f3,f4,f5⟩:=hf it (by simp);have hl:=rv.length;exact wpAny_pyNext_tuple_end (I.ok.hd hc) st (show s.heap.IsTuple a its.toArray from p) (by simp;omega) λh' eb=>⟨rfl,I.turned (t':=s.toks) (λb o hb e=>eb b o hb e) f0 f1 f3 f4 f5⟩
 self:=λ_ _ _ _ _ st h=>wpAny_pyIter_tupleiter st h
theorem wW{K:fv}(it:Addr)(lo:Int)(n:Nat):tY P w K tg (NL lo n) [it] it (λi h=>IsRangeIter h it (lo+(i:Nat) * 1) ((n:Int) - (i:Nat)) 1) where
 mem:=by simp
 obj:=λi h st b hb=>by
  have e:b=it:=by simpa using hb
  subst e
  exact ⟨_,st,λv z=>by
   have z':Data.fields _=Data.cell v:=z
   cases z'⟩
 keep:=λi h h' st k=>k it (by simp) _ st
 item:=by intro X hP hw hK hc i ε s σ H E I hf st hg;subst hP hw hK;obtain ⟨f0,f1,f2,f3,f4,f5⟩:=hf it (by simp);have W:=Walks.range (prog:=X.prog) (w:=X.w) (I.ok.hd hc) it lo 1 n;refine W.item i s _ _ hg st λv h' tk hv yR kk=> ?_;obtain ⟨t,rfl⟩:=hv;have I1:Inv X ε σ H {s with heap:=h',toks:=tk}:=I.turned (λb o hb e=>kk b o (by simpa using hb) e) f0 f1 f3 f4 f5;refine ⟨_,rfl,vE (s:={s with heap:=h',toks:=tk}) (n:="range_iterator") yR rfl rfl (by decide) ⟨.int (lo+i),H,I1,⟨t, ?_⟩,⟨rfl,rfl⟩,yR,λb hb=>(hf b hb).1⟩⟩;rw [ab0]
 done:=by intro X hP hw hK hc i ε s σ H E I hf st hg;subst hP hw hK;obtain ⟨f0,f1,f2,f3,f4,f5⟩:=hf it (by simp);exact wpAny_pyNext_range_end (I.ok.hd hc) st (by have:n<=i:=hg;omega) λh' eb=>⟨rfl,I.turned (t':=s.toks) (λb o hb e=>eb b o hb e) f0 f1 f3 f4 f5⟩
 self:=λ_ _ _ _ _ st h=>wpAny_pyIter_rangeiter st h
section
theorem DY{H:Hp}{R:It->Hp->Prop}{lo hi:Int}{t u v:Tok}{tk:Nat}(I:Inv X ε σ H s)(h1: -(2 ^ 62)<=lo)(h2:lo < 2 ^ 62)(h3: -(2 ^ 62)<=hi)(h4:hi < 2 ^ 62)
  (q:R (NL lo (hi - lo).toNat) H):wpAny (model X.prog X.w) X.A (pyIter (.ref s.heap.objs.size)) (Gk X ε σ tg R) E {s with heap:=s.heap.push {cls:= .type "range",data:= .fields #[.int lo t, .int hi u, .int 1 v]},toks:=tk}:=by
 refine wpAny_pyIter_range (IsRange.new ..) (small_one h1 h2 h3 h4) ?_;have I1:Inv X ε σ H {s with heap:=s.heap.push {cls:= .type "range",data:= .fields #[.int lo t, .int hi u, .int 1 v]},toks:=tk}:=I.kept λb o e=>aal _ e
 refine ⟨(s.heap.push {cls:= .type "range",data:= .fields #[.int lo t, .int hi u, .int 1 v]}).objs.size,[(s.heap.push {cls:= .type "range",data:= .fields #[.int lo t, .int hi u, .int 1 v]}).objs.size],_,_,H,rfl,
  I1.kept (t':=tk) λb o e=>aal _ e,wW _ lo (hi - lo).toNat, ?_,λb hb=> ?_,q⟩
 ·have e1:lo+((0:Nat):Int) * 1=lo:=by simp
  have e2:(((hi - lo).toNat:Nat):Int) - ((0:Nat):Int)=Builtin.Range.rangeSize lo hi 1:=by rw [rangeSize_one];split <;> omega
  show IsRangeIter _ _ (lo+((0:Nat):Int) * 1) ((((hi - lo).toNat:Nat):Int) - ((0:Nat):Int)) 1;rw [e1,e2];exact aaQ _ rfl
 ·have e:b=(s.heap.push {cls:= .type "range",data:= .fields #[.int lo t, .int hi u, .int 1 v]}).objs.size:=by simpa using hb
  subst e;exact I1.AE (aam _) (I1.aR.fresh (aam _))
def KZ(ta:TA):TI:=λσ H R=>ta σ H λvs H1=>∃j:Int,vs=[.int j]/\ -(2 ^ 62)<=j/\j < 2 ^ 62/\R (NL 0 j.toNat) H1
theorem Ac{a:Expr}{ta:TA}{p:Pos}(hg:Gl X "range")(hm:X.mg "range"=none)(ha:PA X [a] ta)(hs:starEach [a] X.env=[(false,eval a X.env)]:=by rfl):PI X tg (.Call (.Name "range" p) [a] [] pos) (KZ ta):=by
 intro ε s σ H R I h;refine Call_ (k7 I hg hm boot_range (PyProof.Rows.callWith_type1 (bQ (ha pos ε s σ H _ I h) λus s1 ⟨vs,H1,I1,r1,q1⟩=> ?_) hs rfl));obtain ⟨j,e,q1,q2,q⟩:=q1;subst e;cases r1 with
 | cons r rr=>
  cases rr;obtain ⟨t,rfl⟩:=r;exact call_range_1 (DY I1 (by omega) (by omega) q1 q2 (by simpa using q))
def O1(wi:TI)(g:TG)(tb:TS):TS:=λD σ H=>wi σ H λJ H1=>∃W:Nat->Nat->St->Hp->Prop,(∃m,W 0 m σ H1)/\∀i m σ H,W i m σ H->
 (J.stop i H/\D.nx σ H)\/(J.go i H/\∃N:St->Hp->Prop,(∀σ' H',N σ' H'->∃m',m' < m/\W (i+1) m' σ' H')/\∀x H',J.MY i H x H'->g x σ H' λσ2 H2=>tb {D with nx:=N,ct:=N,bk:=D.nx} σ2 H2)
def sS(fp:List Addr)(h:Heap):List (Addr×Obj):=fp.filterMap λb=>(h.get? b).map λo=>(b,o)
theorem d8{o:Obj}(hb:b∈fp)(e:h.get? b=some o):(b,o)∈sS fp h:=ab2.mpr ⟨b,hb,by rw [e];rfl⟩
theorem zW{p:Addr×Obj}(hp:p∈sS fp h):p.1∈fp/\h.get? p.1=some p.2:=by
 obtain ⟨b,hb,e⟩:=ab2.mp hp;cases q:h.get? b with
 | none=>rw [q] at e;cases e
 | some o=>
  rw [q] at e;have e':(b,o)=p:=aan e;subst e';exact ⟨hb,q⟩
theorem Inv.pinned{H:Hp}(I:Inv X ε σ H s)(hf:∀b∈fp,pA X ε H b)(ho:∀b∈fp,∃o,s.heap.get? b=some o/\∀v,o.data≠ .cell v):Inv X (ε++sS fp s.heap) σ H s:=
 I.yS λp hp=>(aa2.mp hp).elim (λz=>I.pin p (aaB _ z)) λz=>by obtain ⟨hb,e⟩:=zW z;obtain ⟨f0,f1,f2,_⟩:=hf p.1 hb;obtain ⟨o,e',d⟩:=ho p.1 hb;rw [e] at e';cases e';exact ⟨e,f0,f1,f2,d⟩
theorem Inv.ix{pl:List (Addr×Obj)}{H:Hp}(I:Inv X (ε++pl) σ H s):Inv X ε σ H s:=I.yS λp hp=>I.pin p (aaB _ (abz _ hp))
theorem DN{iter:Expr}{wi:TI}{g:TG}{tb:TS}(hp:PassesOwn (model X.prog X.w) X.A X.env X.xe)(hc:X.calm=true)(hi:PI X tg iter wi)(hg:PG X tg g)(hb:A2 X body tb)
  (hs:∀x,foldedSetIterable iter X.env x=pure x:=by intro _;rfl):PS X (.For tg iter body [] pos) (O1 wi g tb):=by
 intro ε s σ H D I h;refine wpAny_For (bQ (hi ε s σ H _ I h) λv s1 h1=>bQ h1 λNX s2 h2=> ?_) hs;obtain ⟨it,fp,tn,J,H2,e,I2,T,UT,f2,W,⟨m0,w0⟩,turn⟩:=h2;subst e;have JZ:∀{H':Hp},(∀b∈fp,H' b=none)->∀b∈fp,pA X ε H' b:=λhn b hb=>⟨hn b hb,(f2 b hb).2⟩;refine codeAny_forLoop_any (λn s'=>∃i σ' H',Inv X ε σ' H' s'/\tn i s'.heap/\(∀b∈fp,H' b=none)/\W i n σ' H') ?_ m0 ⟨0,σ,H2,I2,UT,λb hb=>(f2 b hb).1,w0⟩;rintro n s3 ⟨i,σ3,H3,I3,SS,SO,w3⟩;rcases turn i n σ3 H3 w3 with ⟨stop,qn⟩ | ⟨go,N,hN,step⟩
 ·refine wpAny_passesOwn hp (bQ (T.done X rfl rfl rfl hc i ε s3 σ3 H3 X.xe I3 (JZ SO) SS stop) λr s4 ⟨hr,I4⟩=> ?_);subst hr;exact wpAny_execs_nil ⟨σ3,H3,I4,qn⟩
 ·refine wpAny_passesOwn hp (bQ (T.item X rfl rfl rfl hc i ε s3 σ3 H3 X.xe I3 (JZ SO) SS go) λr s4 ⟨u,hr,h4⟩=> ?_);subst hr;refine wpAny_passesOwn hp (bQ h4 λ_ s5 ⟨x,H5,I5,r5,y5,O8,N4⟩=> ?_);have V':=I5.pinned (JZ N4) (T.obj _ _ O8);refine wpAny_passesOwn hp (bQ (hg _ s5 σ3 H5 x u _ V' r5 (step x H5 y5)) λ_ s6 ⟨σ6,H6,I6,q6⟩=> ?_);refine wpAny_passesOwn hp (bQ (hb _ s6 σ6 H6 _ I6 q6) λf s7 q7=> ?_);have again:∀{σ7:St} {H7:Hp},Inv X (ε++sS fp s5.heap) σ7 H7 s7->N σ7 H7->∃m,m < n/\∃i σ' H',Inv X ε σ' H' s7/\tn i s7.heap/\(∀b∈fp,H' b=none)/\W i m σ' H':=λ{σ7 H7} I7 n7=>by obtain ⟨m',hm,w7⟩:=hN σ7 H7 n7;refine ⟨m',hm,i+1,σ7,H7,I7.ix,T.keep _ _ _ O8 λb hb o e=>(I7.pin (b,o) (aaB _ (aaB _ (d8 hb e)))).1,λb hb=> ?_,w7⟩;obtain ⟨o,e,d⟩:=T.obj _ _ O8 b hb;exact (I7.pin (b,o) (aaB _ (aaB _ (d8 hb e)))).2.1
  cases f with
  | next=>obtain ⟨σ7,H7,I7,n7⟩:=q7;exact again I7 n7
  | cont=>obtain ⟨σ7,H7,I7,n7⟩:=q7;exact again I7 n7
  | brk=>obtain ⟨σ7,H7,I7,q7⟩:=q7;exact ⟨σ7,H7,I7.ix,q7⟩
  | ret v=>obtain ⟨x7,σ7,H7,I7,r7,q7⟩:=q7;exact ⟨x7,σ7,H7,I7.ix,r7,q7⟩
end
abbrev R2:=V->V->Hp->VK->Prop
def hI(X:Cx)(f:Value->Value->Sem Value)(r:R2):Prop:=
 ∀(ε:List (Addr×Obj)) (s:Shared) (σ:St) (H:Hp) (x y:V) (v u:Value) (Q:VK),Inv X ε σ H s->ak x v->ak y u->r x y H Q->
  wpAny (model X.prog X.w) X.A (f v u) (EP X ε σ Q) X.xe s
def Om(X:Cx)(f:Value->Sem Value)(r:V->Hp->VK->Prop):Prop:=
 ∀(ε:List (Addr×Obj)) (s:Shared) (σ:St) (H:Hp) (x:V) (v:Value) (Q:VK),Inv X ε σ H s->ak x v->r x H Q->
  wpAny (model X.prog X.w) X.A (f v) (EP X ε σ Q) X.xe s
def eJ(X:Cx)(f:Value)(r:List V->Hp->VK->Prop):Prop:=
 ∀(ε:List (Addr×Obj)) (s:Shared) (σ:St) (H:Hp) (xs:List V) (us:List Value) (Q:VK),Inv X ε σ H s->au xs us->r xs H Q->
  wpAny (model X.prog X.w) X.A (call f us) (EP X ε σ Q) X.xe s
def Ni(r:R2)(ta tb:TE):TE:=λσ H Q=>ta σ H λx H1=>tb σ H1 λy H2=>r x y H2 Q
def RT(r:V->Hp->VK->Prop)(ta:TE):TE:=λσ H Q=>ta σ H λx H1=>r x H1 Q
def rI(C:Int->Int->Prop)(g:Int->Int->V):R2:=λx y H Q=>∃i j,x= .int i/\y= .int j/\C i j/\Q (g i j) H
def AQ(g:Int->Int->V):R2:=λx y H Q=>∃i j,x= .int i/\y= .int j/\Q (g i j) H
def rU(g:Int->V):V->Hp->VK->Prop:=λx H Q=>∃i,x= .int i/\Q (g i) H
section
variable{a b:Expr}{tb tc:TE}
theorem IW(ha:PE X a ta)(hb:PE X b tb){H:Hp}{R:V->V->Hp->Prop}(I:Inv X ε σ H s)
  (h:ta σ H λx H1=>tb σ H1 λy H2=>R x y H2)
  (hf:∀v u s2 x y H2,Inv X ε σ H2 s2->ak x v->ak y u->R x y H2->wpAny (model X.prog X.w) X.A (f v u) Q X.xe s2):
  wpAny (model X.prog X.w) X.A (eval a X.env) (λv s₁=>wpAny (model X.prog X.w) X.A (eval b X.env) (λu s₂=>wpAny (model X.prog X.w) X.A (f v u) Q X.xe s₂) X.xe s₁) X.xe s:=by
 refine bQ (ha ε s σ H _ I h) λv s1 ⟨x,H1,I1,r1,q1⟩=> ?_;refine bQ (hb ε s1 σ H1 _ I1 q1) λu s2 ⟨y,H2,I2,r2,q2⟩=> ?_;exact hf v u s2 x y H2 I2 r1 r2 q2
theorem Mx{op:Operator}{r:R2}(ho:hI X (binaryOp op) r)(ha:PE X a ta)(hb:PE X b tb):PE X (.BinOp a op b pos) (Ni r ta tb):=by intro ε s σ H Q I h;exact wpAny_BinOp (IW ha hb I h λv u s2 x y H2 I2 rx ry q=>ho ε s2 σ H2 x y v u Q I2 rx ry q)
theorem Ll{op:UnaryOp}{r:V->Hp->VK->Prop}(ho:Om X (unaryOp op) r)(ha:PE X a ta):PE X (.UnaryOp op a pos) (RT r ta):=by intro ε s σ H Q I h;exact UnaryOp_ (bQ (ha ε s σ H _ I h) λv s1 ⟨x,H1,I1,r1,q1⟩=>ho ε s1 σ H1 x v Q I1 r1 q1)
theorem Oz{C:Int->Int->Prop}{g:Int->Int->Int}
  (rule:∀(i j:Int) (t u:Tok) (s:Shared) (Q:Value->Shared->Prop) (E:Value->Shared->Prop),C i j->Q (.int (g i j) s.toks) {s with toks:=s.toks+1}->wpAny (model X.prog X.w) X.A (f (.int i t) (.int j u)) Q E s):
  hI X f (rI C λi j=> .int (g i j)):=by
 intro ε s σ H x y v u Q I rx ry h;obtain ⟨i,j,rfl,rfl,hc,q⟩:=h;obtain ⟨t,rfl⟩:=rx;obtain ⟨t',rfl⟩:=ry;exact rule i j t t' s _ _ hc ⟨.int (g i j),H,I.tok _,⟨_,rfl⟩,q⟩
theorem MV{g:Int->Int->Int}
  (rule:∀(i j:Int) (t u:Tok) (s:Shared) (Q:Value->Shared->Prop) (E:Value->Shared->Prop),Q (.int (g i j) s.toks) {s with toks:=s.toks+1}->wpAny (model X.prog X.w) X.A (f (.int i t) (.int j u)) Q E s):
  hI X f (AQ λi j=> .int (g i j)):=by
 intro ε s σ H x y v u Q I rx ry h;obtain ⟨i,j,rfl,rfl,q⟩:=h;obtain ⟨t,rfl⟩:=rx;obtain ⟨t',rfl⟩:=ry;exact rule i j t t' s _ _ ⟨.int (g i j),H,I.tok _,⟨_,rfl⟩,q⟩
theorem Gu{g:Int->Int->Bool}
  (rule:∀(i j:Int) (t u:Tok) (s:Shared) (Q:Value->Shared->Prop) (E:Value->Shared->Prop),Q (.bool (g i j)) s->wpAny (model X.prog X.w) X.A (f (.int i t) (.int j u)) Q E s):
  hI X f (AQ λi j=> .bl (g i j)):=by
 intro ε s σ H x y v u Q I rx ry h;obtain ⟨i,j,rfl,rfl,q⟩:=h;obtain ⟨t,rfl⟩:=rx;obtain ⟨t',rfl⟩:=ry;exact rule i j t t' s _ _ ⟨.bl (g i j),H,I,rfl,q⟩
def rN(i j:Int):Prop:=0<=j/\j<=1000000/\i.natAbs < 2 ^ 64
theorem IT:hI X (binaryOp .Add) (AQ λi j=> .int (i+j)):=MV λ_ _ _ _ _ _ _ q=>add_int q
theorem J6:hI X (binaryOp .Sub) (AQ λi j=> .int (i - j)):=MV λ_ _ _ _ _ _ _ q=>sub_int q
theorem Iq:hI X (binaryOp .Mod) (rI (λ_ j=>0 < j) λi j=> .int (i % j)):=Oz λi j _ _ _ _ _ hc q=>by have h1:(0:Int) < j:=hc;exact mod_int' (by omega) (by rw [abu i (by omega)];exact q)
theorem IQ:hI X (binaryOp .Pow) (rI rN λi j=> .int (i ^ j.toNat)):=Oz λ_ _ _ _ _ _ _ hc q=>pow_int_small hc.1 hc.2.1 hc.2.2 q
theorem Ws{f:Value->Sem Value}{g:Int->Int}
  (rule:∀(i:Int) (t:Tok) (s:Shared) (Q:Value->Shared->Prop) (E:Value->Shared->Prop),Q (.int (g i) s.toks) {s with toks:=s.toks+1}->wpAny (model X.prog X.w) X.A (f (.int i t)) Q E s):
  Om X f (rU λi=> .int (g i)):=by
 intro ε s σ H x v Q I rx h;obtain ⟨i,rfl,q⟩:=h;obtain ⟨t,rfl⟩:=rx;exact rule i t s _ _ ⟨.int (g i),H,I.tok _,⟨_,rfl⟩,q⟩
theorem Ky:Om X (unaryOp .USub) (rU λi=> .int (-i)):=Ws λ_ _ _ _ _ q=>neg_int q
end
def Lr:V->V->Bool
 | .ba, .ba=>true | .ba, .int _=>true | .int _, .ba=>true | .ba, .bl _=>true | .bl _, .ba=>true | .ba, .str _=>true | .str _, .ba=>true
 | .int _, .int _=>true | .bl _, .bl _=>true | .str _, .str _=>true | .A6 _, .A6 _=>true
 | .int _, .str _=>true | .str _, .int _=>true | .bl _, .str _=>true | .str _, .bl _=>true
 | _,_=>false
def S2:R2:=λx y H Q=>Lr x y=true/\Q (.bl (decide (x=y))) H
def SF:R2:=λx y H Q=>Lr x y=true/\Q (.bl (!decide (x=y))) H
theorem y_{i j:Int}:decide (V.int i=V.int j)=(i==j):=by rw [Bool.eq_iff_iff];simp
theorem CO{i j:Bool}:decide (V.bl i=V.bl j)=(i==j):=by rw [Bool.eq_iff_iff];simp
theorem ze{i j:Str}:decide (V.str i=V.str j)=(i==j):=by rw [Bool.eq_iff_iff];simp
theorem zj{i j:Array UInt8}:decide (V.A6 i=V.A6 j)=(i.toList==j.toList):=by rw [Bool.eq_iff_iff];cases i;cases j;simp
section
variable{a b:Expr}{tb tc:TE}
theorem aB{H:Hp}{Q:VK}{k k':Bool}(I:Inv X ε σ H s)(q:Q (.bl k) H)(e:k=k'):EP X ε σ Q (.bool k') s:=by subst e;exact ⟨.bl k,H,I,rfl,q⟩
theorem He:hI X (compareOp .Eq) S2:=by
 intro ε s σ H x y v u Q I rx ry h;obtain ⟨hs,q⟩:=h;cases x with
 | ba=>
  cases rx;cases y with
  | ba=>cases ry;exact PySem.EqNone.eq_none_none (aB I q (by simp))
  | bl j=>cases ry;exact PySem.EqNone.eq_none_bool (aB I q (by simp))
  | int j=>obtain ⟨t',rfl⟩:=ry;exact PySem.EqNone.eq_none_int (aB I q (by simp))
  | str j=>obtain ⟨t',rfl⟩:=ry;exact PySem.EqNone.eq_none_str (aB I q (by simp))
  | _=>exact aaJ (show false=true from hs) aau
 | bl i=>
  cases rx;cases y with
  | ba=>cases ry;exact PySem.EqNone.eq_bool_none (aB I q (by simp))
  | bl j=>cases ry;exact eq_bool (aB I q CO)
  | str j=>obtain ⟨t',rfl⟩:=ry;exact PySem.EqMixed.eq_bool_str (aB I q (by simp))
  | _=>exact aaJ (show false=true from hs) aau
 | int i=>
  obtain ⟨t,rfl⟩:=rx;cases y with
  | ba=>cases ry;exact PySem.EqNone.eq_int_none (aB I q (by simp))
  | int j=>obtain ⟨t',rfl⟩:=ry;exact eq_int (aB I q y_)
  | str j=>obtain ⟨t',rfl⟩:=ry;exact PySem.EqMixed.eq_int_str (aB I q (by simp))
  | _=>exact aaJ (show false=true from hs) aau
 | str i=>
  obtain ⟨t,rfl⟩:=rx;cases y with
  | ba=>cases ry;exact PySem.EqNone.eq_str_none (aB I q (by simp))
  | bl j=>cases ry;exact PySem.EqMixed.eq_str_bool (aB I q (by simp))
  | int j=>obtain ⟨t',rfl⟩:=ry;exact PySem.EqMixed.eq_str_int (aB I q (by simp))
  | str j=>obtain ⟨t',rfl⟩:=ry;exact eq_str (aB I q ze)
  | _=>exact aaJ (show false=true from hs) aau
 | A6 i=>
  obtain ⟨t,rfl⟩:=rx;cases y with
  | A6 j=>obtain ⟨t',rfl⟩:=ry;exact PySem.W.eq_bytes (aB I q zj)
  | _=>exact aaJ (show false=true from hs) aau
 | _=>cases y <;> exact aaJ (show false=true from hs) aau
theorem LV:hI X (compareOp .NotEq) SF:=by
 intro ε s σ H x y v u Q I rx ry h;obtain ⟨hs,q⟩:=h;cases x with
 | ba=>
  cases rx;cases y with
  | ba=>cases ry;exact PySem.EqNone.ne_none_none (aB I q (by simp))
  | bl j=>cases ry;exact PySem.EqNone.ne_none_bool (aB I q (by simp))
  | int j=>obtain ⟨t',rfl⟩:=ry;exact PySem.EqNone.ne_none_int (aB I q (by simp))
  | str j=>obtain ⟨t',rfl⟩:=ry;exact PySem.EqNone.ne_none_str (aB I q (by simp))
  | _=>exact aaJ (show false=true from hs) aau
 | bl i=>
  cases rx;cases y with
  | ba=>cases ry;exact PySem.EqNone.ne_bool_none (aB I q (by simp))
  | bl j=>cases ry;exact ne_bool (aB I q (aa5 not CO))
  | str j=>obtain ⟨t',rfl⟩:=ry;exact PySem.EqMixed.ne_bool_str (aB I q (by simp))
  | _=>exact aaJ (show false=true from hs) aau
 | int i=>
  obtain ⟨t,rfl⟩:=rx;cases y with
  | ba=>cases ry;exact PySem.EqNone.ne_int_none (aB I q (by simp))
  | int j=>obtain ⟨t',rfl⟩:=ry;exact ne_int (aB I q (aa5 not y_))
  | str j=>obtain ⟨t',rfl⟩:=ry;exact PySem.EqMixed.ne_int_str (aB I q (by simp))
  | _=>exact aaJ (show false=true from hs) aau
 | str i=>
  obtain ⟨t,rfl⟩:=rx;cases y with
  | ba=>cases ry;exact PySem.EqNone.ne_str_none (aB I q (by simp))
  | bl j=>cases ry;exact PySem.EqMixed.ne_str_bool (aB I q (by simp))
  | int j=>obtain ⟨t',rfl⟩:=ry;exact PySem.EqMixed.ne_str_int (aB I q (by simp))
  | str j=>obtain ⟨t',rfl⟩:=ry;exact ne_str (aB I q (aa5 not ze))
  | _=>exact aaJ (show false=true from hs) aau
 | A6 i=>
  obtain ⟨t,rfl⟩:=rx;cases y with
  | A6 j=>obtain ⟨t',rfl⟩:=ry;exact PySem.W.ne_bytes (aB I q (aa5 not zj))
  | _=>exact aaJ (show false=true from hs) aau
 | _=>cases y <;> exact aaJ (show false=true from hs) aau
theorem GY:hI X (compareOp .Lt) (AQ λi j=> .bl (decide (i < j))):=Gu λ_ _ _ _ _ _ _ q=>lt_int q
theorem Ho:hI X (compareOp .LtE) (AQ λi j=> .bl (decide (i<=j))):=Gu λ_ _ _ _ _ _ _ q=>le_int q
theorem Ng:hI X (compareOp .Gt) (AQ λi j=> .bl (decide (j < i))):=Gu λ_ _ _ _ _ _ _ q=>gt_int q
theorem Hi:hI X (compareOp .GtE) (AQ λi j=> .bl (decide (j<=i))):=Gu λ_ _ _ _ _ _ _ q=>ge_int q
theorem II:hI X (compareOp .Is) (λx y H Q=>y= .ba/\Q (.bl (decide (x= .ba))) H):=by
 intro ε s σ H x y v u Q I rx ry h;obtain ⟨rfl,q⟩:=h;cases ry;refine is_none_gen (aB I q ?_)
 cases x <;> first
  | (cases rx;rfl)
  | (obtain ⟨t,rfl⟩:=rx;rfl)
theorem hI.or{r r':R2}(h:hI X f r)(h':hI X f r'):hI X f (λx y H Q=>r x y H Q\/r' x y H Q):=by
 intro ε s σ H x y v u Q I rx ry q;rcases q with q | q
 ·exact h ε s σ H x y v u Q I rx ry q
 ·exact h' ε s σ H x y v u Q I rx ry q
theorem fm(b:Expr)(h:op≠ .In:=by decide)(h2:op≠ .NotIn:=by decide):behindInMarks op b=false:=by
 have e1:(op==CmpOp.In)=false:=by cases op <;> first | rfl | exact aaJ rfl h
 have e2:(op==CmpOp.NotIn)=false:=by cases op <;> first | rfl | exact aaJ rfl h2
 cases b <;> simp [behindInMarks,e1,e2]
theorem F_{r:R2}(ho:hI X (compareOp op) r)(ha:PE X a ta)(hb:PE X b tb)(hm:behindInMarks op b=false):PE X (.Compare a [op] [b] pos) (Ni r ta tb):=by intro ε s σ H Q I h;exact wpAny_Compare1 (IW ha hb I h λv u s2 x y H2 I2 rx ry q=>ho ε s2 σ H2 x y v u Q I2 rx ry q) hm
def LH(t:TE):TT:=λσ H Q=>t σ H λx H'=>∃k,x= .bl k/\Q k H'
theorem Ew{r:R2}(ho:hI X (compareOp op) r)(ha:PE X a ta)(hb:PE X b tb)(hm:behindInMarks op b=false):PT X (.Compare a [op] [b] pos) (LH (Ni r ta tb)):=by
 intro ε s σ H Q I h
 refine wpAny_isTrue_Compare1 (bQ (ha ε s σ H _ I h) λv s1 ⟨x,H1,I1,r1,q1⟩=>bQ (hb ε s1 σ H1 _ I1 q1) λu s2 ⟨y,H2,I2,r2,q2⟩=>
  bQ (ho ε s2 σ H2 x y v u _ I2 r1 r2 q2) λc s3 ⟨z,H3,I3,r3,k,e,q3⟩=> ?_) hm
 subst e;cases r3;exact wpAny_truthy_bool ⟨H3,I3,q3⟩
theorem lR:(sizeLine:Nat) < 2 ^ 63:=by rw [sizeLine_eq];decide
theorem w_:hI X (binaryOp .Add) (λx y H Q=>∃i j,x= .str i/\y= .str j/\i.length+j.length<=sizeLine/\Q (.str (i++j)) H):=by intro ε s σ H x y v u Q I rx ry h;obtain ⟨i,j,rfl,rfl,hz,q⟩:=h;obtain ⟨t,rfl⟩:=rx;obtain ⟨t',rfl⟩:=ry;exact add_str (λt' tk=>⟨.str (i++j),H,I.tok _,⟨_,rfl⟩,q⟩) hz
theorem pD{x:V}(r:au [x] us):∃u,us=[u]/\ak x u:=by
 cases r with
 | cons r1 r2=>cases r2;exact ⟨_,rfl,r1⟩
theorem NB{x y:V}(r:au [x,y] us):∃u w',us=[u,w']/\ak x u/\ak y w':=by
 cases r with
 | cons r1 r2=>
  cases r2 with
  | cons r3 r4=>cases r4;exact ⟨_,_,rfl,r1,r3⟩
theorem Cz:eJ X (.builtin "abs") (λxs H Q=>∃i,xs=[.int i]/\Q (.int (if i < 0 then -i else i)) H):=by intro ε s σ H xs us Q I r h;obtain ⟨i,rfl,q⟩:=h;obtain ⟨u,rfl,t,rfl⟩:=pD r;exact call_abs_int λu tk=>⟨.int (if i < 0 then -i else i),H,I.tok _,⟨_,rfl⟩,q⟩
end
structure wM(h:Heap)(x dx C:Addr)(mA:Str->Option Value):Prop where
 obj:h.get? x=some (PySem.W.instObj C dx)
 ns:h.Ns1 dx mA
 ne:dx≠x
theorem Ap(n:h.Ns1 dx mA):∃od,h.get? dx=some od/\∀name,PySem.W.lookIn name od=some (mA name):=by
 obtain ⟨o,es,ep,ho,hd,hk,_,hm⟩:=n;refine ⟨o,ho,λname=> ?_⟩;have e:=hm name;unfold nsFind findBy at e;rw [<-Array.find?_toList] at e;unfold PySem.W.lookIn;rw [hd];dsimp only;split
 ·rename_i y q;rw [q] at e;exact aa5 some e
 ·rename_i q;rw [q] at e;have a:es.toList.any (·.refKey)=false:=by rw [List.any_eq_false];intro y hy;obtain ⟨z,t,Rg⟩:=hk y (Array.mem_toList_iff.mp hy);simp [DictEntry.refKey,Rg]
  have a':¬es.toList.any (·.refKey)=true:=by rw [a];exact aau
  rw [aaA a'];exact aa5 some e
theorem wM.look{x:Addr}(I:wM h x dx C mA):∃od,PySem.W.InstAt h x (PySem.W.instObj C dx) C (some od)/\∀name,PySem.W.lookIn name od=some (mA name):=
 let ⟨od,ho,hl⟩:=Ap I.ns
 ⟨od,⟨I.obj,rfl,rfl,ho⟩,hl⟩
section
variable{K:fv}{x f:Addr}{name:Str}{v:Value}
theorem ng{expr:Bool}(X:K.In s.heap)(I:wM s.heap x dx C mA)(hg:PySem.W.plainGet K C name=true)(hh:PySem.W.hasDictIn K C=true)
  (ha:PySem.W.findIn K (.ref C) name=some none) (hv:mA name=some v) (Uw:PySem.W.handedIn v=true) (h:Q v {s with toks:=s.toks+1}):
  wpAny (model prog w) A (getAttr (.ref x) name expr) Q E s:=by
 obtain ⟨od,J,hl⟩:=I.look;exact PySem.W.get_value X J (PySem.W.plainGet_of hg).1 (PySem.W.findObj_own hh ha rfl (by rw [hl,hv])) Uw h
theorem D5{pl:Sem Bool}{Q:Value×List Value->Shared->Prop}(X:K.In s.heap)(I:wM s.heap x dx C mA)(hg:PySem.W.plainGet K C name=true)
  (hf:PySem.W.findIn K (.ref C) name=some (some (.ref f))) (ht:PySem.W.isFn K (.ref f)=true) (hv:mA name=none) (h:Q (.ref f,[.ref x]) s):
  wpAny (model prog w) A (getMethod (.ref x) name pl) Q E s:=by
 obtain ⟨od,J,hl⟩:=I.look;exact PySem.W.method_fn X J (PySem.W.plainGet_of hg).1 (PySem.W.plainGet_of hg).2 hf (abi.mp ht) (by show (PySem.W.lookIn name od).map (·.isSome)=some false;rw [hl,hv];rfl) h
theorem Fj{ns:List Str}{Q:Unit->Shared->Prop}(X:K.In s.heap)(I:wM s.heap x dx C mA)
  (hs:PySem.W.findIn K (.ref C) "__setattr__"=some (some (.builtin "object.__setattr__"))) (hp:PySem.W.plainOver K C=true) (ht:PySem.W.takerIn K C name=some none) (hh:PySem.W.hasDictIn K C=true)
  (hw:PySem.Within mA ns) (hsz:ns.length<=sizeLine)
  (h:∀h',wM h' x dx C (λy=>if y=name then some v else mA y)->Heap.SameBut dx s.heap h'->Q () {s with heap:=h',toks:=s.toks+2}):
  wpAny (model prog w) A (setAttr (.ref x) name v) Q E s:=by
 obtain ⟨od,J,hl⟩:=I.look;refine PySem.W.set_plain X J hs (PySem.W.osa_open (s:={s with toks:=s.toks+1}) (r:=none) X J hp ht λb=> ?_);obtain ⟨cd,hc,Mp⟩:=PySem.W.any_some hh;have hx:s.heap.get? x=some ⟨.ref C,some dx, .plain, #[]⟩:=I.obj;refine aak (aaL (aak (aak (wpAny_loadPart hx (aak (PySem.W.Looks.here (s:={s with toks:=s.toks+1}) (PySem.W.looks_clsIn X hc) ?_))))));rw [Mp];refine aaL (a:=some dx) (aak (aaL (aak ?_)));refine wpAny_nsSet1 (s:={s with toks:=s.toks+1}) I.ns λh' NN Ow=> ?_;obtain ⟨oD,Yb,X',WX,Ui,W7⟩:=NN.count (PySem.Within.cons name v hw);refine aak (wpAny_lookBehind WX (by rw [Ui];exact pastItsLine_dict (aaI W7 (by rw [aaw];omega))) ?_);exact aaL (h _ ⟨(Ow.2 _ (Ne.symm I.ne)).trans I.obj,NN,I.ne⟩ Ow)
theorem BF{R:Result->Shared->Prop}{vs:List Value}(X:K.In s.heap)(hm:PySem.W.makesIn K C=true)
  (hi:PySem.W.findIn K (.ref C) "__init__"=some (some (.ref f))) (hf:PySem.W.typeIn K (.ref f)=some (.type "function"))
  (h:codeAny (model prog w) (A.under (.builtin "type.__call__" ⟨.ref C::vs,kw⟩)) (.call (.ref f) ⟨.ref (s.heap.objs.size+1)::vs,kw⟩) (PySem.W.InitBack (s.heap.objs.size+1) R)
   {s with heap:=(s.heap.push PySem.W.emptyDict).push (PySem.W.instObj C s.heap.objs.size)}):
  codeAny (model prog w) A (.call (.ref C) ⟨vs,kw⟩) R s:=by
 obtain ⟨hh,g,d,t,os⟩:=s;exact PySem.W.make_core (PySem.W.makes_of X hm) (PySem.W.looks_findIn X hi) (λself=>PySem.W.bind_fn X self hf) (.inl rfl) h
end
def hG(f:Str)(v:V):List (Str×V)->List (Str×V)
 | []=>[(f,v)]
 | (g,x)::r=>if g=f then (g,v)::r else (g,x)::hG f v r
theorem mj(f g:Str)(v:V):∀fs:List (Str×V),(hG f v fs).lookup g=if g=f then some v else fs.lookup g
 | []=>by
  show List.lookup g [(f,v)]=_;by_cases h:g=f
  ·have hb:(g==f)=true:=abi.mpr h;simp only [List.lookup,hb,if_pos h]
  ·have hb:(g==f)=false:=beq_eq_false_iff_ne.mpr h;simp only [List.lookup,hb,if_neg h]
 | (k,x)::r=>by
  have ih:=mj f g v r;rw [show hG f v ((k,x)::r)=(if k=f then (k,v)::r else (k,x)::hG f v r) from rfl];by_cases hk:k=f
  ·rw [aaE hk];by_cases h:g=k
   ·have hb:(g==k)=true:=abi.mpr h;simp only [List.lookup,hb,if_pos (h.trans hk)]
   ·have hb:(g==k)=false:=beq_eq_false_iff_ne.mpr h;simp only [List.lookup,hb,if_neg (λe:g=f=>h (e.trans hk.symm))]
  ·rw [aaA hk];by_cases h:g=k
   ·have hb:(g==k)=true:=abi.mpr h;simp only [List.lookup,hb,if_neg (λe:g=f=>hk (h.symm.trans e))]
   ·have hb:(g==k)=false:=beq_eq_false_iff_ne.mpr h;simp only [List.lookup,hb];exact ih
theorem lG(f:Str)(v:V):∀fs:List (Str×V),f∈(hG f v fs).map (·.1)/\∀g,g∈fs.map (·.1)->g∈(hG f v fs).map (·.1)
 | []=>⟨by simp [hG],λg h=>by simp at h⟩
 | (k,x)::r=>by
  obtain ⟨i1,i2⟩:=lG f v r;rw [show hG f v ((k,x)::r)=(if k=f then (k,v)::r else (k,x)::hG f v r) from rfl];by_cases hk:k=f
  ·rw [aaE hk];subst hk;exact ⟨by simp,λg h=>by simpa using h⟩
  ·rw [aaA hk];refine ⟨?_,λg h=> ?_⟩
   ·rw [aaS];exact aad _ i1
   ·rw [aaS] at h⊢;rcases aaP.mp h with e | e
    ·exact aaP.mpr (.inl e)
    ·exact aad _ (i2 g e)
theorem me(f:Str)(v:V):∀fs:List (Str×V),(hG f v fs).length<=fs.length+1
 | []=>by simp [hG]
 | (k,x)::r=>by
  have ih:=me f v r;rw [show hG f v ((k,x)::r)=(if k=f then (k,v)::r else (k,x)::hG f v r) from rfl];by_cases hk:k=f
  ·rw [aaE hk,aaw,aaw];omega
  ·rw [aaA hk,aaw,aaw];omega
theorem i_.some_of{o:Option Value}(r:i_ (some v) o):∃u,o=some u/\ak v u:=by
 cases o with
 | none=>exact (show False from r).elim
 | some u=>exact ⟨u,rfl,r⟩
theorem i_.none_of{o:Option Value}(r:i_ none o):o=none:=by
 cases o with
 | none=>rfl
 | some u=>exact (show False from r).elim
theorem AW(r:ak v u):PySem.W.handedIn u=true:=by
 cases v with
 | ba=>cases (show u=Value.none from r);rfl
 | bl b=>cases (show u=Value.bool b from r);rfl
 | int i=>obtain ⟨t,e⟩:=(show∃t,u=Value.int i t from r);cases e;rfl
 | str x=>obtain ⟨t,e⟩:=(show∃t,u=Value.str x t from r);cases e;rfl
 | A6 b=>obtain ⟨t,e⟩:=(show∃t,u=Value.bytes b t from r);cases e;rfl
 | HV b=>obtain ⟨t,e⟩:=(show∃t,u=Value.float b t from r);cases e;rfl
 | ref a=>cases (show u=Value.ref a from r);rfl
 | ty n=>cases (show u=Value.type n from r);rfl
section
variable{H H':Hp}{fs Px:List (Str×V)}
theorem mU(aR:ji P w H h)(e:H a=some (.ins C dx fs)):∃mA,wM h a dx C mA/\(∀f,i_ (fs.lookup f) (mA f))/\PySem.Within mA (fs.map (·.1))/\fs.length<=1000/\H dx=some (.own a):=by obtain ⟨d,z,ne,ob,mA,n,r,q⟩:=(show bO P w H h a (.ins C dx fs) from aR a _ e);exact ⟨mA,⟨ob,n,ne⟩,r,q,z,d⟩
end
structure yt(K:fv)(C:Addr):Prop where
 pg:PySem.W.plainGet K C Str.empty=true
 hd:PySem.W.hasDictIn K C=true
 po:PySem.W.plainOver K C=true
 sa:PySem.W.findIn K (.ref C) "__setattr__"=some (some (.builtin "object.__setattr__"))
theorem yt.get{K:fv}{C:Addr}(c:yt K C)(f:Str):PySem.W.plainGet K C f=true:=c.pg
def gb(K:fv)(C:Addr)(f:Str):Prop:=PySem.W.findIn K (.ref C) f=some none
theorem gb.NA{K:fv}{f:Str}(n:gb K C f):PySem.W.takerIn K C f=some none:=by unfold PySem.W.takerIn;rw [show PySem.W.findIn K (.ref C) f=some none from n];rfl
structure GG(K:fv)(C:Addr)(m:Str)(f:Addr):Prop where
 at_:PySem.W.findIn K (.ref C) m=some (some (.ref f))
 fn:PySem.W.isFn K (.ref f)=true
 kp:PySem.W.keepIn K (.ref f)=true
section
variable{H:Hp}{fs:List (Str×V)}{f:Str}
theorem xW{b:Bool}(I:Inv X ε σ H s)(e:H a=some (.ins C dx fs))(c:yt X.K C)(n:gb X.K C f)(l:fs.lookup f=some v)
  (h:∀u s',Inv X ε σ H s'->ak v u->Q u s'):wpAny (model X.prog X.w) A (getAttr (.ref a) f b) Q E s:=by
 obtain ⟨mA,O,r,_,_,_⟩:=mU I.aR e;obtain ⟨u,hu,ru⟩:=i_.some_of (v:=v) (o:=mA f) (by rw [<-l];exact r f);exact ng I.mK O (c.get f) c.hd n hu (AW ru) (h u _ (I.tok _) ru)
theorem pq{m:Str}{g:Addr}{pl:Sem Bool}{Q:Value×List Value->Shared->Prop}(I:Inv X ε σ H s)(e:H a=some (.ins C dx fs))(c:yt X.K C)(k:GG X.K C m g)(l:fs.lookup m=none)
  (h:Q (.ref g,[.ref a]) s):wpAny (model X.prog X.w) A (getMethod (.ref a) m pl) Q E s:=by
 obtain ⟨mA,O,r,_,_,_⟩:=mU I.aR e;have hn:mA m=none:=i_.none_of (by rw [<-l];exact r m);exact D5 I.mK O (c.get m) k.at_ k.fn hn h
theorem x'{y:V}{Q:Unit->Shared->Prop}(I:Inv X ε σ H s)(e:H a=some (.ins C dx fs))(c:yt X.K C)(n:gb X.K C f)(hl:fs.length < 1000)(ry:ak y u)
  (h:∀s',Inv X ε σ (upd H a (.ins C dx (hG f y fs))) s'->Q () s'):wpAny (model X.prog X.w) A (setAttr (.ref a) f u) Q E s:=by
 obtain ⟨mA,O,r,wi,_,ho⟩:=mU I.aR e;have hz:(fs.map (·.1)).length<=sizeLine:=by rw [aac,sizeLine_eq];omega
 refine Fj I.mK O c.sa c.po n.NA c.hd wi hz λh' O' sb=>h _ ?_;have hd:∃o,h'.get? dx=some o:=let ⟨o,_,_,e',_⟩:=O'.ns;⟨o,e'⟩
 refine I.write (x:=a) (e:=dx) (by rw [e];exact True.intro) (.inr ho) (λb q hb z=>(sb.2 b hb).trans z) hd ?_;refine ⟨by rw [Γ O.ne];exact ho, ?_,O.ne,O'.obj,_,O'.ns,λg=> ?_,λg hg=> ?_⟩
 ·have:=me f y fs;omega
 ·show i_ ((hG f y fs).lookup g) (if g=f then some u else mA g);rw [mj];by_cases q:g=f
  ·rw [aaE q,aaE q];exact ry
  ·rw [aaA q,aaA q];exact r g
 ·by_cases q:g=f
  ·rw [q];exact (lG f y fs).1
  ·refine (lG f y fs).2 g (wi g λz=>hg ?_);show (if g=f then some u else mA g)=none;rw [aaA q];exact z
theorem Inv.made(I:Inv X ε σ H s):Inv X ε σ (upd (upd H s.heap.objs.size (.own (s.heap.objs.size+1))) (s.heap.objs.size+1) (.ins C s.heap.objs.size []))
  {s with heap:=(s.heap.push PySem.W.emptyDict).push (PySem.W.instObj C s.heap.objs.size)}:=by
 have e1:(s.heap.push PySem.W.emptyDict).get? s.heap.objs.size=some PySem.W.emptyDict:=aaQ s.heap rfl;have e2:((s.heap.push PySem.W.emptyDict).push (PySem.W.instObj C s.heap.objs.size)).get? (s.heap.objs.size+1)=some (PySem.W.instObj C s.heap.objs.size):=by have:=aaQ (s.heap.push PySem.W.emptyDict) (o:=PySem.W.instObj C s.heap.objs.size) rfl;rwa [Heap.size_push] at this
 have e3:(s.heap.push PySem.W.emptyDict).Ns s.heap.objs.size (λ_=>none):=⟨PySem.W.emptyDict, #[],_,e1,rfl,(λe he=>absurd he (by simp)),λ_=>rfl⟩;have I1:=I.laid (a:=s.heap.objs.size) (o:= .own (s.heap.objs.size+1)) (h':=s.heap.push PySem.W.emptyDict) (t':=s.toks) (λb u q=>aal _ q) (aam _) ⟨_,e1⟩;refine I1.laid (a:=s.heap.objs.size+1) (o:= .ins C s.heap.objs.size []) (t':=s.toks) (λb u q=>aal _ q) (Nat.le_of_eq (Heap.size_push _ _)) ?_;have ne:s.heap.objs.size≠s.heap.objs.size+1:=aaK (abX _);refine ⟨by rw [Γ ne,Τ],abK _,ne,e2,λ_=>none,(Heap.Ns1.of_empty e3).at λo q=>aal _ q,λ_=>True.intro,λy hy=>aaJ rfl hy⟩
theorem FG{env:Env}{f:Str}(hb:attributeBase e f env (eval e env)=eval e env)
  (h:wpAny (model prog w) A (eval e env) (λo s₁=>wpAny (model prog w) A (getAttr o f true) Q E s₁) E s):wpAny (model prog w) A (eval (.Attribute e f pos) env) Q E s:=
 Attribute_any_ h (by rw [arm_eval_Attribute,hb])
end
def Ro(K:fv)(ta:TE)(f:Str):TE:=λσ H Q=>ta σ H λx H1=>∃a C dx fs v,x= .ref a/\H1 a=some (.ins C dx fs)/\yt K C/\gb K C f/\fs.lookup f=some v/\Q v H1
def Pz(K:fv)(ta tv:TE)(f:Str):TS:=λD σ H=>tv σ H λy H1=>ta σ H1 λx H2=>∃a C dx fs,x= .ref a/\H2 a=some (.ins C dx fs)/\yt K C/\gb K C f/\fs.length < 1000/\
 D.nx σ (upd H2 a (.ins C dx (hG f y fs)))
section
variable{o value:Expr}{f:Str}{pos' pQ:Pos}{tv:TE}
theorem I0(he:PE X e ta)(hb:attributeBase e f X.env (eval e X.env)=eval e X.env):PE X (.Attribute e f pos) (Ro X.K ta f):=by intro ε s σ H Q I h;refine FG hb (bQ (he ε s σ H _ I h) λu s1 ⟨x,H1,I1,rx,a,C,dx,fs,v,ex,ea,c,n,l,q⟩=> ?_);subst ex;obtain rfl:u=Value.ref a:=rx;exact xW I1 ea c n l λu' s2 I2 ru=>⟨v,H1,I2,ru,q⟩
theorem JL(ha:PE X o ta)(hv:PE X value tv)(hs:swapsWith value (some (.Attribute o f pos')) pos.line X.env=pure false):PS X (.Assign [.Attribute o f pos'] value pos) (Pz X.K ta tv f):=by intro ε s σ H D I h;refine plainObj_wpAny_Assign_Attribute (bQ (hv ε s σ H _ I h) λu s1 ⟨y,H1,I1,ry,q⟩=>bQ (ha ε s1 σ H1 _ I1 q) λov s2 ⟨x,H2,I2,rx,a,C,dx,fs,ex,ea,c,n,l,q2⟩=> ?_) hs;subst ex;obtain rfl:ov=Value.ref a:=rx;exact x' I2 ea c n l ry λs3 I3=>⟨σ,_,I3,q2⟩
end
section
variable{H:Hp}{c:Value}{b:Bool}
inductive i8(K:fv)(H:Hp):V->Value->Prop where
 | ba:i8 K H .ba (.type "NoneType")
 | bl (x:Bool):i8 K H (.bl x) (.type "bool")
 | int (i:Int):i8 K H (.int i) (.type "int")
 | str (x:Str):i8 K H (.str x) (.type "str")
 | HV (x:UInt64):i8 K H (.HV x) (.type "float")
 | lst {a:Addr} {xs:List V} (e:H a=some (.lst xs)):i8 K H (.ref a) (.type "list")
 | qS {a:Addr} {o:Obj} {xs:List V} (e:H a=some (.qS o (.lst xs))):i8 K H (.ref a) (.type "list")
 | tup {a:Addr} {xs:List V} (e:H a=some (.tup xs)):i8 K H (.ref a) (.type "tuple")
 | dK {a:Addr} {Β:List (Key×V)} (e:H a=some (.dK Β)):i8 K H (.ref a) (.type "dict")
 | dT {a:Addr} {Β:List (List Key×V)} (e:H a=some (.dT Β)):i8 K H (.ref a) (.type "dict")
 | ins {a C dx:Addr} {fs:List (Str×V)} (e:H a=some (.ins C dx fs)) (cl:yt K C) (ha:PySem.W.findIn K (.ref C) "__class__"=some (some (.builtin "object.__class__")))
   (hn:PySem.W.specialIn K (.builtin "object.__class__") "__get__"=some (some (.builtin "getset_descriptor.__get__"))) (RN:PySem.W.takesIn K (.builtin "object.__class__")=some true)
   (hm:PySem.W.mroIn K C (.type "object")=some true):i8 K H (.ref a) (.ref C)
theorem zp{x:V}{t:Value}(I:Inv X ε σ H s)(rx:ak x u)(ty:i8 X.K H x t)(e:PySem.W.kitOne X.K t c=some b)(h:∀tk,Q (.bool b) {s with toks:=tk}):
  wpAny (model X.prog X.w) A (call (.builtin "isinstance") [u,c]) Q E s:=by
 cases ty with
 | ba=>cases (show u=Value.none from rx);exact PySem.W.kia_one PySem.W.kitx_none I.mK True.intro e (λz=>nomatch z) h
 | bl y=>cases (show u=Value.bool y from rx);exact PySem.W.kia_one PySem.W.kitx_bool I.mK True.intro e (λz=>nomatch z) h
 | int i=>obtain ⟨t,q⟩:=(show∃t,u=Value.int i t from rx);cases q;exact PySem.W.kia_one PySem.W.kitx_int I.mK True.intro e (λz=>nomatch z) h
 | str y=>obtain ⟨t,q⟩:=(show∃t,u=Value.str y t from rx);cases q;exact PySem.W.kia_one PySem.W.kitx_str I.mK True.intro e (λz=>nomatch z) h
 | HV y=>obtain ⟨t,q⟩:=(show∃t,u=Value.float y t from rx);cases q;exact PySem.W.kia_one PySem.W.kitx_float I.mK True.intro e (λz=>nomatch z) h
 | @lst a xs ea=>
  cases (show u=Value.ref a from rx);obtain ⟨_,_,n,_,h1⟩:=(show bO X.prog X.w H s.heap a (.lst xs) from I.aR a _ ea);exact PySem.W.kia_one PySem.W.kitx_list I.mK ⟨_,h1,rfl⟩ e (λz=>nomatch z) h
 | @qS a ob xs ea=>
  cases (show u=Value.ref a from rx);obtain ⟨_,_,_,n,_,h1⟩:=(show bO X.prog X.w H s.heap a (.qS ob (.lst xs)) from I.aR a _ ea);exact PySem.W.kia_one PySem.W.kitx_list I.mK ⟨_,h1,rfl⟩ e (λz=>nomatch z) h
 | @tup a xs ea=>
  cases (show u=Value.ref a from rx);obtain ⟨_,_,_,p⟩:=(show bO X.prog X.w H s.heap a (.tup xs) from I.aR a _ ea);obtain ⟨o,h1,h2,_⟩:=p;exact PySem.W.kia_one PySem.W.kitx_tuple I.mK ⟨o,h1,h2⟩ e (λz=>nomatch z) h
 | @dK a Β ea=>
  cases (show u=Value.ref a from rx);obtain ⟨_,_,vs,_,p⟩:=(show bO X.prog X.w H s.heap a (.dK Β) from I.aR a _ ea);obtain ⟨o,es,ep,h1,h2,_⟩:=p;exact PySem.W.kia_one PySem.W.kitx_dict I.mK ⟨o,h1,h2.1⟩ e (λz=>nomatch z) h
 | @dT a Β ea=>
  cases (show u=Value.ref a from rx);obtain ⟨_,_,xs,_,o,es,ep,h1,h2,_⟩:=(show bO X.prog X.w H s.heap a (.dT Β) from I.aR a _ ea);exact PySem.W.kia_one PySem.W.kitx_dict I.mK ⟨o,h1,h2.1⟩ e (λz=>nomatch z) h
 | @ins a C dx fs ea cl ha hn RN hm=>
  cases (show u=Value.ref a from rx);obtain ⟨mA,O,_⟩:=mU I.aR ea;obtain ⟨od,J,_⟩:=O.look;exact PySem.W.kia_one (PySem.W.kitx_own (cl.get _) cl.hd ha hn RN hm) I.mK J e (λz=>nomatch z) h
end
structure bG(k:Nat)(A:Around):Prop where
 hd:A.handled=none
 dp:A.depth+3 * k+5 < recursionLimit
 un:A.units+16 * k+200 < cLine
theorem bG.mono{j k:Nat}(r:bG k A)(h:j<=k):bG j A:=⟨r.hd,by have:=r.dp;omega,by have:=r.un;omega⟩
theorem bG.deeper{k:Nat}(r:bG (k+1) A)(env:Env):bG k (A.deeper env):=
 ⟨r.hd,by have:=r.dp;show A.depth+1+3 * k+5 < _;omega,by have:=r.un;show A.units+3+16 * k+200 < _;omega⟩
theorem xa:(A.under (.builtin "type.__call__" ⟨.ref C::us,kw⟩)).depth=A.depth+1:=by
 first | rfl | simp [Around.under,Code.weight,Code.isCreation,Code.isGuard,Code.isCaller,Code.frames,Code.isFrame,guardIds]
theorem xU:(A.under (.builtin "type.__call__" ⟨.ref C::us,kw⟩)).units=A.units+1:=by
 first | rfl | simp [Around.under,Code.cUnits,Code.frames,Code.isFrame]
theorem bG.make{k:Nat}(r:bG (k+1) A)(C:Addr)(us:List Value)(kw:List (Str×Value)):bG k (A.under (.builtin "type.__call__" ⟨.ref C::us,kw⟩)):=
 ⟨r.hd,by have:=r.dp;rw [xa];omega,by have:=r.un;rw [xU];omega⟩
theorem bG.depth{k:Nat}(r:bG k A):A.depth < recursionLimit:=by have:=r.dp;omega
theorem bG.units{k:Nat}(r:bG k A):A.units+64 < cLine:=by have:=r.un;omega
theorem bG.x_{k:Nat}(r:bG k A):A.units < cLine:=by have:=r.un;omega
def K_:TA:=λ_ H Q=>Q [] H
def Lh(ta:TE)(tr:TA):TA:=λσ H Q=>ta σ H λx H1=>tr σ H1 λxs H2=>Q (x::xs) H2
section
variable{t:TA}
theorem IE:PA X [] K_:=λ_ _ _ _ H Q I h=>Calls.spliced_nil ⟨[],H,I, .nil,h⟩
theorem FU(ha:PE X e te)(hr:PA X es t)(hs:starEach (e::es) X.env=(false,eval e X.env)::starEach es X.env:=by rfl):PA X (e::es) (Lh te t):=by intro pos ε s σ H Q I h;rw [hs];show wpAny _ _ (spliced ((false,eval e X.env)::backTo pos (starEach es X.env))) _ _ s;refine Calls.spliced_cons (bQ (ha ε s σ H _ I h) λu s1 ⟨x,H1,I1,r1,q1⟩=> ?_);exact bQ (hr pos ε s1 σ H1 _ I1 q1) λus s2 ⟨xs,H2,I2,r2,q2⟩=>⟨x::xs,H2,I2, .cons r1 r2,q2⟩
def Rp(t:TA):TE:=λσ H Q=>t σ H λxs H1=>xs.length<=sizeLine/\∀p,H1 p=none->Q (.ref p) (upd H1 p (.tup xs))
def Rk(t:TA):TE:=λσ H Q=>t σ H λxs H1=>xs.length<=sizeLine/\∀p,H1 p=none->Q (.ref p) (upd H1 p (.lst xs))
theorem H_{x1}(h:PA X es t):PE X (.Tuple es x1 pos) (Rp t):=by intro ε s σ H Q I hq;refine wpAny_Tuple_spliced (bQ (h pos ε s σ H _ I hq) λus s1 ⟨xs,H1,I1,r,z,q⟩=>⟨by rw [<-r.length];exact z, ?_⟩);have hf:H1 s1.heap.objs.size=none:=I1.aR.fresh (aam _);refine ⟨.ref s1.heap.objs.size,upd H1 s1.heap.objs.size (.tup xs),I1.laid (t':=s1.toks) (λb u e=>aal _ e) (aam _) ?_,rfl,q _ hf⟩;exact ⟨z,us,r,⟨_,aaQ _ rfl,rfl,_,rfl⟩⟩
theorem BR(h:PA X es t):PE X (.List es pos) (Rk t):=by intro ε s σ H Q I hq;refine wpAny_List_spliced (bQ (h pos ε s σ H _ I hq) λus s1 ⟨xs,H1,I1,r,z,q⟩=>⟨by rw [<-r.length];exact z, ?_⟩);have hf:H1 s1.heap.objs.size=none:=I1.aR.fresh (aam _);refine ⟨.ref s1.heap.objs.size,upd H1 s1.heap.objs.size (.lst xs),I1.laid (t':=s1.toks) (λb u e=>aal _ e) (aam _) ?_,rfl,q _ hf⟩;exact ⟨z,us,0,r,aaQ _ rfl⟩
end
abbrev Sp:=List V->Hp->VK->XK->Prop
abbrev wo:=List Env->Hp->Shared->XK->Value->Shared->Prop
structure wC(P:Program)(w:World)(K:fv)(mg:Str->Option Value)(base:Heap)(A:Around)(outer:List Env)(s:Shared)(H:Hp):Prop where
 frames:A.frames=some outer
 mod:Mod K mg base
 bs:∀b o,base.get? b=some o->s.heap.get? b=some o/\H b=none
 KN:base.objs.size<=s.heap.objs.size
 pV:s.heap.FunFrames base outer
 KU:∀b∈mE outer,H b=none
 aR:ji P w H s.heap
 bare:AllBare s.gens
def CE(outer:List Env)(P:Program)(w:World)(H:Hp)(s:Shared)(Q:VK)(u:Value)(s':Shared):Prop:=
 ∃v H',s'.os=s.os/\AllBare s'.gens/\Un (mE outer) [] H H' s.heap s'.heap/\ji P w H' s'.heap/\ak v u/\Q v H'
def CR(CX:wo)(outer:List Env)(P:Program)(w:World)(H:Hp)(s:Shared)(Q:VK)(E:XK)(r:Result)(s':Shared):Prop:=
 match r with
 | .ok (.ret u)=>CE outer P w H s Q u s'
 | .ok _=>False
 | .error e=>CX outer H s E e s'
structure ar(P:Program)(w:World)(K:fv)(mg:Str->Option Value)(base:Heap)(CX:wo)(k:Nat)(f:Addr)(fd:FuncData)(ps:List Str)(sp:Sp):Prop where
 len:∀vs H Q E,sp vs H Q E->vs.length=ps.length
 run:∀(A:Around) (outer:List Env) (s:Shared) (H:Hp) (args:Args) (us:List Value) (vs:List V) (Q:VK) (E:XK),bG k A->wC P w K mg base A outer s H->BindsTo s fd args (ps.zip us)->au vs us->sp vs H Q E->
  codeAny (model P w) A (.call (.ref f) args) (CR CX outer P w H s Q E) s
theorem wC.make{K:fv}{H:Hp}(e:wC P w K mg base A outer s H)(C:Addr)(us:List Value)(kw:List (Str×Value)):
  wC P w K mg base (A.under (.builtin "type.__call__" ⟨.ref C::us,kw⟩)) outer s H:=⟨by first | exact e.frames | (simpa [Around.under,Code.envs,Code.isFrame,pushEnvs] using e.frames),e.mod,e.bs,e.KN,e.pV,e.KU,e.aR,e.bare⟩
section
variable{H:Hp}{s':Shared}
theorem Inv.Le(I:Inv X ε σ H s):wC X.prog X.w X.K X.mg X.base X.A X.stack s H:=
 ⟨I.ok.frames,I.ok.mod,I.bs,aaI I.ok.KN I.sz,I.stack,I.sP,I.aR,I.bare⟩
theorem Inv.after{Q:VK}(I:Inv X ε σ H s)(h:CE X.stack X.prog X.w H s Q u s'):EP X ε σ Q u s':=by obtain ⟨v,H',os,bare,un,aR,r,q⟩:=h;obtain ⟨hh,g,d,t,N_⟩:=s';obtain rfl:N_=s.os:=os;exact ⟨v,H',I.call (h':=hh) (g':=g) (d':=d) (t':=t) (ch:=[]) un aR bare (λb z=>absurd z (by simp)),r,q⟩
end
def g_(K:fv)(fd:FuncData)(ps:List Str)(ds:List Value):Prop:=
 ∀(s:Shared) (us:List Value),K.In s.heap->(us++ds).length=ps.length->BindsTo s fd ⟨us,[]⟩ (ps.zip (us++ds))
theorem g_.all{K:fv}{fd:FuncData}(h:∀us:List Value,us.length=ps.length->bindArgs fd ⟨us,[]⟩=pure (ps.zip us)):g_ K fd ps []:=λs us _ hl=>by rw [aaG] at hl⊢;exact .of_eq (h us hl)
section
variable{CX:wo}{k:Nat}{f:Addr}{fd:FuncData}{sp:Sp}{m6:List V}{ds:List Value}{E:XK}{m:Str}{p apos:Pos}{o:Expr}{t:TA}
structure Mk(K:fv)(C f:Addr):Prop where
 makes:PySem.W.makesIn K C=true
 init:PySem.W.findIn K (.ref C) "__init__"=some (some (.ref f))
 fn:PySem.W.isFn K (.ref f)=true
 kp:PySem.W.keepIn K (.ref C)=true
end
structure χ(N P:List Str)(sc:Scope):Prop where
 kind:sc.kind= .function
 co:sc.isCoroutine=false
 gen:sc.isGenerator=false
 nd:N.Nodup
 pre:N.take P.length=P
 par:∀x∈P,sc.names.lookup x=some .local\/sc.names.lookup x=some .cell
 Kr:∀y∈sc.names,y.2≠ .free
theorem p9{kindOf:Str->Option NameKind}{x:Str}:∀{binds:List (Str×Value)} {m:Str->Option Value},(∀v,(x,v)∉binds)->bindL kindOf binds m x=m x
 | [],_,_=>rfl
 | (n,v)::r,m,h=>by
  unfold bindL;rw [p9 λw hw=>h w (aad _ hw)];split
  ·have:x≠n:=by rintro rfl;exact h v aae
   simp [this]
  ·rfl
theorem qD{kindOf:Str->Option NameKind}{x:Str}:∀{binds:List (Str×Value)} {m:Str->Option Value},(∀v,(x,v)∉binds)->bindC kindOf binds m x=m x
 | [],_,_=>rfl
 | (n,v)::r,m,h=>by
  unfold bindC;rw [qD λw hw=>h w (aad _ hw)];split
  ·rfl
  ·have:x≠n:=by rintro rfl;exact h v aae
   simp [this]
theorem qJ{kindOf:Str->Option NameKind}{x:Str}{v:Value}:∀{P:List Str} {vs:List Value} {i:Nat} {m:Str->Option Value},P.Nodup->P[i]? =some x->vs[i]? =some v->kindOf x=some .local->
  bindL kindOf (P.zip vs) m x=some v
 | [],_,_,_,_,h,_,_=>by simp at h
 | _::_,[],_,_,_,_,h,_=>by simp at h
 | p::P,w::vs,0,m,nd,h1,h2,hk=>by simp at h1 h2;subst h1;subst h2;show bindL kindOf ((p,w)::P.zip vs) m p=_;unfold bindL;rw [p9 λv hv=>(abL.mp nd).1 (abp hv).1,aaE hk];simp
 | p::P,w::vs,i+1,m,nd,h1,h2,hk=>by show bindL kindOf ((p,w)::P.zip vs) m x=_;unfold bindL;exact qJ (i:=i) (List.nodup_cons.mp nd).2 (by simpa using h1) (by simpa using h2) hk
theorem qh{kindOf:Str->Option NameKind}{x:Str}{v:Value}:∀{P:List Str} {vs:List Value} {i:Nat} {m:Str->Option Value},P.Nodup->P[i]? =some x->vs[i]? =some v->kindOf x≠some .local->
  bindC kindOf (P.zip vs) m x=some v
 | [],_,_,_,_,h,_,_=>by simp at h
 | _::_,[],_,_,_,_,h,_=>by simp at h
 | p::P,w::vs,0,m,nd,h1,h2,hk=>by simp at h1 h2;subst h1;subst h2;show bindC kindOf ((p,w)::P.zip vs) m p=_;unfold bindC;rw [qD λv hv=>(abL.mp nd).1 (abp hv).1,aaA hk];simp
 | p::P,w::vs,i+1,m,nd,h1,h2,hk=>by show bindC kindOf ((p,w)::P.zip vs) m x=_;unfold bindC;exact qh (i:=i) (List.nodup_cons.mp nd).2 (by simpa using h1) (by simpa using h2) hk
def iJ(N:List Str)(vs:List V):St:=vs.map some++List.replicate (N.length - vs.length) none
def tK(CX:wo)(P:Program)(w:World)(K:fv)(mg:Str->Option Value)(base:Heap)(N:List Str)(qual:Str)(scope:Scope)(f:Addr)(cd:Value)(A:Around)(outer:List Env)(s:Shared)(H:Hp)(E:XK):Cx where
 prog:=P
 w:=w
 K:=K
 mg:=mg
 base:=base
 A:=A.deeper (envOfC qual scope s.heap.objs.size f cd)
 N:=N
 s₀:=s
 H₀:=H
 env:=envOfC qual scope s.heap.objs.size f cd
 outer:=outer
 stack:=envOfC qual scope s.heap.objs.size f cd::outer
 ex:=[]
 calm:=true
 fn:=λ_=>true
 pn:=[]
 xe:=λe s'=>wpAny (model P w) (A.deeper (envOfC qual scope s.heap.objs.size f cd)) (leaving (envOfC qual scope s.heap.objs.size f cd) e) (λ_ KC=>CX outer H s E e KC) (λe' KC=>CX outer H s E e' KC) s'
theorem um{sc:Scope}{n:Nat}(h:sc.names.lookup x=some .cell):∃c,(cellsFrom n sc.names []).lookup x=some c:=by have q:=PySem.W.cellsFrom_some sc.names n [] (.inl h);exact abA.mp q
theorem Ag{CX:wo}{K:fv}{N:List Str}{qual:Str}{scope:Scope}{f:Addr}{cd:Value}{s1:Shared}{H:Hp}{E:XK}{vs:List V}
  (S:χ N ps scope) (hd:A.handled=none) (e0:wC P w K mg base A outer s H) (hl:vs.length=ps.length) (r:au vs us)
  (x:InCallC s s.heap.objs.size (bindL (envOfC qual scope s.heap.objs.size f cd).kindOf (ps.zip us) λ_=>none) (cellsFrom (s.heap.objs.size+1) scope.names []) (bindC (envOfC qual scope s.heap.objs.size f cd).kindOf (ps.zip us) λ_=>none) s1):
  Inv (tK CX P w K mg base N qual scope f cd A outer s H E) [] (iJ N vs) H s1:=by
 have fo:ps.length<=N.length:=by have:=aa5 List.length S.pre;rw [List.length_take] at this;omega
 obtain ⟨h1,tk,rfl,hk⟩:=x.done;have M_:∀b:Addr,b∉(tK CX P w K mg base N qual scope f cd A outer s H E).ex:=λb z=>absurd (show b∈([]:List Addr) from z) (by simp)
 refine ⟨⟨e0.mod,S.kind,rfl,rfl,aam _,λy z c h1 h2=> ?_,λy hy=> ?_,λy c _ h=> ?_,λ_=>hd,Around.frames_deeper e0.frames, .inr ⟨rfl,rfl⟩,λb z=>aaJ z (M_ b),e0.bs,e0.KN,λb _ _=>M_ b,λb z=>aaJ z (M_ b),e0.pV,e0.KU⟩,
  rfl,e0.bare,Un.kept hk,⟨_,x.toInCall.ns,λi y v h1 h2 h3=> ?_⟩,λy c h=>⟨_,x.cell y c h⟩,e0.aR.fresh (Nat.le_refl _),λy c h=> ?_,λp hp=>absurd (show p∈([]:List (Addr×Obj)) from hp) (by simp),e0.aR.kept hk, ?_⟩
 ·exact name_of_addr x.apart (PySem.mem_of_lookup h1) (PySem.mem_of_lookup h2)
 ·have hy:scope.names.lookup y=some .cell\/scope.names.lookup y=some .free:=hy;rcases hy with hy | hy
  ·exact um hy
  ·exact aaJ rfl (S.Kr _ (PySem.mem_of_lookup hy))
 ·exact Nat.le_of_lt (x.above y c (PySem.mem_of_lookup h))
 ·have hi:i < vs.length:=by
   unfold iJ at h2;by_cases hi:i < vs.length
   ·exact hi
   ·rw [List.getElem?_append_right (by simpa using hi)] at h2;rw [abC] at h2;split at h2 <;> cases h2
  have ha:vs[i]? =some v:=by
   unfold iJ at h2;rw [List.getElem?_append_left (by simpa using hi),List.getElem?_map] at h2;cases e:vs[i]? with
   | none=>rw [e] at h2;cases h2
   | some a=>rw [e] at h2;cases h2;rfl
  obtain ⟨u,hu,rv⟩:=r.get ha;have hp:ps[i]? =some y:=by rw [<-S.pre,List.getElem?_take_of_lt (by omega)];exact h1
  have RW:ps.Nodup:=by rw [<-S.pre];exact S.nd.sublist (List.take_sublist _ _)
  refine ⟨u,rv, ?_⟩;rcases S.par y (aag hp) with k | k
  ·exact .inl ⟨k,qJ RW hp hu k⟩
  ·obtain ⟨c,e⟩:=um (n:=s.heap.objs.size+1) k;refine .inr ⟨.inl k,c,e, ?_⟩;have q:=x.cell y c e;rw [qh RW hp hu (by show scope.names.lookup y≠_;rw [k];decide)] at q;exact q
 ·exact e0.aR.fresh (Nat.le_of_lt (x.above y c (PySem.mem_of_lookup h)))
 ·unfold iJ;show _=N.length;rw [aaf,aac,aaV];omega
theorem LM{CX:wo}{K:fv}{k:Nat}{f:Addr}{name qual:Str}{params:Arguments}{scope:Scope}{dV kV doc pm bu ct oc:Value}{an od:Option Addr}
  {DL:Array (Option Value)} {N:List Str} {sp:Sp} (lk:K.lookup f=some ⟨oc,od, .func (PySem.W.fnOf name qual params body scope dV kV doc pm an bu ct),DL⟩) (Br:PySem.W.codeIn K bu qual=true) (S:χ N ps scope)
  (len:∀vs H Q E,sp vs H Q E->vs.length=ps.length)
  (uH:∀(A:Around) (outer:List Env) (s:Shared) (H:Hp) (vs:List V) (Q:VK) (E:XK),bG k (A.deeper (envOfC qual scope s.heap.objs.size f bu))->sp vs H Q E->
   ∃t,A2 (tK CX P w K mg base N qual scope f bu A outer s H E) body t/\t {nx:=λ_ H'=>Q .ba H',rt:=Q} (iJ N vs) H):
  ar P w K mg base CX (k+1) f (PySem.W.fnOf name qual params body scope dV kV doc pm an bu ct) ps sp:=by
 refine ⟨len,λA outer s H args us vs Q E hr e0 hb r G8=> ?_⟩;have hl:=len _ _ _ _ G8;have KX:K.In s.heap:=e0.mod.LW.keeps λb o e=>(e0.bs b o e).1;have lim:s.heap.NoLimit:=e0.mod.nolimit.keeps λb o e=>(e0.bs b o e).1;have Ls:∀y∈ps.zip us,scope.names.lookup y.1=some .local\/(scope.names.lookup y.1=some .cell/\((cellsFrom (s.heap.objs.size+1) scope.names []).lookup y.1).isSome=true):=λ⟨n,v⟩ hy=>by
  rcases S.par n (abp hy).1 with q | q
  ·exact .inl q
  ·exact .inr ⟨q,PySem.W.cellsFrom_some _ _ _ (.inl q)⟩
 refine codeAny_call_function hr.depth (KX _ _ lk) rfl S.co S.gen rfl (PySem.W.codeRec_of KX Br) (hb _ _ _ _ ?_);refine wpAny_newFunctionEnv_cells S.kind Ls λenv he s1 x=> ?_;subst he;refine ⟨lim.keeps x.toInCall.keep,codeAny_func ?_⟩;obtain ⟨t,ht,hq⟩:=uH A outer s H vs Q E (hr.deeper _) G8;have I:Inv (tK CX P w K mg base N qual scope f bu A outer s H E) [] (iJ N vs) H s1:=Ag S hr.hd e0 hl r x;refine abG (ht [] s1 (iJ N vs) H _ I hq) (λfl s' hs=> ?_) λe s' hs=>hs
 have fin:∀{σ':St} {H':Hp} {v:V} {u:Value},Inv (tK CX P w K mg base N qual scope f bu A outer s H E) [] σ' H' s'->ak v u->Q v H'->CE outer P w H s Q u s':=
  λ{σ' H' v u} J rv q=>⟨v,H',J.os,J.bare,J.base,J.aR,rv,q⟩
 cases fl with
 | ret u=>
  obtain ⟨v,σ',H',J,rv,q⟩:=hs;exact fin J rv q
 | next=>
  obtain ⟨σ',H',J,q⟩:=hs;exact fin (v:=V.ba) (u:=Value.none) J rfl q
 | brk=>
  obtain ⟨_,_,_,q⟩:=hs;exact False.elim q
 | cont=>
  obtain ⟨_,_,_,q⟩:=hs;exact False.elim q
section
variable{p:Pos}{t:TA}{id T:String}{r:List V->Hp->VK->Prop}
def P4(r:List V->Hp->VK->Prop)(t:TA):TE:=λσ H Q=>t σ H λvs H1=>r vs H1 Q
theorem CP(hc:eJ X (.builtin id) r)(hg:Gl X x)(hm:X.mg x=none)(hv:bootBuiltins x=some (.builtin id))(ha:PA X (e::es) t)(hn:x≠"__name__":=by decide)(nz:(x==("__debug__":Str))=false:=by decide)
  (he:starEach (e::es) X.env=(false,eval e X.env)::starEach es X.env:=by rfl) (fo:(backTo pos (starEach es X.env)).any (·.1)=false:=by rfl):PE X (.Call (.Name x p) (e::es) [] pos) (P4 r t):=by
 intro ε s σ H Q I h;refine wpAny_Call_Name_kw (k7 I hg hm hv ?_ hn nz);exact PyProof.Rows.callWith_builtin1 (bQ (ha pos ε s σ H _ I h) λus s1 ⟨vs,H1,I1,r1,q1⟩=>hc ε s1 σ H1 vs us Q I1 r1 q1) he fo
theorem Aw(hc:eJ X (.type T) r)(hg:Gl X x)(hm:X.mg x=none)(hv:bootBuiltins x=some (.type T))(ha:PA X (e::es) t)(hn:x≠"__name__":=by decide)(nz:(x==("__debug__":Str))=false:=by decide)
  (he:starEach (e::es) X.env=(false,eval e X.env)::starEach es X.env:=by rfl) (fo:(backTo pos (starEach es X.env)).any (·.1)=false:=by rfl):PE X (.Call (.Name x p) (e::es) [] pos) (P4 r t):=by
 intro ε s σ H Q I h;refine wpAny_Call_Name_kw (k7 I hg hm hv ?_ hn nz);exact PyProof.Rows.callWith_type1 (bQ (ha pos ε s σ H _ I h) λus s1 ⟨vs,H1,I1,r1,q1⟩=>hc ε s1 σ H1 vs us Q I1 r1 q1) he fo
end
end L2
namespace HT
open PySem PyProof.Rows
section
variable{prog:Program}{w:World}{A:Around}{E:Value->Shared->Prop}{s:Shared}
theorem Er{t b:Addr}{vs ws:List Value}{Q:Value->Shared->Prop}(ht:IsTup s.heap t vs.toArray)(hb:IsTup s.heap b ws.toArray)(hv:vs≠[])
  (h1:ws=[]->Q (.ref t) s) (h2:ws≠[]->Q (.ref s.heap.objs.size) {s with heap:=s.heap.push {cls:= .type "tuple",data:= .seq (vs++ws).toArray}})
  (hsz:vs.length+ws.length<=sizeLine):wpAny (model prog w) A (binaryOp .Add (.ref t) (.ref b)) Q E s:=by
 obtain ⟨⟨cls,dd,data,sl⟩,ho,hc,n,hd⟩:=id ht;obtain ⟨⟨WK,SX,data2,NP⟩,NM,RK,n2,hd2⟩:=id hb;simp only at hc hd RK hd2;subst hc hd RK hd2;have e:vs.toArray++ws.toArray=(vs++ws).toArray:=by simp
 by_cases hw:ws=[]
 ·exact concat_meets ⟨_,ho,rfl⟩ ⟨_,NM,rfl⟩ noFill_tuple_add seq_tuple_add PySem.F.slot_tuple_add PySem.F.entry_tuple_add (PySem.F.args_tuple_add_2 _ _)
   (tuple_addW1 t b vs.toArray ws.toArray n n2 dd SX sl NP (by simpa using hv) (by simp [hw])) ⟨ho,NM,h1 hw⟩
 ·refine concat_meets ⟨_,ho,rfl⟩ ⟨_,NM,rfl⟩ noFill_tuple_add seq_tuple_add PySem.F.slot_tuple_add PySem.F.entry_tuple_add (PySem.F.args_tuple_add_2 _ _)
   (tuple_addW2 t b vs.toArray ws.toArray n n2 dd SX sl NP (by simpa using hv) (by simpa using hw) (by rw [List.size_toArray,List.size_toArray];exact hsz)) ⟨ho,NM, ?_⟩
  rw [e];exact h2 hw
end
end HT
namespace L2
open PySem PySem.Spec PyProof.Rows
section
variable{X:Cx}{e:Expr}{te:TE}{lo hi:Option Expr}{tl th:TO}{pos p2:Pos}
def HC(K:fv):R2:=λx y H Q=>∃a b xs ys,x= .ref a/\y= .ref b/\k8 K H a xs/\k8 K H b ys/\xs≠[]/\xs.length+ys.length<=sizeLine/\
 (ys=[]->Q (.ref a) H)/\(ys≠[]->∀p,H p=none->Q (.ref p) (upd H p (.tup (xs++ys))))
theorem au.tN{xs:List V}{us:List Value}(r:au xs us):us=[]↔xs=[]:=by
 cases r with
 | nil=>simp
 | cons _ _=>simp
theorem Gw:hI X (binaryOp .Add) (HC X.K):=by intro ε s σ H x y v u Q I rx ry h;obtain ⟨a,b,xs,ys,rfl,rfl,ha,hb,hx,hz,q1,q2⟩:=h;cases rx;cases ry;obtain ⟨its,r1,p1,_⟩:=I.tuple ha;obtain ⟨Ba,r2,p2,_⟩:=I.tuple hb;refine HT.Er p1 p2 (λz=>hx (r1.tN.mp z)) (λz=>⟨.ref a,H,I,rfl,q1 (r2.tN.mp z)⟩) (λz=> ?_) (by rw [<-r1.length,<-r2.length];exact hz);refine ⟨.ref s.heap.objs.size,_,I.laid (t':=s.toks) (o:= .tup (xs++ys)) (λb ob q=>aal _ q) (aam _) ?_,rfl,q2 (λw=>z (r2.tN.mpr w)) _ (I.aR.fresh (aam _))⟩;exact ⟨by rw [aaf];exact hz,_,r1.append r2,IsTup.new _ _⟩
end
variable{n:Nat}{ε:List (Addr×Obj)}{s:Shared}{its:List Value}
def AV(n:Nat)(i:Int):Option Nat:=if 0<=i then (if i < n then some i.toNat else none) else if -(n:Int)<=i then some (i+n).toNat else none
def jh{α:Type}(xs:List α)(i:Int):Option α:=(AV xs.length i).bind λj=>xs[j]?
theorem yA{i:Int}{j:Nat}(h:AV n i=some j):seqIndex? i n=some j/\j < n/\ -(n:Int)<=i/\i < n:=by
 unfold AV at h;by_cases h0:0<=i
 ·rw [aaE h0] at h;by_cases h1:i < n
  ·rw [aaE h1] at h;have e:i.toNat=j:=aan h;exact ⟨by rw [seqIndex_of h0 h1,e],by omega,by omega,h1⟩
  ·rw [aaA h1] at h;cases h
 ·rw [aaA h0] at h;by_cases h1: -(n:Int)<=i
  ·rw [aaE h1] at h;have e:(i+n).toNat=j:=aan h;exact ⟨by rw [seqIndex_neg (by omega) h1,e],by omega,h1,by omega⟩
  ·rw [aaA h1] at h;cases h
theorem sM{α:Type}{xs:List α}{i:Int}{v:α}(h:jh xs i=some v):∃j,seqIndex? i xs.length=some j/\xs[j]? =some v/\j < xs.length/\ -(xs.length:Int)<=i/\i < xs.length:=by
 unfold jh at h;cases e:AV xs.length i with
 | none=>rw [e] at h;cases h
 | some j=>
  rw [e] at h;obtain ⟨h1,h2,h3,h4⟩:=yA e;exact ⟨j,h1,h,h2,h3,h4⟩
theorem Θ{α:Type}{xs:List α}{j:Nat}{v:α}(h:xs[j]? =some v):jh xs (j:Int)=some v:=by
 have hj:j < xs.length:=(aah.mp h).1;have e:AV xs.length (j:Int)=some j:=by unfold AV;rw [if_pos (by omega),if_pos (by omega)];simp
 unfold jh;rw [e];exact h
def tL(b:Expr):Prop:=∀o i,subscripted b false o i=operate [o,i] (getItem o i)
def Ed(X:Cx)(r:R2):Prop:=
 ∀(value slice:Expr) (ε:List (Addr×Obj)) (s:Shared) (σ:St) (H:Hp) (x y:V) (v u:Value) (Q:VK),Inv X ε σ H s->ak x v->ak y u->r x y H Q->
  subscripted slice false v u=operate [v,u] (getItem v u)->wpAny (model X.prog X.w) X.A (subscriptTail value slice v u) (EP X ε σ Q) X.xe s
def QH(X:Cx)(id:String)(r:V->List V->Hp->VK->Prop):Prop:=
 ∀(ε:List (Addr×Obj)) (s:Shared) (σ:St) (H:Hp) (x:V) (xs:List V) (v:Value) (us:List Value) (Q:VK),Inv X ε σ H s->ak x v->au xs us->r x xs H Q->
  wpAny (model X.prog X.w) X.A (call (.builtin id) (v::us)) (EP X ε σ Q) X.xe s
section
variable{X:Cx}{a b:Expr}{ta tb:TE}{pos:Pos}
theorem Ed.or{r r':R2}(h:Ed X r)(h':Ed X r'):Ed X (λx y H Q=>r x y H Q\/r' x y H Q):=by
 intro value slice ε s σ H x y v u Q I rx ry q hs;rcases q with q | q
 ·exact h value slice ε s σ H x y v u Q I rx ry q hs
 ·exact h' value slice ε s σ H x y v u Q I rx ry q hs
theorem MG{r:R2}(hr:Ed X r)(ha:PE X a ta)(hb:PE X b tb)(hs:tL b):PE X (.Subscript a b pos) (Ni r ta tb):=by intro ε s σ H Q I h;exact Subscript_ (IW ha hb I h λv u s2 x y H2 I2 rx ry q=>hr a b ε s2 σ H2 x y v u Q I2 rx ry q (hs _ _))
def K5(K:fv):R2:=λx y H Q=>∃p xs i v,x= .ref p/\y= .int i/\gM K H p xs/\jh xs i=some v/\Q v H
def Np(K:fv):R2:=λx y H Q=>∃p xs i v,x= .ref p/\y= .int i/\k8 K H p xs/\jh xs i=some v/\Q v H
def Ma:R2:=λx y H Q=>∃z i c,x= .str z/\y= .int i/\z.length<=sizeLine/\jh z.cps.toList i=some c/\Q (.str ⟨#[c]⟩) H
theorem EC:Ed X (K5 X.K):=by
 intro value slice ε s σ H x y v u Q I rx ry h hs;obtain ⟨p,xs,i,z,rfl,rfl,hq,he,q⟩:=h;cases rx;obtain ⟨t,rfl⟩:=ry;obtain ⟨its,r,pl,hz⟩:=I.list hq;obtain ⟨j,h1,h2,h3,h4,h5⟩:=sM he;obtain ⟨w,ew,zx⟩:=r.get h2;have hl:=r.length;have hn:=lR;have fin:EP X ε σ Q w s:=⟨z,H,I,zx,q⟩;by_cases h0:0<=i
 ·have hj:i.toNat=j:=by rw [seqIndex_of h0 h5] at h1;exact aan h1
  exact item_listR pl.isList h0 (by omega) (by rw [hj];simpa using ew) fin hs
 ·have hj:(i+(its.toArray.size:Int)).toNat=j:=by rw [seqIndex_neg (by omega) h4] at h1;rw [aaZ,<-hl];exact aan h1
  exact subscriptTail_builtinR (x:=w) pl.isList.typeIs slot_list_getitem.lookup
   (wpAny_getItem_list_neg (Q:=λr s'=>r=w/\EP X ε σ Q r s') pl.isList (by omega) (by rw [List.size_toArray] <;> omega) (by omega) (by rw [hj];simpa using ew) ⟨rfl,fin⟩) hs
theorem Ka:Ed X (Np X.K):=by
 intro value slice ε s σ H x y v u Q I rx ry h hs;obtain ⟨p,xs,i,z,rfl,rfl,hq,he,q⟩:=h;cases rx;obtain ⟨t,rfl⟩:=ry;obtain ⟨its,r,pl,hz⟩:=I.tuple hq;obtain ⟨j,h1,h2,h3,h4,h5⟩:=sM he;obtain ⟨w,ew,zx⟩:=r.get h2;have hl:=r.length;have hn:=lR;have fin:EP X ε σ Q w s:=⟨z,H,I,zx,q⟩
 exact subscriptTail_builtinR (x:=w) pl.typeIs slot_tuple_getitem.lookup
  (getItem_tuple (j:=j) (Q:=λr s'=>r=w/\EP X ε σ Q r s') pl (by omega) (by omega) (by rw [List.size_toArray,<-hl];exact h1) (by simpa using ew) ⟨rfl,fin⟩) hs
theorem JN:Ed X Ma:=by
 intro value slice ε s σ H x y v u Q I rx ry h hs;obtain ⟨z,i,c,rfl,rfl,hz,he,q⟩:=h;obtain ⟨t,rfl⟩:=rx;obtain ⟨t',rfl⟩:=ry;obtain ⟨j,h1,h2,h3,h4,h5⟩:=sM he;have hl:z.cps.toList.length=z.length:=by simp [Str.length]
 rw [hl] at h1 h4 h5;have hn:=lR
 exact tail_any (typeIs_str s z t) slot_str_getitem.lookup (getItem_str (c:=c) (by
  have e1:decide (i < -(2 ^ 63:Int))=false:=aaD (by omega);have e2:decide (i ≥ 2 ^ 63)=false:=aaD (by omega)
  rw [e1,e2,Bool.or_false]) (by rw [h1];simpa using h2) ⟨.str ⟨#[c]⟩,H,I.tok _,⟨_,rfl⟩,q⟩) hs
def SN(K:fv):R2:=λx y H Q=>K5 K x y H Q\/Np K x y H Q\/Ma x y H Q
theorem Ij:Ed X (SN X.K):=EC.or (Ka.or JN)
theorem xY(its:List Value)(n j:Nat)(u:Value):Obj.mapSeq (·.setIfInBounds j u) {cls:= .type "list",data:= .seq its.toArray n}={cls:= .type "list",data:= .seq (its.set j u).toArray n}:=by simp [Obj.mapSeq]
theorem Inv.lst{ε:List (Addr×Obj)}{σ:St}{H:Hp}{s:Shared}{p:Addr}{xs:List V}(I:Inv X ε σ H s)(h:H p=some (.lst xs)):
  ∃(its:List Value) (n:Nat),au xs its/\s.heap.get? p=some {cls:= .type "list",data:= .seq its.toArray n}/\xs.length<=sizeLine:=by
 obtain ⟨z,its,n,r,e⟩:=I.aR p _ h;exact ⟨its,n,r,e,z⟩
theorem Inv.Ia{σ:St}{H:Hp}{p:Addr}{xs ys:List V}{its':List Value}{n':Nat}{f:Obj->Obj}(I:Inv X ε σ H s)(h:H p=some (.lst xs))
  (ho:s.heap.get? p=some {cls:= .type "list",data:= .seq its.toArray n}) (hf:f {cls:= .type "list",data:= .seq its.toArray n}={cls:= .type "list",data:= .seq its'.toArray n'}) (r:au ys its') (hz:ys.length<=sizeLine) (t:Nat):
  Inv X ε σ (upd H p (.lst ys)) {s with heap:=s.heap.update p f,toks:=t}:=by
 have e:(s.heap.update p f).get? p=some {cls:= .type "list",data:= .seq its'.toArray n'}:=by rw [Heap.get?_update_self f ho (by rw [hf] <;> rfl),hf]
 refine I.write (x:=p) (e:=p) (by rw [h];trivial) (.inl rfl) (λb u hb q=>(Heap.get?_update_other _ _ (Ne.symm hb)).trans q) ⟨_,e⟩ ?_;exact ⟨hz,its',n',r,e⟩
def GU:V->V->V->Hp->(Hp->Prop)->Prop:=λo i v H Q=>∃p xs k j,o= .ref p/\i= .int k/\H p=some (.lst xs)/\AV xs.length k=some j/\Q (upd H p (.lst (xs.set j v)))
theorem D_:Mm X GU:=by
 intro ε s σ H o i v ov iv u Q I ro ri rv h;obtain ⟨p,xs,k,j,rfl,rfl,hp,hj,q⟩:=h;cases ro;obtain ⟨t,rfl⟩:=ri;obtain ⟨its,n,r,ho,hz⟩:=I.lst hp;obtain ⟨h1,h2,h3,h4⟩:=yA hj;have hl:=r.length;have hn:=lR
 have I':Inv X ε σ (upd H p (.lst (xs.set j v))) {s with heap:=s.heap.update p (Obj.mapSeq (·.setIfInBounds j u))}:=
  I.Ia hp ho (xY its n j u) (r.set rv j) (by rw [abq];exact hz) s.toks
 by_cases h0:0<=k
 ·have hk:k.toNat=j:=by rw [seqIndex_of h0 h4] at h1;exact aan h1
  exact PySem.W.ki_setAt ho h0 (by omega) (by rw [aaZ,<-hl];exact h4) (by rw [hk];exact ⟨_,I',q⟩)
 ·have hk:(k+(its.toArray.size:Int)).toNat=j:=by rw [seqIndex_neg (by omega) h3] at h1;rw [aaZ,<-hl];exact aan h1
  exact PySem.W.ki_setBack ho (by omega) (by rw [aaZ,<-hl];exact h3) (by omega) (by rw [hk];exact ⟨_,I',q⟩)
def dH:V->Bool
 | .ba=>true
 | .bl _=>true
 | .int _=>true
 | .str _=>true
 | _=>false
def qq:V->V->Bool
 | .ba, .ba=>true
 | .bl a, .bl b=>a==b
 | .bl a, .int b=>(if a then 1 else 0)==b
 | .int a, .bl b=>a==(if b then 1 else 0)
 | .int a, .int b=>a==b
 | .str a, .str b=>a==b
 | _,_=>false
theorem rE{A:Around}{y x:V}{u v:Value}(ry:ak y u)(rx:ak x v)(fy:dH y=true)(fx:dH x=true):SeqAt.EqAt A s u v (qq y x):=by
 cases y with
 | ba=>
  cases ry;cases x with
  | ba=>cases rx;exact SeqAt.EqAt.same _
  | bl b=>cases rx;exact SeqAt.EqAt.none_bool b
  | int b=>obtain ⟨t,rfl⟩:=rx;exact SeqAt.EqAt.none_int b t
  | str b=>obtain ⟨t,rfl⟩:=rx;exact SeqAt.EqAt.none_str b t
  | _=>exact aaJ (show false=true from fx) aau
 | bl a=>
  cases ry;cases x with
  | ba=>cases rx;exact SeqAt.EqAt.bool_none a
  | bl b=>cases rx;exact SeqAt.EqAt.bool_bool a b
  | int b=>obtain ⟨t,rfl⟩:=rx;exact SeqAt.EqAt.bool_int a b t
  | str b=>obtain ⟨t,rfl⟩:=rx;exact SeqAt.EqAt.bool_str a b t
  | _=>exact aaJ (show false=true from fx) aau
 | int a=>
  obtain ⟨t',rfl⟩:=ry;cases x with
  | ba=>cases rx;exact SeqAt.EqAt.int_none a t'
  | bl b=>cases rx;exact SeqAt.EqAt.int_bool a t' b
  | int b=>obtain ⟨t,rfl⟩:=rx;exact SeqAt.EqAt.int_int a t' b t
  | str b=>obtain ⟨t,rfl⟩:=rx;exact SeqAt.EqAt.int_str a t' b t
  | _=>exact aaJ (show false=true from fx) aau
 | str a=>
  obtain ⟨t',rfl⟩:=ry;cases x with
  | ba=>cases rx;exact SeqAt.EqAt.str_none a t'
  | bl b=>cases rx;exact SeqAt.EqAt.str_bool a t' b
  | int b=>obtain ⟨t,rfl⟩:=rx;exact SeqAt.EqAt.str_int a t' b t
  | str b=>obtain ⟨t,rfl⟩:=rx;exact SeqAt.EqAt.str_str a t' b t
  | _=>exact aaJ (show false=true from fx) aau
 | _=>exact aaJ (show false=true from fy) aau
def El(x:V)(u:Value):Bool:=match u with
 | .none=>qq .ba x
 | .bool b=>qq (.bl b) x
 | .int i _=>qq (.int i) x
 | .str z _=>qq (.str z) x
 | _=>false
theorem BC{x y:V}{u:Value}(r:ak y u)(f:dH y=true):El x u=qq y x:=by
 cases y with
 | ba=>cases r;rfl
 | bl b=>cases r;rfl
 | int i=>obtain ⟨t,rfl⟩:=r;rfl
 | str z=>obtain ⟨t,rfl⟩:=r;rfl
 | _=>exact aaJ (show false=true from f) aau
theorem sO{x:V}:∀{xs:List V} {us:List Value},au xs us->xs.all dH=true->us.any (El x)=xs.any λy=>qq y x
 | _,_, .nil,_=>rfl
 | y::xs,u::us, .cons r t,f=>by rw [abD,aaF] at f;rw [abE,abE,BC r f.1,sO t f.2]
theorem pb{A:Around}{s:Shared}{x:V}{v:Value}(rx:ak x v)(fx:dH x=true):∀{xs:List V} {us:List Value},au xs us->xs.all dH=true->∀u∈us,SeqAt.EqAt A s u v (El x u)
 | _,_, .nil,_=>λu hu=>by cases hu
 | y::xs,u::us, .cons r t,f=>λu' hu=>by
  rw [abD,aaF] at f;rcases aaP.mp hu with rfl | hu
  ·rw [BC r f.1];exact rE r rx f.1 fx
  ·exact pb rx fx t f.2 u' hu
def Oy(x:V)(xs:List V):Bool:=xs.any λy=>qq y x
def Sh(K:fv)(neg:Bool):R2:=λx y H Q=>∃p xs,y= .ref p/\(gM K H p xs\/k8 K H p xs)/\dH x=true/\xs.all dH=true/\Q (.bl (if neg then !Oy x xs else Oy x xs)) H
theorem zS:hI X (compareOp .In) (Sh X.K false):=by
 intro ε s σ H x y v u Q I rx ry h;obtain ⟨p,xs,rfl,hq,fx,fs,q⟩:=h;cases ry;rcases hq with hq | hq
 ·obtain ⟨its,r,pl,hz⟩:=I.list hq;refine SeqAt.in_listAt (El x) pl.isList (λw hw=>pb rx fx r fs w (by simpa using hw)) ⟨.bl _,H,I,rfl, ?_⟩;rw [show its.toArray.any (El x)=its.any (El x) by simp,sO r fs];exact q
 ·obtain ⟨its,r,pl,hz⟩:=I.tuple hq;refine SeqAt.in_tupleAt (El x) pl (λw hw=>pb rx fx r fs w (by simpa using hw)) ⟨.bl _,H,I,rfl, ?_⟩;rw [show its.toArray.any (El x)=its.any (El x) by simp,sO r fs];exact q
theorem sC:eJ X (.builtin "len") (λxs H Q=>∃p ys,xs=[.ref p]/\(gM X.K H p ys\/k8 X.K H p ys)/\Q (.int ys.length) H):=by
 intro ε s σ H xs us Q I r h;obtain ⟨p,ys,rfl,hq,q⟩:=h;obtain ⟨u,rfl,rx⟩:=pD r;cases rx;have hn:=lR;rcases hq with hq | hq
 ·obtain ⟨its,r',pl,hz⟩:=I.list hq;have hlen:=r'.length;exact Calls.call_len_list pl.isList (by simp only [List.size_toArray] <;> omega) ⟨.int ys.length,H,I.tok _,⟨s.toks+1,by rw [List.size_toArray,hlen]⟩,q⟩
 ·obtain ⟨its,r',pl,hz⟩:=I.tuple hq;have hlen:=r'.length;exact len_tuple pl (by simp only [List.size_toArray] <;> omega) ⟨.int ys.length,H,I.tok _,⟨s.toks+1,by rw [List.size_toArray,hlen]⟩,q⟩
theorem rq:eJ X (.builtin "len") (λxs H Q=>∃z,xs=[.str z]/\z.length<=sizeLine/\Q (.int z.length) H):=by intro ε s σ H xs us Q I r h;obtain ⟨z,rfl,hz,q⟩:=h;obtain ⟨u,rfl,t,rfl⟩:=pD r;have hn:=lR;exact len_str (by omega) ⟨.int z.length,H,I.tok _,⟨_,rfl⟩,q⟩
theorem eJ.or{f:Value}{r r':List V->Hp->VK->Prop}(h:eJ X f r)(h':eJ X f r'):eJ X f (λxs H Q=>r xs H Q\/r' xs H Q):=by
 intro ε s σ H xs us Q I rs q;rcases q with q | q
 ·exact h ε s σ H xs us Q I rs q
 ·exact h' ε s σ H xs us Q I rs q
theorem rC:eJ X (.type "list") (λxs H Q=>∃p ys,xs=[.ref p]/\(gM X.K H p ys\/k8 X.K H p ys)/\∀l,H l=none->Q (.ref l) (upd H l (.lst ys))):=by
 intro ε s σ H xs us Q I r h;obtain ⟨p,ys,rfl,hq,q⟩:=h;obtain ⟨u,rfl,rx⟩:=pD r;cases rx
 have fin:∀(its:List Value),au ys its->ys.length<=sizeLine->∀(h':Heap) (c':Nat),(∀b o',s.heap.get? b=some o'->h'.get? b=some o')->
   h'.get? s.heap.objs.size=some {cls:= .type "list",dict:=none,data:= .seq its.toArray c',slots:= #[]}->EP X ε σ Q (.ref s.heap.objs.size) {s with heap:=h'}:=λits r' hz h' c' kp e=>
  ⟨.ref s.heap.objs.size,_,I.laid (t':=s.toks) kp (aam _) (show bO X.prog X.w _ h' _ (.lst ys) from ⟨hz,its,c',r',e⟩),rfl,q _ (I.aR.fresh (aam _))⟩
 rcases hq with hq | hq
 ·obtain ⟨its,r',pl,hz⟩:=I.list hq;have hlen:=r'.length;obtain ⟨o,ho,hc,n,hd⟩:=pl.isList;exact call_list_seq p (.inl rfl) ho hc hd (λh' c' kp e=>fin its r' hz h' c' kp e) (by simp only [List.size_toArray] <;> omega)
 ·obtain ⟨its,r',pl,hz⟩:=I.tuple hq;have hlen:=r'.length;obtain ⟨o,ho,hc,n,hd⟩:=pl;exact call_list_seq p (.inr rfl) ho hc hd (λh' c' kp e=>fin its r' hz h' c' kp e) (by simp only [List.size_toArray] <;> omega)
def O5(K:fv)(T:String)(x:V)(H:Hp):Prop:=match x with
 | .str _=>T="str"
 | .int _=>T="int"
 | .ref p=>(T="list"/\∃xs,gM K H p xs)\/(T="tuple"/\∃o,K.lookup p=some o/\o.cls= .type "tuple"/\o.dict=none)\/
   (T="dict"/\((∃Β,H p=some (.dK Β))\/∃Β,H p=some (.dT Β)))\/(T="set"/\∃S n,H p=some (.set S n))
 | _=>False
theorem B3{σ:St}{H:Hp}{T:String}{x:V}{v:Value}(I:Inv X ε σ H s)(r:ak x v)(ty:O5 X.K T x H):
  s.TypeIs v T/\∀a,v= .ref a->∃ob,s.heap.get? a=some ob/\ob.dict=none:=by
 cases x with
 | str z=>
  obtain ⟨t,rfl⟩:=r;cases (show T="str" from ty);exact ⟨typeIs_str s z t,λ_ e=>nomatch e⟩
 | int i=>
  obtain ⟨t,rfl⟩:=r;cases (show T="int" from ty);exact ⟨typeIs_int s i t,λ_ e=>nomatch e⟩
 | ref p=>
  cases r;rcases ty with ⟨rfl,xs,hq⟩ | ⟨rfl,o,hk,hc,hd⟩ | ⟨rfl,hk⟩ | ⟨rfl,S,n,hk⟩
  ·obtain ⟨its,_,pl,_⟩:=I.list hq;refine ⟨pl.isList.typeIs,λa e=> ?_⟩;cases e;obtain ⟨o,n,e,c,hd,_⟩:=pl;exact ⟨o,e,hd⟩
  ·refine ⟨⟨o,I.mK p o hk,hc⟩,λa e=> ?_⟩;cases e;exact ⟨o,I.mK _ o hk,hd⟩
  ·have z:∃o,s.heap.get? p=some o/\o.ExactDict:=by
    rcases hk with ⟨Β,hk⟩ | ⟨Β,hk⟩
    ·obtain ⟨_,_,_,_,o,_,_,e,ex,_⟩:=I.aR p _ hk;exact ⟨o,e,ex⟩
    ·obtain ⟨_,_,_,_,o,_,_,e,ex,_⟩:=I.aR p _ hk;exact ⟨o,e,ex⟩
   obtain ⟨o,e,ex⟩:=z;refine ⟨⟨o,e,ex.1⟩,λa e2=> ?_⟩;cases e2;exact ⟨o,e,ex.2.1⟩
  ·obtain ⟨o,_,_,_,e,ex,_⟩:=I.aR p _ hk;refine ⟨⟨o,e,ex.1⟩,λa e2=> ?_⟩;cases e2;exact ⟨o,e,ex.2.1⟩
 | _=>exact False.elim ty
def Ry(K:fv)(T:String)(r:V->List V->Hp->VK->Prop)(to:TE):TE:=λσ H Q=>to σ H λx H1=>O5 K T x H1/\r x [] H1 Q
def T4(K:fv)(T:String)(r:V->List V->Hp->VK->Prop)(to:TE)(t:TA):TE:=λσ H Q=>to σ H λx H1=>O5 K T x H1/\t σ H1 λxs H2=>r x xs H2 Q
variable{o e:Expr}{es:List Expr}{to:TE}{t:TA}{name:Str}{apos bH:Pos}{T id:String}{r:V->List V->Hp->VK->Prop}
theorem JB(pa:PlainAttrs T)(slot:Slot T name id)(QB:typeOf (.builtin id)=pure (.type "method_descriptor"))(hm:QH X id r)(ho:PE X o to)
  (n9:attributeBase o name X.env (eval o X.env)=eval o X.env:=by rfl) (oS:(apos.endLine==bH.line)=true:=by rfl):PE X (.Call (.Attribute o name apos) [] [] bH) (Ry X.K T r to):=by
 intro ε s σ H Q I h;refine wpAny_Call_method0_late n9 oS (bQ (ho ε s σ H _ I h) λv s1 ⟨x,H1,I1,r1,ty,q1⟩=> ?_);obtain ⟨h1,h2⟩:=B3 I1 r1 ty;exact ⟨T,id,pa,slot,QB,h1,h2,Calls.callWith_builtin rfl (PySem.evalArgs_none (hm ε s1 σ H1 x [] v [] Q I1 r1 .nil q1))⟩
theorem Lq(pa:PlainAttrs T)(slot:Slot T name id)(QB:typeOf (.builtin id)=pure (.type "method_descriptor"))(hm:QH X id r)(ho:PE X o to)(ha:PA X (e::es) t)
  (n9:attributeBase o name X.env (eval o X.env)=eval o X.env:=by rfl)
  (Ju:((backTo bH (starEach (e::es) X.env)).all (λx=> !x.1)&&(backToKw bH (keywordEach [] X.env)).all (λx=>x.1.isSome)
   &&decide ((e::es).length+([]:List Keyword).length+(if ([]:List Keyword).isEmpty then 0 else 1) < 30))=true:=by rfl)
  (oS:(apos.endLine==bH.line)=true:=by rfl) (hs:starEach (e::es) X.env=(false,eval e X.env)::starEach es X.env:=by rfl) (xS:(backTo bH (starEach es X.env)).any (·.1)=false:=by rfl):
  PE X (.Call (.Attribute o name apos) (e::es) [] bH) (T4 X.K T r to t):=by
 intro ε s σ H Q I h;refine wpAny_Call_method_late n9 Ju oS rfl (bQ (ho ε s σ H _ I h) λv s1 ⟨x,H1,I1,r1,ty,q1⟩=> ?_);obtain ⟨h1,h2⟩:=B3 I1 r1 ty;refine ⟨T,id,pa,slot,QB,h1,h2, ?_⟩;have hA:=ha bH ε s1 σ H1 _ I1 q1;rw [hs] at hA⊢;refine Calls.callWith_builtin (by show (false || (backTo bH (starEach es X.env)).any (·.1))=false;rw [xS] <;> rfl) (Calls.evalArgs_plain ?_);exact bQ hA λus s2 ⟨vs,H2,I2,r2,q2⟩=>hm ε s2 σ H2 x vs v us Q I2 r1 r2 q2
end
def R9(X:Cx)(id:String)(r:V->List V->Hp->VK->Prop):Prop:=
 ∀(ε:List (Addr×Obj)) (s:Shared) (σ:St) (H:Hp) (x:V) (xs:List V) (v:Value) (us:List Value) (Q:VK),Inv X ε σ H s->ak x v->au xs us->r x xs H Q->
  wpAny (model X.prog X.w) X.A (call (.builtin id) (v::us)) (EP X ε σ Q) X.xe s
theorem au.one:∀{x:V} {us:List Value},au [x] us->∃u,us=[u]/\ak x u
 | _,_, .cons r .nil=>⟨_,rfl,r⟩
theorem au.zero:∀{us:List Value},au [] us->us=[]
 | _, .nil=>rfl
theorem au.rep{xs:List V}{us:List Value}(h:au xs us):∀k:Nat,au (List.replicate k xs).flatten (List.replicate k us).flatten
 | 0=> .nil
 | k+1=>by rw [aa9,aa9,abm,abm];exact au.append h (au.rep h k)
theorem qY(its:List Value):∀(k:Nat) (υ:List Value),
  List.foldl (λx1 x2=>x1++x2) υ.toArray (List.replicate k its.toArray)=(υ++(List.replicate k its).flatten).toArray
 | 0,υ=>by simp
 | k+1,υ=>by
  have e:υ.toArray++its.toArray=(υ++its).toArray:=by simp
  have e2:(υ++its)++(List.replicate k its).flatten=υ++(List.replicate (k+1) its).flatten:=by rw [aa9,abm,abn]
  rw [<-e2,<-qY its k (υ++its),<-e,aa9,ab3]
section
variable{X:Cx}{σ:St}{H:Hp}{l b:Addr}{xs ys zs:List V}
theorem Inv.Mw{its':List Value}{f:Array Value->Array Value}{t':Nat}(I:Inv X ε σ H s)(hH:H l=some (.lst xs))
  (e:s.heap.get? l=some {cls:= .type "list",data:= .seq its.toArray n}) (hf:f its.toArray=its'.toArray) (hv:au ys its') (hz:ys.length<=sizeLine):
  Inv X ε σ (upd H l (.lst ys)) {s with heap:=s.heap.update l (Obj.mapSeq f),toks:=t'}:=by
 have q:=PySem.IsL.update e f;rw [hf] at q;refine I.write (x:=l) (e:=l) (by rw [hH];exact trivial) (.inl rfl) (λb' u hb hu=>(Heap.get?_update_other s.heap (Obj.mapSeq f) (Ne.symm hb)).trans hu) ⟨_,q⟩ ?_;exact ⟨hz,its',_,hv,q⟩
theorem Inv.Jp{t':Nat}(I:Inv X ε σ H s)(hv:au ys its)(hz:ys.length<=sizeLine):
  Inv X ε σ (upd H s.heap.objs.size (.lst ys)) {s with heap:=s.heap.push {cls:= .type "list",data:= .seq its.toArray},toks:=t'}:=
 I.laid (λ_ _ q=>aal _ q) (aam _) ⟨hz,its,0,hv,aaQ _ rfl⟩
theorem Inv.fresh(I:Inv X ε σ H s):H s.heap.objs.size=none:=I.aR.fresh (aam _)
theorem Inv.CC(I:Inv X ε σ H s)(hH:H l=some (.lst xs)):xs.length<=sizeLine/\∃(its:List Value) (n:Nat),au xs its/\xs.length=its.length/\s.heap.get? l=some {cls:= .type "list",data:= .seq its.toArray n}:=by obtain ⟨z,its,n,r,e⟩:=I.aR l _ hH;exact ⟨z,its,n,r,r.length,e⟩
theorem B8(h:n<=sizeLine):Builtin.List.listTooLong n=false:=by unfold Builtin.List.listTooLong;exact aaD (by omega)
end
section
variable{X:Cx}
def yf:V->List V->Hp->VK->Prop:=λx vs H Q=>∃l xs y,x= .ref l/\vs=[y]/\H l=some (.lst xs)/\xs.length < sizeLine/\Q .ba (upd H l (.lst (xs++[y])))
theorem qK:R9 X "list.append" yf:=by intro ε s σ H x vs v us Q I rx rv h;obtain ⟨l,xs,y,rfl,rfl,hH,hz,q⟩:=h;cases rx;obtain ⟨u,rfl,ru⟩:=rv.one;obtain ⟨z,its,n,r,hl,e⟩:=I.CC hH;refine call_meets F.slot_list_append ⟨_,e,rfl⟩ F.entry_list_append (F.args_list_append_2 _ _) (PySem.list_append l its.toArray n u (by rw [aaZ];omega)) ⟨e, ?_⟩;refine ⟨.ba,_,I.Mw (its':=its++[u]) hH e (by simp) (r.append (.cons ru .nil)) ?_,rfl,q⟩;rw [aaf,List.length_singleton];omega
def Cd:V->List V->Hp->VK->Prop:=λx vs H Q=>∃l xs,x= .ref l/\vs=[]/\H l=some (.lst xs)/\Q .ba (upd H l (.lst []))
theorem B':R9 X "list.clear" Cd:=by intro ε s σ H x vs v us Q I rx rv h;obtain ⟨l,xs,rfl,rfl,hH,q⟩:=h;cases rx;have Vq:=rv.zero;subst Vq;obtain ⟨z,its,n,r,hl,e⟩:=I.CC hH;refine call_meets F.slot_list_clear ⟨_,e,rfl⟩ F.entry_list_clear (F.args_list_clear_1 _) (AutoSeq1.list_clear_list_0 l its.toArray n (by rw [aaZ];omega)) ⟨e, ?_⟩;exact ⟨.ba,_,I.Mw (its':=[]) (ys:=[]) hH e rfl .nil (abK _),rfl,q⟩
def HW:R2:=λx y H Q=>∃l b xs zs,x= .ref l/\y= .ref b/\H l=some (.lst xs)/\H b=some (.lst zs)/\xs.length+zs.length<=sizeLine/\∀p,H p=none->Q (.ref p) (upd H p (.lst (xs++zs)))
theorem C9:hI X (binaryOp .Add) HW:=by
 intro ε s σ H x y v u Q I rx ry h;obtain ⟨l,b,xs,zs,rfl,rfl,hH,hB,hz,q⟩:=h;cases rx;cases ry;obtain ⟨z,its,n,r,hl,e⟩:=I.CC hH;obtain ⟨z2,Ba,n2,r2,ES,e2⟩:=I.CC hB;refine PySem.P.add_list e e2 ?_ (by rw [aaZ,aaZ];omega);have ea:its.toArray++Ba.toArray=(its++Ba).toArray:=by simp
 rw [ea];exact ⟨.ref _,_,I.Jp (t':=s.toks) (r.append r2) (by rw [aaf];omega),rfl,q _ I.fresh⟩
def Im:R2:=λx y H Q=>∃l k xs,x= .ref l/\y= .int k/\H l=some (.lst xs)/\ -(2 ^ 63)<=k/\k < 2 ^ 63/\xs.length * k.toNat<=sizeLine/\
 ∀p,H p=none->Q (.ref p) (upd H p (.lst (List.replicate k.toNat xs).flatten))
theorem GH{α:Type}(xs:List α)(k:Nat):(List.replicate k xs).flatten.length=k * xs.length:=by
 induction k with
 | zero=>simp
 | succ k ih=>rw [aa9,abm,aaf,ih,Nat.succ_mul,Nat.add_comm]
theorem Dh:hI X (binaryOp .Mult) Im:=by
 intro ε s σ H x y v u Q I rx ry h;obtain ⟨l,k,xs,rfl,rfl,hH,h1,h2,hz,q⟩:=h;cases rx;obtain ⟨t,rfl⟩:=ry;obtain ⟨z,its,n,r,hl,e⟩:=I.CC hH;have hlen:its.toArray.size * k.toNat<=sizeLine:=by rw [aaZ,<-hl];exact hz
 have P_:¬its.toArray.size * k.toNat > (2 ^ 63 - 1) / 8:=by
  have:(sizeLine:Nat)<=(2 ^ 63 - 1) / 8:=by decide
  omega
 have Ff:¬(!Builtin.List.listFitsIndex k)=true:=by rw [fitsIndex_both h1 h2];exact aau
 have Nn:¬Builtin.List.listTooLong (its.toArray.size * k.toNat)=true:=by rw [B8 hlen];exact aau
 have Q5:List.foldl (λx1 x2=>x1++x2) #[] (List.replicate (if its.toArray.isEmpty=true then 0 else k.toNat) its.toArray)=(List.replicate k.toNat its).flatten.toArray:=by
  have f0:∀m:Nat,List.foldl (λx1 x2=>x1++x2) #[] (List.replicate m its.toArray)=(List.replicate m its).flatten.toArray:=λm=>by have:=qY its m [];rw [aa3] at this;exact this
  rw [f0];cases its with
  | nil=>simp
  | cons a r'=>rw [if_neg (by simp)]
 refine wpAny_binaryOp_repeat_ref (T:="list") (U:="int") (by decide) ⟨_,e,rfl⟩ (λs'=>typeIs_int s' k t) noFill_list_mul F.fills_int_mul F.slot_int_rmul repeat_list F.slot_int_index.lookup
  (call_meets F.slot_int_rmul (typeIs_int s k t) F.entry_int_rmul (F.args_int_rmul_2 _ _) (int___rmul___int_list k t l its.toArray n)
   ⟨e,rfl,⟨_,e,rfl⟩,call_meets F.slot_list_mul ⟨_,e,rfl⟩ F.entry_list_mul (F.args_list_mul_2 _ _) (AutoListH.list___mul___list_int_3 l its.toArray n k t Ff P_ Nn) ⟨e, ?_⟩⟩)
 rw [Q5];exact ⟨.ref _,_,I.Jp (t':=s.toks) (r.rep k.toNat) (by rw [GH,Nat.mul_comm];exact hz),rfl,q _ I.fresh⟩
end
end L2
namespace Att
open PySem PySem.W PySem.Calls PyProof.Rows
theorem mH{P:Params}{h:Heap}:∀(ns:List Int) (vs:List Value),WellAll P h vs (ns.map WData.int)->IntsAre vs ns:=by
 intro ns
 induction ns with
 | nil=>
  intro vs w;rw [List.map_nil] at w;cases w;exact .nil
 | cons n ns ih=>
  intro vs w;rw [aaS] at w;cases w with
  | cons a b=>
   cases a;exact .cons _ _ (ih _ b)
theorem Ad{l:OpenLaw}{n:Nat}(hn:l.most=some n){P:Params}{h:Heap}{args:List WData}{vals:List Value}
  (Gq:l.row.toRowW.claim.pre args=true) (Ph:WellAll P h vals args):
  ∃a vs ns,vals=[Value.ref a]/\args=[WData.list (ns.map WData.int)]/\h.get? a=some {cls:= .type "list",data:= .seq vs.toArray}/\IntsAre vs ns/\ns.length<=n:=by
 have Tc:WShape.hasAll [] args [.list .int]=true:=(pre_splitW Gq).1;have hc:l.pre.holds [] {args:=args}=true:=(pre_splitW Gq).2;obtain ⟨d,r,rfl,h1,h2⟩:=hasAllW_cons Tc;obtain rfl:=hasAllW_nil h2;obtain ⟨xs,rfl,h3⟩:=hasW_list h1;obtain ⟨ns,rfl⟩:=items_int h3;have hlen:ns.length<=n:=by
  unfold OpenLaw.pre at hc;have h4:(WTm.not (.lt (.lit (.int (n:Int))) (.len (.arg 0)))).holds [] {args:=[.list (ns.map .int)]}=true:=by have h4:=(holds_andW hc).1;rw [hn] at h4;exact h4
  have h5:=condW_of h4 (w_not (w_lt w_lit (w_len_list (w_arg rfl))));rw [aac] at h5;refine Nat.le_of_not_lt λq=> ?_;have q':(n:Int) < ((ns.length:Nat):Int):=by omega
  first
   | (rw [aav q'] at h5;exact aaJ h5 (by decide))
   | (simp at h5;omega)
 cases Ph with
 | cons w1 w2=>
  cases w2;cases w1 with
  | list ho v8=>exact ⟨_,_,ns,rfl,rfl,ho,mH ns _ v8,hlen⟩
theorem zY(l:OpenLaw)(args:List WData):l.row.toRowW.claim.post args (.bool true) args=true:=
 postW_of (r:=l.row.toRowW) (X:=(true==true))
  (show WShape.has [] (.bool true) .bool=true by first | rfl | decide | simp [WShape.has,WShape.arms,WShape.armsAll])
  (show (WTm.eq .res (.lit (.bool true))).value [] {args:=args,res:=some (.bool true),after:=args}=some (.bool (true==true)) from w_eq_bool (w_res rfl) w_lit) rfl
theorem uh{l:OpenLaw}{n:Nat}{q:Program}{loose:List Str}{XP:(Str->Option Value)->Heap->Prop}{YP:World->Heap->Prop}{d:DefRec}
  (hn:l.most=some n) (LN:d.params.defaults=[])
  (call:∀(w:World) (s₀ s₁:Shared) (mg mb:Str->Option Value) (fa:Addr) (o:Obj) (pm cd doc:Value) (a:Addr) (vs:List Value) (ns:List Int),
   Ground q loose [] XP w s₀ mg mb s₁.heap->YP w s₁.heap->
   s₁.heap.get? fa=some o->o.data= .func (docDef d.name d.params d.body d.scope pm cd doc)->s₁.heap.CodeRec cd d.name->mg d.name=some (.ref fa)->
   s₁.heap.get? a=some {cls:= .type "list",data:= .seq vs.toArray}->IntsAre vs ns->ns.length<=n->s₁.gens= #[]->
   codeAny (model l.prog w) callerA (.call (.ref fa) ⟨[.ref a],[]⟩) (λr s'=>r= .ok (.ret (.bool true))/\OldK s₁.heap s'.heap/\s'.os=s₁.os/\AllBare s'.gens) s₁):
  WalkO q loose XP YP l.row.toRowW d [] (λf vs=>PySem.call f vs):=by
 intro w s₀ s₁ mg mb G Y fa o pm cd doc dV kV ho hd Br hD Gd hg args vals as Gq UU Yc Ph Yh;obtain rfl:dV= .none:=Dflts.none hD LN;obtain rfl:kV= .none:=Dflts.noKw hD;obtain ⟨a,vs,ns,rfl,rfl,IK,hints,hlen⟩:=Ad hn Gq Ph;refine enter_call (codeAny_mono (call w s₀ s₁ mg mb fa o pm cd doc a vs ns G Y ho (fd_plain hd) Br Gd IK hints hlen hg) λr s' hq=> ?_);obtain ⟨rfl,h2,h3,h4⟩:=hq;exact ⟨.inl ⟨.bool true, .bool true,[],rfl,λ_=>rfl, .bool true,zY l _,λ_=>⟨List.Pairwise.nil,λ_ hm=>(nomatch hm)⟩⟩,h2,h3,h4⟩
end Att
namespace L2
open PySem PySem.Spec PyProof.Rows
theorem qV:∀{vs:List Value} {ns:List Int},IntsAre vs ns->au (ns.map V.int) vs
 | _,_, .nil=> .nil
 | _,_, .cons n t h=> .cons ⟨t,rfl⟩ (qV h)
def HZ(H:Hp):Prop:=∀b,H b=none\/∃o xs,H b=some (.qS o (.lst xs))
theorem BI{P:Program}{w:World}{K:fv}{mg mb:Str->Option Value}{CX:wo}{k:Nat}{fa a:Addr}{fd:FuncData}{x:Str}{sp:Sp}{s₁:Shared}{vs:List Value}{ns:List Int}
  (KX:K.In s₁.heap) (Ss:s₁.heap.Ns mainGlobals mg) (hb:s₁.heap.Ns builtinsNs mb) (TB:∀x:Str,x≠"__name__"->mb x=bootBuiltins x) (PK:s₁.heap.NoLimit) (hg:s₁.gens= #[])
  (ha:s₁.heap.get? a=some {cls:= .type "list",data:= .seq vs.toArray}) (hi:IntsAre vs ns) (hl:ns.length<=sizeLine) (hr:bG k callerA)
  (F:∀base:Heap,K.In base->base.Ns mainGlobals mg->ar P w K mg base CX k fa fd [x] sp) (Mt:∀(s:Shared) (u:Value),BindsTo s fd ⟨[u],[]⟩ [(x,u)])
  (G8:∀H:Hp,HZ H->gM K H a (ns.map V.int)->sp [.ref a] H (λv _=>v= .bl true) λ_ _ _=>False)
  (P2:∀H e s',CX [] H s₁ (λ_ _ _=>False) e s'->False):
  codeAny (model P w) callerA (.call (.ref fa) ⟨[.ref a],[]⟩) (λr s'=>r= .ok (.ret (.bool true))/\OldK s₁.heap s'.heap/\s'.os=s₁.os/\AllBare s'.gens) s₁:=by
 have rv:=qV hi;have O2:=hi.length
 have core:∀H:Hp,HZ H->gM K H a (ns.map V.int)->ji P w H s₁.heap->(∀b,H b≠none->b=a)->(H a≠none->K.lookup a=none)->
   codeAny (model P w) callerA (.call (.ref fa) ⟨[.ref a],[]⟩) (λr s'=>r= .ok (.ret (.bool true))/\OldK s₁.heap s'.heap/\s'.os=s₁.os/\AllBare s'.gens) s₁:=by
  intro H hO hS aR hA hK;have y3:∀{b:Addr} {o:Obj},s₁.heap.get? b=some o->H b=none->(qZ s₁.heap H).get? b=some o:=λe n=>Dv e n;have M_:∀{b:Addr} {o:Obj} {es:Array DictEntry} {ep:Nat},s₁.heap.get? b=some o->o.data= .dict es ep->H b=none:=λ{b o es ep} e d=>by
   cases q:H b with
   | none=>rfl
   | some u=>
    have e':b=a:=hA b (by rw [q];simp);subst e';rw [ha] at e;cases e;have d':Data.seq vs.toArray _=Data.dict es ep:=d;cases d'
  have Oq:∀{b:Addr} {m:Str->Option Value},s₁.heap.Ns b m->(qZ s₁.heap H).Ns b m:=λ{b m} ⟨o,es,ep,e,d,r⟩=>⟨o,es,ep,y3 e (M_ e d),d,r⟩
  have R3:K.In (qZ s₁.heap H):=λb o e=>y3 (KX b o e) (by
   cases q:H b with
   | none=>rfl
   | some u=>
    have e':b=a:=hA b (by rw [q];simp);subst e'
    rw [hK (by rw [q];simp)] at e;cases e)
  have hM:Mod K mg (qZ s₁.heap H):=⟨R3,Oq Ss,⟨mb,Oq hb,TB⟩,let ⟨mc,h1,h2⟩:=PK;⟨mc,Oq h1,h2⟩⟩;have e0:wC P w K mg (qZ s₁.heap H) callerA [] s₁ H:=⟨rfl,hM,λb o e=>Ga e,Nat.le_of_eq (zw _ _),trivial,λb hb=>absurd (show b∈([]:List Addr) from hb) (by simp),aR, .of_eq hg⟩;refine codeAny_mono ((F _ R3 (Oq Ss)).run callerA [] s₁ H ⟨[.ref a],[]⟩ [.ref a] [.ref a] _ _ hr e0 (Mt s₁ (.ref a)) (.cons rfl .nil) (G8 H hO hS)) λr s' h=> ?_;cases r with
  | error e=>exact (P2 H e s' h).elim
  | ok fl=>
   cases fl with
   | next=>exact False.elim h
   | brk=>exact False.elim h
   | cont=>exact False.elim h
   | ret u=>
    obtain ⟨v,H',os,bare,un,Qv,r',q⟩:=h;have q':v= .bl true:=q;subst q';obtain rfl:u=Value.bool true:=r';refine ⟨rfl,OldK.of_keep λb o e=> ?_,os,bare⟩;cases q:H b with
    | none=>exact un.keep b o e q (by intro z;exact absurd (show b∈([]:List Addr) from z) (by simp)) (by simp)
    | some u=>
     rcases hO b with z | ⟨ob,xs,z⟩
     ·rw [q] at z;cases z
     ·have z2:=un.lY b ob _ z;obtain ⟨e1,_⟩:=aR b _ z;obtain ⟨e2,_⟩:=Qv b _ z2;rw [e] at e1;cases e1;exact e2
 cases hk:K.lookup a with
 | some o=>
  have e:=KX a o hk;rw [ha] at e;cases e;refine core (λ_=>none) (λ_=> .inl rfl) (.inr ⟨_,vs.toArray,_,hk,rfl,rfl,rfl,by rw [List.size_toArray,O2];exact hl,by simpa using rv⟩) (λb u z=>by have z':(none:Option HO)=some u:=z;cases z') (λb z=>absurd rfl z) λz=>absurd rfl z
 | none=>
  refine core (λb=>if b=a then some (.qS {cls:= .type "list",data:= .seq vs.toArray} (.lst (ns.map V.int))) else none) (λb=> ?_) (.inl (.inr ⟨{cls:= .type "list",data:= .seq vs.toArray},aaE rfl⟩)) (λb u z=> ?_) (λb z=> ?_) λ_=>hk
  ·by_cases hb:b=a
   ·exact .inr ⟨_,_,aaE hb⟩
   ·exact .inl (aaA hb)
  ·by_cases hb:b=a
   ·have z':=(aaE hb).symm.trans z;cases z';subst hb;exact ⟨ha,by rw [aac];exact hl,vs,_,rv,ha⟩
   ·have z':=(aaA hb).symm.trans z;cases z'
  ·by_cases hb:b=a
   ·exact hb
   ·exact aaJ (aaA hb) z
theorem rM{l:PySem.W.OpenLaw}{n k:Nat}{q:Program}{loose:List Str}{XP:(Str->Option Value)->Heap->Prop}{YP:World->Heap->Prop}{d:DefRec}{K:Params->fv}{CX:World->wo}{sp:World->Sp}{x:Str}
  (hn:l.most=some n) (NN:n<=sizeLine) (LN:d.params.defaults=[]) (hr:bG k callerA)
  (hY:∀(w:World) (h:Heap),YP w h->(K w.params).In h)
  (F:∀(w:World) (mg:Str->Option Value) (fa:Addr) (h:Heap),(K w.params).In h->h.Ns mainGlobals mg->mg d.name=some (.ref fa)->
   ∃fd:FuncData,(∀(s:Shared) (u:Value),BindsTo s fd ⟨[u],[]⟩ [(x,u)])/\
    ∀base:Heap,(K w.params).In base->base.Ns mainGlobals mg->ar l.prog w (K w.params) mg base (CX w) k fa fd [x] (sp w))
  (G8:∀(w:World) (H:Hp) (a:Addr) (ns:List Int),ns.length<=n->HZ H->gM (K w.params) H a (ns.map V.int)->sp w [.ref a] H (λv _=>v= .bl true) λ_ _ _=>False)
  (P2:∀(w:World) (H:Hp) (s:Shared) (e:Value) (s':Shared),CX w [] H s (λ_ _ _=>False) e s'->False):
  PySem.W.WalkO q loose XP YP l.row.toRowW d [] (λf vs=>PySem.call f vs):=by
 refine Att.uh hn LN λw s₀ s₁ mg mb fa o pm cd doc a vs ns G Y ho hd Br Gd IK hints hlen hg=> ?_;have KX:=hY w _ Y;obtain ⟨fd,hb,hF⟩:=F w mg fa _ KX G.T.g Gd;exact BI KX G.T.g G.T.b G.T.builtins G.T.nolimit hg IK hints (aaI hlen NN) hr hF hb (λH hO hS=>G8 w H a ns hlen hO hS) λH e s'=>P2 w H s₁ e s'
end L2
/- W2 PO EX (shape;Ux,My.* are Mo):
  My.Xp:a structure of EE addresses OF Rc K' names (classes,zv);My.Txt K t:a structure (Prop) of EE equations mL K;
  My.wR:{K} {implicit addresses ..} (e1:nsIn K mainGlobals "law"=some (some (.ref f))) (e2:K.lookup f=some ⟨oc,od, .func (fnOf "law" "law" params body scope dV kV doc pm an bu ct),sl⟩) (e3:codeIn K bu "law"=true) .. :∃t,My.Txt K t
set_option maxRecDepth 100000 in
set_option maxHeartbeats 0 in
theorem PySem.Challenge.cw_LID_holds : PySem.Challenge.rw_LID.Holds := by
 w_on;o_law;k_head;(case hw=>w_witness2)
 k_fill
 refine L2.rM (l:=PySem.Challenge.rw_LID) (n:=63) (k:=40) (x:="script") (CX:=fun w=> ..) (sp:=fun _=>My.JF) rfl (by decide) rfl ⟨rfl,by decide,by decide⟩ (fun w h Y=>PySem.W.kIn_of Y) ?F ?S ?C
 case F=>
  intro w mg fa h KX G Gd;have T:∃t,My.Txt (L2.Rm KX) t:=by
   dsimp only [L2.Rm]
   refine' My.wR ?e1 ?e2 ?e3 ..
   (case e1=>PySem.W.k_is)
   (case e2=>PySem.W.k_is)
   ..
  obtain ⟨t,T⟩:=T;have e0:=Gd.symm.trans (PySem.W.mg_of KX G T.UN);cases e0;exact ⟨_,λs u=> .of_eq rfl,λbase kb nb=>My.wx T kb nb⟩
 case S=>exact λw H a ns hl hO hS=> ..
 case C=>exact ..
(EE tactic k_is has no namespace:write k_is) -/
namespace L2
open PySem PySem.Spec PyProof.Rows
variable{P:Program}{w:World}{mg:Str->Option Value}{base:Heap}{qual:Str}{st:Stmt}{f x:Addr}{fd:FuncData}{ps N xs ys:List Str}{A:Around}{s:Shared}{env:Env}{outer:List Env}{X:Cx}{ε:List (Addr×Obj)}{scope:Scope}{Ψ:List Nat}
def iP(s:Stmt):Arguments:=match s with
 | .FunctionDef _ a _ _ _ _ _ _ _ _=>a
 | _=>{posonlyargs:=[],args:=[],vararg:=none,kwonlyargs:=[],kw_defaults:=[],kwarg:=none,defaults:=[]}
def fV(s:Stmt):List Stmt:=match s with
 | .FunctionDef _ _ b _ _ _ _ _ _ _=>b
 | _=>[]
def ο(s:Stmt):Scope:=match s with
 | .FunctionDef _ _ _ _ _ _ sc _ _ _=>sc
 | _=>{kind:= .function,names:=[],isGenerator:=false,isCoroutine:=false}
abbrev N8:wo:=λ_ _ _ _ _ _=>False
abbrev E0:XK:=λ_ _ _=>False
structure dN(K:fv)(x qual:Str)(st:Stmt)(f:Addr)(fd:FuncData):Prop where
 ex:∃(oc:Value) (od:Option Addr) (kV doc pm:Value) (an:Option Addr) (bu ct:Value) (DL:Array (Option Value)),
  fd=PySem.W.fnOf x qual (iP st) (fV st) (ο st) .none kV doc pm an bu ct/\K.lookup f=some ⟨oc,od, .func fd,DL⟩/\PySem.W.codeIn K bu qual=true
 kp:PySem.W.keepIn K (.ref f)=true
section
variable{K:fv}
theorem dN.binds{x:Str}(F:dN K x qual st f fd)
  (h:∀(kV doc pm:Value) (an:Option Addr) (bu ct:Value) (us:List Value),us.length=ps.length->bindArgs (PySem.W.fnOf x qual (iP st) (fV st) (ο st) .none kV doc pm an bu ct) ⟨us,[]⟩=pure (ps.zip us)):g_ K fd ps []:=by
 obtain ⟨oc,od,kV,doc,pm,an,bu,ct,DL,rfl,lk,Br⟩:=F.ex;exact .all (h kV doc pm an bu ct)
theorem Cg{x:Str}{oc:Value}{od an:Option Addr}{DL:Array (Option Value)}{kV doc pm bu ct:Value}(l:K.lookup f=some ⟨oc,od, .func (PySem.W.fnOf x qual (iP st) (fV st) (ο st) .none kV doc pm an bu ct),DL⟩)
  (c:PySem.W.codeIn K bu qual=true) (k:PySem.W.keepIn K (.ref f)=true):dN K x qual st f (PySem.W.fnOf x qual (iP st) (fV st) (ο st) .none kV doc pm an bu ct):=⟨⟨oc,od,kV,doc,pm,an,bu,ct,DL,rfl,l,c⟩,k⟩
end
theorem v9{k:Nat}(hr:bG k A):A.units+1 < cLine:=aaM (Nat.add_le_add_left (by decide:1<=64) _) hr.units
theorem zP{A B:Prop}(h:B):if false=true then A else B:=by rw [aaA aau];exact h
theorem zo{A B:Prop}(h:A):if true=true then A else B:=by rw [aaE rfl];exact h
def de(H H':Hp):Prop:=∀b o,H b=some o->H' b=some o
theorem de.refl(H:Hp):de H H:=λ_ _ h=>h
theorem de.trans{H H1 H2:Hp}(a:de H H1)(b:de H1 H2):de H H2:=λc o h=>b c o (a c o h)
theorem de.free{H H':Hp}(e:de H H'){l:Addr}(h:H' l=Option.none):H l=Option.none:=by
 cases q:H l with
 | none=>rfl
 | some o=>
  rw [e l o q] at h;cases h
theorem de.seq{K:fv}{H H':Hp}{a:Addr}{xs:List V}(e:de H H')(h:gM K H a xs):gM K H' a xs:=by
 rcases h with (h | ⟨o,h⟩) | h
 ·exact .inl (.inl (e _ _ h))
 ·exact .inl (.inr ⟨o,e _ _ h⟩)
 ·exact .inr h
section
def EA(B:Heap)(l:List Env)(x:Addr)(o:Obj)(fl:Value)(h:Heap):Prop:=
 B.StaysIn h/\B.get? x=none/\h.FunFrames B l/\∃(vs:Array Value) (T:Addr) (oT:Obj) (ts:Array Value),h.get? x=some {o with data:= .fields vs}/\vs[2]? =some .none/\vs[1]? =some (.ref T)/\
  B.get? T=none/\T≠x/\h.get? T=some oT/\oT.data= .fields ts/\ts[3]? =some fl
section
variable{M:Model}{E:Value->Shared->Prop}{B:Heap}{l:List Env}{L:Addr}{o:Obj}{vs:Array Value}{Q:Unit->Shared->Prop}
theorem oN{h h':Heap}{T:Addr}{oT:Obj}{ts:Array Value}(hT:h.get? T=some oT)(hd:oT.data= .fields ts)(k:∀b,b≠T->h'.get? b=h.get? b):h.UpToSlots h':=λb ob e hn=>
 ⟨ob.slots,(k b λz=>by rw [z,hT] at e;cases e;exact hn _ hd).trans e⟩
theorem qR{h h':Heap}(hl:h.FunFrames B l)(u:h.UpToSlots h'):h'.FunFrames B l:=hl.of_keeps λb ob e hn=>by obtain ⟨sl,q⟩:=u b ob e hn;exact ⟨_,q,rfl⟩
theorem Bw{head:Value}{Vk:Bool}(Q3:A.frames=some (env::outer))(hf:env.frame=some L)(hB:B.StaysIn s.heap)(hn:B.get? x=none)(hl:s.heap.FunFrames B (env::outer))(hx:s.heap.get? x=some {o with data:= .fields vs})(h1:1 < vs.size)(h2:vs[2]? =some .none)
  (h:∀h',EA B (env::outer) x o (rawInt L) h'->s.heap.UpToSlots h'->Q () {s with heap:=h'}):
  wpAny M A (do let a<-frameOf env;let pl<-entryPlaceOf L Vk;let n<-EntryCells.newEntry head a .none (rawInt L) .none pl;setField (.ref x) 1 n) Q E s:=by
 refine aak (wpAny_frameOf_fun Q3 hl hf λg1 S1=>aak (wpAny_entryPlaceOf λpl fo=> ?_));have nx:x∉(env::outer).filterMap (·.frame):=λz=>by obtain ⟨_,ob,e,d⟩:=hl.mem z;rw [hx] at e;cases e;exact d _ rfl
 have SM:g1.get? x=some {o with data:= .fields vs}:=(S1.2.1 x nx).trans hx;unfold EntryCells.newEntry newFields;refine aak (wpAny_newObj_type ?_ (fo.sizeOk5 _ _ _ _ _));have RO:=aal (h:=g1) {cls:= .type "traceback",dict:=none,data:= .fields ([head, .ref L, .none,rawInt L, .none]++(if pl.isEmpty then List.replicate 6 Value.none else pl)).toArray} SM;refine wpAny_setField RO rfl h1 (h _ ?_ ?_)
 ·have up1:∀b ob,b≠x->g1.get? b=some ob->((g1.push {cls:= .type "traceback",dict:=none,data:= .fields ([head, .ref L, .none,rawInt L, .none]++(if pl.isEmpty then List.replicate 6 Value.none else pl)).toArray}).update x (Obj.mapFields (·.setIfInBounds 1 (Value.ref g1.objs.size)))).get? b=some ob:=λb ob nb e=>
   (Heap.get?_update_other _ _ (Ne.symm nb)).trans (aal _ e)
  have neT:g1.objs.size≠x:=acb (aao SM)
  refine ⟨λb ob e=>up1 b ob (λz=>by rw [z,hn] at e;cases e) ((S1.2.1 b λz=>by rw [(hl.mem z).1] at e;cases e).trans (hB b ob e)),hn,hl.of_keeps λb ob e d=> ?_,vs.setIfInBounds 1 (.ref g1.objs.size),g1.objs.size,_,_,Heap.get?_update_self _ RO rfl,by rw [Array.getElem?_setIfInBounds_ne (by decide)];exact h2,by simp [h1], ?_,neT,
   (Heap.get?_update_other _ _ (Ne.symm neT)).trans (aaQ g1 rfl),rfl, ?_⟩
  ·obtain ⟨sl,q⟩:=S1.2.2 b ob e;exact ⟨_,up1 b _ (λz=>by rw [z,hx] at e;cases e;exact d _ rfl) q,rfl⟩
  ·cases q:B.get? g1.objs.size with
   | none=>rfl
   | some ob=>
    have:=aao (hB _ _ q);rw [<-S1.1] at this;exact aaJ this (abx _)
  ·first
    | (simp;done)
    | (rcases fo with rfl | ⟨_,_,_,_,_,_,_,rfl⟩ <;> simp)
 ·intro b ob e d;obtain ⟨sl,q⟩:=S1.2.2 b ob e;refine ⟨sl, ?_⟩;rw [Heap.get?_update_other _ _ (λz:x=b=>by rw [<-z,hx] at e;cases e;exact d _ rfl)];exact aal _ q
theorem LD(Q3:A.frames=some (env::outer))(hf:env.frame=some L)(R:EA B (env::outer) x o .none s.heap)
  (h:∀h',EA B (env::outer) x o (rawInt L) h'->s.heap.UpToSlots h'->Q () {s with heap:=h'}):wpAny M A (noteFrame (.ref x) env) Q E s:=by
 obtain ⟨hB,hn,hl,vs,T,oT,ts,hx,h2,h1,nT,NV,hT,dT,h3⟩:=R;unfold noteFrame;simp only [hf];refine aak (wpAny_field hx rfl h1 ?_);rw [if_pos (show (Value.ref T != Value.none)=true by simp)];refine aak (wpAny_field hT dT h3 ?_);rw [if_neg (show¬((Value.none==rawInt L)=true) by simp [rawInt])];refine aak (wpAny_setField hT dT (abR.mp h3).1 ?_);have wK:∀b,b≠T->(s.heap.update T (Obj.mapFields (·.setIfInBounds 3 Value.none))).get? b=s.heap.get? b:=λb nb=>Heap.get?_update_other _ _ (Ne.symm nb);have u:=oN hT dT wK;exact Bw Q3 hf (λb ob e=>(wK b λz=>by rw [z,nT] at e;cases e).trans (hB b ob e)) hn (qR hl u) ((wK x (Ne.symm NV)).trans hx) (abR.mp h1).1 h2 λh' F' u'=>h h' F' (u.trans u')
theorem E_{fl:Value}(R:EA B l x o fl s.heap)(h:∀h',EA B l x o .none h'->s.heap.UpToSlots h'->Q () {s with heap:=h'}):wpAny M A (setFlight (.ref x) none) Q E s:=by obtain ⟨hB,hn,hl,vs,T,oT,ts,hx,h2,h1,nT,NV,hT,dT,h3⟩:=R;unfold setFlight;refine aak (wpAny_field hx rfl h1 ?_);rw [if_pos (show (Value.ref T != Value.none)=true by simp)];have z3:=(abR.mp h3).1;have wK:∀b,b≠T->(s.heap.update T (Obj.mapFields (·.setIfInBounds 3 ((none:Option Addr).elim Value.none λf=>rawInt f)))).get? b=s.heap.get? b:=λb nb=>Heap.get?_update_other _ _ (Ne.symm nb);have u:=oN hT dT wK;refine wpAny_setField hT dT z3 (h _ ⟨λb ob e=>(wK b λz=>by rw [z,nT] at e;cases e).trans (hB b ob e),hn,qR hl u,vs,T,_,_,(wK x (Ne.symm NV)).trans hx,h2,h1,nT,NV,Heap.get?_update_self _ hT (Obj.isFreed_of_fields (Obj.data_mapFields dT _)),Obj.data_mapFields dT _,by simp [z3]⟩ u)
theorem IM{fl:Value}{h:Heap}(R:EA B (env::outer) x o fl h):EA B outer x o fl h:=by obtain ⟨hB,hn,⟨_,_,hl⟩,r⟩:=R;exact ⟨hB,hn,hl,r⟩
end
structure N5(P:Program)(w:World)(l:List Env)(H H':Hp)(h h' B:Heap)(x:Addr)(o:Obj):Prop where
 un:Un (mE l) [] H H' h h'
 ok:ji P w H' B
 LC:EA B l x o .none h'
 Oi:∀b u,h.get? b=some u->H b=none->b∉mE l->B.get? b=some u
 MU:∀b u,h.get? b=some u->b∉mE l->∃u',B.get? b=some u'
variable{l:List Env}{H H':Hp}{h h' Oa B:Heap}{o:Obj}
end
def cR(P:Program)(w:World):wo:=λouter H s E e s'=>
 ∃x o H' B,e= .ref x/\s'.os=s.os/\AllBare s'.gens/\N5 P w outer H H' s.heap s'.heap B x o/\E o.cls o.dict H'
section
variable{σ:St}{H H':Hp}{Oa B:Heap}{ox:Obj}
theorem N5.leave(I:Inv X ε σ H s)(hex:X.ex=[])(Bo:∀b∈mE X.outer,b∈mE X.stack)(ok:ji X.prog X.w H' B)(f:EA B X.outer x ox .none Oa)(XW:X.s₀.heap.get? x=none)
  (Oi:∀b o,b≠x->s.heap.get? b=some o->H b=none->b∉mE X.stack->B.get? b=some o)
  (MU:∀b o,b≠x->s.heap.get? b=some o->b∉mE X.stack->∃o',B.get? b=some o')
  (sl:∀b o,s.heap.get? b=some o->b∈mE X.stack->∃sl,Oa.get? b=some {o with slots:=sl})
  (free:∀b o,s.heap.get? b=some o->H b=none->H' b=none)
  (mD:∀b xs,H b=some (.tup xs)->H' b=some (.tup xs)) (lY:∀b o u,H b=some (.qS o u)->H' b=some (.qS o u))
  (mC:∀b ps,H b=some (.Fy ps)->∃more,H' b=some (.Fy (ps++more))):N5 X.prog X.w X.outer X.H₀ H' X.s₀.heap Oa B x ox:=by
 have nX:∀b o,X.s₀.heap.get? b=some o->b≠x:=λb o e z=>by rw [z,XW] at e;cases e
 have l9:∀b:Addr,b∉X.ex:=λb z=>by rw [hex] at z;cases z
 have nS:∀b o,X.s₀.heap.get? b=some o->b∉mE X.outer->b∉mE X.stack:=λb o e hb z=>
  (aaP.mp (I.sj b z)).elim (λq=>aaK (aaq (aao e) I.ok.above) q) hb
 refine ⟨⟨λb o e n hb _=> ?_,λb o e n hb _=> ?_,λb o e n _=> ?_,λb o e _=> ?_,λb xs e=>mD b xs (I.base.mD b xs e),λb o u e=>lY b o u (I.base.lY b o u e),λb ps e=> ?_⟩,ok,f,λb o e n hb=> ?_,λb o e hb=> ?_⟩
 ·exact f.1 b o (Oi b o (nX b o e) (I.base.keep b o e n hb (l9 b)) (I.base.free b o e n (l9 b)) (nS b o e hb))
 ·obtain ⟨s1,e1⟩:=I.base.slot b o e n hb (l9 b);obtain ⟨s2,e2⟩:=sl b _ e1 (Bo b hb);exact ⟨s2,e2⟩
 ·obtain ⟨o',e1⟩:=I.base.there b o e (l9 b);exact free b o' e1 (I.base.free b o e n (l9 b))
 ·obtain ⟨o',e1⟩:=I.base.there b o e (l9 b);by_cases hb:b∈mE X.stack
  ·obtain ⟨s2,e2⟩:=sl b _ e1 hb;exact ⟨_,e2⟩
  ·obtain ⟨o2,q⟩:=MU b o' (nX b o e) e1 hb;exact ⟨o2,f.1 _ _ q⟩
 ·obtain ⟨m1,e1⟩:=I.base.mC b ps e;obtain ⟨m2,e2⟩:=mC b _ e1;exact ⟨m1++m2,by rw [e2,Array.append_assoc]⟩
 ·exact Oi b o (nX b o e) (I.base.keep b o e n hb (l9 b)) (I.base.free b o e n (l9 b)) (nS b o e hb)
 ·obtain ⟨o',e1⟩:=I.base.there b o e (l9 b);exact MU b o' (nX b o e) e1 (nS b o e hb)
end
def c8(CX:wo)(X:Cx)(R:St->XK):Prop:=∀(ε:List (Addr×Obj)) (σ:St) (H:Hp) (s:Shared) (e:Value) (s':Shared),Inv X ε σ H s->CX X.stack H s (R σ) e s'->X.xe e s'
section
variable{K:fv}{cd:Value}{s₀:Shared}{H₀:Hp}{E:XK}
theorem FO:∀b∈mE outer,b∈mE (env::outer):=λb hb=>by obtain ⟨en,he,hf⟩:=ab2.mp hb;exact ab2.mpr ⟨en,aad _ he,hf⟩
theorem ν:c8 (cR P w) (tK (cR P w) P w K mg base N qual scope f cd A outer s₀ H₀ E) (λ_=>E):=by
 intro ε σ H s e s' I hx;obtain ⟨x,o,H',B,rfl,os,bare,F,hE⟩:=hx;show wpAny _ _ (do noteFrame (.ref x) _;setFlight (.ref x) none) _ _ s';refine aak (LD (B:=B) I.ok.frames rfl F.LC λh4 f4 u4=>E_ f4 λh5 f5 u5=> ?_);refine ⟨x,o,H',B,rfl,os.trans I.os,bare,N5.leave I rfl FO F.ok (IM f5) ?_ (λb o _=>F.Oi b o) (λb o _=>F.MU b o) (λb o q hb=> ?_) (λb o q n=>F.un.free b o q n (by simp)) F.un.mD F.un.lY F.un.mC,hE⟩
 ·show s₀.heap.get? x=none;cases q:s₀.heap.get? x with
  | none=>rfl
  | some u=>
   obtain ⟨u',e1⟩:=I.base.there x u q (λz=>nomatch z);by_cases hb:x∈mE (tK (cR P w) P w K mg base N qual scope f cd A outer s₀ H₀ E).stack
   ·obtain ⟨vs,_,_,_,WU,_⟩:=F.LC.2.2.2;obtain ⟨_,o',As,hd⟩:=F.LC.2.2.1.mem hb;rw [WU] at As;cases As;exact aaJ rfl (hd _)
   ·obtain ⟨u2,e2⟩:=F.MU x u' e1 hb;rw [F.LC.2.1] at e2;cases e2
 ·obtain ⟨sl,e1⟩:=F.un.slot b o q (I.sP b hb) hb (by simp);obtain ⟨_,o',As,hd⟩:=F.LC.2.2.1.mem hb;rw [e1] at As;cases As;obtain ⟨NP,e2⟩:=(u4.trans u5) b _ e1 hd;exact ⟨NP,e2⟩
end
def Kc(sp:Sp)(m6:List V)(R:St->XK)(t:TA):TE:=λσ H Q=>t σ H λvs H1=>sp (vs++m6) H1 Q (R σ)
section
variable{CX:wo}{k:Nat}{sp:Sp}{m6:List V}{ds:List Value}{R:St->XK}{x:Str}{p pos:Pos}{e:Expr}{es:List Expr}{t:TA}
theorem sY{σ:St}{H:Hp}{Q:VK}{us:List Value}{vs:List V}(F:ar X.prog X.w X.K X.mg X.base CX k f fd ps sp)(hr:bG k X.A)(hb:g_ X.K fd ps ds)(hd:au m6 ds)(hx:c8 CX X R)
  (I:Inv X ε σ H s) (r:au vs us) (h:sp (vs++m6) H Q (R σ)):wpAny (model X.prog X.w) X.A (call (.ref f) us) (EP X ε σ Q) X.xe s:=by
 have r2:au (vs++m6) (us++ds):=r.append hd;have hl:(us++ds).length=ps.length:=by rw [<-r2.length];exact F.len _ _ _ _ h
 refine wpAny_call (codeAny_mono (F.run X.A X.stack s H ⟨us,[]⟩ (us++ds) (vs++m6) Q (R σ) hr I.Le (hb s us I.mK hl) r2 h) λr s' hq=> ?_);cases r with
 | error e=>exact hx ε σ H s e s' I hq
 | ok fl=>
  cases fl with
  | ret u=>exact I.after hq
  | next=>exact False.elim hq
  | brk=>exact False.elim hq
  | cont=>exact False.elim hq
theorem Cp(F:ar X.prog X.w X.K X.mg X.base CX k f fd ps sp)(hr:bG k X.A)(hg:Gl X x)(hm:X.mg x=some (.ref f))(hk:PySem.W.keepIn X.K (.ref f)=true)(hb:g_ X.K fd ps ds)(hd:au m6 ds)(hx:c8 CX X R)
  (ha:PA X (e::es) t) (nz:(x==("__debug__":Str))=false:=by decide) (he:starEach (e::es) X.env=(false,eval e X.env)::starEach es X.env:=by rfl) (fo:(backTo pos (starEach es X.env)).any (·.1)=false:=by rfl):
  PE X (.Call (.Name x p) (e::es) [] pos) (Kc sp m6 R t):=by
 intro ε s σ H Q I h;refine wpAny_Call_Name_kw (sk I hg hm ?_ nz);refine PySem.W.callWith_K (h₀:=X.base) I.ok.mod.LW hk (bQ (ha pos ε s σ H _ I h) λus s1 ⟨vs,H1,I1,r,q⟩=>⟨I1.mK, ?_⟩) he fo;exact sY F hr hb hd hx I1 r q
end
def jB(env:Env):List (Str×NameKind)->List (Str×Addr)->List (Str×Addr)
 | [],υ=>υ
 | p::r,υ=>jB env r (if p.2== .free then (p.1,(env.cells.lookup p.1).getD 0)::υ else υ)
theorem oE(h:∀p∈scope.names,p.2= .free->(env.cells.lookup p.1).isSome=true):closureFor scope env=pure (jB env scope.names []):=by
 have key:∀(l:List (Str×NameKind)) (υ:List (Str×Addr)),(∀p∈l,p.2= .free->(env.cells.lookup p.1).isSome=true)->
   (forIn l υ (λ(p:Str×NameKind) (r:List (Str×Addr))=>(if p.2== .free then (do let c<-cellOf env p.1;pure (ForInStep.yield ((p.1,c)::r))) else pure (ForInStep.yield r):Sem (ForInStep (List (Str×Addr))))))=(pure (jB env l υ):Sem (List (Str×Addr))):=by
  intro l
  induction l with
  | nil=>intro υ _;rfl
  | cons p r ih=>
   intro υ hp;rw [List.forIn_cons];have Sq:=λa=>ih a λq hq=>hp q (aad _ hq);obtain ⟨n,k⟩:=p;by_cases hk:k= .free
   ·subst hk;have hs:=hp (n, .free) aae rfl;cases hl:env.cells.lookup n with
    | none=>rw [show env.cells.lookup (n,NameKind.free).1=none from hl] at hs;cases hs
    | some c=>
     have e1:jB env ((n, .free)::r) υ=jB env r ((n,c)::υ):=by show jB env r (if (NameKind.free==NameKind.free)=true then (n,(env.cells.lookup n).getD 0)::υ else υ)=_;rw [aaE (by decide),hl];rfl
     have e2:cellOf env n=pure c:=by unfold cellOf;rw [hl]
     rw [e1];have e3:(NameKind.free==NameKind.free)=true:=by decide
     simp only [e3,if_true,e2,pure_bind];exact Sq _
   ·have hb:(k==NameKind.free)=false:=by simpa using hk
    have e1:jB env ((n,k)::r) υ=jB env r υ:=by show jB env r (if (k==NameKind.free)=true then (n,(env.cells.lookup n).getD 0)::υ else υ)=_;rw [hb,aaA (by decide)]
    rw [e1];simp only [hb,Bool.false_eq_true,if_false,pure_bind];exact Sq _
 have:=key scope.names [] h;unfold closureFor
 first
  | exact this
  | (simp only [bind_pure];exact this)
  | (rw [bind_pure];exact this)
theorem qH{env:Env}{y:Str}{c:Addr}:∀(l:List (Str×NameKind)) (υ:List (Str×Addr)),(∀p∈l,p.2= .free->(env.cells.lookup p.1).isSome=true)->
  (υ.lookup y=some c->env.cells.lookup y=some c)->(jB env l υ).lookup y=some c->env.cells.lookup y=some c
 | [],υ,_,ha,h=>ha h
 | (n,k)::r,υ,hp,ha,h=>by
  refine qH r _ (λq hq=>hp q (aad _ hq)) (λe=> ?_) h;split at e
  ·rename_i hk;rw [abw] at e;cases q:(y==n) with
   | true=>
    rw [q] at e;have e':(env.cells.lookup n).getD 0=c:=aan e;have hn:y=n:=by simpa using q
    subst hn;have hs:=hp (y,k) List.mem_cons_self (by simpa using hk);cases z:env.cells.lookup y with
    | none=>rw [show env.cells.lookup (y,k).1=none from z] at hs;cases hs
    | some d=>rw [z] at e';rw [<-e'];rfl
   | false=>rw [q] at e;exact ha e
  ·exact ha e
theorem ny{env:Env}{y:Str}:∀(l:List (Str×NameKind)) (υ:List (Str×Addr)),((y,NameKind.free)∈l\/(υ.lookup y).isSome=true)->((jB env l υ).lookup y).isSome=true
 | [],υ,h=>by
  rcases h with h | h
  ·cases h
  ·exact h
 | (n,k)::r,υ,h=>by
  refine ny r _ ?_;by_cases hy:y=n
  ·subst hy;by_cases hk:k= .free
   ·subst hk;right;show (List.lookup y (if (NameKind.free==NameKind.free)=true then (y,(env.cells.lookup y).getD 0)::υ else υ)).isSome=true;rw [aaE (by decide),abw,beq_self_eq_true];rfl
   ·rcases h with h | h
    ·rcases aaP.mp h with z | z
     ·exact aaJ (Prod.mk.inj z).2.symm hk
     ·exact .inl z
    ·right;rw [if_neg (by simpa using hk)];exact h
  ·rcases h with h | h
   ·rcases aaP.mp h with z | z
    ·exact aaJ (Prod.mk.inj z).1 hy
    ·exact .inl z
   ·right;split
    ·rw [List.lookup_cons,show (y==n)=false by simpa using hy];exact h
    ·exact h
def Cx.comp(X:Cx)(Nc:List Str)(scope:Scope)(C:Addr)(s:Shared)(H:Hp)(fp:List Addr):Cx:={X with
 N:=Nc
 s₀:=s
 H₀:=H
 env:=compEnvC scope (jB X.env scope.names []) C X.env
 outer:=X.stack
 ex:=fp
 fn:=λ_=>false
 pn:=[]
 xe:=λ_ _=>False}
theorem χ.of{P:List Str}{sc:Scope}(h:(sc.kind,sc.isCoroutine,sc.isGenerator)=(.function,false,false))(h2:N.Nodup/\N.take P.length=P/\(∀x∈P,sc.names.lookup x=some .local\/sc.names.lookup x=some .cell)/\(∀y∈sc.names,y.2≠ .free):=by decide+kernel):χ N P sc:=by obtain ⟨a,b,c,d⟩:=h2;exact ⟨aa5 (·.1) h,aa5 (·.2.1) h,aa5 (·.2.2) h,a,b,c,d⟩
structure aK(X:Cx)(scope:Scope)(xs ys:List Str)(Ψ:List Nat):Prop where
 kind:scope.kind= .function
 Bl:∀p∈scope.names,p.2≠ .cell
 names:∀p∈scope.names,p.2= .local->scope.names.lookup p.1=some .local
 own:∀x∈xs,scope.names.lookup x=some .local
 free:∀p∈scope.names,p.2= .free->X.env.scope.names.lookup p.1=some .cell
 nd:(xs++ys).Nodup
 Ua:∀q∈ys.zip Ψ,X.N[q.2]? =some q.1/\X.env.scope.names.lookup q.1=some .cell/\scope.names.lookup q.1=some .free
 len:ys.length=Ψ.length
theorem aK.of{sc:Scope}(_:χ N ps sc)(hN:X.N=N)(hs:X.env.scope=sc)(k:scope.kind= .function)(h:(∀p∈scope.names,p.2≠ .cell)/\(∀p∈scope.names,p.2= .local->scope.names.lookup p.1=some .local)/\(∀x∈xs,scope.names.lookup x=some .local)/\(∀p∈scope.names,p.2= .free->sc.names.lookup p.1=some .cell)/\(xs++ys).Nodup/\(∀q∈ys.zip Ψ,N[q.2]? =some q.1/\sc.names.lookup q.1=some .cell/\scope.names.lookup q.1=some .free)/\ys.length=Ψ.length:=by decide+kernel):aK X scope xs ys Ψ:=by subst hN hs;obtain ⟨a,b,c,d,e,f,g⟩:=h;exact ⟨k,a,b,c,d,e,f,g⟩
theorem B1{env:Env}{y:Str}:∀{l:List (Str×NameKind)},(∀p∈l,p.2≠ .cell)->
  ((l.map λ(n,k)=>if (k==NameKind.free&&env.scope.kind== .function&&env.kindOf n==some .cell) then (n,NameKind.cell) else (n,k)).lookup y=some .cell\/
   (l.map λ(n,k)=>if (k==NameKind.free&&env.scope.kind== .function&&env.kindOf n==some .cell) then (n,NameKind.cell) else (n,k)).lookup y=some .free)->(y,NameKind.free)∈l
 | [],_,h=>by rcases h with h | h <;> cases h
 | (n,k)::r,hc,h=>by
  have ih:= @B1 env y r (λp hp=>hc p (aad _ hp));rw [aaS] at h;by_cases q:(k==NameKind.free&&env.scope.kind== .function&&env.kindOf n==some .cell)=true
  ·have hk:k= .free:=by rw [aaF,aaF] at q;simpa using q.1.1
   subst hk;by_cases hy:y=n
   ·subst hy;exact aae
   ·refine aad _ (ih ?_);have hb:(y==n)=false:=by simpa using hy
    simp only [q,if_true,List.lookup_cons,hb] at h;exact h
  ·by_cases hy:y=n
   ·subst hy;have hb:(y==y)=true:=by simp
    simp only [q,Bool.false_eq_true,if_false,List.lookup_cons,hb] at h;rcases h with h | h
    ·exact aaJ (aan h) (hc (y,k) aae)
    ·rw [<-aan h];exact aae
   ·refine aad _ (ih ?_);have hb:(y==n)=false:=by simpa using hy
    simp only [q,Bool.false_eq_true,if_false,List.lookup_cons,hb] at h;exact h
theorem vj{env:Env}{y:Str}(hk:env.scope.kind= .function)(hy:env.kindOf y=some .cell):∀{l:List (Str×NameKind)},l.lookup y=some .free->
  (l.map λ(n,k)=>if (k==NameKind.free&&env.scope.kind== .function&&env.kindOf n==some .cell) then (n,NameKind.cell) else (n,k)).lookup y=some .cell
 | [],h=>by cases h
 | (n,k)::r,h=>by
  have ih:= @vj env y hk hy r;rw [aaS];rw [abw] at h;by_cases e:y=n
  ·subst e;have hb:(y==y)=true:=by simp
   rw [hb] at h;have:k= .free:=aan h;subst this;have q:(NameKind.free==NameKind.free&&env.scope.kind== .function&&env.kindOf y==some .cell)=true:=by rw [hk,hy];rfl
   simp only [q,if_true,List.lookup_cons,hb]
  ·have hb:(y==n)=false:=by simpa using e
   rw [hb] at h;by_cases q:(k==NameKind.free&&env.scope.kind== .function&&env.kindOf n==some .cell)=true
   ·simp only [q,if_true,List.lookup_cons,hb];exact ih h
   ·simp only [q,Bool.false_eq_true,if_false,List.lookup_cons,hb];exact ih h
theorem aK.has(S:aK X scope xs ys Ψ)(ok:X.Ok):∀p∈scope.names,p.2= .free->(X.env.cells.lookup p.1).isSome=true:=λp hp hf=>by obtain ⟨c,e⟩:=ok.has p.1 (.inl (S.free p hp hf));rw [e];rfl
theorem D7{α β:Type}:∀{xs:List α} {ys:List β} {j:Nat} {x:α} {y:β},xs[j]? =some x->ys[j]? =some y->(x,y)∈xs.zip ys
 | x::xs,y::ys,0,_,_,h1,h2=>by cases h1;cases h2;exact aae
 | x::xs,y::ys,j+1,_,_,h1,h2=>aad _ (D7 (xs:=xs) (ys:=ys) (j:=j) h1 h2)
 | [],_,_,_,_,h1,_=>by simp at h1
 | _::_,[],_,_,_,_,h2=>by simp at h2
def lC(Ψ:List Nat)(σ:St):St:=Ψ.map λi=>(σ[i]?).join
def wj(n:Nat)(gg:TG):Prop:=∀v (os cs:St) H (Q:St->Hp->Prop),os.length=n->gg v (os++cs) H Q->gg v (os++cs) H λσ' H'=>(∃N_:St,N_.length=n/\σ'=N_++cs)/\Q σ' H'
def wy(J:It)(n:Nat)(gg:TG)(tc:TT)(te:TE)(cs:St)(Q:VK)(H1:Hp)(D:Addr):Prop:=
 ∃ W:Nat->Nat->List V->Hp->Prop,(∃m,W 0 m [] (upd H1 D (.lst [])))/\∀i m ys H2,W i m ys H2->H2 D=some (.lst ys)/\
  ((J.stop i H2/\Q (.ref D) H2)\/(J.go i H2/\∀x H3,J.MY i H2 x H3->∀os:St,os.length=n->gg x (os++cs) H3 λσ' Tn=>tc σ' Tn λb H4=>match b with
   | true=>te σ' H4 λy H5=>H5 D=some (.lst ys)/\ys.length < sizeLine/\∃m',m' < m/\W (i+1) m' (ys++[y]) (upd H5 D (.lst (ys++[y])))
   | false=>∃m',m' < m/\W (i+1) m' ys H4))
def CB(wi:TI)(n:Nat)(gg:TG)(tc:TT)(te:TE)(Ψ:List Nat):TE:=λσ H Q=>wi σ H λJ H1=>∀D,H1 D=none->wy J n gg tc te (lC Ψ σ) Q H1 D
def P5(cs:List Expr)(env:Env):Sem Bool:=match cs with
 | []=>pure true
 | c::_=>isTrue c env (eval c env)
def NU(X:Cx)(cs:List Expr)(t:TT):Prop:=
 (cs=[]\/∃c,cs=[c])/\∀(ε:List (Addr×Obj)) (s:Shared) (σ:St) (H:Hp) (Q:Bool->Hp->Prop),Inv X ε σ H s->t σ H Q->wpAny (model X.prog X.w) X.A (P5 cs X.env) (TP X ε σ Q) X.xe s
theorem p7{elt target iter:Expr}{cs:List Expr}{scope:Scope}{pos:Pos}{it υ:Value}{env:Env}(h:cs=[]\/∃c,cs=[c]):
  compTurn (.ListComp elt [⟨target,iter,cs,0⟩] scope pos) 0 it υ env=(standAt iter.pos >>= λ_=>pyNext it >>= λr=>match r with
   | none=>pure (.done .next)
   | some v=>letOwnedTupleGo target it v >>= λ_=>assign target env v >>= λ_=>P5 cs env >>= λok=>
    (if ok=true then (eval elt env >>= λx=>call (.builtin "list.append") [υ,x] >>= λ_=>pure ()) >>= λ_=>again (.compLoop (.ListComp elt [⟨target,iter,cs,0⟩] scope pos) 0 it υ env)
     else again (.compLoop (.ListComp elt [⟨target,iter,cs,0⟩] scope pos) 0 it υ env))):=by
 rcases h with rfl | ⟨c,rfl⟩ <;> (unfold compTurn P5;dsimp only [List.getElem?_cons_zero,List.getElem?_cons_succ,List.getElem?_nil];simp only [List.forIn_cons,List.forIn_nil,bind_assoc,pure_bind,if_true];rfl)
section
variable{elt iter tg:Expr}{cs:List Expr}{pos:Pos}{wi:TI}{gg:TG}{tc:TT}{te:TE}
theorem qN(S:aK X scope xs ys Ψ)(hc:X.calm=true)(hg:∀C s H fp,PG (Cx.comp X (xs++ys) scope C s H fp) tg gg)(hk:wj xs.length gg)(ht:∀C s H fp,NU (Cx.comp X (xs++ys) scope C s H fp) cs tc)(he:∀C s H fp,PE (Cx.comp X (xs++ys) scope C s H fp) elt te)
   {σ:St} {H2:Hp} {s2:Shared} {it:Addr} {fp:List Addr} {tn:Nat->Heap->Prop} {J:It} {Q:V->Hp->Prop} {PQ:Value->Addr->Result->Shared->Prop} (I:Inv X ε σ H2 s2) (T:tY X.prog X.w X.K tg J fp it tn) (t0:tn 0 s2.heap) (f2:∀b∈fp,pA X ε H2 b)
  (h:∀D,H2 D=none->wy J xs.length gg tc te (lC Ψ σ) Q H2 D)
  (Ue:∀D C s' H',Inv X ε σ H' s'->Q (.ref D) H'->(∃m,s'.heap.Ns C m)->H' C=none->X.s₀.heap.objs.size<=C->C≠X.env.locals->(∀z c,X.env.cells.lookup z=some c->c≠C)->(∀p∈X.pn++ε,p.1≠C)->PQ (.ref D) C (.ok .next) s'):
  wpAny (model X.prog X.w) X.A (newList []) (λυ s3=>wpAny (model X.prog X.w) X.A (newFunctionEnv scope X.env.globals (jB X.env scope.names []) [] X.env.qual none .none (some X.env)) (λLU s4=>
   codeAny (model X.prog X.w) X.A (.compStart (.ListComp elt [⟨tg,iter,cs,0⟩] scope pos) 0 (.ref it) υ {LU with scope:=relabel scope X.env}) (PQ υ LU.locals) s4) X.xe s3) X.xe s2:=by
 have hD:H2 s2.heap.objs.size=none:=I.fresh;obtain ⟨W,⟨m0,w0⟩,step⟩:=h _ hD;refine wpAny_newObj_type ?_;have I3:Inv X ε σ (upd H2 s2.heap.objs.size (.lst [])) {s2 with heap:=s2.heap.push {cls:= .type "list",data:= .seq ([]:List Value).toArray}}:=Inv.Jp (t':=s2.toks) I (ys:=[]) (its:=[]) .nil (abK _);generalize XC:upd H2 s2.heap.objs.size (.lst [])=H3 at I3 w0;generalize VJ:({s2 with heap:=s2.heap.push {cls:= .type "list",data:= .seq ([]:List Value).toArray}}:Shared)=s3 at I3;have OV:∀b∈fp,H3 b=none:=λb hb=>by obtain ⟨o,e,_⟩:=T.obj _ _ t0 b hb;rw [<-XC,Γ (aaK (aao e))];exact (f2 b hb).1
 have t3:tn 0 s3.heap:=T.keep _ _ _ t0 λb hb o e=>by rw [<-VJ];exact aal _ e
 refine wpAny_newFunctionEnv S.Bl (λy hy=>nomatch hy) (λh4 Xg VS=> ?_) S.kind;have hC:H3 s3.heap.objs.size=none:=I3.fresh
 have kp:∀b o,s3.heap.get? b=some o->h4.get? b=some o:=λb o e=>
  (VS.2 b (aaK (aao e))).trans (aal _ e)
 generalize Pw:({s3 with heap:=h4,toks:=s3.toks+([]:List (Str×Value)).length}:Shared)=s4;have e4:s4.heap=h4:=by rw [<-Pw]
 have Et:∀z c,X.env.cells.lookup z=some c->c≠s3.heap.objs.size:=λz c e q=>by obtain ⟨v,w⟩:=I3.cell z c e;exact abx _ (q▸w.lt)
 have qi:∀z c,(jB X.env scope.names []).lookup z=some c->X.env.cells.lookup z=some c:=λz c e=>qH scope.names [] (S.has I.ok) (λq=>nomatch q) e;have UY:s3.heap.objs.size≠X.env.locals:=acb I3.lt;have ok:(Cx.comp X (xs++ys) scope s3.heap.objs.size s3 H3 fp).Ok:=by
  refine ⟨I3.ok.mod,S.kind,I3.ok.glob,I3.ok.blt,aam _,λz z' c e1 e2=>I3.ok.inj z z' c (qi z c e1) (qi z' c e2),λz hz=> ?_,λz c hz=>(by cases hz),I3.ok.hd,I3.ok.frames, .inl rfl,λb hb=>⟨?_,λz c e=> ?_⟩,I3.bs, ?_,λb o e hb=> ?_,λb hb hf=> ?_,I3.stack,I3.sP⟩
  ·have:=ny (env:=X.env) scope.names [] (.inl (B1 S.Bl hz));exact abA.mp this
  ·obtain ⟨o,e,_⟩:=T.obj _ _ t3 b hb;exact aaK (aao e)
  ·exact (f2 b hb).2.2.2.2.1 z c (qi z c e)
  ·exact aaI I3.ok.KN I3.sz
  ·obtain ⟨_,_,_,hy,_⟩:=f2 b hb;have e0:=(I3.ok.bs b o e).1;rcases hy with hy | hy
   ·exact I3.ok.IJ b o e hy
   ·exact aaJ (aaq (aao e0) hy) (abx _)
  ·obtain ⟨_,hl,Xu,_⟩:=f2 b hb;exact (aaP.mp (I3.sj b hf)).elim hl Xu
 have hlen:((List.replicate xs.length (none:Option V))++lC Ψ σ).length=(xs++ys).length:=by rw [aaf,aaf,aaV,S.len];unfold lC;rw [aac]
 have I4:Inv X ε σ H3 s4:=by rw [<-Pw];exact I3.kept kp
 have Ic:Inv (Cx.comp X (xs++ys) scope s3.heap.objs.size s3 H3 fp) [] ((List.replicate xs.length (none:Option V))++lC Ψ σ) H3 s4:=by
  refine ⟨ok,by rw [<-Pw];rfl,I4.bare,Un.kept (by rw [e4];exact kp),⟨_,by rw [e4];exact Xg,λi z v e1 e2 e3=> ?_⟩,λz c e=>I4.cell z c (qi z c e),hC,λz c e=>I4.mh z c (qi z c e),(λp hp=>nomatch hp),I4.aR,hlen⟩;have e1:(xs++ys)[i]? =some z:=e1;by_cases hi:i < xs.length
  ·rw [aay (by rw [aaV];exact hi),abC,aaE hi] at e2;cases e2
  ·obtain ⟨j,rfl⟩:∃j,i=xs.length+j:=⟨i - xs.length,by omega⟩;have e1:ys[j]? =some z:=by rw [aap (by omega),Nat.add_sub_cancel_left] at e1;exact e1
   have e2:(lC Ψ σ)[j]? =some (some v):=by rw [aap (by rw [aaV];omega),aaV,Nat.add_sub_cancel_left] at e2;exact e2
   unfold lC at e2;rw [aax] at e2;cases hi:Ψ[j]? with
   | none=>rw [hi] at e2;cases e2
   | some i=>
    rw [hi] at e2;have e2:(σ[i]?).join=some v:=aan e2;have e2:σ[i]? =some (some v):=by
     cases q:σ[i]? with
     | none=>rw [q] at e2;cases e2
     | some o=>rw [q] at e2;exact aa5 some e2
    obtain ⟨c1,c2,c3⟩:=S.Ua (z,i) (D7 e1 hi);have c4:=vj (env:=X.env) I.ok.kind c2 c3;have c3:(z,NameKind.free)∈scope.names:=PySem.mem_of_lookup c3;obtain ⟨m,hn,hl⟩:=I4.loc;obtain ⟨u,r,lk⟩:=hl i z v c1 e2 (.inr (.inl c2));refine ⟨u,r, .inr ⟨.inl c4, ?_⟩⟩;rcases lk with ⟨k,_⟩ | ⟨_,c,NQ,z'⟩
    ·exact aaJ ((show X.env.scope.names.lookup z=some .local from k).symm.trans c2) (by decide)
    ·obtain ⟨d,hd⟩:=abA.mp (ny (env:=X.env) scope.names [] (.inl c3));have:=qi z d hd;rw [NQ] at this;cases this;exact ⟨c,hd,z'⟩
 have loop:codeAny (model X.prog X.w) X.A (.compLoop (.ListComp elt [⟨tg,iter,cs,0⟩] scope pos) 0 (.ref it) (.ref s2.heap.objs.size) (compEnvC scope (jB X.env scope.names []) s3.heap.objs.size X.env)) (PQ (.ref s2.heap.objs.size) s3.heap.objs.size) s4:=by
  have OY:∀{H':Hp},(∀b∈fp,H' b=none)->∀b∈fp,pA (Cx.comp X (xs++ys) scope s3.heap.objs.size s3 H3 fp) [] H' b:=λhn b hb=>
   ⟨hn b hb,(ok.Sw b hb).1,ok.Kv b hb, .inl hb,(ok.Sw b hb).2,(λp hp=>nomatch hp)⟩
  refine codeAny_loop rfl (λn s'=>∃(i:Nat) (zs:List V) (os:St) (H':Hp),os.length=xs.length/\Inv (Cx.comp X (xs++ys) scope s3.heap.objs.size s3 H3 fp) [] (os++lC Ψ σ) H' s'/\tn i s'.heap/\(∀b∈fp,H' b=none)/\W i n zs H') (λn s5 z=> ?_) m0 ⟨0,[],List.replicate xs.length none,H3,by rw [aaV],Ic,T.keep _ _ _ t3 (λb hb o e=>by rw [e4];exact kp b o e),OV,w0⟩;obtain ⟨i,zs,os,H5,l5,I5,t5,N4,w5⟩:=z;show wpAny _ _ ((compTurn _ 0 (.ref it) _ _).onRaise _) _ _ s5;refine wpAny_noted ?_;rw [p7 (ht s3.heap.objs.size s3 H3 fp).1];refine aak (wpAny_standAt (aak ?_));obtain ⟨uA,stop | go⟩:=step i n zs H5 w5
  ·obtain ⟨stop,q⟩:=stop;refine bQ (T.done (Cx.comp X (xs++ys) scope s3.heap.objs.size s3 H3 fp) rfl rfl rfl hc i [] s5 _ H5 _ I5 (OY N4) t5 stop) λr s6 ⟨hr,I6⟩=> ?_;subst hr;refine aaL (Ue _ _ s6 H5 ?_ q ?_ I6.free ?_ UY Et λp hp z=> ?_)
   ·refine I3.Mr I6.os I6.base I6.aR I6.bare λb hb=> ?_;obtain ⟨_,g1,_,g3,g4,g5⟩:=f2 b hb;exact ⟨g3,g1,g4,g5⟩
   ·obtain ⟨m,hn,_⟩:=I6.loc;exact ⟨m,hn⟩
   ·exact I3.sz
   ·exact aaK (aao (I3.pin p hp).1) z
  ·obtain ⟨go,turn⟩:=go;refine bQ (T.item (Cx.comp X (xs++ys) scope s3.heap.objs.size s3 H3 fp) rfl rfl rfl hc i [] s5 _ H5 _ I5 (OY N4) t5 go) λr s6 ⟨u,hr,h6⟩=> ?_;subst hr;refine aak (bQ h6 λ_ s7 ⟨y,H7,I7,r7,y7,t7,XJ⟩=> ?_);have S9:=I7.pinned (OY XJ) (T.obj _ _ t7);refine aak (abG (hg _ _ _ _ _ s7 _ H7 y u _ S9 r7 (hk y os _ H7 _ l5 (turn y _ y7 os l5))) (λ_ s8 z8=> ?_) λ_ _ f=>f.elim);obtain ⟨σ8,H8,I8,⟨Sv,l8,e8⟩,q8⟩:=z8;subst e8;refine aak (abG ((ht _ _ _ _).2 _ s8 _ _ _ I8 q8) (λb s9 z9=> ?_) λ_ _ f=>f.elim);obtain ⟨H9,I9,q9⟩:=z9;cases b with
   | false=>
    obtain ⟨m9,XA,w9⟩:=q9;refine aaL ⟨rfl,m9,XA,i+1,zs,Sv,_,l8,I9.ix,T.keep _ _ _ t7 λb hb o e=>(I9.pin (b,o) (aaB _ (aaB _ (d8 hb e)))).1,λb hb=> ?_,w9⟩;obtain ⟨o,e,_⟩:=T.obj _ _ t7 b hb;exact (I9.pin (b,o) (aaB _ (aaB _ (d8 hb e)))).2.1
   | true=>
    refine aak (aak (abG (he _ _ _ _ _ s9 _ _ _ I9 q9) (λUs Wl TU=> ?_) λ_ _ f=>f.elim));obtain ⟨v10,R4,S5,WW,Pr,UJ,V4,P7,Xq⟩:=TU;refine aak (abG (qK (X:=Cx.comp X (xs++ys) scope s3.heap.objs.size s3 H3 fp) _ Wl _ R4 (.ref s2.heap.objs.size) [v10] _ [Us] (λ_ H'=>H'=upd R4 s2.heap.objs.size (.lst (zs++[v10]))) S5 rfl (.cons WW .nil) ⟨_,zs,v10,rfl,rfl,Pr,UJ,rfl⟩) (λ_ Yo Tj=> ?_) λ_ _ f=>f.elim);obtain ⟨_,X8,QZ,_,VT⟩:=Tj;subst VT;refine aaL (aaL ⟨rfl,V4,P7,i+1,zs++[v10],Sv,_,l8,QZ.ix,T.keep _ _ _ t7 λb hb o e=>(QZ.pin (b,o) (aaB _ (aaB _ (d8 hb e)))).1,λb hb=> ?_,Xq⟩);obtain ⟨o,e,_⟩:=T.obj _ _ t7 b hb;exact (QZ.pin (b,o) (aaB _ (aaB _ (d8 hb e)))).2.1
 exact codeAny_compStart_list loop (T.self X.A 0 _ _ _ (T.keep _ _ _ t3 (λb hb o e=>by rw [e4];exact kp b o e)) loop)
theorem BV(S:aK X scope xs ys Ψ)(hc:X.calm=true)(hi:PI X tg iter wi)(hg:∀C s H fp,PG (Cx.comp X (xs++ys) scope C s H fp) tg gg)(hk:wj xs.length gg)(ht:∀C s H fp,NU (Cx.comp X (xs++ys) scope C s H fp) cs tc)(he:∀C s H fp,PE (Cx.comp X (xs++ys) scope C s H fp) elt te)(hs:∀x,foldedSetIterable iter X.env x=pure x:=by intro _;rfl):
  PE X (.ListComp elt [⟨tg,iter,cs,0⟩] scope pos) (CB wi xs.length gg tc te Ψ):=by
 intro ε s σ H Q I h;rw [eval_ListComp];refine wpAny_comprehension_free (use:=none) rfl hs (oE (S.has I.ok)) S.kind S.names (bQ (hi ε s σ H _ I h) λv s1 h1=>bQ h1 λNX s2 h2=> ?_);obtain ⟨it,fp,tn,J,H2,rfl,I2,T,t0,f2,q⟩:=h2;refine qN S hc hg hk ht he (Q:=Q) I2 T t0 f2 q λD C s' H' I' q' n' hC hz hL Kz hp=> ?_;obtain ⟨m,n'⟩:=n';exact ⟨m,n',λh' sb=>⟨.ref D,H',I'.turned (it:=C) (t':=s'.toks) (λb o hb e=>(sb.2 b hb).trans e) hC hL (.inr hz) Kz hp,rfl,q'⟩⟩
theorem v_{i:Nat}{y:Str}{py kS:Pos}(hN:X.N.Nodup)(Gx:X.N[i]? =some y)(hy:Loc X.env.scope y)(S:aK X scope xs ys Ψ)(hc:X.calm=true)(hi:PI X tg iter wi)(hg:∀C s H fp,PG (Cx.comp X (xs++ys) scope C s H fp) tg gg)(hk:wj xs.length gg)(ht:∀C s H fp,NU (Cx.comp X (xs++ys) scope C s H fp) cs tc)(he:∀C s H fp,PE (Cx.comp X (xs++ys) scope C s H fp) elt te)
  (Gp:swapsWith (.ListComp elt [⟨tg,iter,cs,0⟩] scope pos) (some (.Name y py)) kS.line X.env=pure true) (hs:∀x,foldedSetIterable iter X.env x=pure x)
  (hf:X.fn y=true\/X.env.scope.names.lookup y=some .local):
  PS X (.Assign [.Name y py] (.ListComp elt [⟨tg,iter,cs,0⟩] scope pos) kS) (λD σ H=>CB wi xs.length gg tc te Ψ σ H λv H1=>D.nx (σ.set i (some v)) H1):=by
 intro ε s σ H D I h;rw [exec_Assign_Name_used _ _ _ _ Gp];refine aak (wpAny_standAt (aak ?_));show wpAny _ _ (do let _<-comprehension (.ListComp elt [⟨tg,iter,cs,0⟩] scope pos) scope X.env _ (newList []) false (eval iter X.env) (some (assign (.Name y py) X.env))) _ _ s;refine aak (abG (wpAny_comprehension_free (use:=some (assign (.Name y py) X.env)) (Q:=λ_ s'=>SP X ε D .next s') rfl hs (oE (S.has I.ok)) S.kind S.names (bQ (hi ε s σ H _ I h) λv s1 h1=>bQ h1 λNX s2 h2=> ?_)) (λ_ s' hq=>aaL (aaL hq)) λ_ _ e=>e);obtain ⟨it,fp,tn,J,H2,rfl,I2,T,t0,f2,q⟩:=h2;refine qN S hc hg hk ht he (Q:=λv H1=>D.nx (σ.set i (some v)) H1) I2 T t0 f2 q λDl C s' H' I' q' n' hC hz hL Kz hp=> ?_;obtain ⟨m,n'⟩:=n';show wpAny _ _ (assign (.Name y py) X.env (.ref Dl)) _ _ s';refine wpAny_assign_Name (qp I' hN Gx hy (v:= .ref Dl) rfl (λs3 I3 Hk=> ?_) hf);obtain ⟨a,Hk,ha⟩:=Hk;have VR:C≠a:=by
  rcases ha with rfl | ha
  ·exact hL
  ·exact (Kz _ _ ha).symm
 exact ⟨m,n'.sameBut Hk VR,λh' sb=>⟨_,H',I3.turned (it:=C) (t':=s3.toks) (λb o hb e=>(sb.2 b hb).trans e) hC hL (.inr hz) Kz hp,q'⟩⟩
end
section
variable{K:fv}
theorem dN.Xz{x:Str}{k:Nat}{sp:Sp}(F:dN K x qual st f fd)(S:χ N ps (ο st))(len:∀vs H Q E,sp vs H Q E->vs.length=ps.length)
  (uH:∀(bu:Value) (A:Around) (outer:List Env) (s:Shared) (H:Hp) (vs:List V) (Q:VK) (E:XK),bG k (A.deeper (envOfC qual (ο st) s.heap.objs.size f bu))->sp vs H Q E->
   ∃t,A2 (tK (cR P w) P w K mg base N qual (ο st) f bu A outer s H E) (fV st) t/\t {nx:=λ_ H'=>Q .ba H',rt:=Q} (iJ N vs) H):ar P w K mg base (cR P w) (k+1) f fd ps sp:=by
 obtain ⟨oc,od,kV,doc,pm,an,bu,ct,DL,rfl,lk,Br⟩:=F.ex;exact LM lk Br S len λA outer s H vs Q E hr G8=>uH bu A outer s H vs Q E hr G8
end
theorem iO:c8 (cR P w) X (λ_=>E0):=by intro ε σ H s e s' _ hx;obtain ⟨_,_,_,_,_,_,_,_,hE⟩:=hx;exact hE.elim
theorem log2_lt{n:Nat}{k:Nat}(h:n < 2 ^ k)(hk:0 < k):n.log2 < k:=by
 by_cases h0:n=0
 ·rw [h0,show Nat.log2 0=0 from rfl];exact hk
 ·exact (Nat.log2_lt h0).mpr h
def gG(i:Int):Prop:=i.natAbs < 2 ^ 8000
theorem zz{i j:Int}(hi:gG i)(hj:gG j):IntMulOk i j:=by
 have b:∀{i:Int},gG i->Builtin.Int.intBits i<=8000:=λ{i} h=>by
  unfold Builtin.Int.intBits;split
  ·exact abK _
  ·have:=log2_lt (k:=8000) h (by decide);omega
 have b1:=b hi;have b2:=b hj;have h3:Builtin.Int.intTooBig (Builtin.Int.intBits i+Builtin.Int.intBits j)=false:=by
  unfold Builtin.Int.intTooBig;refine aaD ?_;have:(bitsLine:Int)=134217728:=by decide
  omega
 unfold IntMulOk;rw [h3,Bool.and_false];exact aau
section
theorem Fu:hI X (binaryOp .Mult) (rI (λi j=>gG i/\gG j) λi j=> .int (i * j)):=Oz λ_ _ _ _ _ _ _ hc q=>mul_int q (zz hc.1 hc.2)
theorem vQ:hI X (binaryOp .FloorDiv) (rI (λ_ j=>j≠0/\gG j) λi j=> .int (i.fdiv j)):=Oz λ_ _ _ _ _ _ _ hc q=>
 floordiv_int hc.1 q (.inl (PyProof.noPylong_of_log2 (aaq (log2_lt (k:=8000) hc.2 (by decide)) (by decide))))
end
def EU:V->Option Value
 | .ty T=>some (.type T)
 | .ref C=>some (.ref C)
 | _=>none
theorem Gb{c:V}{u t:Value}(r:ak c u)(h:EU c=some t):u=t:=by
 cases c with
 | ty T=>cases r;exact aan h
 | ref C=>cases r;exact aan h
 | _=>cases h
section
theorem u_:eJ X (.builtin "isinstance") (λxs H Q=>∃x c t t' b,xs=[x,c]/\i8 X.K H x t/\EU c=some t'/\PySem.W.kitOne X.K t t'=some b/\Q (.bl b) H):=by intro ε s σ H xs us Q I r h;obtain ⟨x,c,t,t',b,rfl,ty,hc,hk,q⟩:=h;obtain ⟨u,u',rfl,r1,r2⟩:=NB r;cases Gb r2 hc;exact zp I r1 ty hk λtk=>⟨.bl b,H,I.tok tk,rfl,q⟩
end
def lS:List V->List V->Bool
 | [],[]=>true
 | x::xs,y::ys=>qq x y&&lS xs ys
 | _,_=>false
theorem jY:∀(xs ys:List V) (e:Nat->Bool),(∀j x y,xs[j]? =some x->ys[j]? =some y->e j=qq x y)->((List.range (min xs.length ys.length)).all e&&xs.length==ys.length)=lS xs ys
 | [],[],e,_=>rfl
 | [],_::_,e,_=>by simp [lS]
 | _::_,[],e,_=>by simp [lS]
 | x::xs,y::ys,e,h=>by
  have ih:=jY xs ys (λj=>e (j+1)) λj x y h1 h2=>h (j+1) x y h1 h2;have h0:e 0=qq x y:=h 0 x y rfl rfl;show _=(qq x y&&lS xs ys);rw [<-ih,<-h0];have e1:min (x::xs).length (y::ys).length=min xs.length ys.length+1:=by simp only [List.length_cons];omega
  rw [e1,abH,abD,List.all_map];have e2:((x::xs).length==(y::ys).length)=(xs.length==ys.length):=by simp only [List.length_cons];rw [Bool.eq_iff_iff];simp
  rw [e2,Bool.and_assoc];rfl
def LF(K:fv):R2:=λx y H Q=>∃a b xs ys,x= .ref a/\y= .ref b/\k8 K H a xs/\k8 K H b ys/\xs.all dH=true/\ys.all dH=true/\Q (.bl (lS xs ys)) H
def LR(K:fv):R2:=λx y H Q=>∃a b xs ys,x= .ref a/\y= .ref b/\k8 K H a xs/\k8 K H b ys/\xs.all dH=true/\ys.all dH=true/\Q (.bl (!lS xs ys)) H
theorem j8:∀{xs:List V} {j:Nat} {x:V},xs.all dH=true->xs[j]? =some x->dH x=true
 | _::_,0,_,h,e=>by rw [abD,aaF] at h;cases e;exact h.1
 | _::_,j+1,_,h,e=>by rw [abD,aaF] at h;exact j8 h.2 e
section
theorem Jq(hu:X.A.units < cLine):hI X (compareOp .NotEq) (LR X.K):=by
 intro ε s σ H x y v u Q I rx ry h;obtain ⟨a,b,xs,ys,rfl,rfl,h1,h2,f1,f2,q⟩:=h;cases rx;cases ry;obtain ⟨i1,v1,t1,_⟩:=I.tuple h1;obtain ⟨i2,v2,t2,_⟩:=I.tuple h2;have l1:=v1.length;have l2:=v2.length;refine SeqAt.RcNeAt.tuples (e:=λj=>match xs[j]?,ys[j]? with | some x,some y=>qq x y | _,_=>true) (show s.heap.IsTuple a i1.toArray from t1) (show s.heap.IsTuple b i2.toArray from t2) hu (λj h1 h2=> ?_) _ _ _ _ ?_
 ·have b1:j < i1.length:=by simpa using h1
  have b2:j < i2.length:=by simpa using h2
  have e1:xs[j]? =some (xs[j]'(by omega)):=aaa _;have e2:ys[j]? =some (ys[j]'(by omega)):=aaa _;obtain ⟨u1,g1,r1⟩:=v1.get e1;obtain ⟨u2,g2,r2⟩:=v2.get e2;rw [aaa b1] at g1;rw [aaa b2] at g2;have w1:i1.toArray[j]=u1:=by simpa using Option.some.inj g1
  have w2:i2.toArray[j]=u2:=by simpa using Option.some.inj g2
  rw [w1,w2];simp only [e1,e2];exact rE r1 r2 (j8 f1 e1) (j8 f2 e2)
 ·rw [List.size_toArray,List.size_toArray,<-l1,<-l2,jY xs ys _ (λj x y h1 h2=>by simp only [h1,h2])];exact ⟨.bl (!lS xs ys),H,I,rfl,q⟩
theorem CL(hu:X.A.units < cLine):hI X (compareOp .Eq) (LF X.K):=by
 intro ε s σ H x y v u Q I rx ry h;obtain ⟨a,b,xs,ys,rfl,rfl,h1,h2,f1,f2,q⟩:=h;cases rx;cases ry;obtain ⟨i1,v1,t1,_⟩:=I.tuple h1;obtain ⟨i2,v2,t2,_⟩:=I.tuple h2;have l1:=v1.length;have l2:=v2.length;refine SeqAt.eq_tupleAt (e:=λj=>match xs[j]?,ys[j]? with | some x,some y=>qq x y | _,_=>true) (show s.heap.IsTuple a i1.toArray from t1) (show s.heap.IsTuple b i2.toArray from t2) hu (λj h1 h2=> ?_) ?_
 ·have b1:j < i1.length:=by simpa using h1
  have b2:j < i2.length:=by simpa using h2
  have e1:xs[j]? =some (xs[j]'(by omega)):=aaa _;have e2:ys[j]? =some (ys[j]'(by omega)):=aaa _;obtain ⟨u1,g1,r1⟩:=v1.get e1;obtain ⟨u2,g2,r2⟩:=v2.get e2;rw [aaa b1] at g1;rw [aaa b2] at g2;have w1:i1.toArray[j]=u1:=by simpa using Option.some.inj g1
  have w2:i2.toArray[j]=u2:=by simpa using Option.some.inj g2
  rw [w1,w2];simp only [e1,e2];exact rE r1 r2 (j8 f1 e1) (j8 f2 e2)
 ·rw [List.size_toArray,List.size_toArray,<-l1,<-l2,jY xs ys _ (λj x y h1 h2=>by simp only [h1,h2])];exact ⟨.bl (lS xs ys),H,I,rfl,q⟩
end
theorem AZ(bs:List Bool):(List.range bs.length).any (λi=>bs.getD i false)=bs.any id:=by
 induction bs with
 | nil=>rfl
 | cons b bs ih=>
  rw [aaw,abH,abE,List.any_map,abE,<-ih];rfl
theorem rG:∀{bs:List Bool} {us:List Value},au (bs.map V.bl) us->us=bs.map Value.bool
 | [],_,r=>by cases r;rfl
 | b::bs,_,r=>by
  cases r with
  | cons h t=>
   cases h;rw [rG t];rfl
theorem vC{prog:Program}{bs:List Bool}:TruthOf prog w A (λi v=>(bs.map Value.bool).toArray[i]? =some v) (λi=>bs.getD i false):=by
 intro i v s Q E h q;have h':(bs.map Value.bool)[i]? =some v:=by simpa using h
 rw [aax] at h';cases e:bs[i]? with
 | none=>rw [e] at h';cases h'
 | some b=>
  rw [e] at h';cases h';have q':Q b s:=by
   have eb:bs.getD i false=b:=by rw [aab,e];rfl
   exact eb▸q
  exact wpAny_truthy_bool q'
def LI(K:fv):List V->Hp->VK->Prop:=λxs H Q=>∃(p:Addr) (bs:List Bool),xs=[.ref p]/\gM K H p (bs.map V.bl)/\Q (.bl (bs.any id)) H
section
theorem BH (hc : X.calm = true) : eJ X (.builtin "any") (LI X.K) := by
  intro ε s σ H xs us Q I r h;obtain ⟨p, bs, rfl, hq, q⟩ := h;obtain ⟨u, rfl, r1⟩ := pD r;cases r1;obtain ⟨its, rv, pl, hz⟩ := I.list hq;have I_ := rG rv;subst I_;refine call_any_walk (wpAny_pyIter_list pl.isList ?_);have lp : p < s.heap.objs.size := by obtain ⟨o, e, _⟩ := pl.isList; exact aao e
  refine ⟨s.heap.objs.size, _, _, _, _, _, λi => bs.getD i false, rfl, Walks.list (show X.A.in1.handled = none from I.ok.hd hc) s.heap.objs.size p (aaK lp) (bs.map Value.bool).toArray, ⟨⟨_, aaQ _ rfl, rfl, rfl⟩, pl.isList.at λo e => aal _ e⟩, vC, λh' tk hk => ?_⟩;refine ⟨.bl (bs.any id), H, I.kept λb o e => hk b o (λz => by have : b = s.heap.objs.size := (by simpa using z); exact Nat.lt_irrefl _ (this ▸ Heap.lt_size e)) (Heap.get?_push_of_some _ e), ?_, q⟩;rw [aaZ, aac, AZ];rfl
end
end L2
namespace PySem
open Sem (wp)
end PySem
namespace PySem.W
open PySem PySem.Builtin PySem.Builtin.ObjectAttr
end PySem.W
namespace PySem
open Sem (wp)
end PySem
namespace L2
open PySem PySem.Spec PyProof.Rows
def xO(a C:Addr)(od:Option Addr):HO:= .ext λh=>∃ob vs,h.get? a=some ob/\ob.cls= .ref C/\ob.dict=od/\ob.data= .fields vs
inductive Dt where
 | ba
 | bl (b:Bool)
 | int (i:Int)
 | str (x:Str)
 | tup (xs:List Dt)
 | lst (xs:List Dt)
 | obj (C:Addr) (ns:List Str) (xs:List Dt)
 | loc (k:Nat)
 | ref (a:Addr)
 | ty (n:String)
 | fc (ns:List Int)
 | kt (xs:List Dt)
 | exc (C:Addr) (ns:List Str) (xs:List Dt)
 | MT (x C:Addr) (od:Option Addr) (ns:List Str) (xs:List Dt)
inductive MO where
 | lst (xs:List Dt)
 | ins (C:Addr) (ns:List Str) (xs:List Dt)
 | eK (ks:List Key) (xs:List Dt)
 | raw (u:Addr->HO)
abbrev Ms:=List MO
abbrev En:=List (Option Dt)
mutual
def Den(K:fv)(G:Hp)(L:List Addr):Dt->V->Prop
 | .ba,v=>v= .ba
 | .bl b,v=>v= .bl b
 | .int i,v=>v= .int i
 | .str x,v=>v= .str x
 | .tup ds,v=>∃a vs,v= .ref a/\G a=some (.tup vs)/\Ρ K G L ds vs
 | .lst ds,v=>∃a vs,v= .ref a/\G a=some (.lst vs)/\Ρ K G L ds vs
 | .obj C ns ds,v=>∃a dx vs,v= .ref a/\G a=some (.ins C dx (ns.zip vs))/\ns.length=ds.length/\Ρ K G L ds vs
 | .loc k,v=>∃a,v= .ref a/\L[k]? =some a
 | .ref a,v=>v= .ref a
 | .ty n,v=>v= .ty n
 | .fc ns,v=>∃a,v= .ref a/\gM K G a (ns.map V.int)
 | .kt ds,v=>∃a vs,v= .ref a/\k8 K G a vs/\Ρ K G L ds vs
 | .exc C ns ds,v=>∃a od vs,v= .ref a/\G a=some (xO a C od)/\((ns=[]/\od=none)\/∃dx,od=some dx/\G dx=some (.xd (ns.zip vs)))/\ns.length=ds.length/\Ρ K G L ds vs
 | .MT x _ od ns ds,v=>∃vs,v= .ref x/\((ns=[]/\od=none)\/∃dx,od=some dx/\G dx=some (.xd (ns.zip vs)))/\ns.length=ds.length/\Ρ K G L ds vs
def Ρ(K:fv)(G:Hp)(L:List Addr):List Dt->List V->Prop
 | [],vs=>vs=[]
 | d::ds,vs=>∃v r,vs=v::r/\Den K G L d v/\Ρ K G L ds r
end
def Pre(L L':List Addr):Prop:=∃t,L'=L++t
theorem Pre.refl(L:List Addr):Pre L L:=⟨[],by simp⟩
theorem Pre.trans{a b c:List Addr}(h:Pre a b)(h':Pre b c):Pre a c:=by obtain ⟨t,rfl⟩:=h;obtain ⟨u,rfl⟩:=h';exact ⟨t++u,by simp⟩
theorem Pre.get{a b:List Addr}(h:Pre a b){k:Nat}{x:Addr}(e:a[k]? =some x):b[k]? =some x:=by obtain ⟨t,rfl⟩:=h;have hk:k < a.length:=(aah.mp e).1;rw [aay hk];exact e
theorem de.rd{H H':Hp}{a:Addr}{u:HO}(e:de H H')(h:Rd H a u):Rd H' a u:=by
 rcases h with h | ⟨o,h⟩
 ·exact .inl (e _ _ h)
 ·exact .inr ⟨o,e _ _ h⟩
theorem de.ME{K:fv}{H H':Hp}{a:Addr}{xs:List V}(e:de H H')(h:k8 K H a xs):k8 K H' a xs:=by
 rcases h with h | h
 ·exact .inl (e.rd h)
 ·exact .inr h
section
variable{K:fv}{G G':Hp}{L L':List Addr}
mutual
theorem Den.mono(g:de G G')(l:Pre L L'):∀(d:Dt) (v:V),Den K G L d v->Den K G' L' d v
 | .ba,_,h=>h
 | .bl _,_,h=>h
 | .int _,_,h=>h
 | .str _,_,h=>h
 | .tup ds,_,⟨a,vs,e,h1,h2⟩=>⟨a,vs,e,g _ _ h1,Ρ.mono g l ds vs h2⟩
 | .lst ds,_,⟨a,vs,e,h1,h2⟩=>⟨a,vs,e,g _ _ h1,Ρ.mono g l ds vs h2⟩
 | .obj C ns ds,_,⟨a,dx,vs,e,h1,hn,h2⟩=>⟨a,dx,vs,e,g _ _ h1,hn,Ρ.mono g l ds vs h2⟩
 | .loc k,_,⟨a,e,h1⟩=>⟨a,e,l.get h1⟩
 | .ref _,_,h=>h
 | .ty _,_,h=>h
 | .fc _,_,⟨a,e,h1⟩=>⟨a,e,g.seq h1⟩
 | .kt ds,_,⟨a,vs,e,h1,h2⟩=>⟨a,vs,e,g.ME h1,Ρ.mono g l ds vs h2⟩
 | .exc _ _ ds,_,⟨a,od,vs,e,h1,h2,h3,h4⟩=>⟨a,od,vs,e,g _ _ h1,h2.imp (λz=>z) (λ⟨dx,z1,z2⟩=>⟨dx,z1,g _ _ z2⟩),h3,Ρ.mono g l ds vs h4⟩
 | .MT _ _ _ _ ds,_,⟨vs,e,h2,h3,h4⟩=>⟨vs,e,h2.imp (λz=>z) (λ⟨dx,z1,z2⟩=>⟨dx,z1,g _ _ z2⟩),h3,Ρ.mono g l ds vs h4⟩
theorem Ρ.mono(g:de G G')(l:Pre L L'):∀(ds:List Dt) (vs:List V),Ρ K G L ds vs->Ρ K G' L' ds vs
 | [],_,h=>h
 | d::ds,_,⟨v,r,e,h1,h2⟩=>⟨v,r,e,Den.mono g l d v h1,Ρ.mono g l ds r h2⟩
end
theorem Ρ.pair:∀{ds:List Dt} {vs:List V},Ρ K G L ds vs->Paired (Den K G L) ds vs
 | [],_,h=>by have h:_=_:=h;subst h;exact .nil
 | d::ds,_,⟨v,r,e,h1,h2⟩=>by subst e;exact .cons h1 (Ρ.pair h2)
theorem Ρ.of:∀{ds:List Dt} {vs:List V},Paired (Den K G L) ds vs->Ρ K G L ds vs
 | _,_, .nil=>rfl
 | _,_, .cons h t=>⟨_,_,rfl,h,Ρ.of t⟩
end
section
variable{α β:Type}{F:α->β->Prop}
theorem yJ:∀{xs:List α} {us:List β} {i:Nat} {x:α},Paired F xs us->xs[i]? =some x->∃u,us[i]? =some u/\F x u
 | _,_,_,_, .nil,e=>by simp at e
 | _,_,0,_, .cons r _,e=>by simp at e;subst e;exact ⟨_,rfl,r⟩
 | _,_,i+1,x, .cons _ t,e=>by obtain ⟨u,h1,h2⟩:=yJ (i:=i) (x:=x) t (by simpa using e);exact ⟨u,by simpa using h1,h2⟩
theorem yI{x:α}{u:β}(r:F x u):∀{xs:List α} {us:List β} (i:Nat),Paired F xs us->Paired F (xs.set i x) (us.set i u)
 | _,_,_, .nil=> .nil
 | _,_,0, .cons _ t=> .cons r t
 | _,_,i+1, .cons q t=> .cons q (yI r i t)
theorem tj:∀{xs ys:List α} {us ws:List β},Paired F xs us->Paired F ys ws->Paired F (xs++ys) (us++ws)
 | _,_,_,_, .nil,s=>s
 | _,_,_,_, .cons r t,s=> .cons r (tj t s)
theorem q_{xs:List α}{us:List β}(h:Paired F xs us):∀k:Nat,Paired F (List.replicate k xs).flatten (List.replicate k us).flatten
 | 0=> .nil
 | k+1=>by rw [aa9,aa9,abm,abm];exact tj h (q_ h k)
end
section
variable{K:fv}{G:Hp}{L:List Addr}
theorem Ρ.length{ds:List Dt}{vs:List V}(h:Ρ K G L ds vs):ds.length=vs.length:=Paired.length h.pair
theorem Ρ.get{ds:List Dt}{vs:List V}{i:Nat}{d:Dt}(h:Ρ K G L ds vs)(e:ds[i]? =some d):∃v,vs[i]? =some v/\Den K G L d v:=yJ h.pair e
theorem Ρ.app{ds es:List Dt}{vs us:List V}(h:Ρ K G L ds vs)(h':Ρ K G L es us):Ρ K G L (ds++es) (vs++us):= .of (tj h.pair h'.pair)
theorem iL:∀{ns:List Int},Ρ K G L (ns.map Dt.int) (ns.map V.int)
 | []=>rfl
 | n::ns=>⟨_,_,rfl,rfl,iL⟩
theorem b_{d:Dt}{vs:List V}(h:Ρ K G L [d] vs):∃v,vs=[v]/\Den K G L d v:=by obtain ⟨v,r,rfl,h1,h2⟩:=h;have h2:r=[]:=h2;subst h2;exact ⟨v,rfl,h1⟩
theorem ft{d e:Dt}{vs:List V}(h:Ρ K G L [d,e] vs):∃v u,vs=[v,u]/\Den K G L d v/\Den K G L e u:=by obtain ⟨v,r,rfl,h1,h2⟩:=h;obtain ⟨u,rfl,h3⟩:=b_ h2;exact ⟨v,u,rfl,h1,h3⟩
end
def A1(K:fv)(G:Hp)(L:List Addr)(H:Hp)(a:Addr):MO->Prop
 | .lst ds=>∃vs,H a=some (.lst vs)/\Ρ K G L ds vs
 | .ins C ns ds=>∃dx vs,H a=some (.ins C dx (ns.zip vs))/\ns.length=ds.length/\Ρ K G L ds vs
 | .eK ks ds=>∃vs,H a=some (.dK (ks.zip vs))/\ks.length=ds.length/\Ρ K G L ds vs
 | .raw u=>H a=some (u a)
structure Rl(K:fv)(G:Hp)(L:List Addr)(M:Ms)(H:Hp):Prop where
 sub:de G H
 len:L.length=M.length
 nd:L.Nodup
 fH:∀(k:Nat) (a:Addr) (m:MO),L[k]? =some a->M[k]? =some m->G a=none/\A1 K G L H a m
structure Ex(G:Hp)(L:List Addr)(H:Hp)(G':Hp)(L':List Addr)(H':Hp):Prop where
 g:de G G'
 l:Pre L L'
 fr:∀b,G b=none->H b≠none->G' b=none
 out:∀b o,H b=some o->b∉L->H' b=some o
 new:∀b∈L',b∈L\/H b=none
 zf:∀b,H b≠none->H' b≠none
theorem Ex.refl(G:Hp)(L:List Addr)(H:Hp):Ex G L H G L H:=⟨.refl _, .refl _,λ_ h _=>h,λ_ _ h _=>h,λ_ h=> .inl h,λ_ h=>h⟩
theorem Ex.trans{G:Hp}{L:List Addr}{H G1:Hp}{L1:List Addr}{H1 G2:Hp}{L2:List Addr}{H2:Hp}(a:Ex G L H G1 L1 H1)(b:Ex G1 L1 H1 G2 L2 H2):Ex G L H G2 L2 H2 where
 g:=a.g.trans b.g
 l:=a.l.trans b.l
 fr:=λx h1 h2=>b.fr x (a.fr x h1 h2) (a.zf x h2)
 out:=λx o h1 h2=>b.out x o (a.out x o h1 h2) λz=>(a.new x z).elim h2 λq=>by rw [h1] at q;cases q
 new:=λx h=>by
  rcases b.new x h with z | z
  ·exact a.new x z
  ·right;cases q:H x with
   | none=>rfl
   | some o=>exact absurd z (a.zf x (by rw [q];simp))
 zf:=λx h=>b.zf x (a.zf x h)
theorem A1.there{K:fv}{G:Hp}{L:List Addr}{H:Hp}{a:Addr}{m:MO}(h:A1 K G L H a m):H a≠none:=by
 cases m with
 | lst ds=>obtain ⟨vs,e,_⟩:=h;rw [e];simp
 | ins C ns ds=>obtain ⟨dx,vs,e,_⟩:=h;rw [e];simp
 | eK ks ds=>obtain ⟨vs,e,_⟩:=h;rw [e];simp
 | raw u=>have h:H a=some (u a):=h;rw [h];simp
theorem A1.mono{K:fv}{G G':Hp}{L L':List Addr}{H H':Hp}{a:Addr}{m:MO}(g:de G G')(l:Pre L L')(e:H' a=H a)(h:A1 K G L H a m):A1 K G' L' H' a m:=by
 cases m with
 | lst ds=>obtain ⟨vs,e1,h⟩:=h;exact ⟨vs,e.trans e1,Ρ.mono g l _ _ h⟩
 | ins C ns ds=>obtain ⟨dx,vs,e1,h0,h⟩:=h;exact ⟨dx,vs,e.trans e1,h0,Ρ.mono g l _ _ h⟩
 | eK ks ds=>obtain ⟨vs,e1,h0,h⟩:=h;exact ⟨vs,e.trans e1,h0,Ρ.mono g l _ _ h⟩
 | raw u=>exact e.trans h
section
variable{K:fv}{G:Hp}{L:List Addr}{M:Ms}{H:Hp}{p:Addr}{o:HO}
theorem Rl.tJ(r:Rl K G L M H){a:Addr}(h:a∈L):∃(k:Nat) (m:MO),L[k]? =some a/\M[k]? =some m/\G a=none/\A1 K G L H a m:=by
 obtain ⟨k,hk,e⟩:=List.getElem_of_mem h;have e1:L[k]? =some a:=by rw [aaa hk,e]
 have e2:M[k]? =some (M[k]'(by rw [<-r.len];exact hk)):=aaa _;exact ⟨k,_,e1,e2,r.fH k a _ e1 e2⟩
theorem Rl.Ji(r:Rl K G L M H)(hp:H p=none):p∉L:=λz=>by obtain ⟨k,m,_,_,_,h⟩:=r.tJ z;exact h.there hp
theorem Rl.FV(r:Rl K G L M H)(hp:H p=none):Rl K (upd G p o) L M (upd H p o) where
 sub:=λb u e=>by
  by_cases hb:b=p
  ·subst hb;rw [Τ] at e⊢;exact e
  ·rw [Γ hb] at e⊢;exact r.sub b u e
 len:=r.len
 nd:=r.nd
 fH:=λk a m h1 h2=>by obtain ⟨q1,q2⟩:=r.fH k a m h1 h2;have hb:a≠p:=λz=>q2.there (by rw [z];exact hp);exact ⟨by rw [Γ hb];exact q1,q2.mono (λb u e=>by rw [Γ (λz=>by rw [z,r.sub.free hp] at e;cases e)];exact e) (.refl _) (Γ hb)⟩
theorem Rl.KD(r:Rl K G L M H)(hp:H p=none):Ex G L H (upd G p o) L (upd H p o) where
 g:=λb u e=>by rw [Γ (λz=>by rw [z,r.sub.free hp] at e;cases e)];exact e
 l:= .refl _
 fr:=λb h1 h2=>by rw [Γ (λz=>h2 (by rw [z];exact hp))];exact h1
 out:=λb u h1 _=>by rw [Γ (λz=>by rw [z,hp] at h1;cases h1)];exact h1
 new:=λb h=> .inl h
 zf:=λb h=>by rw [Γ (λz=>h (by rw [z];exact hp))];exact h
theorem Rl.EN{m:MO}(r:Rl K G L M H)(hp:H p=none)(hm:A1 K G (L++[p]) (upd H p o) p m):Rl K G (L++[p]) (M++[m]) (upd H p o) where
 sub:=λb u e=>by rw [Γ (λz=>by rw [z,r.sub.free hp] at e;cases e)];exact r.sub b u e
 len:=by rw [aaf,aaf,r.len];rfl
 nd:=List.nodup_append.mpr ⟨r.nd,by simp,λa ha b hb=>by
  have e:b=p:=by simpa using hb
  rw [e];exact λz=>r.Ji hp (z▸ha)⟩
 fH:=λk a m' h1 h2=>by
  by_cases hk:k < L.length
  ·rw [aay hk] at h1;rw [aay (by rw [<-r.len];exact hk)] at h2;obtain ⟨q1,q2⟩:=r.fH k a m' h1 h2;exact ⟨q1,q2.mono (.refl _) ⟨[p],rfl⟩ (Γ λz=>q2.there (by rw [z];exact hp))⟩
  ·have e:k=L.length:=by have:=(aah.mp h1).1;rw [aaf] at this;simp at this;omega
   rw [e,aap (aam _)] at h1;rw [e,r.len,aap (aam _)] at h2;simp at h1 h2;subst h1 h2;exact ⟨r.sub.free hp,hm⟩
theorem Rl.NG(r:Rl K G L M H)(hp:H p=none):Ex G L H G (L++[p]) (upd H p o) where
 g:= .refl _
 l:=⟨[p],rfl⟩
 fr:=λb h1 _=>h1
 out:=λb u h1 _=>by rw [Γ (λz=>by rw [z,hp] at h1;cases h1)];exact h1
 new:=λb h=>by
  rcases aa2.mp h with z | z
  ·exact .inl z
  ·have e:b=p:=by simpa using z
   right;rw [e];exact hp
 zf:=λb h=>by rw [Γ (λz=>h (by rw [z];exact hp))];exact h
theorem Rl.setM{k:Nat}{a:Addr}{m:MO}(r:Rl K G L M H)(hk:L[k]? =some a)(hm:A1 K G L (upd H a o) a m):Rl K G L (M.set k m) (upd H a o) where
 sub:=λb u e=>by obtain ⟨k',m',e1,e2,q1,_⟩:=r.tJ (aag hk);rw [Γ (λz=>by rw [z,q1] at e;cases e)];exact r.sub b u e
 len:=by rw [abq];exact r.len
 nd:=r.nd
 fH:=λk' a' m' h1 h2=>by
  by_cases e:k'=k
  ·subst e;rw [hk] at h1;cases h1;have hl:k' < M.length:=by rw [<-r.len];exact (aah.mp hk).1
   rw [abe hl] at h2;cases h2;obtain ⟨_,_,_,_,q1,_⟩:=r.tJ (aag hk);exact ⟨q1,hm⟩
  ·rw [abl (λz=>e z.symm)] at h2;obtain ⟨q1,q2⟩:=r.fH k' a' m' h1 h2;have ne:a'≠a:=λz=>by subst z;exact e ((List.getElem?_inj (aah.mp h1).1 r.nd).mp (h1.trans hk.symm))
   exact ⟨q1,q2.mono (.refl _) (.refl _) (Γ ne)⟩
theorem Rl.GB{k:Nat}{a:Addr}(r:Rl K G L M H)(hk:L[k]? =some a):Ex G L H G L (upd H a o) where
 g:= .refl _
 l:= .refl _
 fr:=λb h1 _=>h1
 out:=λb u h1 h2=>by rw [Γ (λz=>h2 (by rw [z];exact aag hk))];exact h1
 new:=λb h=> .inl h
 zf:=λb h=>by
  by_cases e:b=a
  ·rw [e,Τ];simp
  ·rw [Γ e];exact h
end
structure jV(K:fv)(G:Hp)(L:List Addr)(ρ:En)(σ:St):Prop where
 len:ρ.length=σ.length
 fH:∀(i:Nat) (d:Dt),ρ[i]? =some (some d)->∃v,σ[i]? =some (some v)/\Den K G L d v
section
variable{K:fv}{G G':Hp}{L L':List Addr}{H H':Hp}{ρ:En}{σ:St}
theorem jV.mono(h:jV K G L ρ σ)(e:Ex G L H G' L' H'):jV K G' L' ρ σ:=⟨h.len,λi d q=>let ⟨v,a,b⟩:=h.fH i d q;⟨v,a,Den.mono e.g e.l d v b⟩⟩
theorem jV.set(h:jV K G L ρ σ)(i:Nat){d:Dt}{v:V}(q:Den K G L d v):jV K G L (ρ.set i (some d)) (σ.set i (some v)):=by
 refine ⟨by rw [abq,abq];exact h.len,λj d' e=> ?_⟩;by_cases hj:i=j
 ·subst hj;have hl:i < ρ.length:=by have:=(aah.mp e).1;rwa [abq] at this
  rw [abe hl] at e;cases e;exact ⟨v,abe (by rw [<-h.len];exact hl),q⟩
 ·rw [abl hj] at e;obtain ⟨u,a,b⟩:=h.fH j d' e;exact ⟨u,by rw [abl hj];exact a,b⟩
end
abbrev DQ:=Dt->Ms->Prop
abbrev DX:=En->Addr->List (Str×Dt)->Ms->Prop
def MK(K:fv)(G:Hp)(L:List Addr)(H:Hp)(fs:List (Str×Dt))(od:Option Addr):Prop:=
 (fs=[]/\od=none)\/fs≠[]/\∃dx vs,od=some dx/\G dx=some (.xd ((fs.map (·.1)).zip vs))/\Ρ K G L (fs.map (·.2)) vs
def pK(K:fv)(G:Hp)(L:List Addr)(H:Hp)(R:St->XK)(x:DX):Prop:=
 ∀σ ρ C fs M' G' L' H' od,x ρ C fs M'->Ex G L H G' L' H'->Rl K G' L' M' H'->jV K G' L' ρ σ->MK K G' L' H' fs od->R σ (.ref C) od H'
theorem pK.on{K:fv}{G:Hp}{L:List Addr}{H G1:Hp}{L1:List Addr}{H1:Hp}{R:St->XK}{x:DX}(h:pK K G L H R x)(e:Ex G L H G1 L1 H1):pK K G1 L1 H1 R x:=
 λσ ρ C fs M' G' L' H' od q e' r n y=>h σ ρ C fs M' G' L' H' od q (e.trans e') r n y
def l9:DX:=λ_ _ _ _=>False
theorem Cy{K:fv}{G:Hp}{L:List Addr}{H:Hp}{R:St->XK}:pK K G L H R l9:=λ_ _ _ _ _ _ _ _ _ q=>q.elim
abbrev DE:=En->Ms->DQ->DX->Prop
abbrev DT:=En->Ms->(Bool->Ms->Prop)->DX->Prop
abbrev DA:=En->Ms->(List Dt->Ms->Prop)->DX->Prop
structure ia where
 nx:En->Ms->Prop
 rt:DQ
 bk:En->Ms->Prop:=λ_ _=>False
 ct:En->Ms->Prop:=λ_ _=>False
 x:DX:=l9
abbrev DS:=ia->En->Ms->Prop
inductive Fin(K:fv)(G0:Hp)(L0:List Addr)(H0:Hp)(q:DQ)(v:V)(H:Hp):Prop
 | mk (d:Dt) (G:Hp) (L:List Addr) (M:Ms) (e:Ex G0 L0 H0 G L H) (r:Rl K G L M H) (n:Den K G L d v) (h:q d M)
inductive sT(K:fv)(G0:Hp)(L0:List Addr)(H0:Hp)(q:Bool->Ms->Prop)(b:Bool)(H:Hp):Prop
 | mk (G:Hp) (L:List Addr) (M:Ms) (e:Ex G0 L0 H0 G L H) (r:Rl K G L M H) (h:q b M)
inductive GI(K:fv)(G0:Hp)(L0:List Addr)(H0:Hp)(q:List Dt->Ms->Prop)(vs:List V)(H:Hp):Prop
 | mk (ds:List Dt) (G:Hp) (L:List Addr) (M:Ms) (e:Ex G0 L0 H0 G L H) (r:Rl K G L M H) (n:Ρ K G L ds vs) (h:q ds M)
inductive e7(K:fv)(G0:Hp)(L0:List Addr)(H0:Hp)(q:En->Ms->Prop)(σ:St)(H:Hp):Prop
 | mk (ρ:En) (G:Hp) (L:List Addr) (M:Ms) (e:Ex G0 L0 H0 G L H) (r:Rl K G L M H) (n:jV K G L ρ σ) (h:q ρ M)
def sW(K:fv)(G0:Hp)(L0:List Addr)(H0:Hp)(Dn:ia):wg:=⟨e7 K G0 L0 H0 Dn.nx,Fin K G0 L0 H0 Dn.rt,e7 K G0 L0 H0 Dn.bk,e7 K G0 L0 H0 Dn.ct⟩
inductive uE(K:fv)(R:St->XK)(t:DE)(σ:St)(H:Hp)(Q:VK):Prop
 | mk (G:Hp) (L:List Addr) (ρ:En) (M:Ms) (q:DQ) (x:DX) (r:Rl K G L M H) (n:jV K G L ρ σ) (h:t ρ M q x) (hx:pK K G L H R x) (hQ:∀v H1,Fin K G L H q v H1->Q v H1)
inductive Ae(K:fv)(R:St->XK)(t:DT)(σ:St)(H:Hp)(Q:Bool->Hp->Prop):Prop
 | mk (G:Hp) (L:List Addr) (ρ:En) (M:Ms) (q:Bool->Ms->Prop) (x:DX) (r:Rl K G L M H) (n:jV K G L ρ σ) (h:t ρ M q x) (hx:pK K G L H R x) (hQ:∀b H1,sT K G L H q b H1->Q b H1)
inductive Md(K:fv)(R:St->XK)(t:DA)(σ:St)(H:Hp)(Q:List V->Hp->Prop):Prop
 | mk (G:Hp) (L:List Addr) (ρ:En) (M:Ms) (q:List Dt->Ms->Prop) (x:DX) (r:Rl K G L M H) (n:jV K G L ρ σ) (h:t ρ M q x) (hx:pK K G L H R x) (hQ:∀vs H1,GI K G L H q vs H1->Q vs H1)
structure HY(A B:wg):Prop where
 nx:∀σ H,A.nx σ H->B.nx σ H
 rt:∀v H,A.rt v H->B.rt v H
 bk:∀σ H,A.bk σ H->B.bk σ H
 ct:∀σ H,A.ct σ H->B.ct σ H
inductive MC(K:fv)(R:St->XK)(t:DS)(De:wg)(σ:St)(H:Hp):Prop
 | mk (G:Hp) (L:List Addr) (ρ:En) (M:Ms) (Dn:ia) (r:Rl K G L M H) (n:jV K G L ρ σ) (h:t Dn ρ M) (hx:pK K G L H R Dn.x) (hQ:HY (sW K G L H Dn) De)
def JE(X:Cx)(R:St->XK)(e:Expr)(t:DE):Prop:=PE X e (uE X.K R t)
def JT(X:Cx)(R:St->XK)(e:Expr)(t:DT):Prop:=PT X e (Ae X.K R t)
def JW(X:Cx)(R:St->XK)(e:Expr)(t:DT):Prop:=PW X e (Ae X.K R t)
def JA(X:Cx)(R:St->XK)(es:List Expr)(t:DA):Prop:=PA X es (Md X.K R t)
def JS(X:Cx)(R:St->XK)(st:Stmt)(t:DS):Prop:=PS X st (MC X.K R t)
def zF(X:Cx)(R:St->XK)(st:List Stmt)(t:DS):Prop:=A2 X st (MC X.K R t)
section
variable{K:fv}{G0:Hp}{L0:List Addr}{H0 G1:Hp}{L1:List Addr}{H1:Hp}
theorem Fin.back{q:DQ}(e:Ex G0 L0 H0 G1 L1 H1){v:V}{H:Hp}(h:Fin K G1 L1 H1 q v H):Fin K G0 L0 H0 q v H:=let ⟨d,G,L,M,a,b,c,f⟩:=h;⟨d,G,L,M,e.trans a,b,c,f⟩
theorem e7.back{q:En->Ms->Prop}(e:Ex G0 L0 H0 G1 L1 H1){v:St}{H:Hp}(h:e7 K G1 L1 H1 q v H):e7 K G0 L0 H0 q v H:=let ⟨d,G,L,M,a,b,c,f⟩:=h;⟨d,G,L,M,e.trans a,b,c,f⟩
theorem sT.back{q:Bool->Ms->Prop}(e:Ex G0 L0 H0 G1 L1 H1){v:Bool}{H:Hp}(h:sT K G1 L1 H1 q v H):sT K G0 L0 H0 q v H:=let ⟨G,L,M,a,b,f⟩:=h;⟨G,L,M,e.trans a,b,f⟩
theorem sW.back{Dn:ia}(e:Ex G0 L0 H0 G1 L1 H1):HY (sW K G1 L1 H1 Dn) (sW K G0 L0 H0 Dn):=⟨λ_ _ h=>e7.back e h,λ_ _ h=>Fin.back e h,λ_ _ h=>e7.back e h,λ_ _ h=>e7.back e h⟩
theorem SP.imp{X:Cx}{ε:List (Addr×Obj)}{A B:wg}(e:HY A B){f:Flow}{s:Shared}(h:SP X ε A f s):SP X ε B f s:=by
 cases f with
 | next=>obtain ⟨a,b,I,q⟩:=h;exact ⟨a,b,I,e.nx _ _ q⟩
 | brk=>obtain ⟨a,b,I,q⟩:=h;exact ⟨a,b,I,e.bk _ _ q⟩
 | cont=>obtain ⟨a,b,I,q⟩:=h;exact ⟨a,b,I,e.ct _ _ q⟩
 | ret u=>obtain ⟨v,a,b,I,r,q⟩:=h;exact ⟨v,a,b,I,r,e.rt _ _ q⟩
end
section
variable{X:Cx}{R:St->XK}{e:Expr}
theorem JE.of{te:TE}{t:DE}(h:PE X e te)(hw:∀σ H G L ρ M q x,Rl X.K G L M H->jV X.K G L ρ σ->t ρ M q x->pK X.K G L H R x->te σ H (Fin X.K G L H q)):JE X R e t:=by intro ε s σ H Q I ⟨G,L,ρ,M,q,x,r,n,ht,hx,hQ⟩;refine bQ (h ε s σ H _ I (hw σ H G L ρ M q x r n ht hx)) λu s1 ⟨v,H1,I1,rv,f⟩=>⟨v,H1,I1,rv,hQ v H1 f⟩
theorem JT.of{te:TT}{t:DT}(h:PT X e te)(hw:∀σ H G L ρ M q x,Rl X.K G L M H->jV X.K G L ρ σ->t ρ M q x->pK X.K G L H R x->te σ H (sT X.K G L H q)):JT X R e t:=by intro ε s σ H Q I ⟨G,L,ρ,M,q,x,r,n,ht,hx,hQ⟩;refine bQ (h ε s σ H _ I (hw σ H G L ρ M q x r n ht hx)) λu s1 ⟨H1,I1,f⟩=>⟨H1,I1,hQ u H1 f⟩
theorem JW.of{te:TT}{t:DT}(h:PW X e te)(hw:∀σ H G L ρ M q x,Rl X.K G L M H->jV X.K G L ρ σ->t ρ M q x->pK X.K G L H R x->te σ H (sT X.K G L H q)):JW X R e t:=by intro wh ε s σ H Q I ⟨G,L,ρ,M,q,x,r,n,ht,hx,hQ⟩;refine bQ (h wh ε s σ H _ I (hw σ H G L ρ M q x r n ht hx)) λu s1 ⟨H1,I1,f⟩=>⟨H1,I1,hQ u H1 f⟩
theorem JA.of{es:List Expr}{te:TA}{t:DA}(h:PA X es te)(hw:∀σ H G L ρ M q x,Rl X.K G L M H->jV X.K G L ρ σ->t ρ M q x->pK X.K G L H R x->te σ H (GI X.K G L H q)):JA X R es t:=by intro pos ε s σ H Q I ⟨G,L,ρ,M,q,x,r,n,ht,hx,hQ⟩;refine bQ (h pos ε s σ H _ I (hw σ H G L ρ M q x r n ht hx)) λu s1 ⟨v,H1,I1,rv,f⟩=>⟨v,H1,I1,rv,hQ v H1 f⟩
theorem JS.of{st:Stmt}{te:TS}{t:DS}(h:PS X st te)(hw:∀σ H G L ρ M Dn,Rl X.K G L M H->jV X.K G L ρ σ->t Dn ρ M->pK X.K G L H R Dn.x->te (sW X.K G L H Dn) σ H):JS X R st t:=by intro ε s σ H De I ⟨G,L,ρ,M,Dn,r,n,ht,hx,hQ⟩;exact bQ (h ε s σ H _ I (hw σ H G L ρ M Dn r n ht hx)) λu s1 f=>SP.imp hQ f
theorem zF.of{st:List Stmt}{te:TS}{t:DS}(h:A2 X st te)(hw:∀σ H G L ρ M Dn,Rl X.K G L M H->jV X.K G L ρ σ->t Dn ρ M->pK X.K G L H R Dn.x->te (sW X.K G L H Dn) σ H):zF X R st t:=by intro ε s σ H De I ⟨G,L,ρ,M,Dn,r,n,ht,hx,hQ⟩;exact bQ (h ε s σ H _ I (hw σ H G L ρ M Dn r n ht hx)) λu s1 f=>SP.imp hQ f
end
def wD(i:Nat):DE:=λρ M q _=>match ρ[i]? with
 | some (some d)=>q d M
 | _=>False
def dC(d:Dt):DE:=λ_ M q _=>q d M
def iF(f:Dt->Dt->Ms->DQ->Prop)(a b:DE):DE:=λρ M q x=>a ρ M (λd1 M1=>b ρ M1 (λd2 M2=>f d1 d2 M2 q) x) x
def Of(f:Dt->Ms->DQ->Prop)(a:DE):DE:=λρ M q x=>a ρ M (λd1 M1=>f d1 M1 q) x
def Kj:DA:=λ_ M q _=>q [] M
def Bs(a:DE)(r:DA):DA:=λρ M q x=>a ρ M (λd M1=>r ρ M1 (λds M2=>q (d::ds) M2) x) x
def A5(f:List Dt->Ms->DQ->Prop)(a:DA):DE:=λρ M q x=>a ρ M (λds M1=>f ds M1 q) x
def md(K:fv)(r:R2)(f:Dt->Dt->Ms->DQ->Prop):Prop:=
 ∀G0 L0 H0 G L M H v1 v2 d1 d2 q,Ex G0 L0 H0 G L H->Rl K G L M H->Den K G L d1 v1->Den K G L d2 v2->f d1 d2 M q->r v1 v2 H (Fin K G0 L0 H0 q)
def RA(K:fv)(r:V->Hp->VK->Prop)(f:Dt->Ms->DQ->Prop):Prop:=
 ∀G0 L0 H0 G L M H v1 d1 q,Ex G0 L0 H0 G L H->Rl K G L M H->Den K G L d1 v1->f d1 M q->r v1 H (Fin K G0 L0 H0 q)
def DW(K:fv)(r:List V->Hp->VK->Prop)(f:List Dt->Ms->DQ->Prop):Prop:=
 ∀G0 L0 H0 G L M H vs ds q,Ex G0 L0 H0 G L H->Rl K G L M H->Ρ K G L ds vs->f ds M q->r vs H (Fin K G0 L0 H0 q)
section
variable{K:fv}{R:St->XK}{ta tb:DE}{tc:DA}{σ:St}{H G:Hp}{L:List Addr}{ρ:En}{M:Ms}{q:DQ}{x:DX}
theorem xC{r:R2}{f:Dt->Dt->Ms->DQ->Prop}(od:md K r f)(rl:Rl K G L M H)(n:jV K G L ρ σ)(h:iF f ta tb ρ M q x)(hx:pK K G L H R x):Ni r (uE K R ta) (uE K R tb) σ H (Fin K G L H q):=by refine ⟨G,L,ρ,M,_,x,rl,n,h,hx,λv H1 ⟨d1,G1,L1,M1,e1,r1,n1,h1⟩=> ?_⟩;refine ⟨G1,L1,ρ,M1,_,x,r1,n.mono e1,h1,hx.on e1,λv2 H2 ⟨d2,G2,L2,M2,e2,r2,n2,h2⟩=> ?_⟩;exact od G L H G2 L2 M2 H2 v v2 d1 d2 q (e1.trans e2) r2 (Den.mono e2.g e2.l _ _ n1) n2 h2
theorem KQ{r:V->Hp->VK->Prop}{f:Dt->Ms->DQ->Prop}(od:RA K r f)(rl:Rl K G L M H)(n:jV K G L ρ σ)(h:Of f ta ρ M q x)(hx:pK K G L H R x):RT r (uE K R ta) σ H (Fin K G L H q):=by refine ⟨G,L,ρ,M,_,x,rl,n,h,hx,λv H1 ⟨d1,G1,L1,M1,e1,r1,n1,h1⟩=> ?_⟩;exact od G L H G1 L1 M1 H1 v d1 q e1 r1 n1 h1
theorem Hc{r:List V->Hp->VK->Prop}{f:List Dt->Ms->DQ->Prop}(od:DW K r f)(rl:Rl K G L M H)(n:jV K G L ρ σ)(h:A5 f tc ρ M q x)(hx:pK K G L H R x):P4 r (Md K R tc) σ H (Fin K G L H q):=by refine ⟨G,L,ρ,M,_,x,rl,n,h,hx,λv H1 ⟨d1,G1,L1,M1,e1,r1,n1,h1⟩=> ?_⟩;exact od G L H G1 L1 M1 H1 v d1 q e1 r1 n1 h1
end
section
variable{X:Cx}{R:St->XK}{a b c:Expr}{ta tb:DE}{pos:Pos}
theorem jv(i:Nat){x:Str}{pos:Pos}(hN:X.N[i]? =some x:=by rfl)(hv:Qb X.env.scope x:=by first | exact Or.inl rfl | exact Or.inr (Or.inl rfl) | exact Or.inr (Or.inr rfl))(hd:(x==("__debug__":Str))=false:=by decide)
  (Br:(x==("__classdict__":Str))=false:=by decide):JE X R (.Name x pos) (wD i):= .of (J9 hN hv hd Br) λσ H G L ρ M q x r n h hx=>by
 unfold wD at h;split at h
 ·rename_i d e;obtain ⟨v,e1,h1⟩:=n.fH i d e;exact ⟨v,e1,d,G,L,M, .refl _ _ _,r,h1,h⟩
 ·exact h.elim
theorem JP{d:Dt}{v:V}{e:Expr}(h:PE X e (tC v))(hd:∀G L,Den X.K G L d v):JE X R e (dC d):= .of h λσ H G L ρ M q x r n h hx=>⟨d,G,L,M, .refl _ _ _,r,hd G L,h⟩
theorem ξ{i j pos}:JE X R (.Constant (.int i) j pos) (dC (.int i)):=JP JC λ_ _=>rfl
theorem Hv{b j pos}:JE X R (.Constant (.bool b) j pos) (dC (.bl b)):=JP Mj λ_ _=>rfl
theorem Mc{j pos}:JE X R (.Constant .none j pos) (dC .ba):=JP IP λ_ _=>rfl
theorem dZ{x j pos}:JE X R (.Constant (.str x) j pos) (dC (.str x)):=JP D3 λ_ _=>rfl
theorem rH{op:Operator}{r:R2}{f:Dt->Dt->Ms->DQ->Prop}(ho:hI X (binaryOp op) r)(od:md X.K r f)(ja:JE X R a ta)(jb:JE X R b tb):JE X R (.BinOp a op b pos) (iF f ta tb):=
 .of (Mx ho ja jb) λσ H G L ρ M q x r n h hx=>xC od r n h hx
theorem Qz{op:UnaryOp}{r:V->Hp->VK->Prop}{f:Dt->Ms->DQ->Prop}(ho:Om X (unaryOp op) r)(od:RA X.K r f)(ja:JE X R a ta):JE X R (.UnaryOp op a pos) (Of f ta):=
 .of (Ll ho ja) λσ H G L ρ M q x r n h hx=>KQ od r n h hx
theorem p_{op:CmpOp}{r:R2}{f:Dt->Dt->Ms->DQ->Prop}(ho:hI X (compareOp op) r)(od:md X.K r f)(ja:JE X R a ta)(jb:JE X R b tb)(hm:behindInMarks op b=false):JE X R (.Compare a [op] [b] pos) (iF f ta tb):=
 .of (F_ ho ja jb hm) λσ H G L ρ M q x r n h hx=>xC od r n h hx
theorem K7{r:R2}{f:Dt->Dt->Ms->DQ->Prop}(hr:Ed X r)(od:md X.K r f)(ja:JE X R a ta)(jb:JE X R b tb)(hs:tL b):JE X R (.Subscript a b pos) (iF f ta tb):=
 .of (MG hr ja jb hs) λσ H G L ρ M q x r n h hx=>xC od r n h hx
theorem aL{env:Env}{es:List Expr}{c j p}:starEach (.Constant c j p::es) env=(false,eval (.Constant c j p) env)::starEach es env:=rfl
theorem Hf{env:Env}{es:List Expr}{c p}:starEach (.Name c p::es) env=(false,eval (.Name c p) env)::starEach es env:=rfl
theorem aX{env:Env}{es:List Expr}{a o b p}:starEach (.BinOp a o b p::es) env=(false,eval (.BinOp a o b p) env)::starEach es env:=rfl
theorem aP{env:Env}{es:List Expr}{a b c p}:starEach (.Call a b c p::es) env=(false,eval (.Call a b c p) env)::starEach es env:=rfl
theorem ax{env:Env}{es:List Expr}{a b p}:starEach (.Subscript a b p::es) env=(false,eval (.Subscript a b p) env)::starEach es env:=rfl
theorem fT{env:Env}{es:List Expr}{a b p}:starEach (.Tuple a b p::es) env=(false,eval (.Tuple a b p) env)::starEach es env:=rfl
theorem HH{env:Env}{es:List Expr}{a b p}:starEach (.UnaryOp a b p::es) env=(false,eval (.UnaryOp a b p) env)::starEach es env:=rfl
theorem ζ:JA X R [] Kj:= .of IE λσ H G L ρ M q x r n h hx=>⟨[],G,L,M, .refl _ _ _,r,rfl,h⟩
theorem η{e:Expr}{es:List Expr}{te:DE}{t:DA}(ha:JE X R e te)(hr:JA X R es t)(hs:starEach (e::es) X.env=(false,eval e X.env)::starEach es X.env:=by first | exact aL | exact Hf | exact aX | exact aP | exact ax | exact fT | exact Sg | exact HH | rfl):JA X R (e::es) (Bs te t):=
 .of (FU ha hr hs) λσ H G L ρ M q x rl n h hx=>by refine ⟨G,L,ρ,M,_,x,rl,n,h,hx,λv H1 ⟨d1,G1,L1,M1,e1,r1,n1,h1⟩=> ?_⟩;refine ⟨G1,L1,ρ,M1,_,x,r1,n.mono e1,h1,hx.on e1,λv2 H2 ⟨d2,G2,L2,M2,e2,r2,n2,h2⟩=> ?_⟩;exact ⟨d1::d2,G2,L2,M2,e1.trans e2,r2,⟨_,_,rfl,Den.mono e2.g e2.l _ _ n1,n2⟩,h2⟩
theorem Ο{c:Str}{p:Pos}{es:List Expr}{te:DE}{t:DA}(ha:JE X R (.Name c p) te)(hr:JA X R es t):JA X R (.Name c p::es) (Bs te t):=η ha hr Hf
def M9(t:DA):DE:=λρ M q x=>t ρ M (λds M1=>ds.length<=sizeLine/\q (.tup ds) M1) x
def Jl(t:DA):DE:=λρ M q x=>t ρ M (λds M1=>ds.length<=sizeLine/\q (.lst ds) M1) x
def KY(t:DA):DE:=λρ M q x=>t ρ M (λds M1=>ds.length<=sizeLine/\q (.loc M1.length) (M1++[.lst ds])) x
theorem iR{K:fv}{G0:Hp}{L0:List Addr}{H0 G:Hp}{L:List Addr}{M:Ms}{H:Hp}{p:Addr}{o:HO}{d:Dt}{q:DQ}(e:Ex G0 L0 H0 G L H)(r:Rl K G L M H)(hp:H p=none)(hd:Den K (upd G p o) L d (.ref p))(h:q d M):Fin K G0 L0 H0 q (.ref p) (upd H p o):=
 ⟨d,upd G p o,L,M,e.trans (r.KD hp),r.FV hp,hd,h⟩
theorem mW{K:fv}{G:Hp}{L:List Addr}{M:Ms}{H:Hp}{p:Addr}{ds:List Dt}{vs:List V}(r:Rl K G L M H)(hp:H p=none)(h:Ρ K G L ds vs):Den K (upd G p (.tup vs)) L (.tup ds) (.ref p):=
 ⟨p,vs,rfl,Τ,Ρ.mono (r.KD hp).g (.refl _) _ _ h⟩
theorem mM{K:fv}{G:Hp}{L:List Addr}{M:Ms}{H:Hp}{p:Addr}{ds:List Dt}{vs:List V}(r:Rl K G L M H)(hp:H p=none)(h:Ρ K G L ds vs):Den K (upd G p (.lst vs)) L (.lst ds) (.ref p):=
 ⟨p,vs,rfl,Τ,Ρ.mono (r.KD hp).g (.refl _) _ _ h⟩
theorem rL{K:fv}{G0:Hp}{L0:List Addr}{H0 G:Hp}{L:List Addr}{M:Ms}{H:Hp}{p:Addr}{q:DQ}{ds:List Dt}{vs:List V}(e:Ex G0 L0 H0 G L H)(r:Rl K G L M H)(hp:H p=none)(hd:Ρ K G L ds vs)(h:q (.loc M.length) (M++[.lst ds])):Fin K G0 L0 H0 q (.ref p) (upd H p (.lst vs)):=
 ⟨.loc M.length,G,L++[p],M++[.lst ds],e.trans (r.NG hp),r.EN (m:= .lst ds) hp ⟨vs,Τ,Ρ.mono (.refl _) ⟨[p],rfl⟩ _ _ hd⟩,⟨p,rfl,by rw [<-r.len,List.getElem?_append_right (Nat.le_refl _)];simp⟩,h⟩
variable{es:List Expr}{t:DA}
theorem aV{x1}(h:JA X R es t):JE X R (.Tuple es x1 pos) (M9 t):= .of (H_ h) λσ H G L ρ M q x rl n h hx=>by refine ⟨G,L,ρ,M,_,x,rl,n,h,hx,λv H1 ⟨d1,G1,L1,M1,e1,r1,n1,h1⟩=>⟨by rw [<-n1.length];exact h1.1,λp hp=> ?_⟩⟩;exact iR e1 r1 hp (mW r1 hp n1) h1.2
theorem kO(h:JA X R es t):JE X R (.List es pos) (Jl t):= .of (BR h) λσ H G L ρ M q x rl n h hx=>by refine ⟨G,L,ρ,M,_,x,rl,n,h,hx,λv H1 ⟨d1,G1,L1,M1,e1,r1,n1,h1⟩=>⟨by rw [<-n1.length];exact h1.1,λp hp=> ?_⟩⟩;exact iR e1 r1 hp (mM r1 hp n1) h1.2
theorem ic(h:JA X R es t):JE X R (.List es pos) (KY t):= .of (BR h) λσ H G L ρ M q x rl n h hx=>by refine ⟨G,L,ρ,M,_,x,rl,n,h,hx,λv H1 ⟨d1,G1,L1,M1,e1,r1,n1,h1⟩=>⟨by rw [<-n1.length];exact h1.1,λp hp=> ?_⟩⟩;exact rL e1 r1 hp n1 h1.2
def kD(t:DE):DT:=λρ M q x=>t ρ M (λd M1=>match d with
 | .bl b=>q b M1
 | _=>False) x
def So(t u:DT):DT:=λρ M q x=>t ρ M (λc M1=>(c=true->q true M1)/\(c=false->u ρ M1 q x)) x
def Nk(t:DT):DT:=λρ M q x=>t ρ M (λc M1=>q (!c) M1) x
theorem IF{K:fv}{t:DE}{σ:St}{H G:Hp}{L:List Addr}{ρ:En}{M:Ms}{q:Bool->Ms->Prop}{x:DX}(rl:Rl K G L M H)(n:jV K G L ρ σ)(h:kD t ρ M q x)(hx:pK K G L H R x):tB (uE K R t) σ H (sT K G L H q):=by
 refine ⟨G,L,ρ,M,_,x,rl,n,h,hx,λv H1 ⟨d1,G1,L1,M1,e1,r1,n1,h1⟩=> ?_⟩
 (try dsimp only at h1)
 split at h1
 ·rename_i b;exact ⟨b,n1,G1,L1,M1,e1,r1,h1⟩
 ·exact h1.elim
theorem da{e:Expr}{t:DE}(h:JE X R e t)(he:∀whole,isTrue e X.env whole=(do let v<-whole;standAt e.pos;holding [v] (truthy v)):=by intro _;rfl):JT X R e (kD t):=
 .of (J2 h he) λσ H G L ρ M q x rl n h hx=>IF rl n h hx
theorem f_{op:CmpOp}{r:R2}{f:Dt->Dt->Ms->DQ->Prop}(ho:hI X (compareOp op) r)(od:md X.K r f)(ja:JE X R a ta)(jb:JE X R b tb)(hm:behindInMarks op b=false):JT X R (.Compare a [op] [b] pos) (kD (iF f ta tb)):=
 .of (Ew ho ja jb hm) λσ H G L ρ M q x rl n h hx=>by
  have h:iF f ta tb ρ M (λd M1=>match d with | .bl b=>q b M1 | _=>False) x:=h;refine ⟨G,L,ρ,M,_,x,rl,n,h,hx,λv H1 ⟨d1,G1,L1,M1,e1,r1,n1,h1⟩=> ?_⟩;refine ⟨G1,L1,ρ,M1,_,x,r1,n.mono e1,h1,hx.on e1,λv2 H2 ⟨d2,G2,L2,M2,e2,r2,n2,h2⟩=> ?_⟩;have:=od G L H G2 L2 M2 H2 v v2 d1 d2 _ (e1.trans e2) r2 (Den.mono e2.g e2.l _ _ n1) n2 h2;have e:(λx H'=>∃k,x=V.bl k/\sT X.K G L H q k H')=Fin X.K G L H (λd M1=>match d with | .bl b=>q b M1 | _=>False):=by
   funext y H'
   apply propext;constructor
   ·rintro ⟨k,rfl,G3,L3,M3,e3,r3,h3⟩;exact ⟨.bl k,G3,L3,M3,e3,r3,rfl,h3⟩
   ·rintro ⟨d,G3,L3,M3,e3,r3,n3,h3⟩;split at h3
    ·rename_i k;exact ⟨k,n3,G3,L3,M3,e3,r3,h3⟩
    ·exact h3.elim
  rw [e];exact this
theorem JW.jt{e:Expr}{t:DT}(h:JW X R e t):JT X R e t:=h _
variable{t1 t2:DT}{Η:List Expr}
theorem nq(ha:JT X R a t1):JW X R (.BoolOp .Or [a] pos) t1:=pw_or1 ha
theorem kJ(ha:JT X R a t1)(hb:JW X R (.BoolOp .Or (b::Η) pos) t2):JW X R (.BoolOp .Or (a::b::Η) pos) (So t1 t2):= .of (pw_or ha hb) λσ H G L ρ M q x rl n h hx=>by
 refine ⟨G,L,ρ,M,_,x,rl,n,h,hx,λc H1 ⟨G1,L1,M1,e1,r1,h1⟩=> ?_⟩;cases c with
 | true=>exact zo ⟨G1,L1,M1,e1,r1,h1.1 rfl⟩
 | false=>exact zP ⟨G1,L1,ρ,M1,_,x,r1,n.mono e1,h1.2 rfl,hx.on e1,λb H2 f=>sT.back e1 f⟩
theorem ie(ha:JT X R a t1):JT X R (.UnaryOp .Not a pos) (Nk t1):= .of (Jg ha) λσ H G L ρ M q x rl n h hx=>
 ⟨G,L,ρ,M,_,x,rl,n,h,hx,λ_ _ ⟨G,L,M,e,r,h⟩=>⟨G,L,M,e,r,h⟩⟩
def Me(t u:DE):DE:=λρ M q x=>t ρ M (λd M1=>match d with
 | .bl c=>(c=true->u ρ M1 q x)/\(c=false->q (.bl false) M1)
 | _=>False) x
def Sx(t u:DE):DE:=λρ M q x=>t ρ M (λd M1=>match d with
 | .bl c=>(c=true->q (.bl true) M1)/\(c=false->u ρ M1 q x)
 | _=>False) x
def R8(t:DT)(u v:DE):DE:=λρ M q x=>t ρ M (λc M1=>(c=true->u ρ M1 q x)/\(c=false->v ρ M1 q x)) x
theorem fZ{op}{t:DE}(h:JE X R a t):JE X R (.BoolOp op [a] pos) t:=IL h
theorem ee(ha:JE X R a ta)(hb:JE X R (.BoolOp .And (b::Η) pos) tb):JE X R (.BoolOp .And (a::b::Η) pos) (Me ta tb):= .of (Jv ha hb) λσ H G L ρ M q x rl n h hx=>by
 refine ⟨G,L,ρ,M,_,x,rl,n,h,hx,λv H1 ⟨d1,G1,L1,M1,e1,r1,n1,h1⟩=> ?_⟩
 (try dsimp only at h1)
 split at h1
 ·rename_i c;refine ⟨c,n1, ?_⟩;cases c with
  | true=>exact zo ⟨G1,L1,ρ,M1,_,x,r1,n.mono e1,h1.1 rfl,hx.on e1,λb H2 f=>Fin.back e1 f⟩
  | false=>exact zP ⟨.bl false,G1,L1,M1,e1,r1,rfl,h1.2 rfl⟩
 ·exact h1.elim
theorem Nv(ha:JE X R a ta)(hb:JE X R (.BoolOp .Or (b::Η) pos) tb):JE X R (.BoolOp .Or (a::b::Η) pos) (Sx ta tb):= .of (Lb ha hb) λσ H G L ρ M q x rl n h hx=>by
 refine ⟨G,L,ρ,M,_,x,rl,n,h,hx,λv H1 ⟨d1,G1,L1,M1,e1,r1,n1,h1⟩=> ?_⟩
 (try dsimp only at h1)
 split at h1
 ·rename_i c;refine ⟨c,n1, ?_⟩;cases c with
  | true=>exact zo ⟨.bl true,G1,L1,M1,e1,r1,rfl,h1.1 rfl⟩
  | false=>exact zP ⟨G1,L1,ρ,M1,_,x,r1,n.mono e1,h1.2 rfl,hx.on e1,λb H2 f=>Fin.back e1 f⟩
 ·exact h1.elim
theorem u6{c:Expr}(hc:JT X R c t1)(ha:JE X R a ta)(hb:JE X R b tb):JE X R (.IfExp c a b pos) (R8 t1 ta tb):= .of (Bq hc ha hb) λσ H G L ρ M q x rl n h hx=>by
 refine ⟨G,L,ρ,M,_,x,rl,n,h,hx,λc H1 ⟨G1,L1,M1,e1,r1,h1⟩=> ?_⟩;cases c with
 | true=>exact zo ⟨G1,L1,ρ,M1,_,x,r1,n.mono e1,h1.1 rfl,hx.on e1,λb H2 f=>Fin.back e1 f⟩
 | false=>exact zP ⟨G1,L1,ρ,M1,_,x,r1,n.mono e1,h1.2 rfl,hx.on e1,λb H2 f=>Fin.back e1 f⟩
end
def Hg:DS:=λDn ρ M=>Dn.nx ρ M
def JU(t u:DS):DS:=λDn ρ M=>t {Dn with nx:=u Dn} ρ M
def Sl(c:DT)(t u:DS):DS:=λDn ρ M=>c ρ M (λb M1=>(b=true->t Dn ρ M1)/\(b=false->u Dn ρ M1)) Dn.x
def Nh(t:DE):DS:=λDn ρ M=>t ρ M Dn.rt Dn.x
def zU(i:Nat)(t:DE):DS:=λDn ρ M=>t ρ M (λd M1=>Dn.nx (ρ.set i (some d)) M1) Dn.x
def HA(t:DE):DS:=λDn ρ M=>t ρ M (λ_ M1=>Dn.nx ρ M1) Dn.x
def ON(t:DS):DS:=λDn ρ M=>∃J:En->Ms->Prop,t {Dn with nx:=J} ρ M/\∀ρ' M',J ρ' M'->Dn.nx ρ' M'
section
variable{X:Cx}{R:St->XK}{st:Stmt}{Η:List Stmt}{t u:DS}{e:Expr}{te:DE}{pos:Pos}
theorem Ξ:zF X R [] Hg:= .of E9 λσ H G L ρ M Dn rl n h hx=>⟨ρ,G,L,M, .refl _ _ _,rl,n,h⟩
theorem μ(h1:JS X R st t):zF X R [st] t:=EM h1
theorem ι(h1:JS X R st t)(h2:zF X R Η u):zF X R (st::Η) (JU t u):= .of (Bp h1 h2) λσ H G L ρ M Dn rl n h hx=>by refine ⟨G,L,ρ,M,_,rl,n,h,hx,⟨λσ1 H1 ⟨ρ1,G1,L1,M1,e1,r1,n1,h1⟩=> ?_,λ_ _ f=>f,λ_ _ f=>f,λ_ _ f=>f⟩⟩;exact ⟨G1,L1,ρ1,M1,Dn,r1,n1,h1,hx.on e1,sW.back e1⟩
theorem Dm:JS X R (.Break pos) (λDn ρ M=>Dn.bk ρ M):= .of Dd λσ H G L ρ M Dn rl n h hx=>⟨ρ,G,L,M, .refl _ _ _,rl,n,h⟩
theorem l_:JS X R (.Continue pos) (λDn ρ M=>Dn.ct ρ M):= .of uu λσ H G L ρ M Dn rl n h hx=>⟨ρ,G,L,M, .refl _ _ _,rl,n,h⟩
theorem ψ(he:JE X R e te):JS X R (.Return (some e) pos) (Nh te):= .of (Kq he) λσ H G L ρ M Dn rl n h hx=>⟨G,L,ρ,M,_,_,rl,n,h,hx,λ_ _ f=>f⟩
theorem c_(he:JE X R e te)(hs:swapsWith e none pos.line X.env=pure false:=by rfl):JS X R (.Expr e pos) (HA te):= .of (Fc he hs) λσ H G L ρ M Dn rl n h hx=>by refine ⟨G,L,ρ,M,_,_,rl,n,h,hx,λv H1 ⟨d1,G1,L1,M1,e1,r1,n1,h1⟩=>⟨ρ,G1,L1,M1,e1,r1,n.mono e1,h1⟩⟩
theorem aI{c:Expr}{a b:List Stmt}{tc:DT}(hc:JT X R c tc)(ha:zF X R a t)(hb:zF X R b u):JS X R (.If c a b pos) (Sl tc t u):= .of (ML hc ha hb) λσ H G L ρ M Dn rl n h hx=>by
 refine ⟨G,L,ρ,M,_,_,rl,n,h,hx,λc H1 ⟨G1,L1,M1,e1,r1,h1⟩=> ?_⟩;cases c with
 | true=>exact zo ⟨G1,L1,ρ,M1,Dn,r1,n.mono e1,h1.1 rfl,hx.on e1,sW.back e1⟩
 | false=>exact zP ⟨G1,L1,ρ,M1,Dn,r1,n.mono e1,h1.2 rfl,hx.on e1,sW.back e1⟩
theorem π(i:Nat){x:Str}{pos':Pos}(hN:X.N.Nodup)(he:JE X R e te)(hi:X.N[i]? =some x:=by rfl)(hx:Loc X.env.scope x:=by first | exact .inl rfl | exact .inr rfl)(hs:swapsWith e (some (.Name x pos')) pos.line X.env=pure false:=by rfl)(hf:X.fn x=true\/X.env.scope.names.lookup x=some .local:=by first | exact .inl rfl | exact .inr rfl | assumption):
  JS X R (.Assign [.Name x pos'] e pos) (zU i te):= .of (JR hN hi hx he hs hf) λσ H G L ρ M Dn rl n h hx=>by
 refine ⟨G,L,ρ,M,_,_,rl,n,h,hx,λv H1 ⟨d1,G1,L1,M1,e1,r1,n1,h1⟩=>⟨_,G1,L1,M1,e1,r1,(n.mono e1).set i n1,h1⟩⟩
theorem lQ(h:JS X R st t):JS X R st (ON t):= .of h λσ H G L ρ M Dn rl n h hx=>by obtain ⟨J,h1,h2⟩:=h;refine ⟨G,L,ρ,M,_,rl,n,h1,hx,⟨λσ1 H1 ⟨ρ1,G1,L1,M1,e1,r1,n1,h1⟩=>⟨ρ1,G1,L1,M1,e1,r1,n1,h2 _ _ h1⟩,λ_ _ f=>f,λ_ _ f=>f,λ_ _ f=>f⟩⟩
end
abbrev Sn:=Addr->List (Str×Dt)->Ms->Prop
abbrev DF:=List Dt->Ms->DQ->Sn->Prop
inductive dE(K:fv)(T:DF)(vs:List V)(H:Hp)(Q:VK)(E:XK):Prop
 | mk (G:Hp) (L:List Addr) (ds:List Dt) (M:Ms) (q:DQ) (x:Sn) (r:Rl K G L M H) (n:Ρ K G L ds vs) (h:T ds M q x) (hQ:∀v H1,Fin K G L H q v H1->Q v H1) (hE:∀C fs M1 G1 L1 H1 od,x C fs M1->Ex G L H G1 L1 H1->Rl K G1 L1 M1 H1->MK K G1 L1 H1 fs od->E (.ref C) od H1)
def k9(N:List Str)(ds:List Dt):En:=ds.map some++List.replicate (N.length - ds.length) none
theorem Bf{K:fv}{G:Hp}{L:List Addr}{N:List Str}{ds:List Dt}{vs:List V}(h:Ρ K G L ds vs):jV K G L (k9 N ds) (iJ N vs):=by
 have hl:=h.length;refine ⟨by unfold k9 iJ;simp [hl],λi d e=> ?_⟩;unfold k9 at e;unfold iJ;by_cases hi:i < ds.length
 ·rw [List.getElem?_append_left (by simpa using hi),List.getElem?_map] at e;rw [List.getElem?_append_left (by simpa [<-hl] using hi),List.getElem?_map];cases q:ds[i]? with
  | none=>rw [q] at e;cases e
  | some d'=>
   rw [q] at e;cases e;obtain ⟨v,e1,h1⟩:=h.get q;exact ⟨v,by rw [e1];rfl,h1⟩
 ·rw [List.getElem?_append_right (by simpa using Nat.le_of_not_lt hi),List.getElem?_replicate] at e;split at e <;> cases e
section
variable{P:Program}{w:World}{K:fv}{mg:Str->Option Value}{base:Heap}
theorem dN.eN{x qual:Str}{st:Stmt}{f:Addr}{fd:FuncData}{N ps:List Str}{k:Nat}{T:DF}(F:dN K x qual st f fd)(S:χ N ps (ο st))(len:∀ds M q x,T ds M q x->ds.length=ps.length)
  (uH:∀(bu:Value) (A:Around) (outer:List Env) (s:Shared) (H:Hp) (E:XK),bG k (A.deeper (envOfC qual (ο st) s.heap.objs.size f bu))->
   ∃t,zF (tK (cR P w) P w K mg base N qual (ο st) f bu A outer s H E) (λ_=>E) (fV st) t/\∀ds M q x,T ds M q x->t {nx:=λ_ M'=>q .ba M',rt:=q,x:=λ_=>x} (k9 N ds) M):
  ar P w K mg base (cR P w) (k+1) f fd ps (dE K T):=by
 refine F.Xz S (λvs H Q E h=> ?_) (λbu A outer s H vs Q E hr h=> ?_)
 ·obtain ⟨G,L,ds,M,q,x,rl,n,hT,_⟩:=h;rw [<-n.length];exact len _ _ _ _ hT
 ·obtain ⟨t,j,ht⟩:=uH bu A outer s H E hr;obtain ⟨G,L,ds,M,q,x,rl,n,hT,hQ,hE⟩:=h;refine ⟨_,j,G,L,k9 N ds,M,_,rl,Bf n,ht ds M q x hT,λσ ρ C fs M' G' L' H' od hx e r _ y=>hE C fs M' G' L' H' od hx e r y,⟨λσ' H' ⟨ρ',G',L',M',e,r,_,h⟩=>hQ _ _ ⟨.ba,G',L',M',e,r,rfl,h⟩,λv H' f=>hQ v H' f,λ_ _ ⟨_,_,_,_,_,_,_,h⟩=>h.elim,λ_ _ ⟨_,_,_,_,_,_,_,h⟩=>h.elim⟩⟩
structure aE(P:Program)(w:World)(K:fv)(mg:Str->Option Value)(base:Heap)(k:Nat)(x:Str)(ps:List Str)(T:DF)(f:Addr)(fd:FuncData):Prop where
 ok:ar P w K mg base (cR P w) k f fd ps (dE K T)
 b:g_ K fd ps []
 m:mg x=some (.ref f)
 kp:PySem.W.keepIn K (.ref f)=true
end
def HK(T:DF)(t:DA):DE:=λρ M q x=>t ρ M (λds M1=>T ds M1 q (λC fs M'=>x ρ C fs M')) x
section
variable{X:Cx}{R:St->XK}{T:DF}{k k':Nat}{f:Addr}{fd:FuncData}{ps:List Str}{x:Str}{p pos:Pos}{e:Expr}{es:List Expr}{t:DA}
theorem aj(C:aE X.prog X.w X.K X.mg X.base k x ps T f fd)(hr:bG k' X.A)(hx:c8 (cR X.prog X.w) X R)(ha:JA X R (e::es) t)(hk:k<=k':=by decide)(hg:Gl X x:=by rfl)(nz:(x==("__debug__":Str))=false:=by decide)
  (he:starEach (e::es) X.env=(false,eval e X.env)::starEach es X.env:=by rfl) (fo:(backTo pos (starEach es X.env)).any (·.1)=false:=by rfl):JE X R (.Call (.Name x p) (e::es) [] pos) (HK T t):=
 .of (Cp C.ok (hr.mono hk) hg C.m C.kp C.b .nil hx ha nz he fo) λσ H G L ρ M q x rl n h hx=>by refine ⟨G,L,ρ,M,_,x,rl,n,h,hx,λvs H1 ⟨ds,G1,L1,M1,e1,r1,n1,h1⟩=> ?_⟩;show dE X.K T (vs++[]) H1 _ _;rw [aaG];exact ⟨G1,L1,ds,M1,q,_,r1,n1,h1,λv H' f=>Fin.back e1 f,λC fs M' G' L' H' od hq e' r' y=>hx σ ρ C fs M' G' L' H' od hq (e1.trans e') r' (n.mono (e1.trans e')) y⟩
end
structure Yl(K:fv)(J:It)(xs:List Dt)(G0:Hp)(L0:List Addr):Prop where
 go:∀(i:Nat) G L M H (d:Dt),de G0 G->Pre L0 L->Rl K G L M H->xs[i]? =some d->J.go i H/\∀v H',J.MY i H v H'->∃G',Ex G L H G' L H'/\Rl K G' L M H'/\Den K G' L d v
 stop:∀(i:Nat) G L M H,de G0 G->Pre L0 L->Rl K G L M H->xs.length<=i->J.stop i H
inductive K1(K:fv)(G0:Hp)(L0:List Addr)(H0:Hp)(q:List Dt->Ms->Prop)(J:It)(H:Hp):Prop
 | mk (xs:List Dt) (G:Hp) (L:List Addr) (M:Ms) (e:Ex G0 L0 H0 G L H) (r:Rl K G L M H) (y:Yl K J xs G L) (h:q xs M)
inductive OK(K:fv)(R:St->XK)(t:DA)(σ:St)(H:Hp)(Q:It->Hp->Prop):Prop
 | mk (G:Hp) (L:List Addr) (ρ:En) (M:Ms) (q:List Dt->Ms->Prop) (x:DX) (r:Rl K G L M H) (n:jV K G L ρ σ) (h:t ρ M q x) (hx:pK K G L H R x) (hQ:∀J H1,K1 K G L H q J H1->Q J H1)
def JI(X:Cx)(R:St->XK)(tg iter:Expr)(t:DA):Prop:=PI X tg iter (OK X.K R t)
theorem Gk.imp{X:Cx}{ε:List (Addr×Obj)}{σ:St}{tg:Expr}{R R':It->Hp->Prop}(hR:∀J H,R J H->R' J H){v:Value}{s:Shared}(h:Gk X ε σ tg R v s):Gk X ε σ tg R' v s:=by obtain ⟨it,fp,tn,J,H',a,b,c,d,e,f⟩:=h;exact ⟨it,fp,tn,J,H',a,b,c,d,e,hR J H' f⟩
theorem yi{K:fv}{G:Hp}{L:List Addr}{a:Addr}{ds:List Dt}{vs:List V}(h:∀G':Hp,de G G'->gM K G' a vs)(n:Ρ K G L ds vs):Yl K (Oh K a) ds G L where
 go:=λi G1 L1 M1 H1 d g l r e=>by
  obtain ⟨v,e1,n1⟩:=n.get e;have hs:=h H1 (g.trans r.sub)
  exact ⟨⟨vs,v,hs,e1⟩,λv' H' ⟨eH,y⟩=>by
   subst eH;have e2:=y vs hs;rw [e1] at e2;cases e2
   exact ⟨G1, .refl _ _ _,r,Den.mono g l _ _ n1⟩⟩
 stop:=λi G1 L1 M1 H1 g l r e=>⟨vs,h H1 (g.trans r.sub),by rw [<-n.length];exact e⟩
theorem DO{K:fv}{G:Hp}{L:List Addr}{a:Addr}{ds:List Dt}{vs:List V}(h:∀G':Hp,de G G'->k8 K G' a vs)(n:Ρ K G L ds vs):Yl K (Qf K a) ds G L where
 go:=λi G1 L1 M1 H1 d g l r e=>by
  obtain ⟨v,e1,n1⟩:=n.get e;have hs:=h H1 (g.trans r.sub)
  exact ⟨⟨vs,v,hs,e1⟩,λv' H' ⟨eH,y⟩=>by
   subst eH;have e2:=y vs hs;rw [e1] at e2;cases e2
   exact ⟨G1, .refl _ _ _,r,Den.mono g l _ _ n1⟩⟩
 stop:=λi G1 L1 M1 H1 g l r e=>⟨vs,h H1 (g.trans r.sub),by rw [<-n.length];exact e⟩
def dY(lo:Int)(n:Nat):List Dt:=(List.range n).map λk:Nat=>Dt.int (lo+(k:Int))
theorem Ii{K:fv}{G:Hp}{L:List Addr}{lo:Int}{n:Nat}:Yl K (NL lo n) (dY lo n) G L where
 go :=λi G1 L1 M1 H1 d g l r e=>by
  unfold dY at e;rw [aax] at e;have hi:i < n:=by
   cases q:(List.range n)[i]? with
   | none=>rw [q] at e;cases e
   | some j=>
    have:=(aah.mp q).1;rwa [ab8] at this
  rw [abF hi] at e;cases e;exact ⟨hi,λv' H' ⟨eH,y⟩=>by subst eH y;exact ⟨G1, .refl _ _ _,r,rfl⟩⟩
 stop:=λi G1 L1 M1 H1 g l r e=>by show n<=i;unfold dY at e;simpa using e
section
variable{X:Cx}{R:St->XK}{tg iter:Expr}
theorem JI.of{wi:TI}{t:DA}(h:PI X tg iter wi)(hw:∀σ H G L ρ M q x,Rl X.K G L M H->jV X.K G L ρ σ->t ρ M q x->pK X.K G L H R x->wi σ H (K1 X.K G L H q)):JI X R tg iter t:=by intro ε s σ H Q I ⟨G,L,ρ,M,q,x,r,n,ht,hx,hQ⟩;exact bQ (h ε s σ H _ I (hw σ H G L ρ M q x r n ht hx)) λu s1 f=>bQ f λu2 s2 f2=>Gk.imp hQ f2
def Nd(t:DA):DA:=λρ M q x=>t ρ M (λds M1=>match ds with
 | [.int j]=>(-(2 ^ 62)<=j/\j < 2 ^ 62)/\q (dY 0 j.toNat) M1
 | _=>False) x
theorem bq{a:Expr}{t:DA}{p pos:Pos}(hm:X.mg "range"=none)(ha:JA X R [a] t)(hg:Gl X "range":=by rfl)(hs:starEach [a] X.env=[(false,eval a X.env)]:=by rfl):JI X R tg (.Call (.Name "range" p) [a] [] pos) (Nd t):=
 .of (Ac hg hm ha hs) λσ H G L ρ M q x rl n h hx=>by
  refine ⟨G,L,ρ,M,_,x,rl,n,h,hx,λvs H1 ⟨ds,G1,L1,M1,e1,r1,n1,h1⟩=> ?_⟩
  (try dsimp only at h1)
  split at h1
  ·rename_i j;obtain ⟨v,rfl,n2⟩:=b_ n1;have n2:v= .int j:=n2;subst n2;exact ⟨j,rfl,h1.1.1,h1.1.2,_,G1,L1,M1,e1,r1,Ii,h1.2⟩
  ·exact h1.elim
end
def GD(K:fv)(gg:TG)(g:Dt->En->(En->Prop)->Prop):Prop:=
 ∀G L M H d v ρ σ (k:En->Prop) (Q:St->Hp->Prop),Rl K G L M H->Den K G L d v->jV K G L ρ σ->g d ρ k->(∀ρ' σ',jV K G L ρ' σ'->k ρ'->Q σ' H)->gg v σ H Q
def gN(i:Nat):Dt->En->(En->Prop)->Prop:=λd ρ k=>k (ρ.set i (some d))
theorem aJ{K:fv}{i:Nat}:GD K (fC i) (gN i):=λG L M H d v ρ σ k Q rl n en h hQ=>hQ _ _ (en.set i n) h
def g2(i j:Nat):Dt->En->(En->Prop)->Prop:=λd ρ k=>match d with
 | .tup [a,b]=>k ((ρ.set i (some a)).set j (some b))
 | _=>False
theorem tO{K:fv}{i j:Nat}:GD K (BY K 2 (hZ (fC i) (hZ (fC j) BQ))) (g2 i j):=λG L M H d v ρ σ k Q rl n en h hQ=>by
 unfold g2 at h;split at h
 ·rename_i a b;obtain ⟨p,vs,rfl,e,n⟩:=n;obtain ⟨v1,v2,rfl,n1,n2⟩:=ft n;exact ⟨p,_,rfl, .inl (.inl (rl.sub _ _ e)),rfl,v1,_,rfl,v2,_,rfl,rfl,hQ _ _ ((en.set i n1).set j n2) h⟩
 ·exact h.elim
def r9(g:Dt->En->(En->Prop)->Prop)(tb:DS)(Dn:ia):List Dt->En->Ms->Prop
 | [],ρ,M=>Dn.nx ρ M
 | x::xs,ρ,M=>g x ρ λρ'=>tb {Dn with nx:=r9 g tb Dn xs,ct:=r9 g tb Dn xs,bk:=Dn.nx} ρ' M
def Lw(ti:DA)(g:Dt->En->(En->Prop)->Prop)(tb:DS):DS:=λDn ρ M=>ti ρ M (λxs M1=>r9 g tb Dn xs ρ M1) Dn.x
section
variable{X:Cx}{R:St->XK}{tg iter:Expr}{body:List Stmt}{ti:DA}{gg:TG}{g:Dt->En->(En->Prop)->Prop}{tb:DS}{pos:Pos}
theorem gj(hi:JI X R tg iter ti)(hg:PG X tg gg)(gd:GD X.K gg g)(hb:zF X R body tb)(hp:PassesOwn (model X.prog X.w) X.A X.env X.xe:=by first | exact PassesOwn.never | exact PassesOwn.leaving)(hc:X.calm=true:=by rfl)(hs:∀x,foldedSetIterable iter X.env x=pure x:=by intro _;rfl):
  JS X R (.For tg iter body [] pos) (Lw ti g tb):= .of (DN hp hc hi hg hb hs) λσ H G L ρ M Dn rl n h hx=>by
 refine ⟨G,L,ρ,M,_,_,rl,n,h,hx,λJ H1 ⟨xs,G1,L1,M1,e1,r1,y,h1⟩=> ?_⟩;refine ⟨λi m σ' H'=>m+i=xs.length/\e7 X.K G1 L1 H1 (λρ' M'=>r9 g tb Dn (xs.drop i) ρ' M') σ' H',⟨xs.length,rfl,ρ,G1,L1,M1, .refl _ _ _,r1,n.mono e1,by rw [List.drop_zero];exact h1⟩, ?_⟩;rintro i m σ' H' ⟨hm,ρ',G',L',M',e',r',n',h'⟩;by_cases hi:i < xs.length
 ·right;have hd:xs[i]? =some xs[i]:=aaa hi;obtain ⟨go,yl⟩:=y.go i G' L' M' H' _ e'.g e'.l r' hd;rw [abg hi] at h';refine ⟨go,e7 X.K G1 L1 H1 (λρ' M'=>r9 g tb Dn (xs.drop (i+1)) ρ' M'),λσ2 H2 f=>⟨m - 1,by omega,by omega,f⟩,λv H2 hy=> ?_⟩;obtain ⟨G2,e2,r2,n2⟩:=yl v H2 hy;refine gd G2 L' M' H2 _ v ρ' σ' _ _ r2 n2 (n'.mono e2) h' λρ3 σ3 n3 h3=> ?_;refine ⟨G2,L',ρ3,M',_,r2,n3,h3,hx.on (e1.trans (e'.trans e2)),⟨λ_ _ f=>e7.back (e'.trans e2) f,λ_ _ f=>Fin.back (e1.trans (e'.trans e2)) f,λ_ _ f=>e7.back (e1.trans (e'.trans e2)) f,λ_ _ f=>e7.back (e'.trans e2) f⟩⟩
 ·left;refine ⟨y.stop i G' L' M' H' e'.g e'.l r' (by omega),ρ',G',L',M',e1.trans e',r',n', ?_⟩;rw [abI (by omega)] at h';exact h'
end
abbrev DK:=En->Ms->(List Dt->(Ms->Prop)->Ms->Prop)->DX->Prop
structure J'(K:fv)(J:It)(xs:List Dt)(ok:Ms->Prop)(G0:Hp)(L0:List Addr):Prop where
 go:∀(i:Nat) G L M H (d:Dt),de G0 G->Pre L0 L->Rl K G L M H->ok M->xs[i]? =some d->J.go i H/\∀v H',J.MY i H v H'->∃G',Ex G L H G' L H'/\Rl K G' L M H'/\Den K G' L d v
 stop:∀(i:Nat) G L M H,de G0 G->Pre L0 L->Rl K G L M H->ok M->xs.length<=i->J.stop i H
inductive Rn(K:fv)(G0:Hp)(L0:List Addr)(H0:Hp)(q:List Dt->(Ms->Prop)->Ms->Prop)(J:It)(H:Hp):Prop
 | mk (xs:List Dt) (ok:Ms->Prop) (G:Hp) (L:List Addr) (M:Ms) (e:Ex G0 L0 H0 G L H) (r:Rl K G L M H) (y:J' K J xs ok G L) (h:q xs ok M)
inductive OB(K:fv)(R:St->XK)(t:DK)(σ:St)(H:Hp)(Q:It->Hp->Prop):Prop
 | mk (G:Hp) (L:List Addr) (ρ:En) (M:Ms) (q:List Dt->(Ms->Prop)->Ms->Prop) (x:DX) (r:Rl K G L M H) (n:jV K G L ρ σ) (h:t ρ M q x) (hx:pK K G L H R x) (hQ:∀J H1,Rn K G L H q J H1->Q J H1)
def JK(X:Cx)(R:St->XK)(tg iter:Expr)(t:DK):Prop:=PI X tg iter (OB X.K R t)
def S8(t:DA):DK:=λρ M q x=>t ρ M (λxs M1=>q xs (λ_=>True) M1) x
theorem B7{X:Cx}{R:St->XK}{tg iter:Expr}{t:DA}(h:JI X R tg iter t):JK X R tg iter (S8 t):=by intro ε s σ H Q I ⟨G,L,ρ,M,q,x,r,n,ht,hx,hQ⟩;refine h ε s σ H Q I ⟨G,L,ρ,M,_,x,r,n,ht,hx,λJ H1 ⟨xs,G1,L1,M1,e1,r1,y,hq⟩=>hQ J H1 ⟨xs,_,G1,L1,M1,e1,r1,⟨λi G L M H d g l r _ e=>y.go i G L M H d g l r e,λi G L M H g l r _ e=>y.stop i G L M H g l r e⟩,hq⟩⟩
def nu(Ψ:List Nat)(ρ:En):En:=Ψ.map λi=>(ρ[i]?).join
def kU(g:Dt->En->(En->Prop)->Prop)(tc:DT)(te:DE)(ρ0:En)(ok:Ms->Prop):List Dt->List Dt->Ms->(List Dt->Ms->Prop)->Prop
 | [],υ,M,k=>ok M/\k υ M
 | x::xs,υ,M,k=>ok M/\g x ρ0 λρ'=>tc ρ' M (λb M1=>match b with
  | true=>te ρ' M1 (λd M2=>kU g tc te ρ0 ok xs (υ++[d]) M2 k) l9
  | false=>kU g tc te ρ0 ok xs υ M1 k) l9
theorem Gh{K:fv}{G:Hp}{L:List Addr}{ρ:En}{σ os:St}{n:Nat}(h:jV K G L ρ σ)(Ψ:List Nat)(hl:os.length=n):jV K G L (List.replicate n none++nu Ψ ρ) (os++lC Ψ σ):=by
 have lc:(nu Ψ ρ).length=(lC Ψ σ).length:=by unfold nu lC;simp
 refine ⟨by rw [aaf,aaf,aaV,hl,lc],λi d' e=> ?_⟩;by_cases hi:i < n
 ·rw [aay (by rw [aaV];exact hi),abC,aaE hi] at e;cases e
 ·rw [aap (by rw [aaV];omega),aaV] at e;rw [aap (by omega),hl];unfold nu at e;unfold lC;rw [aax] at e⊢;cases q:Ψ[i - n]? with
  | none=>rw [q] at e;cases e
  | some j=>
   rw [q] at e;have e:(ρ[j]?).join=some d':=aan e;have e:ρ[j]? =some (some d'):=by
    cases z:ρ[j]? with
    | none=>rw [z] at e;cases e
    | some o=>rw [z] at e;exact aa5 some e
   obtain ⟨v,hv,dn⟩:=h.fH j d' e;exact ⟨v,by show some ((σ[j]?).join)=_;rw [hv];rfl,dn⟩
theorem uR{K:fv}{J:It}{gg:TG}{g:Dt->En->(En->Prop)->Prop}{tc:DT}{te:DE}{Ψ:List Nat}{nn:Nat}{ρ:En}{σ:St}{G1:Hp}{L1:List Addr}{M1:Ms}{H1:Hp}{xs:List Dt}{ok:Ms->Prop}{Dl:Addr}{Q:VK}{k:List Dt->Ms->Prop}(gd:GD K gg g)(r1:Rl K G1 L1 M1 H1)(n:jV K G1 L1 ρ σ)(y:J' K J xs ok G1 L1)(hD:H1 Dl=none)(hz:xs.length<=sizeLine)
  (h:kU g tc te (List.replicate nn none++nu Ψ ρ) ok xs [] M1 k)
  (fin:∀G2 L2 M2 H2 ds vs,Ex G1 L1 H1 G2 L2 H2->Rl K G2 L2 M2 H2->G2 Dl=none->Dl∉L2->H2 Dl=some (.lst vs)->Ρ K G2 L2 ds vs->k ds M2->Q (.ref Dl) H2):
  wy J nn gg (Ae K (λ_=>E0) tc) (uE K (λ_=>E0) te) (lC Ψ σ) Q H1 Dl:=by
 refine ⟨λi m ys H2=>m+i=xs.length/\H2 Dl=some (.lst ys)/\∃υ G2 L2 M2,Ex G1 L1 H1 G2 L2 H2/\Rl K G2 L2 M2 H2/\G2 Dl=none/\Dl∉L2/\Ρ K G2 L2 υ ys/\υ.length<=i/\kU g tc te (List.replicate nn none++nu Ψ ρ) ok (xs.drop i) υ M2 k,⟨xs.length,rfl,Τ,[],G1,L1,M1, ?_⟩, ?_⟩
 ·have gn:G1 Dl=none:=r1.sub.free hD;refine ⟨⟨.refl _, .refl _,λ_ h _=>h,λb u h1 _=>by rw [Γ (λz=>by rw [z,hD] at h1;cases h1)];exact h1,λ_ h=> .inl h,λb h=>by rw [Γ (λz=>h (by rw [z];exact hD))];exact h⟩,⟨λb u e=>by rw [Γ (λz=>by rw [z,gn] at e;cases e)];exact r1.sub b u e,r1.len,r1.nd,λi a m h1 h2=> ?_⟩,gn,r1.Ji hD,rfl,aam _,by rw [List.drop_zero];exact h⟩;obtain ⟨q1,q2⟩:=r1.fH i a m h1 h2;exact ⟨q1,q2.mono (.refl _) (.refl _) (Γ λz=>q2.there (by rw [z];exact hD))⟩
 ·rintro i m ys H2 ⟨hm,uA,υ,G2,L2,M2,e2,r2,g2,l2,n2,la,h2⟩;refine ⟨uA, ?_⟩;have ne1:∀{b:Addr} {u:HO},H1 b=some u->b≠Dl:=λe z=>by rw [z,hD] at e;cases e
  by_cases hi:i < xs.length
  ·right;have hd:xs[i]? =some xs[i]:=aaa hi;rw [abg hi] at h2;obtain ⟨aR,h2⟩:=h2;obtain ⟨go,yl⟩:=y.go i G2 L2 M2 H2 _ e2.g e2.l r2 aR hd;refine ⟨go,λv H3 hy os Vt=> ?_⟩;obtain ⟨G3,e3,r3,n3⟩:=yl v H3 hy;have h3:H3 Dl=some (.lst ys):=e3.out _ _ uA l2;have g3:G3 Dl=none:=e3.fr _ g2 (by rw [uA];simp);refine gd G3 L2 M2 H3 _ v _ _ _ _ r3 n3 (Gh ((n.mono e2).mono e3) Ψ Vt) h2 λρ' σ' n' h'=> ?_;refine ⟨G3,L2,ρ',M2,_,l9,r3,n',h',Cy,λb H4 ⟨G4,L4,M4,e4,r4,h4⟩=> ?_⟩;have Og:H4 Dl=some (.lst ys):=e4.out _ _ h3 l2;have g4:G4 Dl=none:=e4.fr _ g3 (by rw [h3];simp);have l4:Dl∉L4:=λz=>(e4.new _ z).elim l2 λq=>by rw [h3] at q;cases q
   have Oe:=e3.trans e4;cases b with
   | false=>
    exact ⟨m - 1,by omega,by omega,Og,υ,G4,L4,M4,e2.trans Oe,r4,g4,l4,Ρ.mono Oe.g Oe.l _ _ n2,by omega,h4⟩
   | true=>
    refine ⟨G4,L4,ρ',M4,_,l9,r4,n'.mono e4,h4,Cy,λv5 H5 ⟨d5,G5,L5,M5,e5,r5,n5,h5⟩=> ?_⟩;have VX:H5 Dl=some (.lst ys):=e5.out _ _ Og l4;have g5:G5 Dl=none:=e5.fr _ g4 (by rw [Og];simp);have l5:Dl∉L5:=λz=>(e5.new _ z).elim l4 λq=>by rw [Og] at q;cases q
    have PU:=Oe.trans e5;have SD:ys.length=υ.length:=by rw [<-n2.length]
    refine ⟨VX,by omega,m - 1,by omega,by omega,Τ,υ++[d5],G5,L5,M5, ?_, ?_,g5,l5,(Ρ.mono PU.g PU.l _ _ n2).app ⟨_,_,rfl,n5,rfl⟩,by rw [aaf];show υ.length+1<=i+1;omega,h5⟩
    ·have KJ:=e2.trans PU
     exact ⟨KJ.g,KJ.l,KJ.fr,λb u h1 h2=>by rw [Γ (ne1 h1)];exact KJ.out b u h1 h2,KJ.new,λb h=>by
      by_cases hb:b=Dl
      ·rw [hb,Τ];simp
      ·rw [Γ hb];exact KJ.zf b h⟩
    ·refine ⟨λb u e=>by rw [Γ (λz=>by rw [z,g5] at e;cases e)];exact r5.sub b u e,r5.len,r5.nd,λi a m h1 h2=> ?_⟩;obtain ⟨q1,q2⟩:=r5.fH i a m h1 h2;exact ⟨q1,q2.mono (.refl _) (.refl _) (Γ λz=>l5 (by rw [<-z];exact aag h1))⟩
  ·left;rw [abI (by omega)] at h2;exact ⟨y.stop i G2 L2 M2 H2 e2.g e2.l r2 h2.1 (by omega),fin G2 L2 M2 H2 υ ys e2 r2 g2 l2 uA n2 h2.2⟩
section
variable{K:fv}{G1:Hp}{L1:List Addr}{H1 G:Hp}{L:List Addr}{M:Ms}{H:Hp}{p:Addr}{ds:List Dt}{vs:List V}{q:DQ}
theorem FK(e:Ex G1 L1 H1 G L H)(r:Rl K G L M H)(vG:H1 p=none)(hg:G p=none)(hl:p∉L)(h:H p=some (.lst vs))(n:Ρ K G L ds vs)(k:q (.lst ds) M):Fin K G1 L1 H1 q (.ref p) H:=by
 have g1:de G (upd G p (.lst vs)):=λb u e=>by rw [Γ (λz=>by rw [z,hg] at e;cases e)];exact e
 refine ⟨.lst ds,upd G p (.lst vs),L,M,⟨e.g.trans g1,e.l,λb h1 h2=> ?_,e.out,e.new,e.zf⟩,⟨λb u e=> ?_,r.len,r.nd,λk a m h1 h2=> ?_⟩,⟨p,vs,rfl,Τ,Ρ.mono g1 (.refl _) _ _ n⟩,k⟩
 ·rw [Γ (λz=>h2 (by rw [z];exact vG))];exact e.fr b h1 h2
 ·by_cases hb:b=p
  ·rw [hb,Τ] at e;rw [hb];cases e;exact h
  ·rw [Γ hb] at e;exact r.sub b u e
 ·obtain ⟨q1,q2⟩:=r.fH k a m h1 h2;have hb:a≠p:=λz=>hl (by rw [<-z];exact aag h1);exact ⟨by rw [Γ hb];exact q1,q2.mono g1 (.refl _) rfl⟩
theorem F0(e:Ex G1 L1 H1 G L H)(r:Rl K G L M H)(vG:H1 p=none)(hg:G p=none)(hl:p∉L)(h:H p=some (.lst vs))(n:Ρ K G L ds vs)(k:q (.loc M.length) (M++[.lst ds])):Fin K G1 L1 H1 q (.ref p) H:=by
 refine ⟨.loc M.length,G,L++[p],M++[.lst ds],⟨e.g,e.l.trans ⟨[p],rfl⟩,e.fr,e.out,λb hb=> ?_,e.zf⟩,⟨r.sub,by rw [List.length_append,List.length_append,r.len];rfl,List.nodup_append.mpr ⟨r.nd,by simp,λa ha b hb=> ?_⟩,λk a m h1 h2=> ?_⟩,⟨p,rfl,by rw [<-r.len,List.getElem?_append_right (Nat.le_refl _)];simp⟩,k⟩
 ·rcases aa2.mp hb with z | z
  ·exact e.new b z
  ·have e:b=p:=by simpa using z
   right;rw [e];exact vG
 ·have e:b=p:=by simpa using hb
  rw [e];exact λz=>hl (z▸ha)
 ·by_cases hk:k < L.length
  ·rw [aay hk] at h1;rw [aay (by rw [<-r.len];exact hk)] at h2;obtain ⟨q1,q2⟩:=r.fH k a m h1 h2;exact ⟨q1,q2.mono (.refl _) ⟨[p],rfl⟩ rfl⟩
  ·have e:k=L.length:=by have:=(aah.mp h1).1;rw [aaf] at this;simp at this;omega
   rw [e,aap (aam _)] at h1;rw [e,r.len,aap (aam _)] at h2;simp at h1 h2;subst h1 h2;exact ⟨hg,vs,h,Ρ.mono (.refl _) ⟨[p],rfl⟩ _ _ n⟩
def NC(b:Bool)(q:DQ)(ys:List Dt)(M:Ms):Prop:=match b with
 | false=>q (.lst ys) M
 | true=>q (.loc M.length) (M++[.lst ys])
theorem yP{b:Bool}(e:Ex G1 L1 H1 G L H)(r:Rl K G L M H)(vG:H1 p=none)(hg:G p=none)(hl:p∉L)(h:H p=some (.lst vs))(n:Ρ K G L ds vs)(k:NC b q ds M):Fin K G1 L1 H1 q (.ref p) H:=by
 cases b
 ·exact FK e r vG hg hl h n k
 ·exact F0 e r vG hg hl h n k
end
theorem fE{n i:Nat}(h:i < n):wj n (fC i):=λv os cs H Q hl hq=>⟨⟨os.set i (some v),by rw [abq];exact hl,List.set_append_left _ _ (by omega)⟩,hq⟩
section
variable{X:Cx}{elt iter tg:Expr}{xs:List Str}{scope:Scope}{pos:Pos}{ys:List Str}{Ψ:List Nat}
theorem hU{i:Nat}{x:Str}{px:Pos}(S:aK X scope xs ys Ψ)(h:xs[i]? =some x)(C:Addr)(s:Shared)(H:Hp)(fp:List Addr):PG (Cx.comp X (xs++ys) scope C s H fp) (.Name x px) (fC i):=by
 have hm:x∈xs:=aag h;have hi:(xs++ys)[i]? =some x:=by rw [aay (aah.mp h).1];exact h
 exact Ι S.nd hi (.inl (lookup_relabel_local (S.own x hm))) (.inr (lookup_relabel_local (S.own x hm)))
end
def u0:DT:=λ_ M q _=>q true M
def RP(X:Cx)(cs:List Expr)(t:DT):Prop:=NU X cs (Ae X.K (λ_=>E0) t)
theorem kN{X:Cx}:RP X [] u0:=⟨.inl rfl,λε s σ H Q I ⟨G,L,ρ,M,q,x,r,n,h,hx,hQ⟩=>aaL ⟨H,I,hQ true H ⟨G,L,M, .refl _ _ _,r,h⟩⟩⟩
def GV(b:Bool)(g:Dt->En->(En->Prop)->Prop)(tc:DT)(te:DE)(cs:En)(q:DQ):List Dt->(Ms->Prop)->Ms->Prop:=λzs ok M1=>zs.length<=sizeLine/\kU g tc te cs ok zs [] M1 (NC b q)
section
variable{X:Cx}{R:St->XK}{elt iter tg:Expr}{cs:List Expr}{xs:List Str}{scope:Scope}{pos:Pos}{gg:TG}{g:Dt->En->(En->Prop)->Prop}{ti:DK}{tc:DT}{te:DE}{ys:List Str}{Ψ:List Nat}(b:Bool)(S:aK X scope xs ys Ψ)(hi:JK X R tg iter ti)(hg:∀C s H fp,PG (Cx.comp X (xs++ys) scope C s H fp) tg gg)(gd:GD X.K gg g)(hk:wj xs.length gg)(ht:∀C s H fp,RP (Cx.comp X (xs++ys) scope C s H fp) cs tc)(he:∀C s H fp,JE (Cx.comp X (xs++ys) scope C s H fp) (λ_=>E0) elt te)(hc:X.calm=true)(hs:∀x,foldedSetIterable iter X.env x=pure x)
include S hi hg gd hk ht he hc hs
theorem Sr{t:DE}(e:∀ρ M q x,t ρ M q x->ti ρ M (GV b g tc te (List.replicate xs.length none++nu Ψ ρ) q) x):JE X R (.ListComp elt [⟨tg,iter,cs,0⟩] scope pos) t:=
 .of (BV (tc:=Ae X.K (λ_=>E0) tc) (te:=uE X.K (λ_=>E0) te) S hc hi hg hk ht he hs) λσ H G L ρ M q x rl n h hx=>⟨G,L,ρ,M,_,x,rl,n,e _ _ _ _ h,hx,λJ H1 ⟨xs,ok,G1,L1,M1,e1,r1,y,hz,h1⟩ D hD=>uR gd r1 (n.mono e1) y hD hz h1 λG2 L2 M2 H2 ds vs e2 r2 g2 l2 h2 n2 k=>Fin.back e1 (yP e2 r2 hD g2 l2 h2 n2 k)⟩
theorem Q1{i:Nat}{y:Str}{py kS:Pos}(hN:X.N.Nodup)(Gx:X.N[i]? =some y)(hy:Loc X.env.scope y)(Gp:swapsWith (.ListComp elt [⟨tg,iter,cs,0⟩] scope pos) (some (.Name y py)) kS.line X.env=pure true)(hf:X.fn y=true\/X.env.scope.names.lookup y=some .local){t:DE}(e:∀ρ M q x,t ρ M q x->ti ρ M (GV b g tc te (List.replicate xs.length none++nu Ψ ρ) q) x):
  JS X R (.Assign [.Name y py] (.ListComp elt [⟨tg,iter,cs,0⟩] scope pos) kS) (zU i t):= .of (v_ (tc:=Ae X.K (λ_=>E0) tc) (te:=uE X.K (λ_=>E0) te) hN Gx hy S hc hi hg hk ht he Gp hs hf) λσ H G L ρ M Dn rl n h hx=>by
 refine ⟨G,L,ρ,M,_,_,rl,n,e _ _ _ _ h,hx,λJ H1 ⟨xs,ok,G1,L1,M1,e1,r1,y,hz,h1⟩ D hD=>uR gd r1 (n.mono e1) y hD hz h1 λG2 L2 M2 H2 ds vs e2 r2 g2 l2 h2 n2 k=> ?_⟩;obtain ⟨d,G3,L3,M3,e3,r3,n3,h3⟩:=yP (q:=λd M=>Dn.nx (ρ.set i (some d)) M) e2 r2 hD g2 l2 h2 n2 k;exact ⟨_,G3,L3,M3,e1.trans e3,r3,((n.mono e1).mono e3).set i n3,h3⟩
end
def qg(te:DE)(cs:En):List Dt->List Dt->Ms->(List Dt->Ms->Prop)->Prop
 | [],υ,M,k=>k υ M
 | x::xs,υ,M,k=>te (some x::cs) M (λd M1=>qg te cs xs (υ++[d]) M1 k) l9
def u3(ti:DA)(te:DE)(Ψ:List Nat):DE:=λρ M q x=>ti ρ M (λxs M1=>xs.length<=sizeLine/\qg te (nu Ψ ρ) xs [] M1 (λys M2=>q (.lst ys) M2)) x
theorem si{te:DE}{cs:En}:∀xs,qg te cs xs=kU (gN 0) u0 te (none::cs) (λ_=>True) xs
 | []=>funext λυ=>funext λM=>funext λk=>(true_and _).symm
 | x::xs=>funext λυ=>funext λM=>funext λk=>by show te (some x::cs) M (λd M1=>qg te cs xs (υ++[d]) M1 k) l9=(True/\te (some x::cs) M (λd M1=>kU (gN 0) u0 te (none::cs) (λ_=>True) xs (υ++[d]) M1 k) l9);rw [si xs,true_and]
section
variable{X:Cx}{R:St->XK}{elt iter:Expr}{x:Str}{px:Pos}{scope:Scope}{pos:Pos}{ti:DA}{te:DE}{ys:List Str}{Ψ:List Nat}
theorem D6(S:aK X scope [x] ys Ψ)(hi:JI X R (.Name x px) iter ti)(he:∀C s H fp,JE (Cx.comp X (x::ys) scope C s H fp) (λ_=>E0) elt te)(hc:X.calm=true:=by rfl)(hs:∀x,foldedSetIterable iter X.env x=pure x:=by intro _;rfl):JE X R (.ListComp elt [⟨.Name x px,iter,[],0⟩] scope pos) (u3 ti te Ψ):=Sr false S (B7 hi) (hU S (i:=0) rfl) aJ (fE (Nat.zero_lt_succ 0)) (λ_ _ _ _=>kN) he hc hs λρ M q x h=>by unfold u3 at h;simp only [si] at h;exact h
theorem xw{i:Nat}{y:Str}{py kS:Pos}(hN:X.N.Nodup)(Gx:X.N[i]? =some y)(hy:Loc X.env.scope y)(S:aK X scope [x] ys Ψ)(hi:JI X R (.Name x px) iter ti)(he:∀C s H fp,JE (Cx.comp X (x::ys) scope C s H fp) (λ_=>E0) elt te)(hc:X.calm=true:=by rfl)(Gp:swapsWith (.ListComp elt [⟨.Name x px,iter,[],0⟩] scope pos) (some (.Name y py)) kS.line X.env=pure true:=by rfl)(hs:∀x,foldedSetIterable iter X.env x=pure x:=by intro _;rfl)(hf:X.fn y=true\/X.env.scope.names.lookup y=some .local:=by first | exact .inl rfl | exact .inr rfl | assumption):JS X R (.Assign [.Name y py] (.ListComp elt [⟨.Name x px,iter,[],0⟩] scope pos) kS) (zU i (u3 ti te Ψ)):=Q1 false S (B7 hi) (hU S (i:=0) rfl) aJ (fE (Nat.zero_lt_succ 0)) (λ_ _ _ _=>kN) he hc hs hN Gx hy Gp hf λρ M q x h=>by unfold u3 at h;simp only [si] at h;exact h
end
theorem fin_same{K:fv}{G0:Hp}{L0:List Addr}{H0 G:Hp}{L:List Addr}{M:Ms}{H:Hp}{d:Dt}{v:V}{q:DQ}(e:Ex G0 L0 H0 G L H)(r:Rl K G L M H)(n:Den K G L d v)(h:q d M):Fin K G0 L0 H0 q v H:=⟨d,G,L,M,e,r,n,h⟩
theorem cf{K:fv}{G0:Hp}{L0:List Addr}{H0 G:Hp}{L:List Addr}{M:Ms}{H:Hp}{d:Dt}{v:V}{q:DQ}(e:Ex G0 L0 H0 G L H)(r:Rl K G L M H)(h:q d M)(n:Den K G L d v:=by rfl):Fin K G0 L0 H0 q v H:=⟨d,G,L,M,e,r,n,h⟩
def z0:Dt->Dt->Ms->DQ->Prop
 | .int i, .int j,M,q=>q (.int (i+j)) M
 | .str a, .str b,M,q=>a.length+b.length<=sizeLine/\q (.str (a++b)) M
 | .lst a, .lst b,M,q=>a.length+b.length<=sizeLine/\q (.lst (a++b)) M
 | .tup a, .tup b,M,q=>(a≠[]/\a.length+b.length<=sizeLine)/\q (.tup (a++b)) M
 | _,_,_,_=>False
def Jm:Dt->Dt->Ms->DQ->Prop
 | .int i, .int j,M,q=>q (.int (i - j)) M
 | _,_,_,_=>False
def Iv:Dt->Dt->Ms->DQ->Prop
 | .int i, .int j,M,q=>(gG i/\gG j)/\q (.int (i * j)) M
 | .lst a, .int k,M,q=>(-(2 ^ 63)<=k/\k < 2 ^ 63/\a.length * k.toNat<=sizeLine)/\q (.lst (List.replicate k.toNat a).flatten) M
 | _,_,_,_=>False
def IS:Dt->Dt->Ms->DQ->Prop
 | .int i, .int j,M,q=>(0 < j/\gG j)/\q (.int (i / j)) M
 | _,_,_,_=>False
def DZ:Dt->Dt->Ms->DQ->Prop
 | .int i, .int j,M,q=>(j≠0/\gG j)/\q (.int (i.fdiv j)) M
 | _,_,_,_=>False
def JM:Dt->Dt->Ms->DQ->Prop
 | .int i, .int j,M,q=>0 < j/\q (.int (i % j)) M
 | _,_,_,_=>False
def Kn:Dt->Dt->Ms->DQ->Prop
 | .int i, .int j,M,q=>rN i j/\q (.int (i ^ j.toNat)) M
 | _,_,_,_=>False
def Co:Dt->Ms->DQ->Prop
 | .int i,M,q=>q (.int (-i)) M
 | _,_,_=>False
section
variable{K:fv}
theorem OG:md K (λx y H Q=>(∃i j,x=V.int i/\y= .int j/\Q (.int (i+j)) H)\/(∃i j,x=V.str i/\y= .str j/\i.length+j.length<=sizeLine/\Q (.str (i++j)) H)\/HW x y H Q\/HC K x y H Q) z0:=by
 intro G0 L0 H0 G L M H v1 v2 d1 d2 q e r n1 n2 h;unfold z0 at h;split at h
 ·rename_i i j;exact .inl ⟨i,j,n1,n2,cf e r h⟩
 ·rename_i a b;exact .inr (.inl ⟨a,b,n1,n2,h.1,cf e r h.2⟩)
 ·rename_i a b;obtain ⟨p1,w1,rfl,e1,m1⟩:=n1;obtain ⟨p2,w2,rfl,e2,m2⟩:=n2;refine .inr (.inr (.inl ⟨p1,p2,w1,w2,rfl,rfl,r.sub _ _ e1,r.sub _ _ e2,by rw [<-m1.length,<-m2.length];exact h.1,λp hp=> ?_⟩));exact iR e r hp (mM r hp (m1.app m2)) h.2
 ·rename_i a b;obtain ⟨p1,w1,rfl,e1,m1⟩:=n1;obtain ⟨p2,w2,rfl,e2,m2⟩:=n2;have ne:w1≠[]:=λz=>h.1.1 (by have:=m1.length;rw [z] at this;exact List.eq_nil_of_length_eq_zero this);refine .inr (.inr (.inr ⟨p1,p2,w1,w2,rfl,rfl, .inl (.inl (r.sub _ _ e1)), .inl (.inl (r.sub _ _ e2)),ne,by rw [<-m1.length,<-m2.length];exact h.1.2,λz=> ?_,λ_ p hp=> ?_⟩))
  ·have hb:b=[]:=by have:=m2.length;rw [z] at this;exact List.eq_nil_of_length_eq_zero this
   subst hb;rw [aaG] at h;exact fin_same (d:= .tup a) e r ⟨p1,w1,rfl,e1,m1⟩ h.2
  ·exact iR e r hp (mW r hp (m1.app m2)) h.2
 ·exact h.elim
theorem Qn:md K (AQ λi j=> .int (i - j)) Jm:=by
 intro G0 L0 H0 G L M H v1 v2 d1 d2 q e r n1 n2 h;unfold Jm at h;split at h
 ·exact ⟨_,_,n1,n2,cf e r h⟩
 ·exact h.elim
theorem PJ:md K (λx y H Q=>(rI (λi j=>gG i/\gG j) λi j=> .int (i * j)) x y H Q\/Im x y H Q) Iv:=by
 intro G0 L0 H0 G L M H v1 v2 d1 d2 q e r n1 n2 h;unfold Iv at h;split at h
 ·exact .inl ⟨_,_,n1,n2,h.1,cf e r h.2⟩
 ·rename_i a k;obtain ⟨p1,w1,rfl,e1,m1⟩:=n1;refine .inr ⟨p1,k,w1,rfl,n2,r.sub _ _ e1,h.1.1,h.1.2.1,by rw [<-m1.length];exact h.1.2.2,λp hp=> ?_⟩;exact iR e r hp (mM r hp (.of (q_ m1.pair k.toNat))) h.2
 ·exact h.elim
theorem PL:md K (rI (λ_ j=>j≠0/\gG j) λi j=> .int (i.fdiv j)) IS:=by
 intro G0 L0 H0 G L M H v1 v2 d1 d2 q e r n1 n2 h;unfold IS at h;split at h
 ·rename_i i j;have h0:=h.1.1;refine ⟨_,_,n1,n2,⟨by omega,h.1.2⟩,fin_same (d:= .int (i.fdiv j)) e r rfl ?_⟩;rw [abv i (aai h0)];exact h.2
 ·exact h.elim
theorem Nx:md K (rI (λ_ j=>j≠0/\gG j) λi j=> .int (i.fdiv j)) DZ:=by
 intro G0 L0 H0 G L M H v1 v2 d1 d2 q e r n1 n2 h;unfold DZ at h;split at h
 ·exact ⟨_,_,n1,n2,h.1,cf e r h.2⟩
 ·exact h.elim
theorem Q6:md K (rI (λ_ j=>0 < j) λi j=> .int (i % j)) JM:=by
 intro G0 L0 H0 G L M H v1 v2 d1 d2 q e r n1 n2 h;unfold JM at h;split at h
 ·exact ⟨_,_,n1,n2,h.1,cf e r h.2⟩
 ·exact h.elim
theorem Pe:md K (rI rN λi j=> .int (i ^ j.toNat)) Kn:=by
 intro G0 L0 H0 G L M H v1 v2 d1 d2 q e r n1 n2 h;unfold Kn at h;split at h
 ·exact ⟨_,_,n1,n2,h.1,cf e r h.2⟩
 ·exact h.elim
theorem Q0:RA K (rU λi=> .int (-i)) Co:=by
 intro G0 L0 H0 G L M H v1 d1 q e r n1 h;unfold Co at h;split at h
 ·exact ⟨_,n1,cf e r h⟩
 ·exact h.elim
end
section
variable{X:Cx}{R:St->XK}{a b c:Expr}{ta tb:DE}{pos:Pos}
theorem ck(ja:JE X R a ta)(jb:JE X R b tb):JE X R (.BinOp a .Add b pos) (iF z0 ta tb):=rH (IT.or (w_.or (C9.or Gw))) OG ja jb
theorem yB(ja:JE X R a ta)(jb:JE X R b tb):JE X R (.BinOp a .Sub b pos) (iF Jm ta tb):=rH J6 Qn ja jb
theorem br(ja:JE X R a ta)(jb:JE X R b tb):JE X R (.BinOp a .Mult b pos) (iF Iv ta tb):=rH (Fu.or Dh) PJ ja jb
theorem cF(ja:JE X R a ta)(jb:JE X R b tb):JE X R (.BinOp a .FloorDiv b pos) (iF IS ta tb):=rH vQ PL ja jb
theorem Di(ja:JE X R a ta)(jb:JE X R b tb):JE X R (.BinOp a .FloorDiv b pos) (iF DZ ta tb):=rH vQ Nx ja jb
theorem bo(ja:JE X R a ta)(jb:JE X R b tb):JE X R (.BinOp a .Mod b pos) (iF JM ta tb):=rH Iq Q6 ja jb
theorem ke(ja:JE X R a ta)(jb:JE X R b tb):JE X R (.BinOp a .Pow b pos) (iF Kn ta tb):=rH IQ Pe ja jb
theorem CG(ja:JE X R a ta):JE X R (.UnaryOp .USub a pos) (Of Co ta):=Qz Ky Q0 ja
end
def N6:Dt->Dt->Ms->DQ->Prop
 | .int i, .int j,M,q=>q (.bl (decide (i < j))) M
 | _,_,_,_=>False
def ND:Dt->Dt->Ms->DQ->Prop
 | .int i, .int j,M,q=>q (.bl (decide (i<=j))) M
 | _,_,_,_=>False
def QN:Dt->Dt->Ms->DQ->Prop
 | .int i, .int j,M,q=>q (.bl (decide (j < i))) M
 | _,_,_,_=>False
def NF:Dt->Dt->Ms->DQ->Prop
 | .int i, .int j,M,q=>q (.bl (decide (j<=i))) M
 | _,_,_,_=>False
def uq:Dt->Option V
 | .ba=>some .ba
 | .bl b=>some (.bl b)
 | .int i=>some (.int i)
 | .str x=>some (.str x)
 | _=>none
def hW:List Dt->Option (List V)
 | []=>some []
 | d::ds=>match uq d,hW ds with
  | some v,some vs=>some (v::vs)
  | _,_=>none
section
variable{K:fv}{G:Hp}{L:List Addr}
theorem kL{d:Dt}{v u:V}(h:uq d=some u)(n:Den K G L d v):v=u/\dH u=true:=by cases d <;> first | (cases h;exact ⟨n,rfl⟩) | cases h
theorem fe:∀{ds:List Dt} {vs us:List V},hW ds=some us->Ρ K G L ds vs->vs=us/\us.all dH=true
 | [],vs,us,h,n=>by cases h;exact ⟨n,rfl⟩
 | d::ds,_,us,h,⟨v,r,e,n1,n2⟩=>by
  subst e;unfold hW at h;split at h
  ·rename_i u1 u2 h1 h2;cases h;obtain ⟨a1,a2⟩:=kL h1 n1;obtain ⟨b1,b2⟩:=fe h2 n2;subst a1 b1;exact ⟨rfl,by rw [abD,a2,b2];rfl⟩
  ·cases h
end
def Eu:Dt->Dt->Ms->DQ->Prop
 | .int i, .int j,M,q=>q (.bl (decide (i=j))) M
 | .str i, .str j,M,q=>q (.bl (decide (i=j))) M
 | .bl i, .bl j,M,q=>q (.bl (decide (i=j))) M
 | .tup a, .tup b,M,q=>match hW a,hW b with
  | some us,some vs=>q (.bl (lS us vs)) M
  | _,_=>False
 | _,_,_,_=>False
def J0:Dt->Dt->Ms->DQ->Prop
 | .int i, .int j,M,q=>q (.bl (!decide (i=j))) M
 | .str i, .str j,M,q=>q (.bl (!decide (i=j))) M
 | .bl i, .bl j,M,q=>q (.bl (!decide (i=j))) M
 | .tup a, .tup b,M,q=>match hW a,hW b with
  | some us,some vs=>q (.bl (!lS us vs)) M
  | _,_=>False
 | _,_,_,_=>False
def Ks:Dt->Dt->Ms->DQ->Prop
 | .ba, .ba,M,q=>q (.bl true) M
 | .bl _, .ba,M,q=>q (.bl false) M
 | .int _, .ba,M,q=>q (.bl false) M
 | .str _, .ba,M,q=>q (.bl false) M
 | .tup _, .ba,M,q=>q (.bl false) M
 | .lst _, .ba,M,q=>q (.bl false) M
 | _,_,_,_=>False
section
variable{K:fv}
theorem RY:md K (AQ λi j=> .bl (decide (i < j))) N6:=by
 intro G0 L0 H0 G L M H v1 v2 d1 d2 q e r n1 n2 h;unfold N6 at h;split at h
 ·exact ⟨_,_,n1,n2,cf e r h⟩
 ·exact h.elim
theorem SW:md K (AQ λi j=> .bl (decide (i<=j))) ND:=by
 intro G0 L0 H0 G L M H v1 v2 d1 d2 q e r n1 n2 h;unfold ND at h;split at h
 ·exact ⟨_,_,n1,n2,cf e r h⟩
 ·exact h.elim
theorem WY:md K (AQ λi j=> .bl (decide (j < i))) QN:=by
 intro G0 L0 H0 G L M H v1 v2 d1 d2 q e r n1 n2 h;unfold QN at h;split at h
 ·exact ⟨_,_,n1,n2,cf e r h⟩
 ·exact h.elim
theorem RZ:md K (AQ λi j=> .bl (decide (j<=i))) NF:=by
 intro G0 L0 H0 G L M H v1 v2 d1 d2 q e r n1 n2 h;unfold NF at h;split at h
 ·exact ⟨_,_,n1,n2,cf e r h⟩
 ·exact h.elim
theorem iZ{p q:Prop} [Decidable p] [Decidable q](h:p↔q):decide p=decide q:=decide_eq_decide.mpr h
theorem Nt:md K (λx y H Q=>S2 x y H Q\/LF K x y H Q) Eu:=by
 intro G0 L0 H0 G L M H v1 v2 d1 d2 q e r n1 n2 h;unfold Eu at h;split at h
 ·rename_i i j;cases n1;cases n2;exact .inl ⟨rfl,fin_same (d:= .bl _) e r (by show V.bl _=V.bl _;rw [iZ (p:=V.int i=V.int j) (q:=i=j) ⟨λz=>V.int.inj z,λz=>by rw [z]⟩]) h⟩
 ·rename_i i j;cases n1;cases n2;exact .inl ⟨rfl,fin_same (d:= .bl _) e r (by show V.bl _=V.bl _;rw [iZ (p:=V.str i=V.str j) (q:=i=j) ⟨λz=>V.str.inj z,λz=>by rw [z]⟩]) h⟩
 ·rename_i i j;cases n1;cases n2;exact .inl ⟨rfl,fin_same (d:= .bl _) e r (by show V.bl _=V.bl _;rw [iZ (p:=V.bl i=V.bl j) (q:=i=j) ⟨λz=>V.bl.inj z,λz=>by rw [z]⟩]) h⟩
 ·rename_i a b;obtain ⟨p1,w1,rfl,e1,m1⟩:=n1;obtain ⟨p2,w2,rfl,e2,m2⟩:=n2;split at h
  ·rename_i us vs h1 h2;obtain ⟨rfl,a2⟩:=fe h1 m1;obtain ⟨rfl,b2⟩:=fe h2 m2;exact .inr ⟨p1,p2,_,_,rfl,rfl, .inl (.inl (r.sub _ _ e1)), .inl (.inl (r.sub _ _ e2)),a2,b2,cf e r h⟩
  ·exact h.elim
 ·exact h.elim
theorem Ri:md K (λx y H Q=>SF x y H Q\/LR K x y H Q) J0:=by
 intro G0 L0 H0 G L M H v1 v2 d1 d2 q e r n1 n2 h;unfold J0 at h;split at h
 ·rename_i i j;cases n1;cases n2;exact .inl ⟨rfl,fin_same (d:= .bl _) e r (by show V.bl _=V.bl _;rw [iZ (p:=V.int i=V.int j) (q:=i=j) ⟨λz=>V.int.inj z,λz=>by rw [z]⟩]) h⟩
 ·rename_i i j;cases n1;cases n2;exact .inl ⟨rfl,fin_same (d:= .bl _) e r (by show V.bl _=V.bl _;rw [iZ (p:=V.str i=V.str j) (q:=i=j) ⟨λz=>V.str.inj z,λz=>by rw [z]⟩]) h⟩
 ·rename_i i j;cases n1;cases n2;exact .inl ⟨rfl,fin_same (d:= .bl _) e r (by show V.bl _=V.bl _;rw [iZ (p:=V.bl i=V.bl j) (q:=i=j) ⟨λz=>V.bl.inj z,λz=>by rw [z]⟩]) h⟩
 ·rename_i a b;obtain ⟨p1,w1,rfl,e1,m1⟩:=n1;obtain ⟨p2,w2,rfl,e2,m2⟩:=n2;split at h
  ·rename_i us vs h1 h2;obtain ⟨rfl,a2⟩:=fe h1 m1;obtain ⟨rfl,b2⟩:=fe h2 m2;exact .inr ⟨p1,p2,_,_,rfl,rfl, .inl (.inl (r.sub _ _ e1)), .inl (.inl (r.sub _ _ e2)),a2,b2,cf e r h⟩
  ·exact h.elim
 ·exact h.elim
theorem PR:md K (λx y H Q=>y= .ba/\Q (.bl (decide (x= .ba))) H) Ks:=by
 intro G0 L0 H0 G L M H v1 v2 d1 d2 q e r n1 n2 h;unfold Ks at h;split at h
 ·cases n1;exact ⟨n2,fin_same (d:= .bl true) e r (by show V.bl _=V.bl _;rw [aav rfl]) h⟩
 ·cases n1;exact ⟨n2,fin_same (d:= .bl false) e r (by show V.bl _=V.bl _;rw [aaD (λz=>nomatch z)]) h⟩
 ·cases n1;exact ⟨n2,fin_same (d:= .bl false) e r (by show V.bl _=V.bl _;rw [aaD (λz=>nomatch z)]) h⟩
 ·cases n1;exact ⟨n2,fin_same (d:= .bl false) e r (by show V.bl _=V.bl _;rw [aaD (λz=>nomatch z)]) h⟩
 ·obtain ⟨p1,w1,rfl,_⟩:=n1;exact ⟨n2,fin_same (d:= .bl false) e r (by show V.bl _=V.bl _;rw [aaD (λz=>nomatch z)]) h⟩
 ·obtain ⟨p1,w1,rfl,_⟩:=n1;exact ⟨n2,fin_same (d:= .bl false) e r (by show V.bl _=V.bl _;rw [aaD (λz=>nomatch z)]) h⟩
 ·exact h.elim
end
section
variable{X:Cx}{R:St->XK}{a b c:Expr}{ta tb:DE}{pos:Pos}
theorem zB(ja:JE X R a ta)(jb:JE X R b tb):JE X R (.Compare a [.Lt] [b] pos) (iF N6 ta tb):=p_ GY RY ja jb (fm _)
theorem ug(ja:JE X R a ta)(jb:JE X R b tb):JE X R (.Compare a [.LtE] [b] pos) (iF ND ta tb):=p_ Ho SW ja jb (fm _)
theorem RF(ja:JE X R a ta)(jb:JE X R b tb):JE X R (.Compare a [.GtE] [b] pos) (iF NF ta tb):=p_ Hi RZ ja jb (fm _)
theorem MW{k:Nat}(hr:bG k X.A)(ja:JE X R a ta)(jb:JE X R b tb):JE X R (.Compare a [.Eq] [b] pos) (iF Eu ta tb):=p_ (He.or (CL hr.x_)) Nt ja jb (fm _)
theorem yW(ja:JE X R a ta)(jb:JE X R b tb):JT X R (.Compare a [.Lt] [b] pos) (kD (iF N6 ta tb)):=f_ GY RY ja jb (fm _)
theorem MF(ja:JE X R a ta)(jb:JE X R b tb):JT X R (.Compare a [.LtE] [b] pos) (kD (iF ND ta tb)):=f_ Ho SW ja jb (fm _)
theorem Hz(ja:JE X R a ta)(jb:JE X R b tb):JT X R (.Compare a [.Gt] [b] pos) (kD (iF QN ta tb)):=f_ Ng WY ja jb (fm _)
theorem MQ(ja:JE X R a ta)(jb:JE X R b tb):JT X R (.Compare a [.GtE] [b] pos) (kD (iF NF ta tb)):=f_ Hi RZ ja jb (fm _)
theorem cW{k:Nat}(hr:bG k X.A)(ja:JE X R a ta)(jb:JE X R b tb):JT X R (.Compare a [.Eq] [b] pos) (kD (iF Eu ta tb)):=f_ (He.or (CL hr.x_)) Nt ja jb (fm _)
theorem nB{k:Nat}(hr:bG k X.A)(ja:JE X R a ta)(jb:JE X R b tb):JT X R (.Compare a [.NotEq] [b] pos) (kD (iF J0 ta tb)):=f_ (LV.or (Jq hr.x_)) Ri ja jb (fm _)
theorem J8(ja:JE X R a ta)(jb:JE X R b tb):JT X R (.Compare a [.Is] [b] pos) (kD (iF Ks ta tb)):=f_ II PR ja jb (fm _)
end
def mJ(M:Ms):Dt->Option (List Dt)
 | .lst xs=>some xs
 | .tup xs=>some xs
 | .fc ns=>some (ns.map .int)
 | .kt xs=>some xs
 | .loc k=>match M[k]? with
  | some (.lst xs)=>some xs
  | _=>none
 | _=>none
theorem mN{K:fv}{G:Hp}{L:List Addr}{M:Ms}{H:Hp}{d:Dt}{v:V}{xs:List Dt}(r:Rl K G L M H)(n:Den K G L d v)(h:mJ M d=some xs):∃a vs,v= .ref a/\(gM K H a vs\/k8 K H a vs)/\Ρ K G L xs vs:=by
 cases d with
 | lst ds=>cases h;obtain ⟨a,vs,rfl,e,m⟩:=n;exact ⟨a,vs,rfl, .inl (.of (r.sub _ _ e)),m⟩
 | tup ds=>cases h;obtain ⟨a,vs,rfl,e,m⟩:=n;exact ⟨a,vs,rfl, .inr (.of (r.sub _ _ e)),m⟩
 | kt ds=>cases h;obtain ⟨a,vs,rfl,e,m⟩:=n;exact ⟨a,vs,rfl, .inr (r.sub.ME e),m⟩
 | fc ns=>cases h;obtain ⟨a,rfl,e⟩:=n;exact ⟨a,_,rfl, .inl (r.sub.seq e),iL⟩
 | loc k=>
  obtain ⟨a,rfl,e⟩:=n;have h:(match M[k]? with | some (.lst xs)=>some xs | _=>none)=some xs:=h;split at h
  ·rename_i ys hm;cases h;obtain ⟨_,vs,e1,m1⟩:=r.fH k a _ e hm;exact ⟨a,vs,rfl, .inl (.of e1),m1⟩
  ·cases h
 | _=>cases h
theorem Fz{K:fv}{G:Hp}{L:List Addr}{ds:List Dt}{vs:List V}{i:Int}{d:Dt}(n:Ρ K G L ds vs)(h:jh ds i=some d):∃v,jh vs i=some v/\Den K G L d v:=by
 unfold jh at h⊢;rw [<-n.length];cases q:AV ds.length i with
 | none=>rw [q] at h;cases h
 | some j=>
  rw [q] at h;obtain ⟨v,e,m⟩:=n.get h;exact ⟨v,e,m⟩
def cB:Dt->Dt->Ms->DQ->Prop
 | .str z, .int i,M,q=>z.length<=sizeLine/\match jh z.cps.toList i with
  | some c=>q (.str ⟨#[c]⟩) M
  | none=>False
 | d, .int i,M,q=>match mJ M d with
  | some xs=>(match jh xs i with
   | some y=>q y M
   | none=>False)
  | none=>False
 | _,_,_,_=>False
def gC:List Dt->Ms->DQ->Prop
 | [.str z],M,q=>z.length<=sizeLine/\q (.int z.length) M
 | [d],M,q=>match mJ M d with
  | some xs=>q (.int xs.length) M
  | none=>False
 | _,_,_=>False
section
variable{K:fv}
theorem WE:md K (SN K) cB:=by
 intro G0 L0 H0 G L M H v1 v2 d1 d2 q e r n1 n2 h;unfold cB at h;split at h
 ·rename_i z i;split at h
  ·rename_i c hc;exact .inr (.inr ⟨z,i,c,n1,n2,h.1,hc,cf e r h.2⟩)
  ·exact h.2.elim
 ·rename_i d i _;split at h
  ·rename_i xs hx;split at h
   ·rename_i y hy;obtain ⟨a,vs,rfl,hs,m⟩:=mN r n1 hx;obtain ⟨v,e1,m1⟩:=Fz m hy;rcases hs with hs | hs
    ·exact .inl ⟨a,vs,i,v,rfl,n2,hs,e1,fin_same e r m1 h⟩
    ·exact .inr (.inl ⟨a,vs,i,v,rfl,n2,hs,e1,fin_same e r m1 h⟩)
   ·exact h.elim
  ·exact h.elim
 ·exact h.elim
theorem QO:DW K (λxs H Q=>(∃z,xs=[V.str z]/\z.length<=sizeLine/\Q (.int z.length) H)\/(∃p ys,xs=[V.ref p]/\(gM K H p ys\/k8 K H p ys)/\Q (.int ys.length) H)) gC:=by
 intro G0 L0 H0 G L M H vs ds q e r n h;unfold gC at h;split at h
 ·rename_i z;obtain ⟨v,rfl,n1⟩:=b_ n;cases n1;exact .inl ⟨z,rfl,h.1,cf e r h.2⟩
 ·rename_i d _;obtain ⟨v,rfl,n1⟩:=b_ n;split at h
  ·rename_i xs hx;obtain ⟨a,ws,rfl,hs,m⟩:=mN r n1 hx;exact .inr ⟨a,ws,rfl,hs,fin_same (d:= .int xs.length) e r (by show V.int _=V.int _;rw [m.length]) h⟩
  ·exact h.elim
 ·exact h.elim
end
section
variable{X:Cx}{R:St->XK}{a b c:Expr}{ta tb:DE}{pos:Pos}
theorem Α(ja:JE X R a ta)(jb:JE X R b tb)(hs:tL b:=by exact λ_ _=>rfl):JE X R (.Subscript a b pos) (iF cB ta tb):=K7 Ij WE ja jb hs
variable{x:Str}{p:Pos}{e:Expr}{es:List Expr}{t:DA}{id T:String}{r:List V->Hp->VK->Prop}{f:List Dt->Ms->DQ->Prop}
theorem iV(hc:eJ X (.builtin id) r)(cd:DW X.K r f)(hm:X.mg x=none)(hv:bootBuiltins x=some (.builtin id))(ha:JA X R (e::es) t)(hg:Gl X x:=by rfl)(hn:x≠"__name__":=by decide)(nz:(x==("__debug__":Str))=false:=by decide)
  (he:starEach (e::es) X.env=(false,eval e X.env)::starEach es X.env:=by rfl) (fo:(backTo pos (starEach es X.env)).any (·.1)=false:=by rfl):JE X R (.Call (.Name x p) (e::es) [] pos) (A5 f t):=
 .of (CP hc hg hm hv ha hn nz he fo) λσ H G L ρ M q x r n h hx=>Hc cd r n h hx
theorem vJ(hc:eJ X (.type T) r)(cd:DW X.K r f)(hm:X.mg x=none)(hv:bootBuiltins x=some (.type T))(ha:JA X R (e::es) t)(hg:Gl X x:=by rfl)(hn:x≠"__name__":=by decide)(nz:(x==("__debug__":Str))=false:=by decide)
  (he:starEach (e::es) X.env=(false,eval e X.env)::starEach es X.env:=by rfl) (fo:(backTo pos (starEach es X.env)).any (·.1)=false:=by rfl):JE X R (.Call (.Name x p) (e::es) [] pos) (A5 f t):=
 .of (Aw hc hg hm hv ha hn nz he fo) λσ H G L ρ M q x r n h hx=>Hc cd r n h hx
theorem c7(hm:X.mg "len"=none)(ha:JA X R [e] t)(he:starEach [e] X.env=(false,eval e X.env)::starEach [] X.env:=by rfl)(fo:(backTo pos (starEach [] X.env)).any (·.1)=false:=by rfl)(hg:Gl X "len":=by rfl):JE X R (.Call (.Name "len" p) [e] [] pos) (A5 gC t):=
 iV (rq.or sC) QO hm PySem.boot_len ha hg (by decide) (by decide) he fo
end
def Jk:List Dt->Ms->DQ->Prop
 | [.int i],M,q=>q (.int (if i < 0 then -i else i)) M
 | _,_,_=>False
def JD:List Dt->Ms->DQ->Prop
 | [d],M,q=>∃bs:List Bool,mJ M d=some (bs.map Dt.bl)/\(∀k,d≠ .kt k)/\(∀k,d≠ .tup k)/\q (.bl (bs.any id)) M
 | _,_,_=>False
def Hs:Dt->Option Value
 | .ba=>some (.type "NoneType")
 | .bl _=>some (.type "bool")
 | .int _=>some (.type "int")
 | .str _=>some (.type "str")
 | .lst _=>some (.type "list")
 | .tup _=>some (.type "tuple")
 | _=>none
def KS:Dt->Option Value
 | .ty T=>some (.type T)
 | .ref C=>some (.ref C)
 | _=>none
section
variable{K:fv}
theorem qA{G:Hp}{L:List Addr}:∀{l:List Str},Ρ K G L (l.map Dt.str) (l.map V.str)
 | []=>rfl
 | _::_=>⟨_,_,rfl,rfl,qA⟩
theorem j_{G:Hp}{L:List Addr}:∀{bs:List Bool} {vs:List V},Ρ K G L (bs.map Dt.bl) vs->vs=bs.map V.bl
 | [],_,h=>h
 | b::bs,_,⟨v,r,e,h1,h2⟩=>by subst e;rw [j_ h2,show v=V.bl b from h1];rfl
theorem OW:DW K (λxs H Q=>∃i,xs=[V.int i]/\Q (.int (if i < 0 then -i else i)) H) Jk:=by
 intro G0 L0 H0 G L M H vs ds q e r n h;unfold Jk at h;split at h
 ·rename_i i;obtain ⟨v,rfl,n1⟩:=b_ n;cases n1;exact ⟨i,rfl,cf e r h⟩
 ·exact h.elim
theorem QA:DW K (LI K) JD:=by
 intro G0 L0 H0 G L M H vs ds q e r n h;unfold JD at h;split at h
 ·rename_i d;obtain ⟨bs,hs,nk,nt,h⟩:=h;obtain ⟨v,rfl,n1⟩:=b_ n;cases d with
  | lst xs=>
   cases hs;obtain ⟨a,ws,rfl,e1,m⟩:=n1;exact ⟨a,bs,rfl,by rw [<-j_ m];exact .of (r.sub _ _ e1),cf e r h⟩
  | loc k=>
   obtain ⟨a,rfl,e1⟩:=n1;have hs:(match M[k]? with | some (.lst xs)=>some xs | _=>none)=some (bs.map Dt.bl):=hs;split at hs
   ·rename_i ys hm;cases hs;obtain ⟨_,ws,e2,m⟩:=r.fH k a _ e1 hm;exact ⟨a,bs,rfl,by rw [<-j_ m];exact .of e2,cf e r h⟩
   ·cases hs
  | tup xs=>exact aaJ rfl (nt xs)
  | kt xs=>exact aaJ rfl (nk xs)
  | fc ns=>
   have e0:ns.map Dt.int=bs.map Dt.bl:=aan hs;cases ns with
   | nil=>
    cases bs with
    | nil=>obtain ⟨a,rfl,e1⟩:=n1;exact ⟨a,[],rfl,r.sub.seq e1,cf e r h⟩
    | cons _ _=>cases e0
   | cons _ _=>
    cases bs with
    | nil=>cases e0
    | cons _ _=>cases e0
  | _=>cases hs
 ·exact h.elim
theorem AU{G:Hp}{L:List Addr}{M:Ms}{H:Hp}{d:Dt}{v:V}{t:Value}(r:Rl K G L M H)(n:Den K G L d v)(h:Hs d=some t):i8 K H v t:=by
 cases d with
 | ba=>cases h;cases n;exact .ba
 | bl b=>cases h;cases n;exact .bl _
 | int i=>cases h;cases n;exact .int _
 | str x=>cases h;cases n;exact .str _
 | lst xs=>cases h;obtain ⟨a,ws,rfl,e,_⟩:=n;exact .lst (r.sub _ _ e)
 | tup xs=>cases h;obtain ⟨a,ws,rfl,e,_⟩:=n;exact .tup (r.sub _ _ e)
 | _=>cases h
theorem EY{G:Hp}{L:List Addr}{d:Dt}{v:V}{t:Value}(n:Den K G L d v)(h:KS d=some t):EU v=some t:=by
 cases d with
 | ty T=>cases n;exact h
 | ref C=>cases n;exact h
 | _=>cases h
end
section
variable{X:Cx}{R:St->XK}{o a e e1 e2:Expr}{es:List Expr}{to ta te:DE}{t:DA}{name:Str}{apos bH pos p p2:Pos}{T id:String}
theorem qm:bootBuiltins "int"=some (.type "int"):=by decide+kernel
theorem Ax:bootBuiltins "abs"=some (.builtin "abs"):=by decide+kernel
theorem zD:bootBuiltins "any"=some (.builtin "any"):=by decide+kernel
theorem lW:bootBuiltins "isinstance"=some (.builtin "isinstance"):=by decide+kernel
theorem nO:bootBuiltins "bool"=some (.type "bool"):=by decide+kernel
theorem my:bootBuiltins "tuple"=some (.type "tuple"):=by decide+kernel
theorem oi:bootBuiltins "list"=some (.type "list"):=by decide+kernel
theorem xo{x:Str}{T:String}(hm:X.mg x=none)(hv:bootBuiltins x=some (.type T))(hg:Gl X x:=by rfl)(hn:x≠"__name__":=by decide)(hd:(x==("__debug__":Str))=false:=by decide):JE X R (.Name x p) (dC (.ty T)):=JP (Gz (v:= .ty T) hg hm hv rfl hn hd) λ_ _=>rfl
theorem pC{x:Str}{z:Int}(hm:∃tk,X.mg x=some (.int z tk))(hg:Gl X x:=by rfl)(hd:(x==("__debug__":Str))=false:=by decide):JE X R (.Name x p) (dC (.int z)):=let ⟨tk,hm⟩:=hm;JP (y6 (v:= .int z) hg hm ⟨tk,rfl⟩ hd) λ_ _=>rfl
end
def N7(x:Str):It:=⟨λi _=>i < x.cps.size,λi H v H'=>H'=H/\∃c,x.cps[i]? =some c/\v= .str ⟨#[c]⟩,λi _=>x.cps.size<=i⟩
theorem z7{P:Program}{w:World}{K:fv}{tg:Expr}(x:Str)(t:Tok)(it:Addr):tY P w K tg (N7 x) [it] it (λi h=>h.IsStrIter it "str_ascii_iterator" x t i) where
 mem:=by simp
 obj:=λi h st b hb=>by
  have e:b=it:=by simpa using hb
  subst e;obtain ⟨o,e,c,d⟩:=st;exact ⟨o,e,λv z=>by rw [d] at z;cases z⟩
 keep:=λi h h' st k=>let ⟨o,ho,r⟩:=st;⟨o,k it (by simp) o ho,r⟩
 item:=by intro X hP hw hK hc i ε s σ H E I hf st hg;subst hP hw hK;obtain ⟨f0,f1,f2,f3,f4,f5⟩:=hf it (by simp);have hg:i < x.cps.size:=hg;refine wpAny_pyNext_ascii_item st (c:=x.cps[i]) (by simp [hg]) λh' yR sb=> ?_;have I1:Inv X ε σ H {s with heap:=h',toks:=s.toks+1}:=I.turned (λb o hb e=>(sb.2 b hb).trans e) f0 f1 f3 f4 f5;obtain ⟨o,e,c,d⟩:=id yR;exact ⟨_,rfl,vE (s:={s with heap:=h',toks:=s.toks+1}) e c d (by decide) ⟨.str ⟨#[x.cps[i]]⟩,H,I1,⟨_,rfl⟩,⟨rfl,_,by simp [hg],rfl⟩,yR,λb hb=>(hf b hb).1⟩⟩
 done:=by intro X hP hw hK hc i ε s σ H E I hf st hg;subst hP hw hK;obtain ⟨f0,f1,f2,f3,f4,f5⟩:=hf it (by simp);have hg:x.cps.size<=i:=hg;exact wpAny_pyNext_ascii_end (I.ok.hd hc) st (by simp;omega) λh' eb=>⟨rfl,I.turned (t':=s.toks) (λb o hb e=>eb b o hb e) f0 f1 f3 f4 f5⟩
 self:=λ_ _ _ _ _ st h=>wpAny_pyIter_striter_ascii st h
theorem Az{P:Program}{w:World}{K:fv}{tg:Expr}(x:Str)(t:Tok)(it:Addr):tY P w K tg (N7 x) [it] it (λi h=>h.IsStrIter it "str_iterator" x t i) where
 mem:=by simp
 obj:=λi h st b hb=>by
  have e:b=it:=by simpa using hb
  subst e;obtain ⟨o,e,c,d⟩:=st;exact ⟨o,e,λv z=>by rw [d] at z;cases z⟩
 keep:=λi h h' st k=>let ⟨o,ho,r⟩:=st;⟨o,k it (by simp) o ho,r⟩
 item:=by intro X hP hw hK hc i ε s σ H E I hf st hg;subst hP hw hK;obtain ⟨f0,f1,f2,f3,f4,f5⟩:=hf it (by simp);have hg:i < x.cps.size:=hg;refine wpAny_pyNext_wide_item st (c:=x.cps[i]) (by simp [hg]) λh' yR sb=> ?_;have I1:Inv X ε σ H {s with heap:=h',toks:=s.toks+1}:=I.turned (λb o hb e=>(sb.2 b hb).trans e) f0 f1 f3 f4 f5;obtain ⟨o,e,c,d⟩:=id yR;exact ⟨_,rfl,vE (s:={s with heap:=h',toks:=s.toks+1}) e c d (by decide) ⟨.str ⟨#[x.cps[i]]⟩,H,I1,⟨_,rfl⟩,⟨rfl,_,by simp [hg],rfl⟩,yR,λb hb=>(hf b hb).1⟩⟩
 done:=by intro X hP hw hK hc i ε s σ H E I hf st hg;subst hP hw hK;obtain ⟨f0,f1,f2,f3,f4,f5⟩:=hf it (by simp);have hg:x.cps.size<=i:=hg;exact wpAny_pyNext_wide_end (I.ok.hd hc) st (by simp;omega) λh' eb=>⟨rfl,I.turned (t':=s.toks) (λb o hb e=>eb b o hb e) f0 f1 f3 f4 f5⟩
 self:=λ_ _ _ _ _ st h=>wpAny_pyIter_striter_wide st h
def sF(z:Str):List Dt:=z.cps.toList.map λc=>Dt.str ⟨#[c]⟩
theorem J4{K:fv}{G:Hp}{L:List Addr}{z:Str}:Yl K (N7 z) (sF z) G L where
 go :=λi G1 L1 M1 H1 d g l r e=>by
  unfold sF at e;rw [aax] at e;cases q:z.cps.toList[i]? with
  | none=>rw [q] at e;cases e
  | some c=>
   rw [q] at e;cases e;have hi:i < z.cps.size:=by have:=(aah.mp q).1;simpa using this
   refine ⟨hi,λv' H' ⟨eH,c',e',y⟩=> ?_⟩;subst eH y;have:c'=c:=by rw [<-Array.getElem?_toList,q] at e';exact (aan e').symm
   subst this;exact ⟨G1, .refl _ _ _,r,rfl⟩
 stop:=λi G1 L1 M1 H1 g l r e=>by unfold sF at e;show z.cps.size<=i;simpa using e
def Nz(M:Ms):Dt->Option (List Dt)
 | .lst xs=>some xs
 | .tup xs=>some xs
 | .fc ns=>some (ns.map .int)
 | .kt xs=>some xs
 | .str z=>some (sF z)
 | _=>none
section
variable{X:Cx}{R:St->XK}{tg e:Expr}{te:DE}
theorem sf{ε:List (Addr×Obj)}{σ:St}{H:Hp}{s:Shared}{a:Addr}{vs:List V}{Q:It->Hp->Prop}{E:Value->Shared->Prop}(I:Inv X ε σ H s)(hq:gM X.K H a vs)(q:Q (Oh X.K a) H):wpAny (model X.prog X.w) X.A (pyIter (.ref a)) (Gk X ε σ tg Q) E s:=by
 obtain ⟨its,rv,p,hz⟩:=I.list hq;refine wpAny_pyIter_list p.isList ?_;refine ⟨s.heap.objs.size,[s.heap.objs.size],_,_,H,rfl,I.kept (t':=s.toks) λb o e=>aal _ e,zZ a _,⟨_,aaQ _ rfl,rfl,rfl⟩,λb hb=> ?_,q⟩;have e:b=s.heap.objs.size:=by simpa using hb
 subst e;exact I.AE (aam _) (I.aR.fresh (aam _))
theorem BE{ε:List (Addr×Obj)}{σ:St}{H:Hp}{s:Shared}{a:Addr}{vs:List V}{Q:It->Hp->Prop}{E:Value->Shared->Prop}(I:Inv X ε σ H s)(hq:k8 X.K H a vs)(q:Q (Qf X.K a) H):wpAny (model X.prog X.w) X.A (pyIter (.ref a)) (Gk X ε σ tg Q) E s:=by
 obtain ⟨its,rv,p,hz⟩:=I.tuple hq;refine wpAny_pyIter_tuple (show s.heap.IsTuple a its.toArray from p) ?_;refine ⟨s.heap.objs.size,[s.heap.objs.size],_,_,H,rfl,I.kept (t':=s.toks) λb o e=>aal _ e,xA a _,⟨_,aaQ _ rfl,rfl,rfl⟩,λb hb=> ?_,q⟩;have e:b=s.heap.objs.size:=by simpa using hb
 subst e;exact I.AE (aam _) (I.aR.fresh (aam _))
theorem Kd{ε:List (Addr×Obj)}{σ:St}{H:Hp}{s:Shared}{z:Str}{t:Tok}{Q:It->Hp->Prop}{E:Value->Shared->Prop}(I:Inv X ε σ H s)(q:Q (N7 z) H):wpAny (model X.prog X.w) X.A (pyIter (.str z t)) (Gk X ε σ tg Q) E s:=by
 have fp:∀b∈[s.heap.objs.size],pA X ε H b:=λb hb=>by
  have e:b=s.heap.objs.size:=by simpa using hb
  subst e;exact I.AE (aam _) (I.aR.fresh (aam _))
 cases ha:z.cps.all (· < 128)
 ·exact wpAny_pyIter_wide ha ⟨s.heap.objs.size,[s.heap.objs.size],_,_,H,rfl,I.kept (t':=s.toks) λb o e=>aal _ e,Az z t _,⟨_,aaQ _ rfl,rfl,rfl⟩,fp,q⟩
 ·exact wpAny_pyIter_ascii ha ⟨s.heap.objs.size,[s.heap.objs.size],_,_,H,rfl,I.kept (t':=s.toks) λb o e=>aal _ e,z7 z t _,⟨_,aaQ _ rfl,rfl,rfl⟩,fp,q⟩
end
def Ih:DF:=λds _ q _=>∃ns:List Int,ds=[.fc ns]/\ns.length<=63/\∀M',q (.bl true) M'
def wc(K:fv):Sp:=λvs H Q _=>∃(a:Addr) (ns:List Int),vs=[.ref a]/\gM K H a (ns.map V.int)/\ns.length<=63/\∀H',Q (.bl true) H'
theorem J7{P:Program}{w:World}{K:fv}{mg:Str->Option Value}{base:Heap}{k:Nat}{f:Addr}{fd:FuncData}{x:Str}(F:ar P w K mg base (cR P w) k f fd [x] (dE K Ih)):ar P w K mg base N8 k f fd [x] (wc K):=by
 have sp:∀vs H Q E,wc K vs H Q E->dE K Ih vs H Q E0:=by rintro vs H Q E ⟨a,ns,rfl,hS,hl,hQ⟩;refine ⟨H,[],[.fc ns],[],λd _=>d= .bl true,λ_ _ _=>False,⟨.refl _,rfl,List.nodup_nil,λk a m h=>by simp at h⟩,⟨_,_,rfl,⟨a,rfl,hS⟩,rfl⟩,⟨ns,rfl,hl,λ_=>rfl⟩,λv H' ⟨d,G',L',M',_,_,n,e⟩=> ?_,λ_ _ _ _ _ _ _ h=>h.elim⟩;subst e;rw [show v=V.bl true from n];exact hQ H'
 refine ⟨λvs H Q E h=>F.len vs H Q E0 (sp vs H Q E h),λA outer s H args us vs Q E hr he hb hv h=>codeAny_mono (F.run A outer s H args us vs Q E0 hr he hb hv (sp vs H Q E h)) λr s' hq=> ?_⟩;cases r with
 | error e=>
  obtain ⟨_,_,_,_,_,_,_,_,hE⟩:=hq;exact hE.elim
 | ok fl=>cases fl <;> exact hq
def J3(c:DT)(tb:DS):DS:=λDn ρ M=>∃W:Nat->En->Ms->Prop,(∃m,W m ρ M)/\∀m ρ M,W m ρ M->
 c ρ M (λb M1=>(b=true->∃N:En->Ms->Prop,(∀ρ' M',N ρ' M'->∃m',m' < m/\W m' ρ' M')/\tb {Dn with nx:=N,ct:=N,bk:=Dn.nx} ρ M1)/\(b=false->Dn.nx ρ M1)) Dn.x
def OM(i j:Nat)(t:DA):DS:=λDn ρ M=>t ρ M (λds M1=>match ds with
 | [a,b]=>Dn.nx ((ρ.set i (some a)).set j (some b)) M1
 | _=>False) Dn.x
section
variable{X:Cx}{R:St->XK}{c a b:Expr}{body:List Stmt}{tc:DT}{tb:DS}{pos:Pos}
theorem oR(hc:JT X R c tc)(hb:zF X R body tb)(hp:PassesOwn (model X.prog X.w) X.A X.env X.xe:=by first | exact PassesOwn.never | exact PassesOwn.leaving):JS X R (.While c body [] pos) (J3 tc tb):= .of (Bg hp hc hb) λσ H G L ρ M Dn rl n h hx=>by
 obtain ⟨W,⟨m0,w0⟩,turn⟩:=h;refine ⟨λm σ' H'=>e7 X.K G L H (W m) σ' H',⟨m0,ρ,G,L,M, .refl _ _ _,rl,n,w0⟩,λm σ' H' ⟨ρ',G',L',M',e',r',n',w'⟩=> ?_⟩;refine ⟨G',L',ρ',M',_,_,r',n',turn m ρ' M' w',hx.on e',λv H1 ⟨G1,L1,M1,e1,r1,h1⟩=> ?_⟩;cases v with
 | true=>
  obtain ⟨N,hN,hb⟩:=h1.1 rfl;refine zo ⟨e7 X.K G L H N,λσ2 H2 ⟨ρ2,G2,L2,M2,e2,r2,n2,h2⟩=> ?_, ?_⟩
  ·obtain ⟨m',hm,w2⟩:=hN ρ2 M2 h2;exact ⟨m',hm,ρ2,G2,L2,M2,e2,r2,n2,w2⟩
  ·have Mh:=e'.trans e1;exact ⟨G1,L1,ρ',M1,_,r1,n'.mono e1,hb,hx.on Mh,⟨λ_ _ f=>e7.back Mh f,λ_ _ f=>Fin.back Mh f,λ_ _ f=>e7.back Mh f,λ_ _ f=>e7.back Mh f⟩⟩
 | false=>exact zP ⟨ρ',G1,L1,M1,e'.trans e1,r1,n'.mono e1,h1.2 rfl⟩
theorem IC{i j:Nat}{x y:Str}{t:DA}{px py pt:Pos}{kt k2 Jt}(hN:X.N.Nodup)(hi:X.N[i]? =some x)(hj:X.N[j]? =some y)(ha:JA X R [a,b] t)(Qt:i≠j:=by decide)
  (hx:X.env.scope.names.lookup x=some .local:=by rfl) (hy:X.env.scope.names.lookup y=some .local:=by rfl)
  (hw:swappedStores [.Tuple [.Name x px, .Name y py] kt pt] (.Tuple [a,b] k2 Jt) X.env=pure (some [x,y]):=by rfl) (hc:X.calm=true:=by rfl)
  (hs:swapsWithSole [.Tuple [.Name x px, .Name y py] kt pt] (.Tuple [a,b] k2 Jt) pos.line X.env=pure false:=by rfl):
  JS X R (.Assign [.Tuple [.Name x px, .Name y py] kt pt] (.Tuple [a,b] k2 Jt) pos) (OM i j t):= .of (JH hc hN hi hj Qt hx hy ha hw hs) λσ H G L ρ M Dn rl n h hx=>by
 refine ⟨G,L,ρ,M,_,_,rl,n,h,hx,λvs H1 ⟨ds,G1,L1,M1,e1,r1,n1,h1⟩=> ?_⟩
 (try dsimp only at h1)
 split at h1
 ·obtain ⟨v,u,rfl,m1,m2⟩:=ft n1;exact ⟨v,u,rfl,_,G1,L1,M1,e1,r1,((n.mono e1).set i m1).set j m2,h1⟩
 ·exact h1.elim
end
section
variable{X:Cx}{R:St->XK}{e e2 o:Expr}{es:List Expr}{t:DA}{to ta tb:DE}{a b:Expr}{p pos apos bH:Pos}
theorem yj(hm:X.mg "abs"=none)(ha:JA X R [e] t)(he:starEach [e] X.env=(false,eval e X.env)::starEach [] X.env:=by rfl)(fo:(backTo pos (starEach [] X.env)).any (·.1)=false:=by rfl)(hg:Gl X "abs":=by rfl):JE X R (.Call (.Name "abs" p) [e] [] pos) (A5 Jk t):=
 iV Cz OW hm Ax ha hg (by decide) (by decide) he fo
theorem Ny(hm:X.mg "any"=none)(ha:JA X R [e] t)(hc:X.calm=true:=by rfl)(he:starEach [e] X.env=(false,eval e X.env)::starEach [] X.env:=by rfl)(fo:(backTo pos (starEach [] X.env)).any (·.1)=false:=by rfl)(hg:Gl X "any":=by rfl):JE X R (.Call (.Name "any" p) [e] [] pos) (A5 JD t):=
 iV (BH hc) QA hm zD ha hg (by decide) (by decide) he fo
end
theorem lx{te:DE}{cs:En}{f:Dt->Dt}{M:Ms}{k:List Dt->Ms->Prop}:∀(xs υ:List Dt),(∀x∈xs,∀q:DQ,q (f x) M->te (some x::cs) M q l9)->k (υ++xs.map f) M->qg te cs xs υ M k
 | [],υ,_,h=>by rw [List.map_nil,aaG] at h;exact h
 | x::xs,υ,ht,h=>ht x List.mem_cons_self _ (lx xs (υ++[f x]) (λy hy=>ht y (List.mem_cons_of_mem _ hy)) (by simpa using h))
theorem ω{d y:Dt}{xs:List Dt}{i:Int}{M:Ms}{q:DQ}(hs:mJ M d=some xs)(h:jh xs i=some y)(k:q y M):cB d (.int i) M q:=by
 cases d with
 | str z=>cases hs
 | _=>
  unfold cB;simp only [hs,h];exact k
theorem az{d:Dt}{xs:List Dt}{M:Ms}{q:DQ}(hs:mJ M d=some xs)(k:q (.int xs.length) M):gC [d] M q:=by
 cases d with
 | str z=>cases hs
 | _=>
  unfold gC;simp only [hs];exact k
theorem dM{α:Type}{x:α}{xs:List α}:jh (x::xs) 0=some x:=Θ (j:=0) rfl
theorem A0(bs:List Bool):(List.range bs.length).all (λi=>bs.getD i false)=bs.all id:=by
 induction bs with
 | nil=>rfl
 | cons b bs ih=>
  rw [aaw,abH,abD,List.all_map,abD,<-ih];rfl
def Na(K:fv):List V->Hp->VK->Prop:=λxs H Q=>∃(p:Addr) (bs:List Bool),xs=[.ref p]/\gM K H p (bs.map V.bl)/\Q (.bl (bs.all id)) H
section
variable{X:Cx}
theorem Ci (hc : X.calm = true) : eJ X (.builtin "all") (Na X.K) := by
  intro ε s σ H xs us Q I r h;obtain ⟨p, bs, rfl, hq, q⟩ := h;obtain ⟨u, rfl, r1⟩ := pD r;cases r1;obtain ⟨its, rv, pl, hz⟩ := I.list hq;have I_ := rG rv;subst I_;refine call_all_walk (wpAny_pyIter_list pl.isList ?_);have lp : p < s.heap.objs.size := by obtain ⟨o, e, _⟩ := pl.isList; exact aao e
  refine ⟨s.heap.objs.size, _, _, _, _, _, λi => bs.getD i false, rfl, Walks.list (show X.A.in1.handled = none from I.ok.hd hc) s.heap.objs.size p (aaK lp) (bs.map Value.bool).toArray, ⟨⟨_, aaQ _ rfl, rfl, rfl⟩, pl.isList.at λo e => aal _ e⟩, vC, λh' tk hk => ?_⟩;refine ⟨.bl (bs.all id), H, I.kept λb o e => hk b o (λz => by have : b = s.heap.objs.size := (by simpa using z); exact Nat.lt_irrefl _ (this ▸ Heap.lt_size e)) (Heap.get?_push_of_some _ e), ?_, q⟩;rw [aaZ, aac, A0];rfl
end
def Jb:List Dt->Ms->DQ->Prop
 | [.lst xs],M,q=>∃bs:List Bool,xs=bs.map Dt.bl/\q (.bl (bs.all id)) M
 | _,_,_=>False
theorem OL{K:fv}:DW K (Na K) Jb:=by
 intro G0 L0 H0 G L M H vs ds q e r n h;unfold Jb at h;split at h
 ·rename_i xs;obtain ⟨bs,rfl,h⟩:=h;obtain ⟨v,rfl,n1⟩:=b_ n;obtain ⟨a,ws,rfl,e1,m⟩:=n1;exact ⟨a,bs,rfl,by rw [<-j_ m];exact .of (r.sub _ _ e1),cf e r h⟩
 ·exact h.elim
def HR(i j k:Nat)(t:DE):DS:=λDn ρ M=>t ρ M (λd M1=>match d with
 | .tup [a,b,c]=>Dn.nx (((ρ.set i (some a)).set j (some b)).set k (some c)) M1
 | _=>False) Dn.x
def G6(i j:Nat)(t:DE):DS:=λDn ρ M=>t ρ M (λd M1=>match d with
 | .tup [a,b]=>Dn.nx ((ρ.set i (some a)).set j (some b)) M1
 | _=>False) Dn.x
section
variable{X:Cx}{R:St->XK}{e o:Expr}{es:List Expr}{t:DA}{to te:DE}{p pos apos bH:Pos}
theorem zy:bootBuiltins "all"=some (.builtin "all"):=by decide+kernel
theorem Ly(hm:X.mg "all"=none)(ha:JA X R [e] t)(hc:X.calm=true:=by rfl)(he:starEach [e] X.env=(false,eval e X.env)::starEach [] X.env:=by rfl)(fo:(backTo pos (starEach [] X.env)).any (·.1)=false:=by rfl)(hg:Gl X "all":=by rfl):JE X R (.Call (.Name "all" p) [e] [] pos) (A5 Jb t):=
 iV (Ci hc) OL hm zy ha hg (by decide) (by decide) he fo
variable{i j k:Nat}{tg:Expr}
theorem FD(he:JE X R e te)(hg:PG X tg (BY X.K 3 (hZ (fC i) (hZ (fC j) (hZ (fC k) BQ)))))(hs:swapsWithSole [tg] e pos.line X.env=pure false:=by rfl)(hw:swappedStores [tg] e X.env=pure none:=by rfl)
  (h1:(assignEach [tg] X.env).map (·.2)=[assign tg X.env]:=by rfl):JS X R (.Assign [tg] e pos) (HR i j k te):= .of (wu he hg hs hw h1) λσ H G L ρ M Dn rl n h hx=>by
 refine ⟨G,L,ρ,M,_,_,rl,n,h,hx,λv H1 ⟨d1,G1,L1,M1,e1,r1,n1,h1⟩=> ?_⟩
 (try dsimp only at h1)
 split at h1
 ·rename_i a b c;obtain ⟨p,vs,rfl,e,m⟩:=n1;obtain ⟨v1,r',rfl,m1,m'⟩:=m;obtain ⟨v2,v3,rfl,m2,m3⟩:=ft m';exact ⟨p,_,rfl, .inl (.inl (r1.sub _ _ e)),rfl,v1,_,rfl,v2,_,rfl,v3,_,rfl,rfl,_,G1,L1,M1,e1,r1,(((n.mono e1).set i m1).set j m2).set k m3,h1⟩
 ·exact h1.elim
theorem GA(he:JE X R e te)(hg:PG X tg (BY X.K 2 (hZ (fC i) (hZ (fC j) BQ))))(hs:swapsWithSole [tg] e pos.line X.env=pure false:=by rfl)(hw:swappedStores [tg] e X.env=pure none:=by rfl)
  (h1:(assignEach [tg] X.env).map (·.2)=[assign tg X.env]:=by rfl):JS X R (.Assign [tg] e pos) (G6 i j te):= .of (wu he hg hs hw h1) λσ H G L ρ M Dn rl n h hx=>by
 refine ⟨G,L,ρ,M,_,_,rl,n,h,hx,λv H1 ⟨d1,G1,L1,M1,e1,r1,n1,h1⟩=> ?_⟩
 (try dsimp only at h1)
 split at h1
 ·rename_i a b;obtain ⟨p,vs,rfl,e,m⟩:=n1;obtain ⟨v1,v2,rfl,m1,m2⟩:=ft m;exact ⟨p,_,rfl, .inl (.inl (r1.sub _ _ e)),rfl,v1,_,rfl,v2,_,rfl,rfl,_,G1,L1,M1,e1,r1,((n.mono e1).set i m1).set j m2,h1⟩
 ·exact h1.elim
end
mutual
def Dt.under(n:Nat):Dt->Prop
 | .ba=>True
 | .bl _=>True
 | .int _=>True
 | .str _=>True
 | .tup ds=>Dt.bW n ds
 | .lst ds=>Dt.bW n ds
 | .obj _ _ ds=>Dt.bW n ds
 | .loc k=>k < n
 | .ref _=>True
 | .ty _=>True
 | .fc _=>True
 | .kt ds=>Dt.bW n ds
 | .exc _ _ ds=>Dt.bW n ds
 | .MT _ _ _ _ ds=>Dt.bW n ds
def Dt.bW(n:Nat):List Dt->Prop
 | []=>True
 | d::ds=>Dt.under n d/\Dt.bW n ds
end
def MO.under(n:Nat):MO->Prop
 | .lst ds=>Dt.bW n ds
 | .ins _ _ ds=>Dt.bW n ds
 | .eK _ ds=>Dt.bW n ds
 | .raw _=>True
mutual
inductive A3(n:Nat)(E:Ms):Dt->Dt->Prop
 | old {d:Dt} (h:d.under n):A3 n E d d
 | tup {ds es:List Dt} (h:jf n E ds es):A3 n E (.tup ds) (.tup es)
 | lst {ds es:List Dt} (h:jf n E ds es):A3 n E (.lst ds) (.lst es)
 | obj {C:Addr} {ns:List Str} {ds es:List Dt} (h:jf n E ds es):A3 n E (.obj C ns ds) (.obj C ns es)
 | L7 {k:Nat} {ds es:List Dt} (hk:n<=k) (e:E[k - n]? =some (.lst ds)) (h:jf n E ds es):A3 n E (.loc k) (.lst es)
 | P6 {k:Nat} {C:Addr} {ns:List Str} {ds es:List Dt} (hk:n<=k) (e:E[k - n]? =some (.ins C ns ds)) (h:jf n E ds es):A3 n E (.loc k) (.obj C ns es)
inductive jf(n:Nat)(E:Ms):List Dt->List Dt->Prop
 | nil:jf n E [] []
 | cons {d e:Dt} {ds es:List Dt} (h:A3 n E d e) (t:jf n E ds es):jf n E (d::ds) (e::es)
end
theorem jf.length{n:Nat}{E:Ms}:∀{ds es:List Dt},jf n E ds es->ds.length=es.length
 | [],es,h=>by cases h;rfl
 | d::ds,es,h=>by
  cases h with
  | cons h t=>rw [aaw,aaw,jf.length t]
theorem jf.old{n:Nat}{E:Ms}:∀{ds:List Dt},Dt.bW n ds->jf n E ds ds
 | [],_=> .nil
 | _::_,h=> .cons (.old h.1) (jf.old h.2)
section
variable{K:fv}{G G':Hp}{L0 t:List Addr}{n:Nat}
mutual
theorem qQ(hn:L0.length=n)(g:de G G'):∀(d:Dt) (v:V),d.under n->Den K G (L0++t) d v->Den K G' L0 d v
 | .ba,_,_,h=>h
 | .bl _,_,_,h=>h
 | .int _,_,_,h=>h
 | .str _,_,_,h=>h
 | .tup ds,_,u,⟨a,vs,e,h1,h2⟩=>⟨a,vs,e,g _ _ h1,bA hn g ds vs u h2⟩
 | .lst ds,_,u,⟨a,vs,e,h1,h2⟩=>⟨a,vs,e,g _ _ h1,bA hn g ds vs u h2⟩
 | .obj C ns ds,_,u,⟨a,dx,vs,e,h1,hl,h2⟩=>⟨a,dx,vs,e,g _ _ h1,hl,bA hn g ds vs u h2⟩
 | .loc k,_,u,⟨a,e,h1⟩=>⟨a,e,by
   have u:k < n:=u
   rwa [aay (by rw [hn];exact u)] at h1⟩
 | .ref _,_,_,h=>h
 | .ty _,_,_,h=>h
 | .fc _,_,_,⟨a,e,h1⟩=>⟨a,e,g.seq h1⟩
 | .kt ds,_,u,⟨a,vs,e,h1,h2⟩=>⟨a,vs,e,g.ME h1,bA hn g ds vs u h2⟩
 | .exc _ _ ds,_,u,⟨a,od,vs,e,h1,h2,h3,h4⟩=>⟨a,od,vs,e,g _ _ h1,h2.imp (λz=>z) (λ⟨dx,z1,z2⟩=>⟨dx,z1,g _ _ z2⟩),h3,bA hn g ds vs u h4⟩
 | .MT _ _ _ _ ds,_,u,⟨vs,e,h2,h3,h4⟩=>⟨vs,e,h2.imp (λz=>z) (λ⟨dx,z1,z2⟩=>⟨dx,z1,g _ _ z2⟩),h3,bA hn g ds vs u h4⟩
theorem bA(hn:L0.length=n)(g:de G G'):∀(ds:List Dt) (vs:List V),Dt.bW n ds->Ρ K G (L0++t) ds vs->Ρ K G' L0 ds vs
 | [],_,_,h=>h
 | d::ds,_,u,⟨v,r,e,h1,h2⟩=>⟨v,r,e,qQ hn g d v u.1 h1,bA hn g ds r u.2 h2⟩
end
theorem zR{H:Hp}{a:Addr}(hn:L0.length=n)(g:de G G'){m:MO}(u:m.under n)(h:A1 K G (L0++t) H a m):A1 K G' L0 H a m:=by
 cases m with
 | lst ds=>obtain ⟨vs,e,h⟩:=h;exact ⟨vs,e,bA hn g _ _ u h⟩
 | ins C ns ds=>obtain ⟨dx,vs,e,hl,h⟩:=h;exact ⟨dx,vs,e,hl,bA hn g _ _ u h⟩
 | eK ks ds=>obtain ⟨vs,e,hl,h⟩:=h;exact ⟨vs,e,hl,bA hn g _ _ u h⟩
 | raw u=>exact h
end
open Classical in
noncomputable def mL(G H:Hp)(t:List Addr):Hp:=λb=>if b∈t then H b else G b
theorem zg{G H:Hp}{t:List Addr}{b:Addr}(h:b∈t):mL G H t b=H b:=by unfold mL;rw [if_pos h]
theorem kT{G H:Hp}{t:List Addr}{b:Addr}(h:b∉t):mL G H t b=G b:=by unfold mL;rw [if_neg h]
section
variable{K:fv}{G:Hp}{L0 t:List Addr}{M0 E:Ms}{H:Hp}
theorem gI(r:Rl K G (L0++t) (M0++E) H):de G (mL G H t):=λb u e=>by
 by_cases hb:b∈t
 ·obtain ⟨_,_,_,_,g,_⟩:=r.tJ (a:=b) (aaB _ hb);rw [g] at e;cases e
 ·rw [kT hb];exact e
theorem Bu(r:Rl K G (L0++t) (M0++E) H)(hn:L0.length=M0.length){k:Nat}{a:Addr}{m:MO}(hk:M0.length<=k)(e:(L0++t)[k]? =some a)(em:E[k - M0.length]? =some m):mL G H t a=H a/\A1 K G (L0++t) H a m:=by
 have e2:(M0++E)[k]? =some m:=by rw [aap hk];exact em
 obtain ⟨_,q⟩:=r.fH k a m e e2;rw [aap (by rw [hn];exact hk)] at e;exact ⟨zg (aag e),q⟩
theorem Fi(r:Rl K G (L0++t) (M0++E) H)(hn:L0.length=M0.length){d d':Dt}(f:A3 M0.length E d d'):∀v,Den K G (L0++t) d v->Den K (mL G H t) L0 d' v:=by
 refine A3.rec (motive_1:=λd d' _=>∀v,Den K G (L0++t) d v->Den K (mL G H t) L0 d' v) (motive_2:=λds es _=>∀vs,Ρ K G (L0++t) ds vs->Ρ K (mL G H t) L0 es vs) ?_ ?_ ?_ ?_ ?_ ?_ ?_ ?_ f
 ·exact λ{d} u v h=>qQ hn (gI r) d v u h
 ·exact λ{ds es} f ih v ⟨a,vs,e,h1,h2⟩=>⟨a,vs,e,gI r _ _ h1,ih vs h2⟩
 ·exact λ{ds es} f ih v ⟨a,vs,e,h1,h2⟩=>⟨a,vs,e,gI r _ _ h1,ih vs h2⟩
 ·exact λ{C ns ds es} f ih v ⟨a,dx,vs,e,h1,hl,h2⟩=>⟨a,dx,vs,e,gI r _ _ h1,hl.trans f.length,ih vs h2⟩
 ·intro k ds es hk em f ih v ⟨a,e,h1⟩;obtain ⟨o,vs,e1,h2⟩:=Bu r hn hk h1 em;exact ⟨a,vs,e,o.trans e1,ih vs h2⟩
 ·intro k C ns ds es hk em f ih v ⟨a,e,h1⟩;obtain ⟨o,dx,vs,e1,hl,h2⟩:=Bu r hn hk h1 em;exact ⟨a,dx,vs,e,o.trans e1,hl.trans f.length,ih vs h2⟩
 ·exact λvs h=>h
 ·exact λ{d e ds es} f t UI VQ vs ⟨v,r,e,h1,h2⟩=>⟨v,r,e,UI v h1,VQ r h2⟩
end
def QE(n:Nat)(q:DQ):DQ:=λd M=>∃M' E d',M=M'++E/\M'.length=n/\(∀m∈M',MO.under n m)/\A3 n E d d'/\q d' M'
theorem Fin.qS{K:fv}{G0:Hp}{L0:List Addr}{M0:Ms}{H0:Hp}{q:DQ}{v:V}{H:Hp}(r0:Rl K G0 L0 M0 H0)(f:Fin K G0 L0 H0 (QE M0.length q) v H):Fin K G0 L0 H0 q v H:=by
 obtain ⟨d,G,L,M,ex,r,dn,M',E,d',rfl,hl,hu,fz,hq⟩:=f;obtain ⟨t,rfl⟩:=ex.l;have hn:L0.length=M'.length:=by rw [hl];exact r0.len
 have Si:∀b,b∈L0->b∉t:=λb h1 h2=>(List.nodup_append.mp r.nd).2.2 b h1 b h2 rfl;have sm:=gI r;refine ⟨d',mL G H t,L0,M',⟨ex.g.trans sm, .refl _,λb h1 h2=> ?_,ex.out,λb h=> .inl h,ex.zf⟩,⟨λb u e=> ?_,hn,(List.nodup_append.mp r.nd).1,λk a m h1 h2=> ?_⟩,Fi r hn (hl▸fz) v dn,hq⟩
 ·have hb:b∉t:=λz=>(ex.new b (aaB _ z)).elim (λy=>Si b y z) h2;rw [kT hb];exact ex.fr b h1 h2
 ·by_cases hb:b∈t
  ·rw [zg hb] at e;exact e
  ·rw [kT hb] at e;exact r.sub b u e
 ·have k1:k < L0.length:=(aah.mp h1).1;have e1:(L0++t)[k]? =some a:=by rw [aay k1];exact h1
  have e2:(M'++E)[k]? =some m:=by rw [aay (by rw [<-hn];exact k1)];exact h2
  obtain ⟨g,q⟩:=r.fH k a m e1 e2;exact ⟨by rw [kT (Si a (aag h1))];exact g,zR (n:=M'.length) hn sm (by rw [hl];exact hu m (aag h2)) q⟩
section
variable{X:Cx}{R:St->XK}{e:Expr}{t:DE}
theorem iw{st:Stmt}:JS X R st (λ_ _ _=>False):=λ_ _ _ _ _ _ ⟨_,_,_,_,_,_,_,h,_,_⟩=>h.elim
end
def CF(C:Addr)(m:Str)(sp:Sp)(m6:List V)(R:St->XK)(ta:TE)(t:TA):TE:=λσ H Q=>ta σ H λx H1=>∃a dx fs,x= .ref a/\H1 a=some (.ins C dx fs)/\fs.lookup m=none/\
 t σ H1 λvs H2=>sp (x::(vs++m6)) H2 Q (R σ)
def J_(C:Addr)(sp:Sp)(m6:List V)(R:St->XK)(t:TA):TE:=λσ H Q=>t σ H λvs H1=>∀x dx,H1 x=none->H1 dx=none->dx≠x->
 sp (.ref x::(vs++m6)) (upd (upd H1 dx (.own x)) x (.ins C dx [])) (λv H2=>v= .ba/\Q (.ref x) H2) (R σ)
section
variable{X:Cx}{CX:wo}{k:Nat}{f C:Addr}{fd:FuncData}{ps:List Str}{sp:Sp}{m6:List V}{ds:List Value}{R:St->XK}{x m:Str}{p pos apos:Pos}{e o:Expr}{es:List Expr}{ta:TE}{t:TA}
theorem Dk{pl:Sem Bool}(he:PE X o ta)(c:yt X.K C)(hm:GG X.K C m f)(F:ar X.prog X.w X.K X.mg X.base CX k f fd ps sp)(hr:bG k X.A)(hb:g_ X.K fd ps ds)(hd:au m6 ds)(hx:c8 CX X R)(ha:PA X (e::es) t)
  (Bo:starEach (e::es) X.env=(false,eval e X.env)::starEach es X.env:=by rfl) (fo:(backTo pos (starEach es X.env)).any (·.1)=false:=by rfl)
  (ht:eval (.Call (.Attribute o m apos) (e::es) [] pos) X.env=(do
   let ov<-eval o X.env
   standAt apos.atName
   let (f,first)<-holding [ov] (getMethod ov m pl)
   callWith pos f first (backTo pos (starEach (e::es) X.env)) (backToKw pos (keywordEach [] X.env))):=by rfl):
  PE X (.Call (.Attribute o m apos) (e::es) [] pos) (CF C m sp m6 R ta t):=by
 intro ε s σ H Q I h;refine PySem.W.methodCall_KW (pl:=pl) (bQ (he ε s σ H _ I h) λu s1 ⟨x,H1,I1,rx,a,dx,fs,ex,ea,l,q⟩=> ?_) ht;subst ex;obtain rfl:u=Value.ref a:=rx;refine pq I1 ea c hm l ?_;refine PySem.W.callWith_K (first:=[.ref a]) (h₀:=X.base) I.ok.mod.LW hm.kp (bQ (ha pos ε s1 σ H1 _ I1 q) λus s2 ⟨vs,H2,I2,r,q2⟩=>⟨I2.mK, ?_⟩) Bo fo;exact sY (us:= .ref a::us) (vs:= .ref a::vs) F hr hb hd hx I2 (.cons rfl r) q2
theorem Au{pl:Sem Bool}(he:PE X o ta)(c:yt X.K C)(hm:GG X.K C m f)(F:ar X.prog X.w X.K X.mg X.base CX k f fd ps sp)(hr:bG k X.A)(hb:g_ X.K fd ps ds)(hd:au m6 ds)(hx:c8 CX X R)
  (ht:eval (.Call (.Attribute o m apos) [] [] pos) X.env=(do
   let ov<-eval o X.env
   standAt apos.atName
   let (f,first)<-holding [ov] (getMethod ov m pl)
   callWith pos f first (backTo pos (starEach [] X.env)) (backToKw pos (keywordEach [] X.env))):=by rfl):
  PE X (.Call (.Attribute o m apos) [] [] pos) (CF C m sp m6 R ta K_):=by
 intro ε s σ H Q I h;refine PySem.W.methodCall_KW (pl:=pl) (bQ (he ε s σ H _ I h) λu s1 ⟨x,H1,I1,rx,a,dx,fs,ex,ea,l,q⟩=> ?_) ht;subst ex;obtain rfl:u=Value.ref a:=rx;refine pq I1 ea c hm l ?_;exact PySem.W.callWith_K0 (first:=[.ref a]) I1.mK hm.kp (sY (us:=[.ref a]) (vs:=[.ref a]) F hr hb hd hx I1 (.cons rfl .nil) q)
theorem Ai{ε:List (Addr×Obj)}{σ:St}{H:Hp}{s:Shared}{Q:VK}{us:List Value}{vs:List V}(M:Mk X.K C f)(F:ar X.prog X.w X.K X.mg X.base CX k f fd ps sp)(hr:bG (k+1) X.A)(hb:g_ X.K fd ps ds)(hd:au m6 ds)
  (hx:c8 CX X R) (I:Inv X ε σ H s) (r:au vs us)
  (h:∀x dx,H x=none->H dx=none->dx≠x->sp (.ref x::(vs++m6)) (upd (upd H dx (.own x)) x (.ins C dx [])) (λv H2=>v= .ba/\Q (.ref x) H2) (R σ)):
  wpAny (model X.prog X.w) X.A (call (.ref C) us) (EP X ε σ Q) X.xe s:=by
 have hq:=h (s.heap.objs.size+1) s.heap.objs.size (I.aR.fresh (Nat.le_succ _)) (I.aR.fresh (aam _)) (aaK (abX _));have I2:=Inv.made (C:=C) I;have r2:au (V.ref (s.heap.objs.size+1)::(vs++m6)) (Value.ref (s.heap.objs.size+1)::(us++ds)):= .cons rfl (r.append hd);have hl:(Value.ref (s.heap.objs.size+1)::us++ds).length=ps.length:=by have e:=r2.length;rw [F.len _ _ _ _ hq] at e;exact e.symm
 refine wpAny_call (BF (f:=f) I.mK M.makes M.init (abi.mp M.fn) (codeAny_mono (F.run _ X.stack _ _ ⟨Value.ref (s.heap.objs.size+1)::us,[]⟩ (Value.ref (s.heap.objs.size+1)::(us++ds)) _ _ (R σ) (hr.make C us [])
  (I2.Le.make C us []) (hb _ (Value.ref (s.heap.objs.size+1)::us) I2.mK hl) r2 hq) λr s' A7=> ?_))
 cases r with
 | error e=>exact hx ε σ _ _ e s' I2 A7
 | ok fl=>
  cases fl with
  | ret u=>
   obtain ⟨v,H',I3,rv,ev,q3⟩:=I2.after A7;subst ev;exact ⟨rv,⟨V.ref (s.heap.objs.size+1),H',I3,rfl,q3⟩⟩
  | next=>exact False.elim A7
  | brk=>exact False.elim A7
  | cont=>exact False.elim A7
theorem C4(M:Mk X.K C f)(F:ar X.prog X.w X.K X.mg X.base CX k f fd ps sp)(hr:bG (k+1) X.A)(hg:Gl X x)(hm:X.mg x=some (.ref C))(hb:g_ X.K fd ps ds)(hd:au m6 ds)(hx:c8 CX X R)
  (ha:PA X (e::es) t) (nz:(x==("__debug__":Str))=false:=by decide) (he:starEach (e::es) X.env=(false,eval e X.env)::starEach es X.env:=by rfl) (fo:(backTo pos (starEach es X.env)).any (·.1)=false:=by rfl):
  PE X (.Call (.Name x p) (e::es) [] pos) (J_ C sp m6 R t):=by
 intro ε s σ H Q I h;refine wpAny_Call_Name_kw (sk I hg hm ?_ nz);refine PySem.W.callWith_K (h₀:=X.base) I.ok.mod.LW M.kp (bQ (ha pos ε s σ H _ I h) λus s1 ⟨vs,H1,I1,r,q⟩=>⟨I1.mK, ?_⟩) he fo;exact Ai M F hr hb hd hx I1 r q
end
def Iw(C:Addr)(M:Ms)(d:Dt)(ns:List Str)(ds:List Dt):Prop:=d= .obj C ns ds\/∃k,d= .loc k/\M[k]? =some (.ins C ns ds)
section
variable{K:fv}{G:Hp}{L:List Addr}{M:Ms}{H:Hp}{C:Addr}{d:Dt}{v:V}{ns:List Str}{ds:List Dt}
theorem Ce(r:Rl K G L M H)(n:Den K G L d v)(o:Iw C M d ns ds):∃a dx vs,v= .ref a/\H a=some (.ins C dx (ns.zip vs))/\ns.length=ds.length/\Ρ K G L ds vs:=by
 rcases o with rfl | ⟨k,rfl,hm⟩
 ·obtain ⟨a,dx,vs,e,h1,hl,h2⟩:=n;exact ⟨a,dx,vs,e,r.sub _ _ h1,hl,h2⟩
 ·obtain ⟨a,e,h1⟩:=n;obtain ⟨_,dx,vs,h2,hl,h3⟩:=r.fH k a _ h1 hm;exact ⟨a,dx,vs,e,h2,hl,h3⟩
theorem vq{f:Str}:∀{ns:List Str} {ds:List Dt} {vs:List V} {d:Dt},Ρ K G L ds vs->(ns.zip ds).lookup f=some d->∃v,(ns.zip vs).lookup f=some v/\Den K G L d v
 | [],_,_,_,_,h=>by simp at h
 | _::_,[],_,_,_,h=>by simp at h
 | g::ns,d::ds,_,d',⟨v,r,rfl,h1,h2⟩,h=>by
  rw [aaX,abw] at h;rw [aaX,abw];cases q:f==g with
  | true=>rw [q] at h;cases h;exact ⟨v,rfl,h1⟩
  | false=>rw [q] at h;exact vq h2 h
theorem oM{f:Str}:∀{ns:List Str} {ds:List Dt} {vs:List V},Ρ K G L ds vs->(ns.zip ds).lookup f=none->(ns.zip vs).lookup f=none
 | [],_,_,_,_=>by simp
 | _::_,[],_,h,_=>by have h:_=_:=h;subst h;simp
 | g::ns,d::ds,_,⟨v,r,rfl,h1,h2⟩,h=>by
  rw [aaX,abw] at h;rw [aaX,abw];cases q:f==g with
  | true=>rw [q] at h;cases h
  | false=>rw [q] at h;exact oM h2 h
theorem uT{f:Str}{v:V}:∀{ns:List Str} {vs:List V},ns.length=vs.length->f∉ns->hG f v (ns.zip vs)=(ns++[f]).zip (vs++[v])
 | [],[],_,_=>rfl
 | g::ns,x::vs,hl,h=>by have hg:¬g=f:=λz=>h (by rw [z];exact aae);show (if g=f then (g,v)::ns.zip vs else (g,x)::hG f v (ns.zip vs))=(g,x)::(ns++[f]).zip (vs++[v]);rw [if_neg hg,uT (by simpa using hl) λz=>h (List.mem_cons_of_mem _ z)]
 | [],_::_,hl,_=>by simp at hl
 | _::_,[],hl,_=>by simp at hl
end
def QM(C:Addr)(f:Str)(t:DE):DE:=λρ M q x=>t ρ M (λd M1=>∃ns ds v,Iw C M1 d ns ds/\(ns.zip ds).lookup f=some v/\q v M1) x
def HG(C:Addr)(m:Str)(T:DF)(to:DE)(ta:DA):DE:=λρ M q x=>to ρ M (λd M1=>(∃ns ds,Iw C M1 d ns ds/\(ns.zip ds).lookup m=none)/\ta ρ M1 (λds M2=>T (d::ds) M2 q (λC fs M'=>x ρ C fs M')) x) x
def MR(C:Addr)(T:DF)(ta:DA):DE:=λρ M q x=>ta ρ M (λds M1=>T (.loc M1.length::ds) (M1++[.ins C [] []]) (λd M2=>d= .ba/\q (.loc M1.length) M2) (λC fs M'=>x ρ C fs M')) x
def HB(C:Addr)(f:Str)(to tv:DE):DS:=λDn ρ M=>tv ρ M (λy M1=>to ρ M1 (λd M2=>∃k ns ds,d= .loc k/\M2[k]? =some (.ins C ns ds)/\f∉ns/\ns.length < 1000/\Dn.nx ρ (M2.set k (.ins C (ns++[f]) (ds++[y])))) Dn.x) Dn.x
structure cz(P:Program)(w:World)(K:fv)(mg:Str->Option Value)(base:Heap)(k:Nat)(C:Addr)(m:Str)(ps:List Str)(T:DF)(f:Addr)(fd:FuncData):Prop where
 ok:ar P w K mg base (cR P w) k f fd ps (dE K T)
 b:g_ K fd ps []
 c:yt K C
 m:GG K C m f
structure Jy(P:Program)(w:World)(K:fv)(mg:Str->Option Value)(base:Heap)(k:Nat)(x:Str)(C:Addr)(ps:List Str)(T:DF)(f:Addr)(fd:FuncData):Prop where
 ok:ar P w K mg base (cR P w) k f fd ps (dE K T)
 b:g_ K fd ps []
 k:Mk K C f
 m:mg x=some (.ref C)
section
variable{X:Cx}{R:St->XK}{C:Addr}{f m x:Str}{T:DF}{k k':Nat}{a:Addr}{fd:FuncData}{ps:List Str}{e o value:Expr}{es:List Expr}{pos pos' apos p:Pos}{to te tv:DE}{ta:DA}
theorem pB(c:yt X.K C)(n:gb X.K C f)(he:JE X R e te)(hb:attributeBase e f X.env (eval e X.env)=eval e X.env:=by rfl):JE X R (.Attribute e f pos) (QM C f te):=
 .of (I0 he hb) λσ H G L ρ M q x rl en h hx=>by refine ⟨G,L,ρ,M,_,x,rl,en,h,hx,λv H1 ⟨d1,G1,L1,M1,e1,r1,n1,ns,ds,y,ob,hl,h1⟩=> ?_⟩;obtain ⟨p,dx,vs,rfl,hp,_,dn⟩:=Ce r1 n1 ob;obtain ⟨u,hu,du⟩:=vq dn hl;exact ⟨p,C,dx,_,u,rfl,hp,c,n,hu,y,G1,L1,M1,e1,r1,du,h1⟩
theorem aY{pl:Sem Bool}(D:cz X.prog X.w X.K X.mg X.base k C m ps T a fd)(hr:bG k' X.A)(hx:c8 (cR X.prog X.w) X R)(ho:JE X R o to)(ha:JA X R (e::es) ta)(hk:k<=k':=by decide)
  (Bo:starEach (e::es) X.env=(false,eval e X.env)::starEach es X.env:=by rfl) (fo:(backTo pos (starEach es X.env)).any (·.1)=false:=by rfl)
  (ht:eval (.Call (.Attribute o m apos) (e::es) [] pos) X.env=(do
   let ov<-eval o X.env
   standAt apos.atName
   let (f,first)<-holding [ov] (getMethod ov m pl)
   callWith pos f first (backTo pos (starEach (e::es) X.env)) (backToKw pos (keywordEach [] X.env))):=by rfl):
  JE X R (.Call (.Attribute o m apos) (e::es) [] pos) (HG C m T to ta):=
 .of (Dk (pl:=pl) ho D.c D.m D.ok (hr.mono hk) D.b .nil hx ha Bo fo ht) λσ H G L ρ M q x rl en h hx=>by refine ⟨G,L,ρ,M,_,x,rl,en,h,hx,λv H1 ⟨d1,G1,L1,M1,e1,r1,n1,⟨ns,ds,ob,hl⟩,h1⟩=> ?_⟩;obtain ⟨p,dx,vs,rfl,hp,_,dn⟩:=Ce r1 n1 ob;refine ⟨p,dx,_,rfl,hp,oM dn hl,G1,L1,ρ,M1,_,x,r1,en.mono e1,h1,hx.on e1,λus H2 ⟨C6,G2,L2,M2,e2,r2,n2,h2⟩=> ?_⟩;show dE X.K T (V.ref p::(us++[])) H2 _ _;rw [aaG];have Iz:=e1.trans e2;exact ⟨G2,L2,d1::C6,M2,q,_,r2,⟨_,_,rfl,Den.mono e2.g e2.l _ _ n1,n2⟩,h2,λv H' f=>Fin.back Iz f,λC fs M' G' L' H' od hq e' r' y=>hx σ ρ C fs M' G' L' H' od hq (Iz.trans e') r' (en.mono (Iz.trans e')) y⟩
theorem iX{pl:Sem Bool}(D:cz X.prog X.w X.K X.mg X.base k C m ps T a fd)(hr:bG k' X.A)(hx:c8 (cR X.prog X.w) X R)(ho:JE X R o to)(hk:k<=k':=by decide)
  (ht:eval (.Call (.Attribute o m apos) [] [] pos) X.env=(do
   let ov<-eval o X.env
   standAt apos.atName
   let (f,first)<-holding [ov] (getMethod ov m pl)
   callWith pos f first (backTo pos (starEach [] X.env)) (backToKw pos (keywordEach [] X.env))):=by rfl):
  JE X R (.Call (.Attribute o m apos) [] [] pos) (HG C m T to Kj):=
 .of (Au (pl:=pl) ho D.c D.m D.ok (hr.mono hk) D.b .nil hx ht) λσ H G L ρ M q x rl en h hx=>by refine ⟨G,L,ρ,M,_,x,rl,en,h,hx,λv H1 ⟨d1,G1,L1,M1,e1,r1,n1,⟨ns,ds,ob,hl⟩,h1⟩=> ?_⟩;obtain ⟨p,dx,vs,rfl,hp,_,dn⟩:=Ce r1 n1 ob;refine ⟨p,dx,_,rfl,hp,oM dn hl, ?_⟩;show dE X.K T (V.ref p::([]++[])) H1 _ _;exact ⟨G1,L1,[d1],M1,q,_,r1,⟨_,_,rfl,n1,rfl⟩,h1,λv H' f=>Fin.back e1 f,λC fs M' G' L' H' od hq e' r' y=>hx σ ρ C fs M' G' L' H' od hq (e1.trans e') r' (en.mono (e1.trans e')) y⟩
theorem DR(D:Jy X.prog X.w X.K X.mg X.base k x C ps T a fd)(hr:bG k' X.A)(hx:c8 (cR X.prog X.w) X R)(ha:JA X R (e::es) ta)(hk:k+1<=k':=by decide)(hg:Gl X x:=by rfl)(nz:(x==("__debug__":Str))=false:=by decide)
  (he:starEach (e::es) X.env=(false,eval e X.env)::starEach es X.env:=by rfl) (fo:(backTo pos (starEach es X.env)).any (·.1)=false:=by rfl):JE X R (.Call (.Name x p) (e::es) [] pos) (MR C T ta):=
 .of (C4 D.k D.ok (hr.mono hk) hg D.m D.b .nil hx ha nz he fo) λσ H G L ρ M q x rl en h hx=>by
  refine ⟨G,L,ρ,M,_,x,rl,en,h,hx,λvs H1 ⟨ds,G1,L1,M1,e1,r1,n1,h1⟩ y dx hy RV vW=> ?_⟩;show dE X.K T (V.ref y::(vs++[])) _ _ _;rw [aaG];have ra:=r1.FV (o:= .own y) RV;have ea:=r1.KD (o:= .own y) RV;have RX:upd H1 dx (HO.own y) y=none:=by rw [Γ (Ne.symm vW)];exact hy
  have rb:=ra.EN (p:=y) (o:= .ins C dx []) (m:= .ins C [] []) RX ⟨dx,[],Τ,rfl,rfl⟩;have eb:=ra.NG (p:=y) (o:= .ins C dx []) RX;have e2:=ea.trans eb;have Iz:=e1.trans e2;refine ⟨_,_, .loc M1.length::ds,_,_,_,rb,⟨_,_,rfl,⟨y,rfl, ?_⟩,Ρ.mono e2.g e2.l _ _ n1⟩,h1,λv H' ⟨d,G',L',M',e',r',dn,hd,hq⟩=> ?_,λC fs M' G' L' H' od hq e' r' z=>hx σ ρ C fs M' G' L' H' od hq (Iz.trans e') r' (en.mono (Iz.trans e')) z⟩
  ·rw [<-r1.len,List.getElem?_append_right (Nat.le_refl _)];simp
  ·subst hd;refine ⟨dn, .loc M1.length,G',L',M',Iz.trans e',r',⟨y,rfl,e'.l.get ?_⟩,hq⟩;rw [<-r1.len,List.getElem?_append_right (Nat.le_refl _)];simp
theorem yb(c:yt X.K C)(n:gb X.K C f)(ho:JE X R o to)(hv:JE X R value tv)(hs:swapsWith value (some (.Attribute o f pos')) pos.line X.env=pure false:=by rfl):JS X R (.Assign [.Attribute o f pos'] value pos) (HB C f to tv):=
 .of (JL ho hv hs) λσ H G L ρ M Dn rl en h hx=>by refine ⟨G,L,ρ,M,_,_,rl,en,h,hx,λy H1 ⟨dy,G1,L1,M1,e1,r1,n1,h1⟩=> ?_⟩;refine ⟨G1,L1,ρ,M1,_,_,r1,en.mono e1,h1,hx.on e1,λu H2 ⟨du,G2,L2,M2,e2,r2,n2,k,ns,ds,ed,hm,hf,hz,h2⟩=> ?_⟩;subst ed;obtain ⟨p,rfl,hp⟩:=n2;obtain ⟨_,dx,vs,hH,hl,dn⟩:=r2.fH k p _ hp hm;have Sk:ns.length=vs.length:=hl.trans dn.length;refine ⟨p,C,dx,_,rfl,hH,c,n,by rw [abb,<-Sk,Nat.min_self];exact hz, ?_⟩;rw [uT Sk hf];exact ⟨ρ,G2,L2,_,(e1.trans e2).trans (r2.GB hp),r2.setM (m:= .ins C (ns++[f]) (ds++[dy])) hp ⟨dx,_,Τ,by rw [aaf,aaf,hl];rfl,dn.app ⟨_,_,rfl,Den.mono e2.g e2.l _ _ n1,rfl⟩⟩,(en.mono (e1.trans e2)).mono (r2.GB (o:= .own p) hp),h2⟩
end
def yr:List Dt->Ms->DQ->Prop
 | [d],M,q=>match mJ M d with
  | some xs=>q (.loc M.length) (M++[.lst xs])
  | none=>False
 | _,_,_=>False
section
variable{K:fv}
theorem MP:DW K (λxs H Q=>∃p ys,xs=[V.ref p]/\(gM K H p ys\/k8 K H p ys)/\∀l,H l=none->Q (.ref l) (upd H l (.lst ys))) yr:=by
 intro G0 L0 H0 G L M H vs ds q e r n h;unfold yr at h;split at h
 ·rename_i d;obtain ⟨v,rfl,n1⟩:=b_ n;split at h
  ·rename_i xs hs;obtain ⟨a,us,rfl,hq,dn⟩:=mN r n1 hs;exact ⟨a,us,rfl,hq,λl hl=>rL e r hl dn h⟩
  ·exact h.elim
 ·exact h.elim
end
section
variable{X:Cx}{R:St->XK}{e o i value:Expr}{t:DA}{to ti tv:DE}{p pos apos bH pQ:Pos}
theorem tF(hm:X.mg "list"=none)(ha:JA X R [e] t)(hg:Gl X "list":=by rfl)(he:starEach [e] X.env=(false,eval e X.env)::starEach [] X.env:=by rfl)(fo:(backTo pos (starEach [] X.env)).any (·.1)=false:=by rfl):JE X R (.Call (.Name "list" p) [e] [] pos) (A5 yr t):=
 vJ rC MP hm oi ha hg (by decide) (by decide) he fo
def Rz(to:DE)(t:DA):DE:=λρ M q x=>to ρ M (λd M1=>(∃k xs,d= .loc k/\M1[k]? =some (.lst xs))/\t ρ M1 (λds M2=>∃k xs y,d= .loc k/\ds=[y]/\M2[k]? =some (.lst xs)/\xs.length < sizeLine/\q .ba (M2.set k (.lst (xs++[y])))) x) x
theorem cY(ho:JE X R o to)(ha:JA X R [e] t)(n9:attributeBase o "append" X.env (eval o X.env)=eval o X.env:=by rfl)
  (Ju:((backTo bH (starEach [e] X.env)).all (λx=> !x.1)&&(backToKw bH (keywordEach [] X.env)).all (λx=>x.1.isSome)
   &&decide (([e]:List Expr).length+([]:List Keyword).length+(if ([]:List Keyword).isEmpty then 0 else 1) < 30))=true:=by rfl)
  (oS:(apos.endLine==bH.line)=true:=by rfl) (hs:starEach [e] X.env=(false,eval e X.env)::starEach [] X.env:=by rfl) (xS:(backTo bH (starEach [] X.env)).any (·.1)=false:=by rfl):
  JE X R (.Call (.Attribute o "append" apos) [e] [] bH) (Rz to t):=
 .of (Lq PySem.F.plainAttrs_list PySem.F.slot_list_append PySem.F.type_list_append (r:=yf) qK ho ha n9 Ju oS hs xS) λσ H G L ρ M q x rl n h hx=>by refine ⟨G,L,ρ,M,_,x,rl,n,h,hx,λv H1 ⟨d1,G1,L1,M1,e1,r1,n1,⟨k,xs,ed,hm⟩,h1⟩=> ?_⟩;subst ed;obtain ⟨a,rfl,hk⟩:=n1;obtain ⟨_,vs,hH,_⟩:=r1.fH k a _ hk hm;refine ⟨.inl ⟨rfl,vs, .of hH⟩,G1,L1,ρ,M1,_,x,r1,n.mono e1,h1,hx.on e1,λus H2 ⟨ds,G2,L2,M2,e2,r2,n2,k',xs',y,ek,ed,XF,hz,h2⟩=> ?_⟩;cases ek;subst ed;obtain ⟨u,rfl,n3⟩:=b_ n2;have HL:=e2.l.get hk;obtain ⟨_,Bb,M8,Eg⟩:=r2.fH k a _ HL XF;refine ⟨a,Bb,u,rfl,rfl,M8,by rw [<-Eg.length];exact hz, .ba,G2,L2,_,(e1.trans e2).trans (r2.GB HL),r2.setM (m:= .lst (xs'++[y])) HL ⟨_,Τ,Eg.app ⟨_,_,rfl,n3,rfl⟩⟩,rfl,h2⟩
def tI(to ti tv:DE):DS:=λDn ρ M=>tv ρ M (λy M1=>to ρ M1 (λd M2=>ti ρ M2 (λdi M3=>∃k i xs j,d= .loc k/\di= .int i/\M3[k]? =some (.lst xs)/\AV xs.length i=some j/\Dn.nx ρ (M3.set k (.lst (xs.set j y)))) Dn.x) Dn.x) Dn.x
theorem oQ(ho:JE X R o to)(hi:JE X R i ti)(hv:JE X R value tv)(hs:swapsWithSole [.Subscript o i pQ] value pos.line X.env=pure false:=by rfl)(hw:swappedStores [.Subscript o i pQ] value X.env=pure none:=by rfl)
  (h1:(assignEach [.Subscript o i pQ] X.env).map (·.2)=[assign (.Subscript o i pQ) X.env]:=by rfl)
  (ha:∀v,assign (.Subscript o i pQ) X.env v=(do
   let ov<-holding [v] (eval o X.env)
   let iv<-holding [v,ov] (eval i X.env)
   standAt pQ
   holding [v,ov,iv] (setItem ov iv v)
   release [v,ov,iv] []):=by intro _;rfl):JS X R (.Assign [.Subscript o i pQ] value pos) (tI to ti tv):=
 .of (wu hv (IH (t:=GU) ho hi D_ ha) hs hw h1) λσ H G L ρ M Dn rl n h hx=>by refine ⟨G,L,ρ,M,_,_,rl,n,h,hx,λv H1 ⟨dv,G1,L1,M1,e1,r1,n1,h1⟩=> ?_⟩;refine ⟨G1,L1,ρ,M1,_,_,r1,n.mono e1,h1,hx.on e1,λov H2 ⟨d,G2,L2,M2,e2,r2,n2,h2⟩=> ?_⟩;refine ⟨G2,L2,ρ,M2,_,_,r2,(n.mono e1).mono e2,h2,(hx.on e1).on e2,λiv H3 ⟨di,G3,L3,M3,e3,r3,n3,k,i,xs,j,ed,ei,hm,hj,h3⟩=> ?_⟩;subst ed ei;obtain ⟨a,rfl,hk⟩:=n2;have n3:iv= .int i:=n3;subst n3;have ya:=e3.l.get hk;obtain ⟨_,vs,hH,dn⟩:=r3.fH k a _ ya hm;have Fw:=e2.trans e3;have NY:=Den.mono Fw.g Fw.l _ _ n1;refine ⟨a,vs,i,j,rfl,rfl,hH,by rw [<-dn.length];exact hj,ρ,G3,L3,_,((e1.trans e2).trans e3).trans (r3.GB ya),r3.setM (m:= .lst (xs.set j dv)) ya ⟨_,Τ, .of (yI NY j dn.pair)⟩,(((n.mono e1).mono e2).mono e3).mono (r3.GB (o:= .own a) ya),h3⟩
end
structure Src(K:fv)(a:Addr)(xs:List Dt)(ok:Ms->Prop)(G0:Hp)(L0:List Addr):Prop where
 at_:∀G L M H,de G0 G->Pre L0 L->Rl K G L M H->ok M->∃vs,gM K H a vs/\Ρ K G L xs vs
def g6(M:Ms):Dt->Option (List Dt×(Ms->Prop))
 | .lst xs=>some (xs,λ_=>True)
 | .fc ns=>some (ns.map .int,λ_=>True)
 | .loc k=>match M[k]? with
  | some (.lst xs)=>some (xs,λM'=>M'[k]? =some (.lst xs))
  | _=>none
 | _=>none
theorem nA{K:fv}{G:Hp}{L:List Addr}{M:Ms}{H:Hp}{d:Dt}{v:V}{xs:List Dt}{ok:Ms->Prop}(r:Rl K G L M H)(n:Den K G L d v)(h:g6 M d=some (xs,ok)):∃a vs,v= .ref a/\gM K H a vs/\Src K a xs ok G L/\ok M:=by
 cases d with
 | lst ds=>
  cases h;obtain ⟨a,vs,rfl,e,m⟩:=n;exact ⟨a,vs,rfl, .of (r.sub _ _ e),⟨λG' L' M' H' g l r' _=>⟨vs, .of (r'.sub _ _ (g _ _ e)),Ρ.mono g l _ _ m⟩⟩,trivial⟩
 | fc ns=>
  cases h;obtain ⟨a,rfl,e⟩:=n;exact ⟨a,_,rfl,r.sub.seq e,⟨λG' L' M' H' g l r' _=>⟨_,r'.sub.seq (g.seq e),iL⟩⟩,trivial⟩
 | loc k=>
  obtain ⟨a,rfl,e⟩:=n;have h:(match M[k]? with | some (.lst xs)=>some (xs,λM':Ms=>M'[k]? =some (.lst xs)) | _=>none)=some (xs,ok):=h;split at h
  ·rename_i ys hm;cases h;obtain ⟨_,vs,e1,m1⟩:=r.fH k a _ e hm;refine ⟨a,vs,rfl, .of e1,⟨λG' L' M' H' g l r' hk=> ?_⟩,hm⟩;obtain ⟨_,Bb,e2,m2⟩:=r'.fH k a _ (l.get e) hk;exact ⟨Bb, .of e2,m2⟩
  ·cases h
 | _=>cases h
theorem Dy{K:fv}{G:Hp}{L:List Addr}{a:Addr}{xs:List Dt}{ok:Ms->Prop}(s:Src K a xs ok G L):J' K (Oh K a) xs ok G L where
 go:=λi G1 L1 M1 H1 d g l r k e=>by
  obtain ⟨vs,hs,n⟩:=s.at_ G1 L1 M1 H1 g l r k;obtain ⟨v,e1,n1⟩:=n.get e
  exact ⟨⟨vs,v,hs,e1⟩,λv' H' ⟨eH,y⟩=>by
   subst eH;have e2:=y vs hs;rw [e1] at e2;cases e2
   exact ⟨G1, .refl _ _ _,r,n1⟩⟩
 stop:=λi G1 L1 M1 H1 g l r k e=>by obtain ⟨vs,hs,n⟩:=s.at_ G1 L1 M1 H1 g l r k;exact ⟨vs,hs,by rw [<-n.length];exact e⟩
def nH(M:Ms):Dt->Option (List Dt×(Ms->Prop))
 | .loc k=>g6 M (.loc k)
 | d=>(Nz M d).map λxs=>(xs,λ_=>True)
def eG(t:DE):DK:=λρ M q x=>t ρ M (λd M1=>match nH M1 d with
 | some (xs,ok)=>q xs ok M1
 | none=>False) x
theorem bL{X:Cx}{R:St->XK}{tg e:Expr}{te:DE}(h:JE X R e te):JK X R tg e (eG te):=by
 intro ε s σ H Q I ⟨G,L,ρ,M,q,x,rl,n,ht,hx,hQ⟩;refine bQ (h ε s σ H (Fin X.K G L H _) I ⟨G,L,ρ,M,_,x,rl,n,ht,hx,λ_ _ f=>f⟩) λu s1 ⟨v,H1,I1,rv,d,G1,L1,M1,e1,r1,n1,h1⟩=> ?_
 (try dsimp only at h1)
 cases hi:nH M1 d with
 | none=>rw [hi] at h1;exact h1.elim
 | some p=>
  obtain ⟨xs,ok⟩:=p;rw [hi] at h1;have fin:∀J,J' X.K J xs ok G1 L1->Q J H1:=λJ y=>hQ J H1 ⟨xs,ok,G1,L1,M1,e1,r1,y,h1⟩;have up:∀{J},ok=(λ_=>True)->Yl X.K J xs G1 L1->J' X.K J xs ok G1 L1:=λeo y=>by subst eo;exact ⟨λi G L M H d g l r _ e=>y.go i G L M H d g l r e,λi G L M H g l r _ e=>y.stop i G L M H g l r e⟩
  cases d with
  | loc k=>
   obtain ⟨a,vs,rfl,hs,sr,_⟩:=nA r1 n1 hi;cases rv;exact sf I1 hs (fin _ (Dy sr))
  | lst ds=>
   cases hi;obtain ⟨a,vs,rfl,e,m⟩:=n1;cases rv;exact sf I1 (vs:=vs) (.of (r1.sub _ _ e)) (fin _ (up rfl (yi (λG' g=> .of (g _ _ e)) m)))
  | fc ns=>
   cases hi;obtain ⟨a,rfl,e⟩:=n1;cases rv;exact sf I1 (r1.sub.seq e) (fin _ (up rfl (yi (λG' g=>g.seq e) iL)))
  | tup ds=>
   cases hi;obtain ⟨a,vs,rfl,e,m⟩:=n1;cases rv;exact BE I1 (vs:=vs) (.of (r1.sub _ _ e)) (fin _ (up rfl (DO (λG' g=> .of (g _ _ e)) m)))
  | kt ds=>
   cases hi;obtain ⟨a,vs,rfl,e,m⟩:=n1;cases rv;exact BE I1 (r1.sub.ME e) (fin _ (up rfl (DO (λG' g=>g.ME e) m)))
  | str z=>
   cases hi;cases n1;obtain ⟨t,rfl⟩:=rv;exact Kd I1 (fin _ (up rfl J4))
  | _=>cases hi
def kC(g:Dt->En->(En->Prop)->Prop)(tb:DS)(Dn:ia)(ok:Ms->Prop):List Dt->En->Ms->Prop
 | [],ρ,M=>ok M/\Dn.nx ρ M
 | x::xs,ρ,M=>ok M/\g x ρ λρ'=>tb {Dn with nx:=kC g tb Dn ok xs,ct:=kC g tb Dn ok xs,bk:=Dn.nx} ρ' M
def qG(ti:DK)(g:Dt->En->(En->Prop)->Prop)(tb:DS):DS:=λDn ρ M=>ti ρ M (λxs ok M1=>kC g tb Dn ok xs ρ M1) Dn.x
section
variable{X:Cx}{R:St->XK}{tg iter:Expr}{body:List Stmt}{ti:DK}{gg:TG}{g:Dt->En->(En->Prop)->Prop}{tb:DS}{pos:Pos}
theorem cC(hi:JK X R tg iter ti)(hg:PG X tg gg)(gd:GD X.K gg g)(hb:zF X R body tb)(hp:PassesOwn (model X.prog X.w) X.A X.env X.xe:=by first | exact PassesOwn.never | exact PassesOwn.leaving)(hc:X.calm=true:=by rfl)(hs:∀x,foldedSetIterable iter X.env x=pure x:=by intro _;rfl):
  JS X R (.For tg iter body [] pos) (qG ti g tb):= .of (DN hp hc hi hg hb hs) λσ H G L ρ M Dn rl n h hx=>by
 refine ⟨G,L,ρ,M,_,_,rl,n,h,hx,λJ H1 ⟨xs,ok,G1,L1,M1,e1,r1,y,h1⟩=> ?_⟩;refine ⟨λi m σ' H'=>m+i=xs.length/\e7 X.K G1 L1 H1 (λρ' M'=>kC g tb Dn ok (xs.drop i) ρ' M') σ' H',⟨xs.length,rfl,ρ,G1,L1,M1, .refl _ _ _,r1,n.mono e1,by rw [List.drop_zero];exact h1⟩, ?_⟩;rintro i m σ' H' ⟨hm,ρ',G',L',M',e',r',n',h'⟩;by_cases hi:i < xs.length
 ·right;have hd:xs[i]? =some xs[i]:=aaa hi;rw [abg hi] at h';obtain ⟨aR,h'⟩:=h';obtain ⟨go,yl⟩:=y.go i G' L' M' H' _ e'.g e'.l r' aR hd;refine ⟨go,e7 X.K G1 L1 H1 (λρ' M'=>kC g tb Dn ok (xs.drop (i+1)) ρ' M'),λσ2 H2 f=>⟨m - 1,by omega,by omega,f⟩,λv H2 hy=> ?_⟩;obtain ⟨G2,e2,r2,n2⟩:=yl v H2 hy;refine gd G2 L' M' H2 _ v ρ' σ' _ _ r2 n2 (n'.mono e2) h' λρ3 σ3 n3 h3=> ?_;refine ⟨G2,L',ρ3,M',_,r2,n3,h3,hx.on (e1.trans (e'.trans e2)),⟨λ_ _ f=>e7.back (e'.trans e2) f,λ_ _ f=>Fin.back (e1.trans (e'.trans e2)) f,λ_ _ f=>e7.back (e1.trans (e'.trans e2)) f,λ_ _ f=>e7.back (e'.trans e2) f⟩⟩
 ·left;rw [abI (by omega)] at h';exact ⟨y.stop i G' L' M' H' e'.g e'.l r' h'.1 (by omega),ρ',G',L',M',e1.trans e',r',n',h'.2⟩
end
def nI(te:DE)(cs:En)(ok:Ms->Prop):List Dt->List Dt->Ms->(List Dt->Ms->Prop)->Prop
 | [],υ,M,k=>ok M/\k υ M
 | x::xs,υ,M,k=>ok M/\te (some x::cs) M (λd M1=>nI te cs ok xs (υ++[d]) M1 k) l9
def sg(ti:DK)(te:DE)(Ψ:List Nat):DE:=λρ M q x=>ti ρ M (λxs ok M1=>xs.length<=sizeLine/\nI te (nu Ψ ρ) ok xs [] M1 (λys M2=>q (.lst ys) M2)) x
def sV(ti:DK)(te:DE)(Ψ:List Nat):DE:=λρ M q x=>ti ρ M (λxs ok M1=>xs.length<=sizeLine/\nI te (nu Ψ ρ) ok xs [] M1 (λys M2=>q (.loc M2.length) (M2++[.lst ys]))) x
theorem mO{te:DE}{cs:En}{ok:Ms->Prop}:∀xs,nI te cs ok xs=kU (gN 0) u0 te (none::cs) ok xs
 | []=>rfl
 | x::xs=>funext λυ=>funext λM=>funext λk=>by show (ok M/\te (some x::cs) M (λd M1=>nI te cs ok xs (υ++[d]) M1 k) l9)=(ok M/\te (some x::cs) M (λd M1=>kU (gN 0) u0 te (none::cs) ok xs (υ++[d]) M1 k) l9);rw [mO xs]
section
variable{X:Cx}{R:St->XK}{elt iter:Expr}{x:Str}{px:Pos}{scope:Scope}{pos:Pos}{ti:DK}{te:DE}{ys:List Str}{Ψ:List Nat}
theorem gR(S:aK X scope [x] ys Ψ)(hi:JK X R (.Name x px) iter ti)(he:∀C s H fp,JE (Cx.comp X (x::ys) scope C s H fp) (λ_=>E0) elt te)(hc:X.calm=true:=by rfl)(hs:∀x,foldedSetIterable iter X.env x=pure x:=by intro _;rfl):JE X R (.ListComp elt [⟨.Name x px,iter,[],0⟩] scope pos) (sg ti te Ψ):=Sr false S hi (hU S (i:=0) rfl) aJ (fE (Nat.zero_lt_succ 0)) (λ_ _ _ _=>kN) he hc hs λρ M q x h=>by unfold sg at h;simp only [mO] at h;exact h
theorem uf{i:Nat}{y:Str}{py kS:Pos}(hN:X.N.Nodup)(Gx:X.N[i]? =some y)(hy:Loc X.env.scope y)(S:aK X scope [x] ys Ψ)(hi:JK X R (.Name x px) iter ti)(he:∀C s H fp,JE (Cx.comp X (x::ys) scope C s H fp) (λ_=>E0) elt te)(hc:X.calm=true:=by rfl)(Gp:swapsWith (.ListComp elt [⟨.Name x px,iter,[],0⟩] scope pos) (some (.Name y py)) kS.line X.env=pure true:=by rfl)(hs:∀x,foldedSetIterable iter X.env x=pure x:=by intro _;rfl)(hf:X.fn y=true\/X.env.scope.names.lookup y=some .local:=by first | exact .inl rfl | exact .inr rfl | assumption):JS X R (.Assign [.Name y py] (.ListComp elt [⟨.Name x px,iter,[],0⟩] scope pos) kS) (zU i (sg ti te Ψ)):=Q1 false S hi (hU S (i:=0) rfl) aJ (fE (Nat.zero_lt_succ 0)) (λ_ _ _ _=>kN) he hc hs hN Gx hy Gp hf λρ M q x h=>by unfold sg at h;simp only [mO] at h;exact h
theorem kI{i:Nat}{y:Str}{py kS:Pos}(hN:X.N.Nodup)(Gx:X.N[i]? =some y)(hy:Loc X.env.scope y)(S:aK X scope [x] ys Ψ)(hi:JK X R (.Name x px) iter ti)(he:∀C s H fp,JE (Cx.comp X (x::ys) scope C s H fp) (λ_=>E0) elt te)(hc:X.calm=true:=by rfl)(Gp:swapsWith (.ListComp elt [⟨.Name x px,iter,[],0⟩] scope pos) (some (.Name y py)) kS.line X.env=pure true:=by rfl)(hs:∀x,foldedSetIterable iter X.env x=pure x:=by intro _;rfl)(hf:X.fn y=true\/X.env.scope.names.lookup y=some .local:=by first | exact .inl rfl | exact .inr rfl | assumption):JS X R (.Assign [.Name y py] (.ListComp elt [⟨.Name x px,iter,[],0⟩] scope pos) kS) (zU i (sV ti te Ψ)):=Q1 true S hi (hU S (i:=0) rfl) aJ (fE (Nat.zero_lt_succ 0)) (λ_ _ _ _=>kN) he hc hs hN Gx hy Gp hf λρ M q x h=>by unfold sV at h;simp only [mO] at h;exact h
end
theorem qe:∀{ns:List Int} {us:List Value},au (ns.map V.int) us->∃ts:List (Int×Tok),us=ts.map (λp=>Value.int p.1 p.2)/\ts.map (·.1)=ns
 | [],_,h=>by cases h;exact ⟨[],rfl,rfl⟩
 | n::ns,_,h=>by
  cases h with
  | cons r t=>
   obtain ⟨tk,rfl⟩:=r;obtain ⟨ts,rfl,rfl⟩:=qe t;exact ⟨(n,tk)::ts,rfl,rfl⟩
def LS(K:fv):List V->Hp->VK->Prop:=λxs H Q=>∃(p:Addr) (ns:List Int),xs=[.ref p]/\gM K H p (ns.map V.int)/\Q (.int ns.sum) H
theorem CT{X:Cx}(hc:X.calm=true):eJ X (.builtin "sum") (LS X.K):=by
 intro ε s σ H xs us Q I r h;obtain ⟨p,ns,rfl,hq,q⟩:=h;obtain ⟨u,rfl,r1⟩:=pD r;cases r1;obtain ⟨its,rv,pl,hz⟩:=I.list hq;obtain ⟨ts,rfl,rfl⟩:=qe rv;have e:(ts.map λp=>Value.int p.1 p.2).toArray=intItems ts.toArray:=by simp [intItems]
 have hl:=pl.isList;rw [e] at hl;refine sum_intListG (I.ok.hd hc) hl λh' tk t' hk=> ?_;refine ⟨.int (ts.map (·.1)).sum,H,I.kept hk,⟨t', ?_⟩,q⟩;rw [preSum_eq,List.take_of_length_le (by simp)]
def Ku:List Dt->Ms->DQ->Prop
 | [d],M,q=>∃ns:List Int,mJ M d=some (ns.map .int)/\(∃xs ok,g6 M d=some (xs,ok))/\q (.int ns.sum) M
 | _,_,_=>False
theorem ot{K:fv}{G:Hp}{L:List Addr}:∀{ns:List Int} {vs:List V},Ρ K G L (ns.map Dt.int) vs->vs=ns.map V.int
 | [],_,h=>h
 | _::_,_,⟨v,r,e,h1,h2⟩=>by have h1:v=_:=h1;rw [e,h1,ot h2];rfl
theorem ky{M:Ms}{d:Dt}{xs:List Dt}{ok:Ms->Prop}(h:g6 M d=some (xs,ok)):mJ M d=some xs:=by
 cases d with
 | lst ds=>cases h;rfl
 | fc ns=>cases h;rfl
 | loc k=>
  have h:(match M[k]? with | some (.lst xs)=>some (xs,λM':Ms=>M'[k]? =some (.lst xs)) | _=>none)=some (xs,ok):=h;show (match M[k]? with | some (.lst xs)=>some xs | _=>none)=some xs;split at h
  ·rename_i ys hm;cases h;rfl
  ·cases h
 | _=>cases h
theorem OZ{K:fv}:DW K (LS K) Ku:=by
 intro G0 L0 H0 G L M H vs ds q e r n h;unfold Ku at h;split at h
 ·rename_i d;obtain ⟨v,rfl,n1⟩:=b_ n;obtain ⟨ns,hs,⟨xs,ok,hl⟩,hq⟩:=h;obtain ⟨a,us,rfl,sq,sr,aR⟩:=nA r n1 hl;rw [ky hl] at hs;cases hs;obtain ⟨ws,RJ,dn⟩:=sr.at_ G L M H (.refl _) (.refl _) r aR;rw [ot dn] at RJ;exact ⟨a,ns,rfl,RJ, .int ns.sum,G,L,M,e,r,rfl,hq⟩
 ·exact h.elim
theorem AM:bootBuiltins "sum"=some (.builtin "sum"):=by decide+kernel
theorem wN:bootBuiltins "enumerate"=some (.type "enumerate"):=by decide+kernel
section
variable{X:Cx}{R:St->XK}{e a b:Expr}{t:DA}{ta tb:DE}{p pos:Pos}
theorem Hh(hm:X.mg "sum"=none)(ha:JA X R [e] t)(hc:X.calm=true:=by rfl)(hg:Gl X "sum":=by rfl)(he:starEach [e] X.env=(false,eval e X.env)::starEach [] X.env:=by rfl)(fo:(backTo pos (starEach [] X.env)).any (·.1)=false:=by rfl):JE X R (.Call (.Name "sum" p) [e] [] pos) (A5 Ku t):=
 iV (CT hc) OZ hm AM ha hg (by decide) (by decide) he fo
def Lp:Dt->Dt->Ms->DQ->Prop:=λd e M q=>∃u xs us,uq d=some u/\mJ M e=some xs/\hW xs=some us/\q (.bl (Oy u us)) M
theorem Qc{K:fv}:md K (Sh K false) Lp:=by intro G0 L0 H0 G L M H v1 v2 d1 d2 q e r n1 n2 ⟨u,xs,us,h1,h2,h3,hq⟩;obtain ⟨rfl,fu⟩:=kL h1 n1;obtain ⟨a,vs,rfl,sq,dn⟩:=mN r n2 h2;obtain ⟨rfl,fs⟩:=fe h3 dn;exact ⟨a,vs,rfl,sq,fu,fs, .bl _,G,L,M,e,r,rfl,hq⟩
theorem wY(ja:JE X R a ta)(jb:JE X R b tb)(hm:behindInMarks .In b=false:=by rfl):JT X R (.Compare a [.In] [b] pos) (kD (iF Lp ta tb)):=f_ zS Qc ja jb hm
end
theorem Inv.qM{X:Cx}{ε:List (Addr×Obj)}{σ:St}{H:Hp}{s:Shared}{h':Heap}{its:List Addr}{T:Addr}{o:HO}{t':Nat}(I:Inv X ε σ H s)(k:∀b u,b∉its->s.heap.get? b=some u->h'.get? b=some u)(f:∀b∈its,pA X ε H b)(hT:s.heap.objs.size<=T)(new:bO X.prog X.w (upd H T o) h' T o):
  Inv X ε σ (upd H T o) {s with heap:=h',toks:=t'}:=by
 have hn:=I.aR.fresh hT;have Lk:∀b u,H b=some u->b∉its:=λb u e z=>by rw [(f b z).1] at e;cases e
 refine I.call (ch:=its) (g':=s.gens) (d':=s.drawn) (t':=t') ⟨λb u q _ _ hb=>k b u hb q,λb u q _ _ hb=>⟨u.slots,k b u hb q⟩,λb u q n _=> ?_,λb u q hb=>⟨u,k b u hb q⟩,λb xs q=> ?_,λb u xs q=> ?_,λb ps q=>⟨#[], ?_⟩⟩ (λb u e=> ?_) I.bare λb hb=> ?_
 ·rw [Γ (aaK (aaq (aao q) hT))];exact n
 ·rw [Γ (bC q hn)];exact q
 ·rw [Γ (bC q hn)];exact q
 ·rw [Γ (bC q hn),q];simp
 ·by_cases hb:b=T
  ·subst hb;rw [Τ] at e;cases e;exact new
  ·rw [Γ hb] at e;refine (I.aR b u e).wt (λc v hc q=>k c v ?_ q) (λc q=>by rw [Γ (bC q hn)];exact q) λc xs q=>by rw [Γ (bC q hn)];exact q
   rcases hc with z | z
   ·rw [z];exact Lk b u e
   ·exact Lk c _ z
 ·obtain ⟨f0,f1,f2,f3,f4,f5⟩:=f b hb;exact ⟨f3,f1,f4,f5⟩
def SQ(K:fv)(l:Addr):It:=
 ⟨λi H=>∃xs x,gM K H l xs/\xs[i]? =some x,λi H v H'=>∃p x,H p=none/\v= .ref p/\H'=upd H p (.tup [.int i,x])/\∀xs,gM K H l xs->xs[i]? =some x,λi H=>∃xs,gM K H l xs/\xs.length<=i⟩
theorem Ah{P:Program}{w:World}{K:fv}{elts:List Expr}{x1:Nat}{tp:Pos}(l it e:Addr)(vW:e≠it):tY P w K (.Tuple elts x1 tp) (SQ K l) [e,it] e (λi h=>(∃old,IsEnum h e it i old)/\h.IsListIter it l i) where
 mem:=by simp
 obj:=λi h st b hb=>by
  obtain ⟨⟨old,he⟩,hi⟩:=st;rcases aaP.mp hb with rfl | hb
  ·exact ⟨_,he,λv z=>by
    have z':Data.fields _=Data.cell v:=z
    cases z'⟩
  ·have e:b=it:=by simpa using hb
   subst e;obtain ⟨o,e,c,d⟩:=hi;exact ⟨o,e,λv z=>by rw [d] at z;cases z⟩
 keep:=λi h h' st k=>by obtain ⟨⟨old,he⟩,hi⟩:=st;exact ⟨⟨old,k e (by simp) _ he⟩,hi.at λo q=>k it (by simp) o q⟩
 item:=by
  intro X hP hw hK hc i ε s σ H E I hf st hg;subst hP hw hK;obtain ⟨⟨old,he⟩,hi⟩:=st;obtain ⟨xs,x,hq,hx⟩:=hg;obtain ⟨its,rv,p,hz⟩:=I.list hq;obtain ⟨u,hu,ru⟩:=rv.get hx;refine wpAny_pyNext_enum_item he hi p.isList (x:=u) (by simpa using hu) vW λh' ho A4 hT hsz hk=> ?_;refine ⟨_,rfl,wpAny_letOwnedTupleGo_enum (s:={s with heap:=h',toks:=s.toks+1}) ho λh2 U7 sb=> ?_⟩;have sb:Heap.SameBut e h' h2:=sb;have elt:e < s.heap.objs.size:=aao he;have VU:it < s.heap.objs.size:=by obtain ⟨o,q,_⟩:=hi;exact aao q
  have neT:s.heap.objs.size≠e:=acb elt;have VB:h2.get? s.heap.objs.size=some {cls:= .type "tuple",data:= .seq #[.int i s.toks,u]}:=(sb.2 _ neT).trans hT;have I2:Inv X ε σ (upd H s.heap.objs.size (.tup [.int i,x])) {s with heap:=h2,toks:=s.toks+1}:=by
   refine I.qM (its:=[e,it]) (λb o hb q=> ?_) hf (aam _) ?_
   ·have h1:b≠e:=λz=>hb (by simp [z]);have h3:b≠it:=λz=>hb (by simp [z]);exact (sb.2 b h1).trans (hk b o h1 h3 q)
   ·refine ⟨by simp [sizeLine_eq],[.int i s.toks,u], .cons ⟨_,rfl⟩ (.cons ru .nil), ?_⟩;exact ⟨_,VB,rfl,0,rfl⟩
  have iter:h2.IsListIter it l (i+1):=A4.at λo q=>(sb.2 it (Ne.symm vW)).trans q;refine ⟨.ref s.heap.objs.size,_,I2,rfl,⟨s.heap.objs.size,x,I.aR.fresh (Nat.le_refl _),rfl,rfl,λys hy=>by rw [I.j7 hy hq];exact hx⟩,⟨⟨u,by simpa using U7⟩,iter⟩,λb hb=> ?_⟩;have nb:b≠s.heap.objs.size:=by
   rcases aaP.mp hb with rfl | hb
   ·exact aaK elt
   ·have:b=it:=by simpa using hb
    subst this;exact aaK VU
  rw [Γ nb];exact (hf b hb).1
 done:=by intro X hP hw hK hc i ε s σ H E I hf st hg;subst hP hw hK;obtain ⟨⟨old,he⟩,hi⟩:=st;obtain ⟨xs,hq,hx⟩:=hg;obtain ⟨its,rv,p,hz⟩:=I.list hq;have hl:=rv.length;obtain ⟨f0,f1,f2,f3,f4,f5⟩:=hf it (by simp);refine wpAny_pyNext_enum_end (I.ok.hd hc) he hi p.isList (by simp;omega) λh' ext=>⟨rfl,I.turned (t':=s.toks) (λb o hb q=>ext b o hb q) f0 f1 f3 f4 f5⟩
 self:=λ_ _ _ _ _ st h=>by obtain ⟨⟨old,he⟩,_⟩:=st;exact wpAny_pyIter_enum he h
def iD:Nat->List Dt->List Dt
 | _,[]=>[]
 | n,x::xs=> .tup [.int n,x]::iD (n+1) xs
theorem kW:∀(n:Nat) (xs:List Dt),(iD n xs).length=xs.length
 | _,[]=>rfl
 | n,_::xs=>by unfold iD;rw [List.length_cons,List.length_cons,kW]
theorem qT:∀{n i:Nat} {xs:List Dt} {d:Dt},(iD n xs)[i]? =some d->∃x,xs[i]? =some x/\d= .tup [.int ((n+i:Nat):Int),x]
 | n,i,[],d,h=>by simp [iD] at h
 | n,0,x::xs,d,h=>by unfold iD at h;simp at h;exact ⟨x,rfl,by rw [<-h];simp⟩
 | n,i+1,x::xs,d,h=>by unfold iD at h;obtain ⟨y,h1,h2⟩:=qT (n:=n+1) (i:=i) (xs:=xs) (d:=d) (by simpa using h);exact ⟨y,by simpa using h1,by rw [h2,show n+1+i=n+(i+1) by omega]⟩
theorem C1{K:fv}{G:Hp}{L:List Addr}{a:Addr}{xs:List Dt}{ok:Ms->Prop}(s:Src K a xs ok G L):J' K (SQ K a) (iD 0 xs) ok G L where
 go:=λi G1 L1 M1 H1 d g l r k e=>by obtain ⟨vs,hs,n⟩:=s.at_ G1 L1 M1 H1 g l r k;obtain ⟨y,ey,rfl⟩:=qT e;obtain ⟨v,e1,n1⟩:=n.get ey;refine ⟨⟨vs,v,hs,e1⟩,λv' H' ⟨p,x,hp,ev,eH,hx⟩=> ?_⟩;subst ev eH;have e2:=hx vs hs;rw [e1] at e2;cases e2;refine ⟨_,r.KD hp,r.FV hp,mW (ds:=[.int ((0+i:Nat):Int),y]) r hp ⟨_,_,rfl, ?_,_,_,rfl,n1,rfl⟩⟩;show V.int i=V.int _;rw [Nat.zero_add]
 stop:=λi G1 L1 M1 H1 g l r k e=>by obtain ⟨vs,hs,n⟩:=s.at_ G1 L1 M1 H1 g l r k;exact ⟨vs,hs,by rw [<-n.length,<-kW 0];exact e⟩
def MH(t:DA):DK:=λρ M q x=>t ρ M (λds M1=>∃d xs ok,ds=[d]/\g6 M1 d=some (xs,ok)/\q (iD 0 xs) ok M1) x
theorem y8{X:Cx}{R:St->XK}{elts:List Expr}{x1:Nat}{tp:Pos}{a:Expr}{t:DA}{p pos:Pos}(hm:X.mg "enumerate"=none)(ha:JA X R [a] t)(hg:Gl X "enumerate":=by rfl)(hs:starEach [a] X.env=[(false,eval a X.env)]:=by rfl):JK X R (.Tuple elts x1 tp) (.Call (.Name "enumerate" p) [a] [] pos) (MH t):=by
 intro ε s σ H Q I ⟨G,L,ρ,M,q,x,rl,n,ht,hx,hQ⟩;refine Call_ (k7 I hg hm wN (PyProof.Rows.callWith_type1 (bQ (ha pos ε s σ H (GI X.K G L H _) I ⟨G,L,ρ,M,_,x,rl,n,ht,hx,λ_ _ f=>f⟩) λus s1 ⟨vs,H1,I1,rv,ds,G1,L1,M1,e1,r1,n1,d,xs,ok,ed,hl,h1⟩=> ?_) hs rfl));subst ed;obtain ⟨v,rfl,n2⟩:=b_ n1;obtain ⟨b,ws,rfl,sq,sr,_⟩:=nA r1 n2 hl;obtain ⟨u,rfl,ru⟩:=au.one rv;cases ru;obtain ⟨its,_,pl,_⟩:=I1.list sq;refine call_enumerate_list pl.isList λh' he hi hz hk=> ?_;have I2:Inv X ε σ H1 {s1 with heap:=h'}:=I1.kept (t':=s1.toks) hk;refine wpAny_pyIter_enum (s:={s1 with heap:=h'}) he ⟨s1.heap.objs.size+1,[s1.heap.objs.size+1,s1.heap.objs.size],_,_,H1,rfl,I2,Ah b s1.heap.objs.size (s1.heap.objs.size+1) (acb (abX _)),⟨⟨_,he⟩,hi⟩,λc hc=> ?_,hQ _ _ ⟨_,ok,G1,L1,M1,e1,r1,C1 sr,h1⟩⟩;have hc:s1.heap.objs.size<=c:=by
  rcases aaP.mp hc with rfl | hc
  ·exact Nat.le_succ _
  ·have:c=s1.heap.objs.size:=by simpa using hc
   rw [this];exact aam _
 have f:=I1.AE (H':=H1) hc (I1.aR.fresh hc);exact f
def BO(M:Ms):Dt->Option Value
 | .loc k=>match M[k]? with
  | some (.lst _)=>some (.type "list")
  | _=>none
 | d=>Hs d
def GQ(K:fv):List Dt->Ms->DQ->Prop:=λds M q=>∃d c t t' b,ds=[d,c]/\BO M d=some t/\KS c=some t'/\PySem.W.kitOne K t t'=some b/\q (.bl b) M
section
variable{K:fv}
theorem wO{G:Hp}{L:List Addr}{M:Ms}{H:Hp}{d:Dt}{v:V}{t:Value}(r:Rl K G L M H)(n:Den K G L d v)(h:BO M d=some t):i8 K H v t:=by
 by_cases hd:∃k,d= .loc k
 ·obtain ⟨k,rfl⟩:=hd;obtain ⟨a,rfl,e⟩:=n;have h:(match M[k]? with | some (.lst _)=>some (Value.type "list") | _=>none)=some t:=h;split at h
  ·rename_i xs hm;cases h;obtain ⟨_,vs,e1,_⟩:=r.fH k a _ e hm;exact .lst e1
  ·cases h
 ·refine AU r n ?_;cases d with
  | loc k=>exact aaJ ⟨k,rfl⟩ hd
  | _=>exact h
theorem LX:DW K (λxs H Q=>∃x c t t' b,xs=[x,c]/\i8 K H x t/\EU c=some t'/\PySem.W.kitOne K t t'=some b/\Q (.bl b) H) (GQ K):=by intro G0 L0 H0 G L M H vs ds q e r n ⟨d,c,t,t',b,ed,h1,h2,hb,h⟩;subst ed;obtain ⟨v,u,rfl,n1,n2⟩:=ft n;exact ⟨v,u,t,t',b,rfl,wO r n1 h1,EY n2 h2,hb,cf e r h⟩
end
section
variable{X:Cx}{R:St->XK}{e e2:Expr}{t:DA}{p pos:Pos}
theorem jO(K:fv)(hm:X.mg "isinstance"=none)(ha:JA X R [e,e2] t)(he:starEach [e,e2] X.env=(false,eval e X.env)::starEach [e2] X.env:=by rfl)(fo:(backTo pos (starEach [e2] X.env)).any (·.1)=false:=by rfl)(hg:Gl X "isinstance":=by rfl)(hK:X.K=K:=by rfl):JE X R (.Call (.Name "isinstance" p) [e,e2] [] pos) (A5 (GQ K) t):=by subst hK;exact iV u_ LX hm lW ha hg (by decide) (by decide) he fo
theorem qy:∀{zs:List Str} {us:List Value},Paired (λ(z:Str) (u:Value)=>∃tk,u= .str z tk) zs us->au (zs.map V.str) us
 | _,_, .nil=> .nil
 | _,_, .cons h t=> .cons h (qy t)
theorem CU{x:Str}{zs:List Str}(hm:∃a o its n,X.mg x=some (.ref a)/\X.K.lookup a=some o/\o.cls= .type "tuple"/\o.data= .seq its n/\its.size<=sizeLine/\Paired (λ(z:Str) (u:Value)=>∃tk,u= .str z tk) zs its.toList)(hg:Gl X x:=by rfl)(hd:(x==("__debug__":Str))=false:=by decide):JE X R (.Name x pos) (dC (.kt (zs.map .str))):=by obtain ⟨a,o,its,n,h1,h2,h3,h4,h5,h6⟩:=hm;exact JP (v:= .ref a) (y6 hg h1 rfl hd) λG L=>⟨a,zs.map V.str,rfl, .inr ⟨o,its,n,h2,h3,h4,h5,qy h6⟩,qA⟩
end
theorem cQ{te:DE}{cs:En}{ok:Ms->Prop}{f:Dt->Dt}:∀{xs υ:List Dt} {M:Ms} {k:List Dt->Ms->Prop},ok M->(∀x∈xs,∀q:DQ,q (f x) M->te (some x::cs) M q l9)->k (υ++xs.map f) M->nI te cs ok xs υ M k
 | [],υ,M,k,ho,_,h=>⟨ho,by simpa using h⟩
 | x::xs,υ,M,k,ho,hf,h=>⟨ho,hf x List.mem_cons_self _ (cQ ho (λy hy=>hf y (List.mem_cons_of_mem _ hy)) (by simpa using h))⟩
theorem bK{g:Dt->En->(En->Prop)->Prop}{tb:DS}{Dn:ia}{ok:Ms->Prop}(J:List Dt->En->Ms->Prop)(aR:∀xs ρ M,J xs ρ M->ok M)
  (step:∀x xs ρ M,J (x::xs) ρ M->(∀ρ M,J xs ρ M->kC g tb Dn ok xs ρ M)->g x ρ λρ'=>tb {Dn with nx:=kC g tb Dn ok xs,ct:=kC g tb Dn ok xs,bk:=Dn.nx} ρ' M)
  (fin:∀ρ M,J [] ρ M->Dn.nx ρ M):∀(xs:List Dt) (ρ:En) (M:Ms),J xs ρ M->kC g tb Dn ok xs ρ M
 | [],ρ,M,h=>⟨aR _ _ _ h,fin _ _ h⟩
 | x::xs,ρ,M,h=>⟨aR _ _ _ h,step x xs ρ M h λρ' M' h'=>bK J aR step fin xs ρ' M' h'⟩
section
variable{K:fv}{G:Hp}{L:List Addr}
mutual
theorem JG:∀(d:Dt) (v:V),Den K G L d v->d.under L.length
 | .ba,_,_=>trivial
 | .bl _,_,_=>trivial
 | .int _,_,_=>trivial
 | .str _,_,_=>trivial
 | .tup ds,_,⟨a,vs,e,h1,h2⟩=>eA ds vs h2
 | .lst ds,_,⟨a,vs,e,h1,h2⟩=>eA ds vs h2
 | .obj C ns ds,_,⟨a,dx,vs,e,h1,hl,h2⟩=>eA ds vs h2
 | .loc k,_,⟨a,e,h1⟩=>(aah.mp h1).1
 | .ref _,_,_=>trivial
 | .ty _,_,_=>trivial
 | .fc _,_,_=>trivial
 | .kt ds,_,⟨a,vs,e,h1,h2⟩=>eA ds vs h2
 | .exc _ _ ds,_,⟨a,od,vs,e,h1,h2,h3,h4⟩=>eA ds vs h4
 | .MT _ _ _ _ ds,_,⟨vs,e,h2,h3,h4⟩=>eA ds vs h4
theorem eA:∀(ds:List Dt) (vs:List V),Ρ K G L ds vs->Dt.bW L.length ds
 | [],_,_=>trivial
 | d::ds,_,⟨v,r,e,h1,h2⟩=>⟨JG d v h1,eA ds r h2⟩
end
theorem Rl.un{M:Ms}{H:Hp}(r:Rl K G L M H):∀m∈M,MO.under M.length m:=λm hm=>by
 obtain ⟨k,hk,e⟩:=List.getElem_of_mem hm;have em:M[k]? =some m:=by rw [aaa hk,e]
 have el:L[k]? =some (L[k]'(by rw [r.len];exact hk)):=aaa _;obtain ⟨_,q⟩:=r.fH k _ m el em;rw [<-r.len];cases m with
 | lst ds=>obtain ⟨vs,_,h⟩:=q;exact eA _ _ h
 | ins C ns ds=>obtain ⟨dx,vs,_,_,h⟩:=q;exact eA _ _ h
 | eK ks ds=>obtain ⟨vs,_,_,h⟩:=q;exact eA _ _ h
 | raw u=>trivial
end
def oF(M0:Ms)(q:DQ):DQ:=λd M=>∃E d',M=M0++E/\A3 M0.length E d d'/\q d' M0
theorem Fin.oF{K:fv}{G0:Hp}{L0:List Addr}{M0:Ms}{H0:Hp}{q:DQ}{v:V}{H:Hp}(r0:Rl K G0 L0 M0 H0)(f:Fin K G0 L0 H0 (oF M0 q) v H):Fin K G0 L0 H0 q v H:=by obtain ⟨d,G,L,M,ex,r,dn,E,d',e,fz,hq⟩:=f;exact Fin.qS r0 ⟨d,G,L,M,ex,r,dn,M0,E,d',e,rfl,r0.un,fz,hq⟩
def PN(t:DE):DE:=λρ M q x=>t ρ M (oF M q) x
theorem eQ{X:Cx}{R:St->XK}{e:Expr}{t:DE}(h:JE X R e t):JE X R e (PN t):= .of h λσ H G L ρ M q x rl n ht hx=>⟨G,L,ρ,M,_,x,rl,n,ht,hx,λv H1 f=>Fin.oF rl f⟩
theorem yn{M0:Ms}{q:DQ}{d:Dt}(hu:d.under M0.length)(h:q d M0):oF M0 q d M0:=⟨[],d,by simp, .old hu,h⟩
theorem xH{M0 E:Ms}{q:DQ}{d d':Dt}(f:A3 M0.length E d d')(h:q d' M0):oF M0 q d (M0++E):=⟨E,d',rfl,f,h⟩
def eW(f:Expr->Option Dt):List Expr->Option (List Dt)
 | []=>some []
 | e::es=>match f e,eW f es with
  | some d,some ds=>some (d::ds)
  | _,_=>none
def fD:Nat->Expr->Option Dt
 | 0,e=>match e with
  | .Constant (.int i) _ _=>some (.int i)
  | .Constant (.str x) _ _=>some (.str x)
  | _=>none
 | n+1,e=>match e with
  | .Constant (.int i) _ _=>some (.int i)
  | .Constant (.str x) _ _=>some (.str x)
  | .Tuple es _ _=>if es.length<=100 then (eW (fD n) es).map .tup else none
  | .List es _=>if es.length<=100 then (eW (fD n) es).map .lst else none
  | _=>none
theorem xl{n:Nat}{e:Expr}{d:Dt}{es:List Expr}{env:Env}(h:fD n e=some d):starEach (e::es) env=(false,eval e env)::starEach es env:=by cases n <;> (unfold fD at h;split at h <;> first | rfl | cases h)
theorem h9{f:Expr->Option Dt}:∀{es:List Expr} {ds:List Dt},eW f es=some ds->ds.length=es.length
 | [],ds,h=>by cases h;rfl
 | e::es,ds,h=>by
  unfold eW at h;split at h
  ·rename_i d Hl h1 h2;cases h;rw [aaw,aaw,h9 h2]
  ·cases h
section
variable{X:Cx}{R:St->XK}
theorem nK{n:Nat}(ih:∀(e:Expr) (d:Dt),fD n e=some d->JE X R e (dC d)):∀(es:List Expr) (ds:List Dt),eW (fD n) es=some ds->JA X R es (λ_ M q _=>q ds M)
 | [],ds,h=>by cases h;exact ζ
 | e::es,ds,h=>by
  unfold eW at h;split at h
  ·rename_i d Hl h1 h2;cases h;exact η (ih e d h1) (nK ih es Hl h2) (hs:=xl h1)
  ·cases h
theorem zb{n:Nat}(h:n<=100):n<=sizeLine:=aaI h (by decide)
theorem JE.imp{e:Expr}{t t':DE}(h:JE X R e t)(hi:∀ρ M q x,t' ρ M q x->t ρ M q x):JE X R e t':= .of h λσ H G L ρ M q x rl n ht hx=>⟨G,L,ρ,M,q,x,rl,n,hi _ _ _ _ ht,hx,λ_ _ f=>f⟩
theorem iN:∀(n:Nat) {e:Expr} {d:Dt},fD n e=some d->JE X R e (dC d)
 | 0,e,d,h=>by
  unfold fD at h;split at h
  ·cases h;exact ξ
  ·cases h;exact dZ
  ·cases h
 | n +1,e,d,h=>by
  unfold fD at h;split at h
  ·cases h;exact ξ
  ·cases h;exact dZ
  ·split at h
   ·rename_i es _ _ hl;cases hc:eW (fD n) es with
    | none=>rw [hc] at h;cases h
    | some ds=>
     rw [hc] at h;cases h;exact (aV (nK (λe d=>iN n) es ds hc)).imp λρ M q x hq=>⟨zb (by rw [h9 hc];exact hl),hq⟩
   ·cases h
  ·split at h
   ·rename_i es _ hl;cases hc:eW (fD n) es with
    | none=>rw [hc] at h;cases h
    | some ds=>
     rw [hc] at h;cases h;exact (kO (nK (λe d=>iN n) es ds hc)).imp λρ M q x hq=>⟨zb (by rw [h9 hc];exact hl),hq⟩
   ·cases h
  ·cases h
end
theorem AK:bootBuiltins "zip"=some (.type "zip"):=by decide+kernel
theorem Inv.Fd{X:Cx}{ε:List (Addr×Obj)}{σ:St}{H:Hp}{s:Shared}{h':Heap}{its:List Addr}{t':Nat}(I:Inv X ε σ H s)(k:∀b u,b∉its->s.heap.get? b=some u->h'.get? b=some u)(f:∀b∈its,pA X ε H b):
  Inv X ε σ H {s with heap:=h',toks:=t'}:=by
 have Lk:∀b u,H b=some u->b∉its:=λb u e z=>by rw [(f b z).1] at e;cases e
 refine I.call (ch:=its) (g':=s.gens) (d':=s.drawn) (t':=t') ⟨λb u q _ _ hb=>k b u hb q,λb u q _ _ hb=>⟨u.slots,k b u hb q⟩,λb u q n _=>n,λb u q hb=>⟨u,k b u hb q⟩,λb xs q=>q,λb u xs q=>q,λb ps q=>⟨#[],by rw [q];simp⟩⟩ (λb u e=> ?_) I.bare λb hb=> ?_
 ·refine (I.aR b u e).wt (λc v hc q=>k c v ?_ q) (λc q=>q) λc xs q=>q;rcases hc with z | z
  ·rw [z];exact Lk b u e
  ·exact Lk c _ z
 ·obtain ⟨f0,f1,f2,f3,f4,f5⟩:=f b hb;exact ⟨f3,f1,f4,f5⟩
def SH(K:fv)(l1 l2:Addr):It:=
 ⟨λi H=>∃xs ys x y,gM K H l1 xs/\gM K H l2 ys/\xs[i]? =some x/\ys[i]? =some y,
  λi H v H'=>∃p x y,H p=none/\v= .ref p/\H'=upd H p (.tup [x,y])/\(∀xs,gM K H l1 xs->xs[i]? =some x)/\∀ys,gM K H l2 ys->ys[i]? =some y,
  λi H=>∃xs ys,gM K H l1 xs/\gM K H l2 ys/\(xs.length<=i\/ys.length<=i)⟩
theorem D1{P:Program}{w:World}{K:fv}{elts:List Expr}{x1:Nat}{tp:Pos}{l1 l2 i1 i2 TI TO z:Addr}(D:ZipApart z TI TO i1 i2 l1 l2):tY P w K (.Tuple elts x1 tp) (SH K l1 l2) [z,TI,TO,i1,i2] z (λi h=>(∃a b,IsZip h z TI TO .none/\IsPair h TI (.ref i1) (.ref i2)/\IsPair h TO a b)/\h.IsListIter i1 l1 i/\h.IsListIter i2 l2 i) where
 mem:=by simp
 obj:=λi h st b hb=>by
  obtain ⟨⟨a,c,hz,DB,Ee⟩,h1,h2⟩:=st;simp only [List.mem_cons,List.not_mem_nil,or_false] at hb;rcases hb with rfl | rfl | rfl | rfl | rfl
  ·exact ⟨_,hz,λv z=>by
    have z':Data.fields _=Data.cell v:=z
    cases z'⟩
  ·exact ⟨_,DB,λv z=>by
    have z':Data.seq _=Data.cell v:=z
    cases z'⟩
  ·exact ⟨_,Ee,λv z=>by
    have z':Data.seq _=Data.cell v:=z
    cases z'⟩
  ·obtain ⟨o,e,c,d⟩:=h1;exact ⟨o,e,λv z=>by rw [d] at z;cases z⟩
  ·obtain ⟨o,e,c,d⟩:=h2;exact ⟨o,e,λv z=>by rw [d] at z;cases z⟩
 keep:=λi h h' st k=>by obtain ⟨⟨a,c,hz,DB,Ee⟩,h1,h2⟩:=st;exact ⟨⟨a,c,k z (by simp) _ hz,k TI (by simp) _ DB,k TO (by simp) _ Ee⟩,h1.at λo q=>k i1 (by simp) o q,h2.at λo q=>k i2 (by simp) o q⟩
 item:=by
  intro X hP hw hK hc i ε s σ H E I hf st hg;subst hP hw hK;obtain ⟨⟨a,c,hz,DB,Ee⟩,h1,h2⟩:=st;obtain ⟨xs,ys,x,y,Ou,N2,hx,hy⟩:=hg;obtain ⟨OS,Rt,p1,_⟩:=I.list Ou;obtain ⟨u1,Uz,Xc⟩:=Rt.get hx;obtain ⟨Ba,OD,p2,_⟩:=I.list N2;obtain ⟨u2,TR,VZ⟩:=OD.get hy;refine wpAny_pyNext_zip_item D hz DB Ee h1 h2 p1.isList p2.isList (x:=u1) (y:=u2) (by simpa using Uz) (by simpa using TR) λh' Vi OT HU Ud hT hsz hk=> ?_;refine ⟨_,rfl,wpAny_letOwnedTupleGo_zip (s:={s with heap:=h'}) Vi λh3 UX sb=> ?_⟩;have sb:Heap.SameBut z h' h3:=sb;have Se:z < s.heap.objs.size:=aao hz;have neT:s.heap.objs.size≠z:=acb Se;have TC:h3.get? s.heap.objs.size=some {cls:= .type "tuple",data:= .seq #[u1,u2]}:=(sb.2 _ neT).trans hT;have lt:∀b∈[z,TI,TO,i1,i2],b < s.heap.objs.size:=λb hb=>by
   simp only [List.mem_cons,List.not_mem_nil,or_false] at hb;rcases hb with rfl | rfl | rfl | rfl | rfl
   ·exact Se
   ·exact aao DB
   ·exact aao Ee
   ·obtain ⟨o,q,_⟩:=h1;exact aao q
   ·obtain ⟨o,q,_⟩:=h2;exact aao q
  have I2:Inv X ε σ (upd H s.heap.objs.size (.tup [x,y])) {s with heap:=h3,toks:=s.toks}:=by
   refine I.qM (its:=[z,TI,TO,i1,i2]) (λb o hb q=> ?_) hf (aam _) ?_
   ·simp only [List.mem_cons,List.not_mem_nil,or_false,not_or] at hb;obtain ⟨b1,b2,b3,b4,b5⟩:=hb;exact (sb.2 b b1).trans (hk b o b1 b3 b4 b5 q)
   ·refine ⟨by simp [sizeLine_eq],[u1,u2], .cons Xc (.cons VZ .nil), ?_⟩;exact ⟨_,TC,rfl,0,rfl⟩
  refine ⟨.ref s.heap.objs.size,_,I2,rfl,⟨s.heap.objs.size,x,y,I.aR.fresh (aam _),rfl,rfl,λzs Qj=>by rw [I.j7 Qj Ou];exact hx,λzs Qj=>by rw [I.j7 Qj N2];exact hy⟩,⟨⟨u1,u2,UX,(sb.2 _ D.TIz).trans (hk _ _ D.TIz D.TITO D.TIi1 D.TIi2 DB),(sb.2 _ D.TOz).trans OT⟩,HU.at λo q=>(sb.2 i1 D.i1z).trans q,Ud.at λo q=>(sb.2 i2 D.i2z).trans q⟩,λb hb=> ?_⟩;rw [Γ (aaK (lt b hb))];exact (hf b hb).1
 done:=by intro X hP hw hK hc i ε s σ H E I hf st hg;subst hP hw hK;obtain ⟨⟨a,c,hz,DB,Ee⟩,h1,h2⟩:=st;obtain ⟨xs,ys,Ou,N2,hx⟩:=hg;obtain ⟨OS,Rt,p1,_⟩:=I.list Ou;obtain ⟨Ba,OD,p2,_⟩:=I.list N2;have O4:=Rt.length;have ES:=OD.length;refine wpAny_pyNext_zip_end (I.ok.hd hc) D hz DB Ee h1 h2 p1.isList p2.isList (by rcases hx with hx | hx;(left;simp;omega);(right;simp;omega)) λh' ext=>⟨rfl,I.Fd (t':=s.toks) (its:=[z,TI,TO,i1,i2]) (λb o hb q=> ?_) hf⟩;simp only [List.mem_cons,List.not_mem_nil,or_false,not_or] at hb;obtain ⟨b1,b2,b3,b4,b5⟩:=hb;exact ext b o b1 b3 b4 b5 q
 self:=λ_ _ _ _ _ st h=>by obtain ⟨⟨a,c,hz,_,_⟩,_⟩:=st;exact wpAny_pyIter_zip hz h
def vZ(xs ys:List Dt):List Dt:=(xs.zip ys).map λp=> .tup [p.1,p.2]
theorem DD{xs ys:List Dt}{i:Nat}{d:Dt}(h:(vZ xs ys)[i]? =some d):∃x y,xs[i]? =some x/\ys[i]? =some y/\d= .tup [x,y]:=by
 unfold vZ at h;rw [aax] at h;cases e:(xs.zip ys)[i]? with
 | none=>rw [e] at h;cases h
 | some p=>
  rw [e] at h;cases h;obtain ⟨h1,h2⟩:=abS.mp e;exact ⟨p.1,p.2,h1,h2,rfl⟩
theorem uX(xs ys:List Dt):(vZ xs ys).length=min xs.length ys.length:=by unfold vZ;rw [List.length_map,List.length_zip]
theorem ET{K:fv}{G:Hp}{L:List Addr}{a b:Addr}{xs ys:List Dt}{ok KL:Ms->Prop}(s:Src K a xs ok G L)(s':Src K b ys KL G L):J' K (SH K a b) (vZ xs ys) (λM=>ok M/\KL M) G L where
 go:=λi G1 L1 M1 H1 d g l r k e=>by obtain ⟨vs,hs,n⟩:=s.at_ G1 L1 M1 H1 g l r k.1;obtain ⟨Ov,Ot,n'⟩:=s'.at_ G1 L1 M1 H1 g l r k.2;obtain ⟨x,y,ex,ey,rfl⟩:=DD e;obtain ⟨v,e1,n1⟩:=n.get ex;obtain ⟨v',RR,Vs⟩:=n'.get ey;refine ⟨⟨vs,Ov,v,v',hs,Ot,e1,RR⟩,λw H' ⟨p,x2,y2,hp,ev,eH,hx,hy⟩=> ?_⟩;subst ev eH;have e2:=hx vs hs;rw [e1] at e2;cases e2;have e3:=hy Ov Ot;rw [RR] at e3;cases e3;exact ⟨_,r.KD hp,r.FV hp,mW (ds:=[x,y]) r hp ⟨_,_,rfl,n1,_,_,rfl,Vs,rfl⟩⟩
 stop:=λi G1 L1 M1 H1 g l r k e=>by obtain ⟨vs,hs,n⟩:=s.at_ G1 L1 M1 H1 g l r k.1;obtain ⟨Ov,Ot,n'⟩:=s'.at_ G1 L1 M1 H1 g l r k.2;refine ⟨vs,Ov,hs,Ot, ?_⟩;rw [<-n.length,<-n'.length];rw [uX] at e;omega
def Ql(t:DA):DK:=λρ M q x=>t ρ M (λds M1=>∃d d' xs ys ok KL,ds=[d,d']/\g6 M1 d=some (xs,ok)/\g6 M1 d'=some (ys,KL)/\q (vZ xs ys) (λM=>ok M/\KL M) M1) x
theorem JV{X:Cx}{R:St->XK}{elts:List Expr}{x1:Nat}{tp:Pos}{a a':Expr}{t:DA}{p pos:Pos}(hm:X.mg "zip"=none)(ha:JA X R [a,a'] t)(hg:Gl X "zip":=by rfl)(hs:starEach [a,a'] X.env=(false,eval a X.env)::starEach [a'] X.env:=by rfl)(fo:(backTo pos (starEach [a'] X.env)).any (·.1)=false:=by rfl):JK X R (.Tuple elts x1 tp) (.Call (.Name "zip" p) [a,a'] [] pos) (Ql t):=by
 intro ε s σ H Q I ⟨G,L,ρ,M,q,x,rl,n,ht,hx,hQ⟩;refine Call_ (k7 I hg hm AK (PyProof.Rows.callWith_type1 (bQ (ha pos ε s σ H (GI X.K G L H _) I ⟨G,L,ρ,M,_,x,rl,n,ht,hx,λ_ _ f=>f⟩) λus s1 ⟨vs,H1,I1,rv,ds,G1,L1,M1,e1,r1,n1,d,d',xs,ys,ok,KL,ed,hl,V5,h1⟩=> ?_) hs fo));subst ed;obtain ⟨v,v',rfl,n2,Vv⟩:=ft n1;obtain ⟨b,ws,rfl,sq,sr,_⟩:=nA r1 n2 hl;obtain ⟨b',Yg,rfl,VC,Tq,_⟩:=nA r1 Vv V5;cases rv with
 | cons ru rv=>
  cases rv with
  | cons WB rv=>
   cases rv;cases ru;cases WB;obtain ⟨its,_,pl,_⟩:=I1.list sq;obtain ⟨its',_,wm,_⟩:=I1.list VC;have XM:b < s1.heap.objs.size:=by obtain ⟨o,q,_⟩:=pl.isList;exact aao q
   have WS:b' < s1.heap.objs.size:=by obtain ⟨o,q,_⟩:=wm.isList;exact aao q
   refine call_zip_2 pl.isList wm.isList λh' hz DB Ee hi A4 hsz hk=> ?_;have I2:Inv X ε σ H1 {s1 with heap:=h'}:=I1.kept (t':=s1.toks) hk;have D:ZipApart (s1.heap.objs.size+4) (s1.heap.objs.size+2) (s1.heap.objs.size+3) s1.heap.objs.size (s1.heap.objs.size+1) b b':=by have ne:∀i j:Nat,i≠j->s1.heap.objs.size+i≠s1.heap.objs.size+j:=λi j h z=>h (Nat.add_left_cancel z);have n1:∀i:Nat,b≠s1.heap.objs.size+i:=λi=>aaK (aaq XM (abk _ _));have n2:∀i:Nat,b'≠s1.heap.objs.size+i:=λi=>aaK (aaq WS (abk _ _));exact ⟨ne 2 4 (by decide),ne 3 4 (by decide),ne 0 4 (by decide),ne 1 4 (by decide),ne 2 3 (by decide),ne 2 0 (by decide),ne 2 1 (by decide),ne 3 0 (by decide),ne 3 1 (by decide),ne 0 1 (by decide),n1 4,n1 3,n1 0,n1 1,n2 4,n2 3,n2 0,n2 1⟩
   refine wpAny_pyIter_zip (s:={s1 with heap:=h'}) hz ⟨s1.heap.objs.size+4,[s1.heap.objs.size+4,s1.heap.objs.size+2,s1.heap.objs.size+3,s1.heap.objs.size,s1.heap.objs.size+1],_,_,H1,rfl,I2,D1 D,⟨⟨_,_,hz,DB,Ee⟩,hi,A4⟩,λc hc=> ?_,hQ _ _ ⟨_,_,G1,L1,M1,e1,r1,ET sr Tq,h1⟩⟩;have hc:s1.heap.objs.size<=c:=by
    simp only [List.mem_cons,List.not_mem_nil,or_false] at hc;rcases hc with rfl | rfl | rfl | rfl | rfl
    ·exact abk _ _
    ·exact abk _ _
    ·exact abk _ _
    ·exact aam _
    ·exact abk _ _
   have f:=I1.AE (H':=H1) hc (I1.aR.fresh hc);exact f
section
variable{κ:Type} [DecidableEq κ]
def cZ(Β:List (κ×V))(k:κ):Option V:=(Β.find? λkv=>decide (kv.1=k)).map (·.2)
def fG(Β:List (κ×V))(k:κ)(v:V):List (κ×V):=
 if (Β.any λkv=>decide (kv.1=k))=true then Β.map (λkv=>if kv.1=k then (kv.1,v) else kv) else Β++[(k,v)]
theorem cH{p:κ×V}{r:List (κ×V)}{k:κ}(e:p.1=k):cZ (p::r) k=some p.2:=by simp [cZ,List.find?_cons,e]
theorem cq{p:κ×V}{r:List (κ×V)}{k:κ}(e:¬p.1=k):cZ (p::r) k=cZ r k:=by simp [cZ,List.find?_cons,e]
theorem kH(k:κ):∀Β:List (κ×V),(Β.any λkv=>decide (kv.1=k))=(cZ Β k).isSome
 | []=>rfl
 | p::r=>by
  rw [abE];by_cases e:p.1=k
  ·simp only [cH e,decide_eq_true e,Bool.true_or,Option.isSome_some]
  ·rw [cq e,aaD e,Bool.false_or];exact kH k r
theorem qW(k j:κ)(y:V):∀Β:List (κ×V),cZ Β k=none->cZ (Β++[(k,y)]) j=if j=k then some y else cZ Β j
 | [],_=>by
  by_cases e:k=j
  ·rw [aaE e.symm];exact cH (p:=(k,y)) e
  ·rw [aaA (λz=>e z.symm)];exact cq (p:=(k,y)) e
 | p::r,hn=>by
  rw [List.cons_append];have hk:¬p.1=k:=λz=>by rw [cH z] at hn;cases hn
  rw [cq hk] at hn;have ih:=qW k j y r hn;by_cases e:p.1=j
  ·rw [cH e,cH e,aaA (λz=>hk (e.trans z))]
  ·rw [cq e,cq e,ih]
theorem fL(Β:List (κ×V))(k:κ)(v:V):(fG Β k v).length<=Β.length+1:=by
 unfold fG;split
 ·rw [aac];omega
 ·rw [aaf,aaw,List.length_nil];omega
theorem Du{Β:List (κ×V)}{k:κ}(v:V)(h:cZ Β k=none):fG Β k v=Β++[(k,v)]:=by unfold fG;rw [kH,h];exact aaA (by decide)
theorem i_.gJ{o:Option V}{u:Option Value}(r:i_ o u):o.isSome=u.isSome:=by
 cases o with
 | none=>cases u with
  | none=>rfl
  | some _=>exact (show False from r).elim
 | some _=>cases u with
  | none=>exact (show False from r).elim
  | some _=>rfl
theorem KV.val{Β:List (κ×V)}{vs:List (κ×Value)}(r:KV Β vs)(k:κ):i_ (cZ Β k) (valueAt vs k):=by
 unfold KV at r
 induction r with
 | nil=>exact True.intro
 | @cons p q ps qs h t ih=>
  obtain ⟨h1,h2⟩:=h;by_cases e:p.1=k
  ·have e':q.1=k:=h1.symm.trans e;have b:valueAt (q::qs) k=some q.2:=by simp [valueAt,List.find?_cons,e']
   rw [cH e,b];exact h2
  ·have e':¬q.1=k:=λz=>e (h1.trans z);have b:valueAt (q::qs) k=valueAt qs k:=by simp [valueAt,List.find?_cons,e']
   rw [cq e,b];exact ih
theorem KV.any{Β:List (κ×V)}{vs:List (κ×Value)}(r:KV Β vs)(k:κ):(Β.any λkv=>decide (kv.1=k))=vs.any λkv=>decide (kv.1=k):=by
 unfold KV at r
 induction r with
 | nil=>rfl
 | cons h t ih=>rw [abE,abE,ih,h.1]
theorem KV.Io{Β:List (κ×V)}{vs:List (κ×Value)}(r:KV Β vs)(k:κ){y:V}{u:Value}(ry:ak y u):
  KV (Β.map λkv=>if kv.1=k then (kv.1,y) else kv) (vs.map λkv=>if kv.1=k then (kv.1,u) else kv):=by
 unfold KV at r⊢
 induction r with
 | nil=>exact .nil
 | @cons p q ps qs h t ih=>
  rw [aaS,aaS];refine .cons ?_ ih;obtain ⟨h1,h2⟩:=h;by_cases e:p.1=k
  ·rw [aaE e,aaE (h1.symm.trans e)];exact ⟨h1,ry⟩
  ·rw [aaA e,aaA (λz=>e (h1.trans z))];exact ⟨h1,h2⟩
theorem KV.put{Β:List (κ×V)}{vs:List (κ×Value)}(r:KV Β vs)(k:κ){y:V}{u:Value}(ry:ak y u):KV (fG Β k y) (stored vs k u):=by
 unfold fG stored;rw [r.any k];by_cases e:(vs.any λkv=>decide (kv.1=k))=true
 ·rw [aaE e,aaE e];exact r.Io k ry
 ·rw [aaA e,aaA e];exact Paired.snoc r ⟨rfl,ry⟩
theorem KV.keys{Β:List (κ×V)}{vs:List (κ×Value)}(r:KV Β vs):Β.map (·.1)=vs.map (·.1):=by
 unfold KV at r
 induction r with
 | nil=>rfl
 | cons h t ih=>rw [aaS,aaS,ih,h.1]
theorem KV.length{Β:List (κ×V)}{vs:List (κ×Value)}(r:KV Β vs):Β.length=vs.length:=Paired.length r
end
theorem oX{P:Program}{w:World}{k:Key}{u:Value}(r:ak (kV k) u):(bI P w).is k u=true:=by
 cases k with
 | inl i=>obtain ⟨t,e⟩:=(show∃t,u=Value.int i t from r);subst e;exact ua P w i t
 | inr x=>obtain ⟨t,e⟩:=(show∃t,u=Value.str x t from r);subst e;exact vz P w x t
theorem qv{P:Program}{w:World}:∀{ks:List Key} {us:List Value},au (ks.map kV) us->ItemsAre (bI P w) ks us
 | [],_,r=>by rw [List.map_nil] at r;cases r;exact .nil
 | k::ks,_,r=>by
  rw [aaS] at r;cases r with
  | cons h t=>exact .cons (oX h) (qv t)
abbrev KT(H:Hp):List (List Key×V)->List (List Key×Addr×Value)->Prop:=Paired λp q=>p.1=q.1/\H q.2.1=some (.tup (p.1.map kV))/\ak p.2 q.2.2
theorem KT.val{H:Hp}{Β:List (List Key×V)}{xs:List (List Key×Addr×Value)}(r:KT H Β xs)(k:List Key):i_ (cZ Β k) ((atKey xs k).map (·.2)):=by
 induction r with
 | nil=>exact True.intro
 | @cons p q ps qs h t ih=>
  obtain ⟨h1,_,h2⟩:=h;by_cases e:p.1=k
  ·have e':q.1=k:=h1.symm.trans e;have b:atKey (q::qs) k=some q.2:=by simp [atKey,List.find?_cons,e']
   rw [cH e,b];exact h2
  ·have e':¬q.1=k:=λz=>e (h1.trans z);have b:atKey (q::qs) k=atKey qs k:=by simp [atKey,List.find?_cons,e']
   rw [cq e,b];exact ih
theorem KT.Io{H:Hp}{Β:List (List Key×V)}{xs:List (List Key×Addr×Value)}(r:KT H Β xs)(k:List Key){y:V}{u:Value}(ry:ak y u):
  KT H (Β.map λkv=>if kv.1=k then (kv.1,y) else kv) (xs.map (putAt k u)):=by
 induction r with
 | nil=>exact .nil
 | @cons p q ps qs h t ih=>
  rw [aaS,aaS];refine .cons ?_ ih;obtain ⟨h1,h2,h3⟩:=h;unfold putAt;by_cases e:p.1=k
  ·rw [aaE e,aaE (h1.symm.trans e)];exact ⟨h1,h2,ry⟩
  ·rw [aaA e,aaA (λz=>e (h1.trans z))];exact ⟨h1,h2,h3⟩
theorem KT.put{H:Hp}{Β:List (List Key×V)}{xs:List (List Key×Addr×Value)}(r:KT H Β xs)(k:List Key){b:Addr}{y:V}{u:Value}(hb:H b=some (.tup (k.map kV)))(ry:ak y u):
  KT H (fG Β k y) (storedH xs k b u):=by
 have e:(Β.any λkv=>decide (kv.1=k))=(atKey xs k).isSome:=by rw [kH,(r.val k).gJ,Option.isSome_map]
 unfold fG storedH;rw [e];by_cases q:(atKey xs k).isSome=true
 ·rw [aaE q,aaE q];exact r.Io k ry
 ·rw [aaA q,aaA q];exact Paired.snoc r ⟨rfl,hb,ry⟩
theorem KT.keeps{H H':Hp}{Β:List (List Key×V)}{xs:List (List Key×Addr×Value)}(r:KT H Β xs)(ht:∀b ys,H b=some (.tup ys)->H' b=some (.tup ys)):KT H' Β xs:=
 Paired.Ik r λ_ _ z=>⟨z.1,ht _ _ z.2.1,z.2.2⟩
section
variable{P:Program}{w:World}{H:Hp}{h:Heap}{a:Addr}
theorem Ha{u:HO}(ok:ji P w H h)(e:Rd H a u):bO P w H h a u:=e.ok ok
theorem eM{Β:List (Key×V)}(ok:ji P w H h)(e:Rd H a (.dK Β)):Β.length<=sizeLine/\(a==sysModules)=false/\∃vs,KV Β vs/\h.DictOf (bI P w) a vs:=
 show bO P w H h a (.dK Β) from Ha ok e
theorem Bi{Β:List (Key×V)}(ok:ji P w H h)(e:H a=some (.dK Β)):Β.length<=sizeLine/\(a==sysModules)=false/\∃vs,KV Β vs/\h.DictOf (bI P w) a vs:=eM ok (.inl e)
theorem o_{ks:List Key}(ok:ji P w H h)(e:H a=some (.tup (ks.map kV))):(tupleKind (bI P w)).is h ks a:=by obtain ⟨_,its,r,o,h1,h2,n,h3⟩:=(show bO P w H h a (.tup (ks.map kV)) from ok a _ e);exact ⟨o,its.toArray,n,h1,h2,h3,by simpa using qv r⟩
theorem qf{Β:List (List Key×V)}(ok:ji P w H h)(e:Rd H a (.dT Β)):Β.length<=sizeLine/\(a==sysModules)=false/\
  ∃xs,KT H Β xs/\h.DictOfH (tupleKind (bI P w)) a xs:=by
 obtain ⟨z,y,xs,r,o,es,ep,h1,h2,h3,h4,h5⟩:=(show bO P w H h a (.dT Β) from Ha ok e);refine ⟨z,y,xs,r,o,es,ep,h1,h2,h3,h4,λx hx=> ?_,h5⟩;have all:∀{l:List (List Key×V)} {m:List (List Key×Addr×Value)},KT H l m->∀x∈m,(tupleKind (bI P w)).is h x.1 x.2.1:=by
  intro l m q
  induction q with
  | nil=>intro x hx;exact nomatch hx
  | @cons p q ps qs hq t ih=>
   intro x hx;rcases aaP.mp hx with e | hx
   ·subst e;exact o_ ok (by rw [<-hq.1];exact hq.2.1)
   ·exact ih x hx
 exact all r x hx
theorem LO{Β:List (List Key×V)}(ok:ji P w H h)(e:H a=some (.dT Β)):Β.length<=sizeLine/\(a==sysModules)=false/\
  ∃xs,KT H Β xs/\h.DictOfH (tupleKind (bI P w)) a xs:=qf ok (.inl e)
end
def q5(H:Hp)(a:Addr)(y:V)(r:Option V):Prop:=
 (∃Β k,Rd H a (.dK Β)/\y=kV k/\r=cZ Β k)\/∃Β k b,Rd H a (.dT Β)/\y= .ref b/\H b=some (.tup (k.map kV))/\r=cZ Β k
def C_(H:Hp)(a:Addr)(y v:V)(H':Hp):Prop:=
 (∃Β k,H a=some (.dK Β)/\y=kV k/\Β.length < sizeLine/\H'=upd H a (.dK (fG Β k v)))\/
 ∃Β k b,H a=some (.dT Β)/\y= .ref b/\H b=some (.tup (k.map kV))/\Β.length < sizeLine/\H'=upd H a (.dT (fG Β k v))
theorem C_.k{H:Hp}{a:Addr}{Β:List (Key×V)}{k:Key}{v:V}(e:H a=some (.dK Β))(hl:Β.length < sizeLine):C_ H a (kV k) v (upd H a (.dK (fG Β k v))):= .inl ⟨Β,k,e,rfl,hl,rfl⟩
section
variable{X:Cx}{ε:List (Addr×Obj)}{σ:St}{H:Hp}{s:Shared}{a:Addr}{y v:V}{u r:Value}{o:Option V}{A:Around}{E:Value->Shared->Prop}
theorem Inv.big(I:Inv X ε σ H s):sysModules < s.heap.objs.size:=by have h:mainGlobals < s.heap.objs.size:=(I.mod.glob.keeps I.bk).lt;exact Nat.lt_trans (by decide) h
theorem zH{Q:Value->Shared->Prop}(hu:A.units+1 < cLine)(I:Inv X ε σ H s)(g:q5 H a y (some v))(ry:ak y u)(h:∀w' s',Inv X ε σ H s'->ak v w'->Q w' s'):
  wpAny (model X.prog X.w) A (getItem (.ref a) u) Q E s:=by
 rcases g with ⟨Β,k,e,ey,l⟩ | ⟨Β,k,b,e,ey,eb,l⟩
 ·subst ey;obtain ⟨z,hd,vs,rel,dd⟩:=eM I.aR e;obtain ⟨w',hw,zx⟩:=i_.some_of (v:=v) (o:=valueAt vs k) (by rw [l];exact rel.val k);exact wpAny_getItem_of (oX ry) dd.mapOf hw (h w' _ (I.tok _) zx)
 ·subst ey;cases (show u=Value.ref b from ry);obtain ⟨z,hd,xs,rel,dd⟩:=qf I.aR e;obtain ⟨w',hw,zx⟩:=i_.some_of (v:=v) (o:=(atKey xs k).map (·.2)) (by rw [l];exact rel.val k);obtain ⟨p,hp,IX⟩:=abJ.mp hw;refine wpAny_getItem_heap (tupleKind_room_in1 hu) (o_ I.aR eb) dd hp ?_;rw [IX];exact h w' _ (I.tok _) zx
theorem Pu{Q:Value->Shared->Prop}(hu:A.units+1 < cLine)(I:Inv X ε σ H s)(g:q5 H a y o)(ry:ak y u)(h:∀s',Inv X ε σ H s'->Q (.bool o.isSome) s'):
  wpAny (model X.prog X.w) A (compareOp .In u (.ref a)) Q E s:=by
 rcases g with ⟨Β,k,e,ey,l⟩ | ⟨Β,k,b,e,ey,eb,l⟩
 ·subst ey;obtain ⟨z,hd,vs,rel,dd⟩:=eM I.aR e;refine wpAny_in_of (oX ry) hd dd.mapOf ?_;rw [<-(rel.val k).gJ,<-l];exact h _ (I.tok _)
 ·subst ey;cases (show u=Value.ref b from ry);obtain ⟨z,hd,xs,rel,dd⟩:=qf I.aR e;refine wpAny_in_heap (tupleKind_room_in1 hu) (o_ I.aR eb) hd dd ?_;have q:=(rel.val k).gJ;rw [Option.isSome_map] at q;rw [<-q,<-l];exact h _ (I.tok _)
theorem E5{Q:Value->Shared->Prop}(hu:A.units+1 < cLine)(I:Inv X ε σ H s)(g:q5 H a y o)(ry:ak y u)(h:∀s',Inv X ε σ H s'->Q (.bool (!o.isSome)) s'):
  wpAny (model X.prog X.w) A (compareOp .NotIn u (.ref a)) Q E s:=by
 rcases g with ⟨Β,k,e,ey,l⟩ | ⟨Β,k,b,e,ey,eb,l⟩
 ·subst ey;obtain ⟨z,hd,vs,rel,dd⟩:=eM I.aR e;refine wpAny_notIn_of (oX ry) hd dd.mapOf ?_;rw [<-(rel.val k).gJ,<-l];exact h _ (I.tok _)
 ·subst ey;cases (show u=Value.ref b from ry);obtain ⟨z,hd,xs,rel,dd⟩:=qf I.aR e;refine wpAny_notIn_heap (tupleKind_room_in1 hu) (o_ I.aR eb) hd dd ?_;have q:=(rel.val k).gJ;rw [Option.isSome_map] at q;rw [<-q,<-l];exact h _ (I.tok _)
theorem mY{h':Heap}{t':Nat}{ob:HO}(I:Inv X ε σ H s)(mu:MB (H a))(hs:Heap.SameBut a s.heap h')(he:∃q,h'.get? a=some q)(new:bO X.prog X.w (upd H a ob) h' a ob):
  Inv X ε σ (upd H a ob) {s with heap:=h',toks:=t'}:=
 I.write (x:=a) (e:=a) mu (.inl rfl) (λb q hb z=>(hs.2 b hb).trans z) he new
theorem rD{P:Program}{w:World}{H':Hp}{h':Heap}{Β:List (Key×V)}{vs:List (Key×Value)}(z:Β.length<=sizeLine)(hd:(a==sysModules)=false)(rel:KV Β vs)(dd:h'.DictOf (bI P w) a vs):
  bO P w H' h' a (.dK Β):=⟨z,hd,vs,rel,dd⟩
theorem zN{H':Hp}{Q:Unit->Shared->Prop}(hu:A.units+1 < cLine)(I:Inv X ε σ H s)(g:C_ H a y v H')(ry:ak y u)(rv:ak v r)(h:∀s',Inv X ε σ H' s'->Q () s'):
  wpAny (model X.prog X.w) A (setItem (.ref a) u r) Q E s:=by
 rcases g with ⟨Β,k,e,ey,l,eH⟩ | ⟨Β,k,b,e,ey,eb,l,eH⟩
 ·subst ey eH;obtain ⟨z,hd,vs,rel,dd⟩:=Bi I.aR e;have hz:vs.length<=sizeLine:=by rw [<-rel.length];exact z
  have hl:(fG Β k v).length<=sizeLine:=by have:=fL Β k v;omega
  refine wpAny_setItem_pairs (hsz:=hz) (oX ry) dd λh' A8 hs=>h _ ?_;have he:∃q,h'.get? a=some q:=let ⟨q,_,_,hq,_⟩:=A8;⟨q,hq⟩
  exact mY I (by rw [e];exact True.intro) hs he (rD hl hd (rel.put k rv) A8)
 ·subst ey eH;cases (show u=Value.ref b from ry);obtain ⟨z,hd,xs,rel,dd⟩:=LO I.aR e;have hz:xs.length<=sizeLine:=by rw [<-Paired.length rel];exact z
  have hl:(fG Β k v).length<=sizeLine:=by have:=fL Β k v;omega
  refine wpAny_setItem_heap (hsz:=hz) (tupleKind_room_in1 hu) (o_ I.aR eb) dd λh' A8 hs=>h _ ?_;obtain ⟨q,es,ep,hq,h2,h3,h4,_,h5⟩:=A8;refine mY I (by rw [e];exact True.intro) hs ⟨q,hq⟩ ⟨hl,hd,_,(rel.put k eb rv).keeps λc ys ec=> ?_,q,es,ep,hq,h2,h3,h4,h5⟩;rw [Γ (LG ec e (λz=>nomatch z))];exact ec
end
def Je(i:Expr):Prop:=∀ov iv,subscripted i false ov iv=operate [ov,iv] (getItem ov iv)
theorem Fm{prog:Program}{w:World}{A:Around}{E:Value->Shared->Prop}{s:Shared}{env:Env}{value slice:Expr}{pos:Pos}{T id:String}{Q:Value->Shared->Prop}
  (hl:typeLookup (.type T) "__getitem__"=pure (some (.builtin id))) (hs:Je slice)
  (h:wpAny (model prog w) A (eval value env) (λo s₁=>wpAny (model prog w) A (eval slice env) (λi s₂=>s₂.TypeIs o T/\wpAny (model prog w) A (getItem o i) Q E s₂) E s₁) E s):
  wpAny (model prog w) A (eval (.Subscript value slice pos) env) Q E s:=by
 refine Subscript_ (abG h (λo s₁ h₁=>abG h₁ (λi s₂ h₂=> ?_) λ_ _ x=>x) λ_ _ x=>x);obtain ⟨hT,h₂⟩:=h₂;unfold subscriptTail;refine aak ?_;rw [getitemInPython_of_ne hT.not_modules];refine aak (wpAny_specialOf hT hl ?_);have fin:wpAny (model prog w) A (subscripted slice false o i) (λr s₃=>wpAny (model prog w) A (letTemporaryGo value o r >>= λ_=>pure r) Q E s₃) E s₂:=by rw [hs o i];exact wpAny_operating (abG h₂ (λr s₃ h₃=>aak (wpAny_letTemporaryGo (aaL h₃))) λ_ _ x=>x)
 first
  | exact aaL (aak fin)
  | exact aak (aaL (aak fin))
  | exact aak fin
theorem u7{X:Cx}{ε:List (Addr×Obj)}{σ:St}{H:Hp}{s:Shared}{a:Addr}{y:V}{o:Option V}(I:Inv X ε σ H s)(g:q5 H a y o):s.TypeIs (.ref a) "dict":=by
 rcases g with ⟨Β,k,e,_,_⟩ | ⟨Β,k,b,e,_,_,_⟩
 ·obtain ⟨_,_,vs,_,dd⟩:=eM I.aR e;exact dd.typeIs
 ·obtain ⟨_,_,xs,_,dd⟩:=qf I.aR e;exact dd.typeIs
def Lx(td ty:TE):TE:=λσ H Q=>td σ H λx H1=>ty σ H1 λy H2=>∃a v,x= .ref a/\q5 H2 a y (some v)/\Q v H2
def L6(td ty tv:TE):TS:=λD σ H=>tv σ H λv H1=>td σ H1 λx H2=>ty σ H2 λy H3=>∃a H4,x= .ref a/\C_ H3 a y v H4/\D.nx σ H4
section
variable{X:Cx}{o i e value:Expr}{pos pos' pQ:Pos}{td ty tv:TE}
theorem EV(hu:X.A.units+1 < cLine)(ho:PE X o td)(hi:PE X i ty)(hs:Je i):PE X (.Subscript o i pos) (Lx td ty):=by intro ε s σ H Q I h;refine Fm PySem.F.slot_dict_getitem.lookup hs (bQ (ho ε s σ H _ I h) λu s1 ⟨x,H1,I1,rx,q1⟩=>bQ (hi ε s1 σ H1 _ I1 q1) λiv s2 ⟨y,H2,I2,ry,a,v,ex,g,q2⟩=> ?_);subst ex;obtain rfl:u=Value.ref a:=rx;exact ⟨u7 I2 g,zH hu I2 g ry λw' s3 I3 zx=>⟨v,H2,I3,zx,q2⟩⟩
theorem FX(hu:X.A.units+1 < cLine)(ho:PE X o td)(hi:PE X i ty)(hv:PE X value tv)(hs:swapsWith value (some (.Subscript o i pos')) pos.line X.env=pure false):
  PS X (.Assign [.Subscript o i pos'] value pos) (L6 td ty tv):=by
 intro ε s σ H D I h;refine wpAny_Assign_Subscript (bQ (hv ε s σ H _ I h) λr s1 ⟨v,H1,I1,rv,q1⟩=>bQ (ho ε s1 σ H1 _ I1 q1) λu s2 ⟨x,H2,I2,rx,q2⟩=>bQ (hi ε s2 σ H2 _ I2 q2) λiv s3 ⟨y,H3,I3,ry,a,H4,ex,g,q3⟩=> ?_) hs;subst ex;obtain rfl:u=Value.ref a:=rx;exact zN hu I3 g ry rv λs4 I4=>⟨σ,H4,I4,q3⟩
end
theorem vk{P:Program}{w:World}{H:Hp}(h:Heap)(hb:sysModules < h.objs.size):bO P w H (h.push {cls:= .type "dict",data:= .dict #[]}) h.objs.size (.dK []):=
 ⟨abK _,beq_eq_false_iff_ne.mpr (Ne.symm (aaK hb)),[], .nil,Heap.DictOf.new h⟩
def J5:TE:=λ_ H Q=>∀p,H p=none->Q (.ref p) (upd H p (.dK []))
section
variable{X:Cx}{pos:Pos}
theorem By:PE X (.Dict [] [] pos) J5:=λε s σ H Q I h=>
 wpAny_Dict_empty ⟨.ref s.heap.objs.size,_,I.laid (a:=s.heap.objs.size) (o:= .dK []) (t':=s.toks) (λ_ _ q=>aal _ q) (aam _) (vk s.heap I.big),rfl,h _ (I.aR.fresh (aam _))⟩
end
def xQ:List (TE×TE)->St->Hp->(List (V×V)->Hp->Prop)->Prop
 | [],_,H,Q=>Q [] H
 | (tk,tv)::r,σ,H,Q=>tk σ H λx H1=>tv σ H1 λy H2=>xQ r σ H2 λps H3=>Q ((x,y)::ps) H3
abbrev VV:List (V×V)->List (Value×Value)->Prop:=Paired λp q=>ak p.1 q.1/\ak p.2 q.2
def Ob(X:Cx)(pos:Pos)(keys:List (Option Expr))(values:List Expr)(E7:List (TE×TE)):Prop:=
 ∀(ε:List (Addr×Obj)) (s:Shared) (σ:St) (H:Hp) (Q:List (V×V)->Hp->Prop),Inv X ε σ H s->xQ E7 σ H Q->
  wpAny (model X.prog X.w) X.A (evalPairs (pairTrees keys values X.env pos)) (λvs s'=>∃ps H',Inv X ε σ H' s'/\VV ps vs/\Q ps H') X.xe s
theorem Eo{X:Cx}{pos:Pos}:Ob X pos [] [] []:=λε s σ H Q I h=>pairTrees_nil_walk ⟨[],H,I, .nil,h⟩
theorem vV{X:Cx}{pos:Pos}{k v:Expr}{ks:List (Option Expr)}{vs:List Expr}{tk tv:TE}{E7:List (TE×TE)}(hk:PE X k tk)(hv:PE X v tv)(hr:Ob X pos ks vs E7):
  Ob X pos (some k::ks) (v::vs) ((tk,tv)::E7):=λε s σ H Q I h=>
 pairTrees_cons_walk (bQ (hk ε s σ H _ I h) λu s1 ⟨x,H1,I1,rx,q1⟩=>bQ (hv ε s1 σ H1 _ I1 q1) λw2 s2 ⟨y,H2,I2,ry,q2⟩=>
  bQ (hr ε s2 σ H2 _ I2 q2) λws s3 ⟨ps,H3,I3,rel,q3⟩=>⟨(x,y)::ps,H3,I3, .cons ⟨rx,ry⟩ rel,q3⟩)
def jK(Β more:List (Key×V)):List (Key×V):=more.foldl (λυ kv=>fG υ kv.1 kv.2) Β
theorem KV.merge:∀{more:List (Key×V)} {rs:List (Key×Value)} {Β:List (Key×V)} {vs:List (Key×Value)},KV more rs->KV Β vs->KV (jK Β more) (merged vs rs):=by
 intro more rs Β vs r;unfold KV at r
 induction r generalizing Β vs with
 | nil=>intro q;exact q
 | @cons p q ps qs h t ih=>
  intro r0;have e:KV (fG Β p.1 p.2) (stored vs q.1 q.2):=by have:=r0.put p.1 h.2;rw [<-h.1];exact this
  exact ih e
theorem jq:∀(more Β:List (Key×V)),(jK Β more).length<=Β.length+more.length
 | [],Β=>by show Β.length<=Β.length+0;omega
 | p::r,Β=>by have h1:=jq r (fG Β p.1 p.2);have h2:=fL Β p.1 p.2;show (jK (fG Β p.1 p.2) r).length<=_;rw [aaw];omega
theorem oU{P:Program}{w:World}:∀{Β:List (Key×V)} {ws:List (Value×Value)},VV (Β.map λkv=>(kV kv.1,kv.2)) ws->∃rs,Carries (bI P w) ws rs/\KV Β rs
 | [],_,r=>by rw [List.map_nil] at r;cases r;exact ⟨[],True.intro, .nil⟩
 | p::Β,_,r=>by
  rw [aaS] at r;cases r with
  | @cons a b as bs h t=>
   obtain ⟨rs,c,q⟩:=oU (P:=P) (w:=w) t;obtain ⟨b1,b2⟩:=b;exact ⟨(p.1,b2)::rs,⟨oX h.1,rfl,c⟩, .cons ⟨rfl,h.2⟩ q⟩
def K6(E7:List (TE×TE)):TE:=λσ H Q=>∀p,H p=none->xQ E7 σ (upd H p (.dK [])) λps H2=>H2 p=some (.dK [])/\∃Β:List (Key×V),ps=Β.map (λkv=>(kV kv.1,kv.2))/\Β.length<=15/\Q (.ref p) (upd H2 p (.dK (jK [] Β)))
theorem EB{X:Cx}{pos:Pos}{keys:List (Option Expr)}{values:List Expr}{E7:List (TE×TE)}(h:Ob X pos keys values E7)(v8:keys.all (·.isSome)=true)(hl:keys.length=values.length)(h0:keys≠[])
  (UB:keys.length<=15):PE X (.Dict keys values pos) (K6 E7):=by
 intro ε s σ H Q I q;have hn:=I.aR.fresh (aam s.heap.objs.size);have I1:=I.laid (a:=s.heap.objs.size) (o:= .dK []) (h':=s.heap.push {cls:= .type "dict",data:= .dict #[]}) (t':=s.toks) (λ_ _ q=>aal _ q) (aam _) (vk s.heap I.big);refine wpAny_Dict_walk (knd:=bI X.prog X.w) v8 hl h0 UB (bQ (h ε _ σ _ _ I1 (q _ hn)) λws s2 ⟨ps,H2,I2,rel,e,Β,ep,lk,q2⟩=> ?_);subst ep;obtain ⟨rs,c,rk⟩:=oU (P:=X.prog) (w:=X.w) rel;obtain ⟨z,hd,WJ,r0,dd⟩:=Bi I2.aR e;cases r0;refine ⟨rs,c,dd,λh' A8 hs=>⟨.ref s.heap.objs.size,_, ?_,rfl,q2⟩⟩;have hz:(jK [] Β).length<=sizeLine:=by have h1:=jq Β [];rw [List.length_nil] at h1;rw [sizeLine_eq];omega
 have he:∃q,h'.get? s.heap.objs.size=some q:=let ⟨q,_,_,hq,_⟩:=A8;⟨q,hq⟩
 exact mY I2 (by rw [e];exact True.intro) hs he (rD hz hd (rk.merge .nil) A8)
structure M2(X:Cx)(o:Expr)(m:Str)(apos:Pos)(e f:Expr)(bH:Pos):Prop where
 base:attributeBase o m X.env (eval o X.env)=eval o X.env
 UO:((backTo bH (starEach [e,f] X.env)).all (λx=> !x.1)&&(backToKw bH (keywordEach [] X.env)).all (λx=>x.1.isSome)
  &&decide (([e,f]:List Expr).length+([]:List Keyword).length+(if ([]:List Keyword).isEmpty then 0 else 1) < 30))=true
 line:(apos.endLine==bH.line)=true
 trees:backTo bH (starEach [e,f] X.env)=[(false,eval e X.env),(false,eval f X.env)]
def Su(H:Hp)(a:Addr):Prop:=(∃Β,Rd H a (.dK Β))\/∃Β,Rd H a (.dT Β)
theorem Jo{X:Cx}{ε:List (Addr×Obj)}{σ:St}{H:Hp}{s:Shared}{a:Addr}(I:Inv X ε σ H s)(d:Su H a):
  s.TypeIs (.ref a) "dict"/\(∀b,Value.ref a= .ref b->∃ob,s.heap.get? b=some ob/\ob.dict=none)/\(a==sysModules)=false:=by
 rcases d with ⟨Β,e⟩ | ⟨Β,e⟩
 ·obtain ⟨_,hd,vs,_,dd⟩:=eM I.aR e;refine ⟨dd.typeIs,λb q=> ?_,hd⟩;cases q;obtain ⟨ob,_,_,h1,h2,_⟩:=dd;exact ⟨ob,h1,h2.2.1⟩
 ·obtain ⟨_,hd,xs,_,dd⟩:=qf I.aR e;refine ⟨dd.typeIs,λb q=> ?_,hd⟩;cases q;obtain ⟨ob,_,_,h1,h2,_⟩:=dd;exact ⟨ob,h1,h2.2.1⟩
section
variable{X:Cx}{ε:List (Addr×Obj)}{σ:St}{H:Hp}{s:Shared}{a:Addr}{Β:List (Key×V)}{A:Around}{E:Value->Shared->Prop}
theorem Dz{Q:Value->Shared->Prop}(I:Inv X ε σ H s)(e:Rd H a (.dK Β))(h:∀p s',H p=none->Inv X ε σ (upd H p (.dK Β)) s'->Q (.ref p) s'):wpAny (model X.prog X.w) A (call (.type "dict") [.ref a]) Q E s:=by obtain ⟨z,hd,vs,rel,dd⟩:=eM I.aR e;refine kt_call_dict hd dd (by rw [<-rel.length];exact z) λh' A8 hs=> ?_;refine h _ _ (I.aR.fresh (aam _)) (I.laid (a:=s.heap.objs.size) (o:= .dK Β) (t':=s.toks) (λb q hq=> ?_) (aam _) (rD z (beq_eq_false_iff_ne.mpr (Ne.symm (aaK I.big))) rel A8));exact (hs.2 b (aaK (aao hq))).trans (aal _ hq)
end
end L2
namespace Att
open PySem PySem.W PySem.Calls PyProof.Rows
end Att
namespace L2
open PySem PySem.Spec PyProof.Rows
end L2
/- W2 PO EX (shape;Ux,My.* are Mo):
  My.Xp:a structure of EE addresses OF Rc K' names (classes,zv);My.Txt K t:a structure (Prop) of EE equations mL K;
  My.wR:{K} {implicit addresses ..} (e1:nsIn K mainGlobals "law"=some (some (.ref f))) (e2:K.lookup f=some ⟨oc,od, .func (fnOf "law" "law" params body scope dV kV doc pm an bu ct),sl⟩) (e3:codeIn K bu "law"=true) .. :∃t,My.Txt K t
set_option maxRecDepth 100000 in
set_option maxHeartbeats 0 in
theorem PySem.Challenge.cw_LID_holds : PySem.Challenge.rw_LID.Holds := by
 w_on;o_law;k_head;(case hw=>w_witness2)
 k_fill
 refine L2.rM (l:=PySem.Challenge.rw_LID) (n:=63) (k:=40) (x:="script") (CX:=fun w=> ..) (sp:=fun _=>My.JF) rfl (by decide) rfl ⟨rfl,by decide,by decide⟩ (fun w h Y=>PySem.W.kIn_of Y) ?F ?S ?C
 case F=>
  intro w mg fa h KX G Gd;have T:∃t,My.Txt (L2.Rm KX) t:=by
   dsimp only [L2.Rm]
   refine' My.wR ?e1 ?e2 ?e3 ..
   (case e1=>PySem.W.k_is)
   (case e2=>PySem.W.k_is)
   ..
  obtain ⟨t,T⟩:=T;have e0:=Gd.symm.trans (PySem.W.mg_of KX G T.UN);cases e0;exact ⟨_,λs u=> .of_eq rfl,λbase kb nb=>My.wx T kb nb⟩
 case S=>exact λw H a ns hl hO hS=> ..
 case C=>exact ..
(EE tactic k_is has no namespace:write k_is) -/
namespace L2
open PySem PySem.Spec PyProof.Rows
variable{L:List Addr}{X:Cx}{pos apos bH:Pos}{R:St->XK}{o e:Expr}{to te ta tb:DE}{k' n:Nat}{A:Around}{prog:Program}{w:World}{E Q:Value->Shared->Prop}{s:Shared}{a:Addr}{c:Bool}{ε:List (Addr×Obj)}{Β:List (Key×V)}
def Af:Dt->Option Key
 | .int i=>some (.inl i)
 | .str z=>some (.inr z)
 | _=>none
def av(ks:List Key)(ds:List Dt)(k:Key):Option Dt:=((ks.zip ds).find? λp=>decide (p.1=k)).map (·.2)
theorem kg{K:fv}{G:Hp}{d:Dt}{v:V}{k:Key}(h:Af d=some k)(n:Den K G L d v):v=kV k:=by
 cases d with
 | int i=>cases h;exact n
 | str z=>cases h;exact n
 | _=>cases h
theorem iY{K:fv}{G:Hp}{L:List Addr}{k:Key}:∀{ks:List Key} {ds:List Dt} {vs:List V} {d:Dt},Ρ K G L ds vs->av ks ds k=some d->∃v,cZ (ks.zip vs) k=some v/\Den K G L d v
 | [],_,_,_,_,h=>by cases h
 | _::_,[],_,_,_,h=>by cases h
 | c::ks,d0::ds,_,d,⟨v0,vs,e,n0,n⟩,h=>by
  subst e;rw [aaX];by_cases hc:c=k
  ·have h':av (c::ks) (d0::ds) k=some d0:=by unfold av;rw [List.zip_cons_cons,List.find?_cons_of_pos (by simpa using hc)];rfl
   rw [h'] at h;cases h;exact ⟨v0,cH hc,n0⟩
  ·have h':av (c::ks) (d0::ds) k=av ks ds k:=by unfold av;rw [List.zip_cons_cons,List.find?_cons_of_neg (by simpa using hc)]
   rw [h'] at h;obtain ⟨v,h1,h2⟩:=iY n h;exact ⟨v,by rw [cq hc];exact h1,h2⟩
def yz(to ti:DE):DE:=λρ M q x=>to ρ M (λd M1=>ti ρ M1 (λdi M2=>∃k ks ds key v,d= .loc k/\M2[k]? =some (.eK ks ds)/\Af di=some key/\av ks ds key=some v/\q v M2) x) x
theorem qU:∀(more υ:List (Key×V)),(∀p∈more,cZ υ p.1=none)->(more.map (·.1)).Nodup->jK υ more=υ++more
 | [],υ,_,_=>by show υ=υ++[];rw [aaG]
 | p::more,υ,h,nd=>by
  show jK (fG υ p.1 p.2) more=_;rw [Du p.2 (h p aae),qU more _ (λq hq=> ?_) (abL.mp nd).2]
  ·simp
  ·have e:=qW p.1 q.1 p.2 υ (h p aae);rw [show (υ++[(p.1,p.2)])=υ++[(p.1,p.2)] from rfl,e,aaA]
   ·exact h q (aad _ hq)
   ·intro z;exact (abL.mp nd).1 (aas.mpr ⟨q,hq,z⟩)
def V2(z:Str):TE:=λ_ H Q=>Q (.str z) H
theorem SG{z:Str}{k:Nat}:PE X (.Constant (.str z) k pos) (V2 z):=D3
section
variable{i:Expr}{ti:DE}{p:Pos}
theorem b8(hr:bG k' X.A)(ho:JE X R o to)(hi:JE X R i ti)(hs:Je i:=by intro _ _;rfl):JE X R (.Subscript o i pos) (yz to ti):=
 .of (EV (v9 hr) ho hi hs) λσ H G L ρ M q x rl n h hx=>by refine ⟨G,L,ρ,M,_,x,rl,n,h,hx,λv H1 ⟨d1,G1,L1,M1,e1,r1,n1,h1⟩=> ?_⟩;refine ⟨G1,L1,ρ,M1,_,x,r1,n.mono e1,h1,hx.on e1,λv2 H2 ⟨d2,G2,L2,M2,e2,r2,n2,k,ks,ds,key,y,ed,hm,hk,hg,h2⟩=> ?_⟩;subst ed;obtain ⟨a,rfl,Eh⟩:=n1;have HL:=e2.l.get Eh;obtain ⟨_,vs,hH,hl,dn⟩:=r2.fH k a _ HL hm;obtain ⟨u,hu,du⟩:=iY dn hg;refine ⟨a,u,rfl, .inl ⟨_,key, .inl hH,kg hk n2,hu.symm⟩,fin_same (e1.trans e2) r2 du h2⟩
end
theorem DC{x:V}(h:dH x=true):qq x x=true:=by cases x <;> first | rfl | (show (_==_)=true;simp) | cases h
section
variable{a b l u:Expr}{tl tu:DE}{t:DA}{p p2:Pos}
theorem QX{k:Nat}(hr:bG k A)(hn:n<=64):A.units+n < cLine:=aaM (Nat.add_le_add_left hn _) hr.units
end
open PySem PySem.SeqAt
def pP(prog:Program)(w:World)(A:Around)(s:Shared)(y x:Value)(b:Bool):Prop:=
 ∀(E:Value->Shared->Prop) (Q:Bool->Shared->Prop),Q b s->wpAny (model prog w) A (eqBool y x) Q E s
theorem zX{K:Type} [DecidableEq K]{knd:KeyKind prog w K}{es:List DictEntry}{Β:List (K×Value)}(p:Pairs knd es Β):∀{i:Nat} {e:DictEntry},es[i]? =some e->∃k,Β[i]? =some (k,e.val)/\knd.is k e.key=true:=by
 induction p with
 | nil=>intro i e h;simp at h
 | @cons e0 kv es Β h1 h2 _ ih=>
  intro i e h;cases i with
  | zero=>
   have:e0=e:=by simpa using h
   subst this;exact ⟨kv.1,by rw [h2];rfl,h1⟩
  | succ i=>exact ih (by simpa using h)
theorem yD{K:Type} [DecidableEq K]{knd:KeyKind prog w K}{es:Array DictEntry}{Β:List (K×Value)}(p:Pairs knd es.toList Β)(k:K):
  (valueAt Β k=none/\(es.findIdx? λe=>knd.is k e.key)=none)\/∃i e,valueAt Β k=some e.val/\(es.findIdx? λe=>knd.is k e.key)=some i/\es[i]? =some e:=by
 have hf:(es.find? λe=>knd.is k e.key).map (·.val)=valueAt Β k:=by rw [<-Array.find?_toList];exact p.find k
 cases hi:es.findIdx? λe=>knd.is k e.key with
 | none=>
  left;refine ⟨?_,rfl⟩;rw [<-hf];have:(es.find? λe=>knd.is k e.key)=none:=by rw [Array.find?_eq_none];rw [Array.findIdx?_eq_none_iff] at hi;intro x hx;simpa using hi x hx
  rw [this];rfl
 | some i=>
  right;rw [Array.findIdx?_eq_some_iff_getElem] at hi;obtain ⟨Hy,h1,h2⟩:=hi;refine ⟨i,es[i], ?_,rfl,abT Hy⟩;rw [<-hf];have:(es.find? λe=>knd.is k e.key)=some es[i]:=by rw [Array.find?_eq_some_iff_getElem];exact ⟨h1,i,Hy,rfl,λj hj=>by simpa using h2 j hj⟩
  rw [this];rfl
theorem s_{K:Type} [DecidableEq K]{knd:KeyKind prog w K}{id:String}{b:Addr}{Β df:List (K×Value)}(ha:s.heap.DictOf knd a Β)(hb:s.heap.DictOf knd b df)(Jz:(a==sysModules)=false)(nz:(b==sysModules)=false)(hl:Β.length=df.length)
  {e:Nat->Bool} (he:∀j k v,Β[j]? =some (k,v)->(valueAt df k=none/\e j=false)\/∃v',valueAt df k=some v'/\pP prog w A s v v' (e j)) {Q:Bool->Shared->Prop} (h:Q ((List.range Β.length).all e) s):
  wpAny (model prog w) A (Builtin.Dict.samePairs id a b) Q E s:=by
 obtain ⟨o1,yu,Ul,g1,x1,d1,k1,p1,n1⟩:=ha;obtain ⟨o2,OQ,W8,g2,x2,d2,k2,p2,n2⟩:=hb;have sa:∀{c:Addr} {Q:Unit->Shared->Prop},(c==sysModules)=false->Q () s->wpAny (model prog w) A (Builtin.Dict.showsAll c) Q E s:=λhc hq=>by unfold Builtin.Dict.showsAll;rw [aaA (by rw [hc];decide)];exact aaL hq
 unfold Builtin.Dict.samePairs;refine aak (sa Jz (aak (sa nz (aak (wpAny_dictEntries g1 d1 (aak (wpAny_dictEntries g2 d2 ?_)))))));have z1:yu.size=Β.length:=by rw [<-p1.length];simp
 have z2:OQ.size=df.length:=by rw [<-p2.length];simp
 rw [if_neg (by rw [z1,z2,hl];simp)];refine aak (wpAny_dictEpoch g1 d1 ?_);refine aak ?_;rw [Std.Legacy.Range.forIn_eq_forIn_range'];have sz:[:yu.size].size=yu.size:=by simp [Std.Legacy.Range.size]
 rw [sz];refine wpAny_forIn_list _ (λΗ b s'=>s'=s/\b.1=none/\∃i,Η=List.range' i (yu.size - i)/\i<=yu.size/\((List.range i).all e=true)) _ ?_ ?_ _ _ ⟨rfl,rfl,0,by simp,Nat.zero_le _,rfl⟩
 ·rintro x Η b s' ⟨rfl,hb,i,hr,hi,v8⟩;have Hy:i < yu.size:=by
   rcases Nat.lt_or_ge i yu.size with h' | h'
   ·exact h'
   ·rw [Nat.sub_eq_zero_of_le h'] at hr;cases hr
  rw [show yu.size - i=(yu.size - (i+1))+1 by omega,List.range'_succ] at hr;injection hr with hx yp
  subst hx;refine aak (wpAny_dictEntries g1 d1 ?_);rw [abT Hy];dsimp only;obtain ⟨k,Eh,HL⟩:=zX p1 (i:=x) (e:=yu[x]) (by rw [Array.getElem?_toList,abT Hy]);obtain ⟨k',ya,VG⟩:=k1 yu[x] (Array.getElem_mem Hy);obtain rfl:k=k':=knd.inj _ _ _ HL ya;rw [VG];refine aak (abG (Q:=λr KC=>KC=s'/\r=e x) (E:=E) ?_ (λr KC ⟨es,er⟩=> ?_) λ_ _ h'=>h')
  ·refine wpAny_holding (aak (wpAny_dictFind_of HL g2 d2 k2 ?_));rcases he x k _ Eh with ⟨h1,h2⟩ | ⟨v',h1,h2⟩
   ·rcases yD p2 k with ⟨_,q⟩ | ⟨j,f,q,_⟩
    ·rw [q];exact aaL ⟨rfl,h2.symm⟩
    ·rw [h1] at q;cases q
   ·rcases yD p2 k with ⟨q,_⟩ | ⟨j,f,q,q1,q2⟩
    ·rw [h1] at q;cases q
    ·rw [q1];dsimp only;refine aak (wpAny_dictEntries g2 d2 ?_);rw [q2];dsimp only;rw [h1] at q;obtain rfl:v'=f.val:=aan q;exact wpAny_holding (h2 _ _ ⟨rfl,rfl⟩)
  ·subst es er;cases hex:e x with
   | false=>
    rw [aaE (by rfl)];refine aaL (aaL ?_);have:(List.range Β.length).all e=false:=by rw [List.all_eq_false];exact ⟨x,abU.mpr (by omega),by rw [hex];decide⟩
    rw [this] at h;exact h
   | true=>
    rw [aaA (by decide)];refine aak (wpAny_dictEpoch g1 d1 ?_);rw [if_neg (by simp)];refine aaL ⟨rfl,rfl,x+1,yp,by omega, ?_⟩;rw [abM,List.all_append,v8];simp [hex]
 ·rintro ⟨b1,b2⟩ s' ⟨rfl,hb,i,hr,hi,v8⟩;have hb:b1=none:=hb;subst hb;have:i=yu.size:=by have:=aa5 List.length hr;rw [List.length_range'] at this;simp at this;omega
  subst this;rw [z1] at v8;rw [v8] at h;exact aaL h
theorem pF{K:Type} [DecidableEq K]{knd:KeyKind prog w K}{id:String}{b:Addr}{Β df:List (K×Value)}(ha:s.heap.DictOf knd a Β)(hb:s.heap.DictOf knd b df)(Jz:(a==sysModules)=false)(nz:(b==sysModules)=false)(hl:Β.length≠df.length)
  {Q:Bool->Shared->Prop} (h:Q false s):wpAny (model prog w) A (Builtin.Dict.samePairs id a b) Q E s:=by
 obtain ⟨o1,yu,Ul,g1,x1,d1,k1,p1,n1⟩:=ha;obtain ⟨o2,OQ,W8,g2,x2,d2,k2,p2,n2⟩:=hb;have sa:∀{c:Addr} {Q:Unit->Shared->Prop},(c==sysModules)=false->Q () s->wpAny (model prog w) A (Builtin.Dict.showsAll c) Q E s:=λhc hq=>by unfold Builtin.Dict.showsAll;rw [aaA (by rw [hc];decide)];exact aaL hq
 unfold Builtin.Dict.samePairs;refine aak (sa Jz (aak (sa nz (aak (wpAny_dictEntries g1 d1 (aak (wpAny_dictEntries g2 d2 ?_)))))));have z1:yu.size=Β.length:=by rw [<-p1.length];simp
 have z2:OQ.size=df.length:=by rw [<-p2.length];simp
 rw [if_pos (by rw [z1,z2];simpa using hl)];exact aak (wpAny_rule (aaL h))
section
variable{K:Type} [DecidableEq K]{knd:KeyKind prog w K}{b:Addr}{Β df:List (K×Value)}
theorem oj(ha:s.heap.DictOf knd a Β)(hb:s.heap.DictOf knd b df)(hu:A.units < cLine)(h:∀{E:Value->Shared->Prop} {Q:Bool->Shared->Prop},Q c s->wpAny (model prog w) A.in1 (Builtin.Dict.samePairs (toString "dict."++toString "__eq__") a b) Q E s)(q:Q (.bool c) s):wpAny (model prog w) A (richCompare .Eq (.ref a) (.ref b)) Q E s:=by
 refine wpAny_richCompare_same_room ha.typeIs hb.typeIs F.slot_dict_eq (wpAny_call_entry F.slot_dict_eq ha.typeIs F.entry_dict_eq ?_ (F.args_dict_eq_2 _ _)) hu;show wpAny _ _ (Builtin.Dict.dictSlotArgs "__eq__" ⟨[.ref a, .ref b],[]⟩ >>= _) _ _ s;refine aak ?_;unfold Builtin.Dict.dictSlotArgs;refine aak (wpAny_notOrdered_dict ha.typeIs ?_);refine aak (m:=slotArgs "__eq__" 1 _) (aaL ?_);refine aaL ?_;refine aak (wpAny_isInstance hb.typeIs isSubtype_dict_dict ?_);rw [aaA (by decide)];refine aak (aaL (aak (aaL (aak (h ?_)))));have e:(c==true)=c:=by cases c <;> rfl
 refine aaL ⟨Value.bool (c==true),rfl,⟨λz=>(nomatch z), ?_⟩⟩;rw [e];exact q
theorem qu(ha:s.heap.DictOf knd a Β)(hb:s.heap.DictOf knd b df)(Jz:(a==sysModules)=false)(nz:(b==sysModules)=false)(hu:A.units < cLine)(hl:Β.length=df.length){e:Nat->Bool}(he:∀j k v,Β[j]? =some (k,v)->(valueAt df k=none/\e j=false)\/∃v',valueAt df k=some v'/\pP prog w A.in1 s v v' (e j))
   (q:Q (.bool ((List.range Β.length).all e)) s):wpAny (model prog w) A (richCompare .Eq (.ref a) (.ref b)) Q E s:=oj ha hb hu (λh=>s_ ha hb Jz nz hl he h) q
theorem jg(ha:s.heap.DictOf knd a Β)(hb:s.heap.DictOf knd b df)(Jz:(a==sysModules)=false)(nz:(b==sysModules)=false)(hu:A.units < cLine)(hl:Β.length≠df.length)
   (q:Q (.bool false) s):wpAny (model prog w) A (richCompare .Eq (.ref a) (.ref b)) Q E s:=oj ha hb hu (λh=>pF ha hb Jz nz hl h) q
theorem pP.same(v:Value):pP prog w A s v v true:=λE Q h=>SeqAt.EqAt.same v prog w E Q h
theorem pP.of_refs{k:Bool}(vW:a≠b)(h:∀(E:Value->Shared->Prop) (Q:Value->Shared->Prop),Q (.bool k) s->wpAny (model prog w) A (richCompare .Eq (.ref a) (.ref b)) Q E s):pP prog w A s (.ref a) (.ref b) k:=λE Q hq=>by unfold eqBool;refine wpAny_holding ?_;refine wpAny_ite_split (λX0=>aaJ (by have:=eq_of_beq X0;injection this) vW) (λ_=> ?_);exact aak (h E _ (wpAny_truthy_bool hq))
end
inductive rX(H:Hp):Nat->V->V->Bool->Prop
 | flat {n:Nat} {x y:V} (h1:dH x=true) (h2:dH y=true):rX H n x y (qq x y)
 | eK {n:Nat} {a b:Addr} {Β df:List (Key×V)} {e:Nat->Bool} (h1:Rd H a (.dK Β)) (h2:Rd H b (.dK df)) (hl:Β.length=df.length) (hn:∀j k v,Β[j]? =some (k,v)->cZ df k=none->e j=false)
   (h:∀j k v v',Β[j]? =some (k,v)->cZ df k=some v'->rX H n v v' (e j)):rX H (n+1) (.ref a) (.ref b) ((List.range Β.length).all e)
 | len {n:Nat} {a b:Addr} {Β df:List (Key×V)} (h1:Rd H a (.dK Β)) (h2:Rd H b (.dK df)) (hl:Β.length≠df.length):rX H (n+1) (.ref a) (.ref b) false
theorem uI{κ:Type} [DecidableEq κ]:∀{Β:List (κ×V)} {j:Nat} {k:κ} {v:V},(Β.map (·.1)).Nodup->Β[j]? =some (k,v)->cZ Β k=some v
 | [],j,k,v,_,h=>by simp at h
 | p::r,0,k,v,_,h=>by
  have:p=(k,v):=by simpa using h
  subst this;exact cH rfl
 | p::r,j+1,k,v,hn,h=>by
  have h:r[j]? =some (k,v):=by simpa using h
  rw [aaS,abL] at hn;have:¬p.1=k:=λe=>hn.1 (by rw [e];exact aas.mpr ⟨_,aag h,rfl⟩);rw [cq this];exact uI hn.2 h
theorem xX{H:Hp}{u v:HO}(h1:Rd H a u)(h2:Rd H a v)(hu:∀o w,u≠ .qS o w)(hv:∀o w,v≠ .qS o w):u=v:=by
 rcases h1 with h1 | ⟨o,h1⟩ <;> rcases h2 with h2 | ⟨o',h2⟩ <;> rw [h1] at h2
 ·exact aan h2
 ·exact aaJ (aan h2) (hu _ _)
 ·exact aaJ (aan h2).symm (hv _ _)
 ·have:=aan h2;injection this
theorem xT{κ:Type}:∀{Β:List (κ×V)} {vs:List (κ×Value)},KV Β vs->∀{j:Nat} {k:κ} {u:Value},vs[j]? =some (k,u)->∃v,Β[j]? =some (k,v)/\ak v u
 | _,_, .nil,j,k,u,h=>by simp at h
 | _,_, .cons (a:=p) (b:=q) r t,0,k,u,h=>by
  have:q=(k,u):=by simpa using h
  subst this;have e:p.1=k:=r.1;exact ⟨p.2,by show some p=_;rw [<-e],r.2⟩
 | _,_, .cons r t,j+1,k,u,h=>by obtain ⟨v,e,rv⟩:=xT t (show _=some (k,u) by simpa using h);exact ⟨v,by simpa using e,rv⟩
section
variable{σ:St}{H:Hp}
theorem B2(I:Inv X ε σ H s)(h:Rd H a (.dK Β)):(Β.map (·.1)).Nodup:=by obtain ⟨_,_,vs,r,o,es,ep,_,_,_,_,_,n⟩:=eM I.aR h;rw [r.keys];exact n
theorem Aj(I:Inv X ε σ H s){x y:V}{b:Bool}(h:rX H n x y b):x=y->b=true:=by
 induction h with
 | flat h1 h2=>intro e;subst e;exact DC h1
 | @eK n a b Β df f h1 h2 hl hn h ih=>
  intro e;cases e;have:=xX h1 h2 (λ_ _ z=>nomatch z) (λ_ _ z=>nomatch z);cases this;refine abY.mpr λj hj=> ?_;have hj:=abU.mp hj;have g:Β[j]? =some (Β[j].1,Β[j].2):=aaa hj;exact ih j _ _ _ g (uI (B2 I h1) g) rfl
 | len h1 h2 hl=>
  intro e;cases e;have:=xX h1 h2 (λ_ _ z=>nomatch z) (λ_ _ z=>nomatch z);cases this;exact aaJ rfl hl
theorem yC{vs:List (Key×Value)}(r:KV Β vs)(k:Key):(cZ Β k=none/\valueAt vs k=none)\/∃v u,cZ Β k=some v/\valueAt vs k=some u/\ak v u:=by
 have:=r.val k;cases h1:cZ Β k with
 | none=>
  cases h2:valueAt vs k with
  | none=>exact .inl ⟨rfl,rfl⟩
  | some u=>rw [h1,h2] at this;exact this.elim
 | some v=>
  cases h2:valueAt vs k with
  | none=>rw [h1,h2] at this;exact this.elim
  | some u=>rw [h1,h2] at this;exact .inr ⟨v,u,rfl,rfl,this⟩
theorem Iu(I:Inv X ε σ H s){x y:V}(h:rX H n x y c):∀{A:Around} {u v:Value},ak x u->ak y v->A.units+n < cLine->pP X.prog X.w A s u v c:=by
 induction h with
 | flat h1 h2=>exact λru rv _ E Q q=>rE ru rv h1 h2 X.prog X.w E Q q
 | @eK n a b Β df f h1 h2 hl hn h ih=>
  intro A u v ru rv hu;cases ru;cases rv;by_cases e:a=b
  ·have:=Aj I (.eK h1 h2 hl hn h) (aa5 V.ref e);rw [this,e];exact pP.same _
  ·obtain ⟨_,z1,vs,r1,d1⟩:=eM I.aR h1;obtain ⟨_,z2,Bb,r2,d2⟩:=eM I.aR h2;refine pP.of_refs e λE Q q=> ?_;rw [r1.length] at q;refine qu d1 d2 z1 z2 (by omega) (by rw [<-r1.length,<-r2.length];exact hl) (λj k u hj=> ?_) q;obtain ⟨v,hv,rv⟩:=xT r1 hj;rcases yC r2 k with ⟨q1,q2⟩ | ⟨v',u',q1,q2,q3⟩
   ·exact .inl ⟨q2,hn j k v hv q1⟩
   ·exact .inr ⟨u',q2,ih j k v v' hv q1 rv q3 (by show A.units+1+n < cLine;omega)⟩
 | @len n a b Β df h1 h2 hl=>
  intro A u v ru rv hu;cases ru;cases rv;have e:a≠b:=λe=>by subst e;have:=xX h1 h2 (λ_ _ z=>nomatch z) (λ_ _ z=>nomatch z);cases this;exact hl rfl
  obtain ⟨_,z1,vs,r1,d1⟩:=eM I.aR h1;obtain ⟨_,z2,Bb,r2,d2⟩:=eM I.aR h2;exact pP.of_refs e λE Q q=>jg d1 d2 z1 z2 (by omega) (by rw [<-r1.length,<-r2.length];exact hl) q
end
def HM(n:Nat):R2:=λx y H Q=>∃a b c,x= .ref a/\y= .ref b/\rX H n x y c/\Q (.bl c) H
theorem E4(hu:X.A.units+n < cLine):hI X (compareOp .Eq) (HM n):=by
 intro ε s σ H x y v u Q I rx ry h;obtain ⟨a,b,c,rfl,rfl,h,q⟩:=h;cases rx;cases ry;cases h with
 | flat h1 h2=>cases h1
 | @eK n _ _ Β df f h1 h2 hl hn h=>
  obtain ⟨_,z1,vs,r1,d1⟩:=eM I.aR h1;obtain ⟨_,z2,Bb,r2,d2⟩:=eM I.aR h2;rw [r1.length] at q;show wpAny _ _ (richCompare .Eq _ _) _ _ s;refine qu d1 d2 z1 z2 (by omega) (by rw [<-r1.length,<-r2.length];exact hl) (e:=f) (λj k u hj=> ?_) ⟨.bl _,H,I,rfl,q⟩;obtain ⟨v,hv,rv⟩:=xT r1 hj;rcases yC r2 k with ⟨q1,q2⟩ | ⟨v',u',q1,q2,q3⟩
  ·exact .inl ⟨q2,hn j k v hv q1⟩
  ·exact .inr ⟨u',q2,Iu I (h j k v v' hv q1) rv q3 (by show X.A.units+1+n < cLine;omega)⟩
 | @len n _ _ Β df h1 h2 hl=>
  obtain ⟨_,z1,vs,r1,d1⟩:=eM I.aR h1;obtain ⟨_,z2,Bb,r2,d2⟩:=eM I.aR h2;show wpAny _ _ (richCompare .Eq _ _) _ _ s;exact jg d1 d2 z1 z2 (by omega) (by rw [<-r1.length,<-r2.length];exact hl) ⟨.bl _,H,I,rfl,q⟩
section
variable{a b f:Expr}{tf:DE}{t:DA}{p:Pos}
def Bm(to:DE):DE:=λρ M q x=>to ρ M (λd M1=>∃k xs,d= .loc k/\M1[k]? =some (.lst xs)/\q .ba (M1.set k (.lst []))) x
theorem FY(ho:JE X R o to)(n9:attributeBase o "clear" X.env (eval o X.env)=eval o X.env:=by rfl)(oS:(apos.endLine==bH.line)=true:=by rfl):JE X R (.Call (.Attribute o "clear" apos) [] [] bH) (Bm to):=
 .of (JB PySem.F.plainAttrs_list PySem.F.slot_list_clear PySem.F.type_list_clear (r:=Cd) B' ho n9 oS) λσ H G L ρ M q x rl n h hx=>by refine ⟨G,L,ρ,M,_,x,rl,n,h,hx,λv H1 ⟨d1,G1,L1,M1,e1,r1,n1,k,xs,ed,hm,h1⟩=> ?_⟩;subst ed;obtain ⟨a,rfl,hk⟩:=n1;obtain ⟨_,vs,hH,dn⟩:=r1.fH k a _ hk hm;exact ⟨.inl ⟨rfl,vs, .of hH⟩,a,vs,rfl,rfl,hH, .ba,G1,L1,_,e1.trans (r1.GB hk),r1.setM (m:= .lst []) hk ⟨[],Τ,rfl⟩,rfl,h1⟩
theorem ql{K:fv}{G:Hp}{L:List Addr}{k:Key}:∀{ks:List Key} {ds:List Dt} {vs:List V},Ρ K G L ds vs->av ks ds k=none->cZ (ks.zip vs) k=none
 | [],_,_,_,_=>rfl
 | _::_,[],_,h,_=>by cases h;rfl
 | c::ks,d0::ds,_,⟨v0,vs,e,n0,n⟩,h=>by
  subst e;rw [aaX];by_cases hc:c=k
  ·have h':av (c::ks) (d0::ds) k=some d0:=by unfold av;rw [List.zip_cons_cons,List.find?_cons_of_pos (by simpa using hc)];rfl
   rw [h'] at h;cases h
  ·have h':av (c::ks) (d0::ds) k=av ks ds k:=by unfold av;rw [List.zip_cons_cons,List.find?_cons_of_neg (by simpa using hc)]
   rw [h'] at h;rw [cq hc];exact ql n h
end
def EF(M:Ms):Dt->Option (List Dt)
 | .lst xs=>some xs
 | .loc k=>match M[k]? with
  | some (.lst xs)=>some xs
  | _=>none
 | _=>none
theorem so{K:fv}{G:Hp}{M:Ms}{H:Hp}{d:Dt}{v:V}{xs:List Dt}(r:Rl K G L M H)(n:Den K G L d v)(h:EF M d=some xs):∃a vs,v= .ref a/\H a=some (.lst vs)/\Ρ K G L xs vs:=by
 cases d with
 | lst ds=>cases h;obtain ⟨a,vs,rfl,e,m⟩:=n;exact ⟨a,vs,rfl,r.sub _ _ e,m⟩
 | loc k=>
  obtain ⟨a,rfl,e⟩:=n;have h:(match M[k]? with | some (.lst xs)=>some xs | _=>none)=some xs:=h;split at h
  ·rename_i ys hm;cases h;obtain ⟨_,vs,e1,m1⟩:=r.fH k a _ e hm;exact ⟨a,vs,rfl,e1,m1⟩
  ·cases h
 | _=>cases h
def GP:Dt->Dt->Ms->DQ->Prop:=λd e M q=>∃xs ys,EF M d=some xs/\EF M e=some ys/\xs.length+ys.length<=sizeLine/\q (.lst (xs++ys)) M
theorem Nl{K:fv}:md K HW GP:=by intro G0 L0 H0 G L M H v1 v2 d1 d2 q e r n1 n2 ⟨xs,ys,h1,h2,hz,hq⟩;obtain ⟨p1,w1,rfl,e1,m1⟩:=so r n1 h1;obtain ⟨p2,w2,rfl,e2,m2⟩:=so r n2 h2;refine ⟨p1,p2,w1,w2,rfl,rfl,e1,e2,by rw [<-m1.length,<-m2.length];exact hz,λp hp=> ?_⟩;exact iR e r hp (mM r hp (m1.app m2)) hq
section
variable{a b:Expr}
theorem Dp(ja:JE X R a ta)(jb:JE X R b tb):JE X R (.BinOp a .Add b pos) (iF GP ta tb):=rH C9 Nl ja jb
end
section
variable{l u a b:Expr}{tl tu:DE}{p2:Pos}
def HJ:Dt->Dt->Ms->DQ->Prop:=λd e M q=>∃xs k,EF M d=some xs/\e= .int k/\ -(2 ^ 63)<=k/\k < 2 ^ 63/\xs.length * k.toNat<=sizeLine/\q (.loc M.length) (M++[.lst (List.replicate k.toNat xs).flatten])
theorem MI{K:fv}:md K Im HJ:=by intro G0 L0 H0 G L M H v1 v2 d1 d2 q e r n1 n2 ⟨xs,k,h1,h2,a,b,hz,hq⟩;obtain ⟨p1,w1,rfl,e1,m1⟩:=so r n1 h1;subst h2;have n2:v2= .int k:=n2;subst n2;refine ⟨p1,k,w1,rfl,rfl,e1,a,b,by rw [<-m1.length];exact hz,λp hp=> ?_⟩;exact rL e r hp (Ρ.of (q_ m1.pair k.toNat)) hq
theorem IG(ja:JE X R a ta)(jb:JE X R b tb):JE X R (.BinOp a .Mult b pos) (iF HJ ta tb):=rH Dh MI ja jb
end
def Ei(ks:List Key)(k:Key):Bool:=ks.any λc=>decide (c=k)
theorem kE{k:Key}:∀{ks:List Key} {vs:List V},ks.length=vs.length->(cZ (ks.zip vs) k).isSome=Ei ks k
 | [],[],_=>rfl
 | c::ks,v::vs,h=>by
  have h:ks.length=vs.length:=by simpa using h
  rw [aaX];by_cases e:c=k
  ·rw [cH e];subst e;simp [Ei]
  ·rw [cq e,kE h];unfold Ei;rw [abE,aaD e,Bool.false_or]
section
variable{i a b:Expr}{ti:DE}{p:Pos}
theorem xP:JE X R (.Dict [] [] pos) (λ_ M q _=>q (.loc M.length) (M++[.eK [] []])):=
 .of By λσ H G L ρ M q x rl n h hx=>by intro p hp;exact ⟨.loc M.length,G,L++[p],_,rl.NG hp,rl.EN (m:= .eK [] []) hp ⟨[],Τ,rfl,rfl⟩,⟨p,rfl,by rw [<-rl.len,List.getElem?_append_right (Nat.le_refl _)];simp⟩,h⟩
def IB:Dt->Dt->Ms->DQ->Prop:=λdi d M q=>∃k ks ds key,d= .loc k/\M[k]? =some (.eK ks ds)/\Af di=some key/\q (.bl (Ei ks key)) M
theorem C8(hu:X.A.units+1 < cLine):hI X (compareOp .In) (λy x H Q=>∃a o,x=V.ref a/\q5 H a y o/\Q (.bl o.isSome) H):=by intro ε s σ H x y u v Q I rx ry ⟨a,o,ex,g,q⟩;subst ex;obtain rfl:v=Value.ref a:=ry;exact Pu hu I g rx λs3 I3=>⟨.bl o.isSome,H,I3,rfl,q⟩
theorem Mi{K:fv}:md K (λy x H Q=>∃a o,x=V.ref a/\q5 H a y o/\Q (.bl o.isSome) H) IB:=by intro G0 L0 H0 G L M H v1 v2 d1 d2 q e r n1 n2 ⟨k,ks,ds,key,ed,hm,hk,h⟩;subst ed;obtain ⟨a,rfl,Eh⟩:=n2;obtain ⟨_,vs,hH,hl,dn⟩:=r.fH k a _ Eh hm;refine ⟨a,_,rfl, .inl ⟨_,key, .inl hH,kg hk n1,rfl⟩, ?_⟩;have ES:ks.length=vs.length:=hl.trans dn.length;rw [kE ES];exact cf e r h
theorem Mb(hr:bG k' X.A)(ja:JE X R a ta)(jb:JE X R b tb)(hm:behindInMarks .In b=false:=by rfl):JE X R (.Compare a [.In] [b] pos) (iF IB ta tb):=p_ (C8 (v9 hr)) Mi ja jb hm
theorem Ir(hr:bG k' X.A)(ja:JE X R a ta)(jb:JE X R b tb)(hm:behindInMarks .In b=false:=by rfl):JT X R (.Compare a [.In] [b] pos) (kD (iF IB ta tb)):=f_ (C8 (v9 hr)) Mi ja jb hm
end
def jj(ks:List Key)(k:Key):List Key:=if Ei ks k=true then ks else ks++[k]
def jo{α:Type}(k:Key)(v:α):List Key->List α->List α
 | c::ks,x::xs=>(if c=k then v else x)::jo k v ks xs
 | _,_=>[]
def fY{α:Type}(ks:List Key)(k:Key)(xs:List α)(v:α):List α:=if Ei ks k=true then jo k v ks xs else xs++[v]
theorem lT{α:Type}{k:Key}{v:α}:∀{ks:List Key} {xs:List α},ks.length=xs.length->(jo k v ks xs).length=ks.length
 | [],[],_=>rfl
 | _::ks,_::xs,h=>by
  have h:ks.length=xs.length:=by simpa using h
  show (jo k v ks xs).length+1=ks.length+1;rw [lT h]
theorem qz{k:Key}{v:V}:∀{ks:List Key} {vs:List V},ks.length=vs.length->(ks.zip vs).map (λkv=>if kv.1=k then (kv.1,v) else kv)=ks.zip (jo k v ks vs)
 | [],[],_=>rfl
 | c::ks,x::vs,h=>by
  have h:ks.length=vs.length:=by simpa using h
  rw [aaX,aaS,qz h];show _=(c,if c=k then v else x)::ks.zip (jo k v ks vs)
  congr 1
  show (if c=k then (c,v) else (c,x))=_;split <;> rfl
theorem lK{K:fv}{G:Hp}{L:List Addr}{k:Key}{d:Dt}{v:V}(n:Den K G L d v):∀{ks:List Key} {ds:List Dt} {vs:List V},Ρ K G L ds vs->ks.length=ds.length->Ρ K G L (jo k d ks ds) (jo k v ks vs)
 | [],[],_,h,_=>by cases h;rfl
 | c::ks,x::ds,_,⟨y,vs,e,n0,ns⟩,hl=>by
  subst e;have hl:ks.length=ds.length:=by simpa using hl
  refine ⟨_,_,rfl, ?_,lK n ns hl⟩;show Den K G L (if c=k then d else x) (if c=k then v else y);split
  ·exact n
  ·exact n0
theorem CS{k:Key}{v:V}{ks:List Key}{vs:List V}(h:ks.length=vs.length):fG (ks.zip vs) k v=(jj ks k).zip (fY ks k vs v):=by
 unfold fG jj fY;rw [kH,kE h];split
 ·exact qz h
 ·rw [List.zip_append h];rfl
def xv(to ti tv:DE):DS:=λDn ρ M=>tv ρ M (λy M1=>to ρ M1 (λd M2=>ti ρ M2 (λdi M3=>∃k ks ds key,d= .loc k/\M3[k]? =some (.eK ks ds)/\Af di=some key/\ks.length < 1000/\Dn.nx ρ (M3.set k (.eK (jj ks key) (fY ks key ds y)))) Dn.x) Dn.x) Dn.x
section
variable{i value:Expr}{ti tv:DE}{pos':Pos}
theorem yL(hr:bG k' X.A)(ho:JE X R o to)(hi:JE X R i ti)(hv:JE X R value tv)(hs:swapsWith value (some (.Subscript o i pos')) pos.line X.env=pure false:=by rfl):JS X R (.Assign [.Subscript o i pos'] value pos) (xv to ti tv):=
 .of (FX (v9 hr) ho hi hv hs) λσ H G L ρ M Dn rl n h hx=>by
  refine ⟨G,L,ρ,M,_,_,rl,n,h,hx,λv H1 ⟨dv,G1,L1,M1,e1,r1,n1,h1⟩=> ?_⟩;refine ⟨G1,L1,ρ,M1,_,_,r1,n.mono e1,h1,hx.on e1,λov H2 ⟨d,G2,L2,M2,e2,r2,n2,h2⟩=> ?_⟩;refine ⟨G2,L2,ρ,M2,_,_,r2,(n.mono e1).mono e2,h2,(hx.on e1).on e2,λiv H3 ⟨di,G3,L3,M3,e3,r3,n3,k,ks,ds,key,ed,hm,hk,hlen,h3⟩=> ?_⟩;subst ed;obtain ⟨a,rfl,Vw⟩:=n2;have ya:=e3.l.get Vw;obtain ⟨_,vs,hH,hl,dn⟩:=r3.fH k a _ ya hm;have Fw:=e2.trans e3;have NY:=Den.mono Fw.g Fw.l _ _ n1;have ES:ks.length=vs.length:=hl.trans dn.length;obtain rfl:iv=kV key:=kg hk n3;have z:(ks.zip vs).length < sizeLine:=by rw [abb];exact aaM (Nat.min_le_left _ _) (Nat.lt_trans hlen (by decide))
  refine ⟨a,_,rfl,C_.k hH z,ρ,G3,L3,_,((e1.trans e2).trans e3).trans (r3.GB ya),r3.setM (m:= .eK (jj ks key) (fY ks key ds dv)) ya ⟨fY ks key vs v,by rw [Τ,CS ES], ?_, ?_⟩,(((n.mono e1).mono e2).mono e3).mono (r3.GB (o:= .own a) ya),h3⟩
  ·unfold jj fY;split
   ·rw [lT hl]
   ·rw [aaf,aaf,hl];rfl
  ·unfold fY;split
   ·exact lK NY dn hl
   ·exact dn.app ⟨_,_,rfl,NY,rfl⟩
end
inductive BZ(M:Ms):Nat->Dt->Dt->Bool->Prop
 | flat {n:Nat} {d e:Dt} {x y:V} (h1:uq d=some x) (h2:uq e=some y):BZ M n d e (qq x y)
 | eK {n k1 k2:Nat} {ks AI:List Key} {ds C6:List Dt} {f:Nat->Bool} (h1:M[k1]? =some (.eK ks ds)) (h2:M[k2]? =some (.eK AI C6)) (hl:ks.length=AI.length) (hn:∀j k,ks[j]? =some k->av AI C6 k=none->f j=false)
   (h:∀j k d d',ks[j]? =some k->ds[j]? =some d->av AI C6 k=some d'->BZ M n d d' (f j)):BZ M (n+1) (.loc k1) (.loc k2) ((List.range ks.length).all f)
 | len {n k1 k2:Nat} {ks AI:List Key} {ds C6:List Dt} (h1:M[k1]? =some (.eK ks ds)) (h2:M[k2]? =some (.eK AI C6)) (hl:ks.length≠AI.length):BZ M (n+1) (.loc k1) (.loc k2) false
theorem qo{K:fv}{G:Hp}{L:List Addr}:∀{ds:List Dt} {vs:List V},Ρ K G L ds vs->∀{j:Nat} {v:V},vs[j]? =some v->∃d,ds[j]? =some d/\Den K G L d v
 | [],vs,h,j,v,e=>by cases h;simp at e
 | d::ds,_,⟨y,r,e0,n0,ns⟩,0,v,e=>by
  subst e0;have:y=v:=by simpa using e
  subst this;exact ⟨d,rfl,n0⟩
 | d::ds,_,⟨y,r,e0,n0,ns⟩,j+1,v,e=>by subst e0;obtain ⟨d',h1,h2⟩:=qo ns (show r[j]? =some v by simpa using e);exact ⟨d',by simpa using h1,h2⟩
theorem sU{K:fv}{G:Hp}{L:List Addr}{k:Key}:∀{ks:List Key} {ds:List Dt} {vs:List V},Ρ K G L ds vs->ks.length=ds.length->(av ks ds k=none/\cZ (ks.zip vs) k=none)\/∃d v,av ks ds k=some d/\cZ (ks.zip vs) k=some v/\Den K G L d v
 | [],ds,vs,_,_=> .inl ⟨rfl,rfl⟩
 | c::ks,[],vs,_,hl=>by simp at hl
 | c::ks,d::ds,_,⟨y,r,e0,n0,ns⟩,hl=>by
  subst e0;have hl:ks.length=ds.length:=by simpa using hl
  have e1:av (c::ks) (d::ds) k=if c=k then some d else av ks ds k:=by
   unfold av;rw [aaX,List.find?_cons];by_cases e:c=k
   ·rw [if_pos e];simp [e]
   ·rw [if_neg e];simp [e]
  rw [aaX,e1];by_cases e:c=k
  ·rw [aaE e,cH e];exact .inr ⟨d,y,rfl,rfl,n0⟩
  ·rw [aaA e,cq e];exact sU ns hl
theorem K0{K:fv}{G:Hp}{M:Ms}{H:Hp}(r:Rl K G L M H){d e:Dt}(h:BZ M n d e c):∀{x y:V},Den K G L d x->Den K G L e y->rX H n x y c:=by
 induction h with
 | flat h1 h2=>
  intro x y n1 n2;obtain ⟨e1,f1⟩:=kL h1 n1;obtain ⟨e2,f2⟩:=kL h2 n2;subst e1 e2;exact .flat f1 f2
 | @eK n k1 k2 ks AI ds C6 f h1 h2 hl hn h ih=>
  intro x y n1 n2;obtain ⟨a,rfl,a1⟩:=n1;obtain ⟨b,rfl,b1⟩:=n2;obtain ⟨_,vs,hH,hz,dn⟩:=r.fH k1 a _ a1 h1;obtain ⟨_,Bb,M8,HQ,Eg⟩:=r.fH k2 b _ b1 h2;have l1:(ks.zip vs).length=ks.length:=by rw [abb,<-dn.length,hz,Nat.min_self]
  have l2:(AI.zip Bb).length=AI.length:=by rw [abb,<-Eg.length,HQ,Nat.min_self]
  have:=rX.eK (H:=H) (n:=n) (e:=f) (.inl hH) (.inl M8) (by rw [l1,l2];exact hl) (λj k v hj hv=>by
   obtain ⟨g1,g2⟩:=abS.mp hj;rcases sU (k:=k) Eg HQ with ⟨q1,_⟩ | ⟨d',v',_,q2,_⟩
   ·exact hn j k g1 q1
   ·rw [hv] at q2;cases q2) (λj k v v' hj hv=>by
   obtain ⟨g1,g2⟩:=abS.mp hj;obtain ⟨d0,g3,g4⟩:=qo dn g2;rcases sU (k:=k) Eg HQ with ⟨_,q1⟩ | ⟨d',v2,q1,q2,q3⟩
   ·rw [hv] at q1;cases q1
   ·rw [hv] at q2;obtain rfl:v'=v2:=aan q2
    exact ih j k d0 d' g1 g3 q1 g4 q3)
  rwa [l1] at this
 | @len n k1 k2 ks AI ds C6 h1 h2 hl=>
  intro x y n1 n2;obtain ⟨a,rfl,a1⟩:=n1;obtain ⟨b,rfl,b1⟩:=n2;obtain ⟨_,vs,hH,hz,dn⟩:=r.fH k1 a _ a1 h1;obtain ⟨_,Bb,M8,HQ,Eg⟩:=r.fH k2 b _ b1 h2;have l1:(ks.zip vs).length=ks.length:=by rw [abb,<-dn.length,hz,Nat.min_self]
  have l2:(AI.zip Bb).length=AI.length:=by rw [abb,<-Eg.length,HQ,Nat.min_self]
  exact .len (.inl hH) (.inl M8) (by rw [l1,l2];exact hl)
def MZ(n:Nat):Dt->Dt->Ms->DQ->Prop:=λd e M q=>∃k1 k2 c,d= .loc k1/\e= .loc k2/\BZ M n d e c/\q (.bl c) M
theorem RD{K:fv}:md K (HM n) (MZ n):=by intro G0 L0 H0 G L M H v1 v2 d1 d2 q e r n1 n2 ⟨k1,k2,c,e1,e2,h,hq⟩;have:=K0 r h n1 n2;subst e1 e2;obtain ⟨a,rfl,_⟩:=n1;obtain ⟨b,rfl,_⟩:=n2;exact ⟨a,b,c,rfl,rfl,this,cf e r hq⟩
section
variable{i f a b v1 v2:Expr}{ti tx t1 t2:DE}{t:DA}{p:Pos}
theorem HE(n:Nat)(hr:bG k' X.A)(ja:JE X R a ta)(jb:JE X R b tb)(hn:n<=64:=by decide)(hm:behindInMarks .Eq b=false:=by rfl):JE X R (.Compare a [.Eq] [b] pos) (iF (MZ n) ta tb):=p_ (E4 (QX hr hn)) RD ja jb hm
def yU:Dt->Dt->Ms->DQ->Prop:=λdi d M q=>∃k ks ds key,d= .loc k/\M[k]? =some (.eK ks ds)/\Af di=some key/\q (.bl (!Ei ks key)) M
theorem AR(hu:X.A.units+1 < cLine):hI X (compareOp .NotIn) (λy x H Q=>∃a o,x=V.ref a/\q5 H a y o/\Q (.bl (!o.isSome)) H):=by intro ε s σ H x y u v Q I rx ry ⟨a,o,ex,g,q⟩;subst ex;obtain rfl:v=Value.ref a:=ry;exact E5 hu I g rx λs3 I3=>⟨.bl (!o.isSome),H,I3,rfl,q⟩
theorem Fq{K:fv}:md K (λy x H Q=>∃a o,x=V.ref a/\q5 H a y o/\Q (.bl (!o.isSome)) H) yU:=by intro G0 L0 H0 G L M H v1 v2 d1 d2 q e r n1 n2 ⟨k,ks,ds,key,ed,hm,hk,h⟩;subst ed;obtain ⟨a,rfl,Eh⟩:=n2;obtain ⟨_,vs,hH,hl,dn⟩:=r.fH k a _ Eh hm;refine ⟨a,_,rfl, .inl ⟨_,key, .inl hH,kg hk n1,rfl⟩, ?_⟩;have ES:ks.length=vs.length:=hl.trans dn.length;rw [kE ES];exact cf e r h
theorem AD(hr:bG k' X.A)(ja:JE X R a ta)(jb:JE X R b tb)(hm:behindInMarks .NotIn b=false:=by rfl):JT X R (.Compare a [.NotIn] [b] pos) (kD (iF yU ta tb)):=f_ (AR (v9 hr)) Fq ja jb hm
theorem rF:eJ X (.type "dict") (λxs H Q=>∃a Β,xs=[V.ref a]/\Rd H a (.dK Β)/\∀p,H p=none->Q (.ref p) (upd H p (.dK Β))):=by
 intro ε s σ H xs us Q I r ⟨a,Β,ex,e,q⟩;subst ex;cases r with
 | cons r1 r2=>
  cases r2;cases r1;exact Dz I e λp s' hp I'=>⟨.ref p,_,I',rfl,q p hp⟩
def B5:List Dt->Ms->DQ->Prop
 | [d],M,q=>∃k ks ds,d= .loc k/\M[k]? =some (.eK ks ds)/\q (.loc M.length) (M++[.eK ks ds])
 | _,_,_=>False
theorem Lm{K:fv}:DW K (λxs H Q=>∃a Β,xs=[V.ref a]/\Rd H a (.dK Β)/\∀p,H p=none->Q (.ref p) (upd H p (.dK Β))) B5:=by
 intro G0 L0 H0 G L M H vs ds q e r n h;unfold B5 at h;split at h
 ·rename_i d;obtain ⟨v,rfl,n1⟩:=b_ n;obtain ⟨k,ks,ds,ed,hm,h⟩:=h;subst ed;obtain ⟨a,rfl,hk⟩:=n1;obtain ⟨_,vs,hH,hl,dn⟩:=r.fH k a _ hk hm;refine ⟨a,_,rfl, .inl hH,λp hp=> ?_⟩;exact ⟨.loc M.length,G,L++[p],_,e.trans (r.NG hp),r.EN (m:= .eK ks ds) hp ⟨vs,Τ,hl,Ρ.mono (.refl _) ⟨[p],rfl⟩ _ _ dn⟩,⟨p,rfl,by rw [<-r.len,List.getElem?_append_right (Nat.le_refl _)];simp⟩,h⟩
 ·exact h.elim
theorem xN:bootBuiltins "dict"=some (.type "dict"):=by decide+kernel
theorem rW(hm:X.mg "dict"=none)(ha:JA X R [e] t)(hg:Gl X "dict":=by rfl)(he:starEach [e] X.env=(false,eval e X.env)::starEach [] X.env:=by rfl)(fo:(backTo pos (starEach [] X.env)).any (·.1)=false:=by rfl):JE X R (.Call (.Name "dict" p) [e] [] pos) (A5 B5 t):=
 vJ rF Lm hm xN ha hg (by decide) (by decide) he fo
end
section
variable{f v1 v2:Expr}{tx t1 t2:DE}
theorem FL{K:fv}{G1:Hp}{L1:List Addr}{H1 G:Hp}{M:Ms}{H:Hp}{p:Addr}{ks:List Key}{ds:List Dt}{vs:List V}{q:DQ}(e:Ex G1 L1 H1 G L H)(r:Rl K G L M H)(vG:H1 p=none)(hg:G p=none)(hl:p∉L)(h:H p=some (.dK (ks.zip vs)))(hk:ks.length=ds.length)(n:Ρ K G L ds vs)(k:q (.loc M.length) (M++[.eK ks ds])):Fin K G1 L1 H1 q (.ref p) H:=by
 refine ⟨.loc M.length,G,L++[p],M++[.eK ks ds],⟨e.g,e.l.trans ⟨[p],rfl⟩,e.fr,e.out,λb hb=> ?_,e.zf⟩,⟨r.sub,by rw [List.length_append,List.length_append,r.len];rfl,List.nodup_append.mpr ⟨r.nd,by simp,λa ha b hb=> ?_⟩,λk a m h1 h2=> ?_⟩,⟨p,rfl,by rw [<-r.len,List.getElem?_append_right (Nat.le_refl _)];simp⟩,k⟩
 ·rcases aa2.mp hb with z | z
  ·exact e.new b z
  ·have e:b=p:=by simpa using z
   right;rw [e];exact vG
 ·have e:b=p:=by simpa using hb
  rw [e];exact λz=>hl (z▸ha)
 ·by_cases Kh:k < L.length
  ·rw [aay Kh] at h1;rw [aay (by rw [<-r.len];exact Kh)] at h2;obtain ⟨q1,q2⟩:=r.fH k a m h1 h2;exact ⟨q1,q2.mono (.refl _) ⟨[p],rfl⟩ rfl⟩
  ·have e:k=L.length:=by have:=(aah.mp h1).1;rw [aaf] at this;simp at this;omega
   rw [e,aap (aam _)] at h1;rw [e,r.len,aap (aam _)] at h2;simp at h1 h2;subst h1 h2;exact ⟨hg,vs,h,hk,Ρ.mono (.refl _) ⟨[p],rfl⟩ _ _ n⟩
theorem sx{z1 z2:Str}{c1 c2:Nat}{p1 p2:Pos}(U6:JE X R v1 t1)(NS:JE X R v2 t2)(vW:z1≠z2:=by decide):
  JE X R (.Dict [some (.Constant (.str z1) c1 p1),some (.Constant (.str z2) c2 p2)] [v1,v2] pos) (λρ M q x=>t1 ρ M (λd1 M1=>t2 ρ M1 (λd2 M2=>q (.loc M2.length) (M2++[.eK [Sum.inr z1,Sum.inr z2] [d1,d2]])) x) x):=
 .of (EB (vV SG U6 (vV SG NS Eo)) rfl rfl (by simp) (by show 2<=15;decide)) λσ H G L ρ M q x rl n h hx=>by
  intro p hp;have gn:G p=none:=rl.sub.free hp;have ln:p∉L:=rl.Ji hp;have e0:Ex G L H G L (upd H p (.dK [])):=⟨.refl _, .refl _,λ_ h _=>h,λb u h1 _=>by rw [Γ (λz=>by rw [z,hp] at h1;cases h1)];exact h1,λ_ h=> .inl h,λb h=>by rw [Γ (λz=>h (by rw [z];exact hp))];exact h⟩
  have r0:Rl X.K G L M (upd H p (.dK [])):=⟨λb u e=>by rw [Γ (λz=>by rw [z,gn] at e;cases e)];exact rl.sub b u e,rl.len,rl.nd,λi a m h1 h2=>by
   obtain ⟨q1,q2⟩:=rl.fH i a m h1 h2
   exact ⟨q1,q2.mono (.refl _) (.refl _) (Γ λz=>q2.there (by rw [z];exact hp))⟩⟩
  refine ⟨G,L,ρ,M,_,x,r0,n,h,hx.on e0,λu1 H1 ⟨d1,G1,L1,M1,e1,r1,n1,h1⟩=> ?_⟩;have vG:H1 p=some (.dK []):=e1.out _ _ Τ ln;have g1:G1 p=none:=e1.fr _ gn (by rw [Τ];simp);have l1:p∉L1:=λz=>(e1.new _ z).elim ln λq=>by rw [Τ] at q;cases q
  refine ⟨G1,L1,ρ,M1,_,x,r1,n.mono (e0.trans e1),h1,hx.on (e0.trans e1),λu2 H2 ⟨d2,G2,L2,M2,e2,r2,n2,h2⟩=> ?_⟩;have IX:H2 p=some (.dK []):=e2.out _ _ vG l1;have g2:G2 p=none:=e2.fr _ g1 (by rw [vG];simp);have l2:p∉L2:=λz=>(e2.new _ z).elim l1 λq=>by rw [vG] at q;cases q
  refine ⟨IX,[(Sum.inr z1,u1),(Sum.inr z2,u2)],rfl,by show 2<=15;decide, ?_⟩;rw [qU _ [] (λ_ _=>rfl) (by simp [vW]),List.nil_append];have KA:=(e0.trans e1).trans e2;have TL:∀{b:Addr} {w:HO},G2 b=some w->b≠p:=λe z=>by rw [z,g2] at e;cases e
  refine FL (G:=G2) (L:=L2) (M:=M2) (ks:=[Sum.inr z1,Sum.inr z2]) (ds:=[d1,d2]) (vs:=[u1,u2]) ⟨KA.g,KA.l,KA.fr,λb w h1 h2=> ?_,KA.new,λb h=> ?_⟩ ⟨λb w e=> ?_,r2.len,r2.nd,λi a m h1 h2=> ?_⟩ hp g2 l2 Τ rfl ⟨_,_,rfl,Den.mono e2.g e2.l _ _ n1,_,_,rfl,n2,rfl⟩ h2
  ·rw [Γ (λz=>by rw [z,hp] at h1;cases h1)];exact KA.out b w h1 h2
  ·by_cases hb:b=p
   ·rw [hb,Τ];simp
   ·rw [Γ hb];exact KA.zf b h
  ·rw [Γ (TL e)];exact r2.sub b w e
  ·obtain ⟨q1,q2⟩:=r2.fH i a m h1 h2;exact ⟨q1,q2.mono (.refl _) (.refl _) (Γ λz=>l2 (by rw [<-z];exact aag h1))⟩
end
def Kx(td ty tx:TE):TE:=λσ H Q=>td σ H λx H1=>∃a,x=V.ref a/\Su H1 a/\ty σ H1 λy H2=>tx σ H2 λz H3=>∃Β k,H3 a=some (.dK Β)/\y=kV k/\Β.length < sizeLine/\(∀v,cZ Β k=some v->Q v H3)/\(cZ Β k=none->Q z (upd H3 a (.dK (fG Β k z))))
section
variable{σ:St}{H:Hp}{k:Key}{u r:Value}{d:V}
theorem Dj(I:Inv X ε σ H s)(e:H a=some (.dK Β))(ry:ak (kV k) u)(rd:ak d r)(hz:Β.length < sizeLine)
  (h1:∀v w' s',cZ Β k=some v->Inv X ε σ H s'->ak v w'->Q w' s') (h2:∀s',cZ Β k=none->Inv X ε σ (upd H a (.dK (fG Β k d))) s'->Q r s'):
  wpAny (model X.prog X.w) A (call (.builtin "dict.setdefault") [.ref a,u,r]) Q E s:=by
 obtain ⟨z,hd,vs,rel,dd⟩:=Bi I.aR e;have rv:=rel.val k;refine call_meetsIn PySem.F.slot_dict_setdefault dd.typeIs PySem.F.entry_dict_setdefault (PySem.F.args_dict_setdefault_3 _ _ _) (kt_meets_setdefault (bI X.prog X.w) a (oX ry) hd r) ⟨vs,dd,by rw [<-rel.length];exact z,λv hv=> ?_,λhv h' A8 hs=> ?_⟩
 ·cases l:cZ Β k with
  | none=>rw [l,hv] at rv;cases rv
  | some v0=>rw [l,hv] at rv;exact h1 v0 v _ l (I.tok _) rv
 ·cases l:cZ Β k with
  | some v0=>rw [l,hv] at rv;cases rv
  | none=>
   refine h2 _ l ?_;have hl:(fG Β k d).length<=sizeLine:=by have:=fL Β k d;omega
   have he:∃q,h'.get? a=some q:=let ⟨q,_,_,hq,_⟩:=A8;⟨q,hq⟩
   exact mY I (by rw [e];exact True.intro) hs he (rD hl hd (rel.put k rd) A8)
end
section
variable{f:Expr}{td ty tx:TE}
theorem D0(ho:PE X o td)(he:PE X e ty)(hf:PE X f tx)(m:M2 X o "setdefault" apos e f bH):PE X (.Call (.Attribute o "setdefault" apos) [e,f] [] bH) (Kx td ty tx):=by
 intro ε s σ H Q I h;refine wpAny_Call_method m.base m.UO m.line PySem.F.plainAttrs_dict PySem.F.slot_dict_setdefault PySem.F.type_dict_setdefault (bQ (ho ε s σ H _ I h) λu s1 ⟨x,H1,I1,rx,a,ex,d,q1⟩=> ?_);subst ex;obtain rfl:u=Value.ref a:=rx;obtain ⟨t1,t2,_⟩:=Jo I1 d;refine ⟨t1,t2, ?_⟩;rw [m.trees]
 refine Calls.callWith_builtin rfl (Calls.evalArgs_plain (Calls.spliced_cons (bQ (he ε s1 σ H1 _ I1 q1) λiv s2 ⟨y,H2,I2,ry,q2⟩=>
  Calls.spliced_cons (bQ (hf ε s2 σ H2 _ I2 q2) λfv s3 ⟨z,H3,I3,rz,Β,k,ea,ey,hz,q3,q4⟩=>Calls.spliced_nil ?_))))
 subst ey;exact Dj I3 ea ry rz hz (λv w' s4 l I4 zx=>⟨v,H3,I4,zx,q3 v l⟩) λs4 l I4=>⟨z,_,I4,rz,q4 l⟩
end
def B4(to ti tx:DE):DE:=λρ M q x=>to ρ M (λd M1=>(∃k ks ds,d= .loc k/\M1[k]? =some (.eK ks ds))/\ti ρ M1 (λdi M2=>tx ρ M2 (λz M3=>∃k ks ds key,d= .loc k/\M3[k]? =some (.eK ks ds)/\Af di=some key/\ks.length < 1000/\
 (∀v,av ks ds key=some v->q v M3)/\(av ks ds key=none->q z (M3.set k (.eK (jj ks key) (fY ks key ds z))))) x) x) x
section
variable{f:Expr}{tx:DE}
theorem Gi(ho:JE X R o to)(he:JE X R e te)(hf:JE X R f tx)(m:M2 X o "setdefault" apos e f bH:=by exact ⟨rfl,rfl,rfl,rfl⟩):JE X R (.Call (.Attribute o "setdefault" apos) [e,f] [] bH) (B4 to te tx):=
 .of (D0 ho he hf m) λσ H G L ρ M q x rl n h hx=>by
  refine ⟨G,L,ρ,M,_,x,rl,n,h,hx,λv H1 ⟨d1,G1,L1,M1,e1,r1,n1,⟨k0,X4,X3,Vj,Qm⟩,h1⟩=> ?_⟩;subst Vj;obtain ⟨a,rfl,Eh⟩:=n1;obtain ⟨_,WJ,Ub,_,_⟩:=r1.fH k0 a _ Eh Qm;refine ⟨a,rfl, .inl ⟨_, .inl Ub⟩, ?_⟩;refine ⟨G1,L1,ρ,M1,_,x,r1,n.mono e1,h1,hx.on e1,λv2 H2 ⟨d2,G2,L2,M2,e2,r2,n2,h2⟩=> ?_⟩;refine ⟨G2,L2,ρ,M2,_,x,r2,(n.mono e1).mono e2,h2,(hx.on e1).on e2,λv3 H3 ⟨d3,G3,L3,M3,e3,r3,n3,k,ks,ds,key,ed,hm,hk,hlen,hs,hn⟩=> ?_⟩;cases ed;have Fw:=e2.trans e3;have ya:=Fw.l.get Eh;obtain ⟨_,vs,hH,hl,dn⟩:=r3.fH k0 a _ ya hm;have ES:ks.length=vs.length:=hl.trans dn.length;have kv:v2=kV key:=kg hk n2;have z:(ks.zip vs).length < sizeLine:=by rw [abb];exact aaM (Nat.min_le_left _ _) (Nat.lt_trans hlen (by decide))
  refine ⟨_,key,hH,kv,z,λv l=> ?_,λl=> ?_⟩
  ·cases hg:av ks ds key with
   | none=>rw [ql dn hg] at l;cases l
   | some d=>
    obtain ⟨u,hu,du⟩:=iY dn hg;rw [hu] at l;cases l;exact fin_same (e1.trans Fw) r3 du (hs d hg)
  ·cases hg:av ks ds key with
   | some d=>
    obtain ⟨u,hu,du⟩:=iY dn hg;rw [hu] at l;cases l
   | none=>
    refine ⟨_,G3,L3,_,(e1.trans Fw).trans (r3.GB ya),r3.setM (m:= .eK (jj ks key) (fY ks key ds d3)) ya ⟨fY ks key vs v3,by rw [Τ,CS ES], ?_, ?_⟩,n3,hn hg⟩
    ·unfold jj fY;split
     ·rw [lT hl]
     ·rw [aaf,aaf,hl];rfl
    ·unfold fY;split
     ·exact lK n3 dn hl
     ·exact dn.app ⟨_,_,rfl,n3,rfl⟩
end
def g3(i j k:Nat):Dt->En->(En->Prop)->Prop:=λd ρ f=>match d with
 | .tup [a,b,c]=>f (((ρ.set i (some a)).set j (some b)).set k (some c))
 | _=>False
theorem uJ{K:fv}{i j l:Nat}:GD K (BY K 3 (hZ (fC i) (hZ (fC j) (hZ (fC l) BQ)))) (g3 i j l):=λG L M H d v ρ σ k Q rl n en h hQ=>by
 unfold g3 at h;split at h
 ·rename_i a b c;obtain ⟨p,vs,rfl,e,v1,r,rfl,n1,n⟩:=n;obtain ⟨v2,v3,rfl,n2,n3⟩:=ft n;exact ⟨p,_,rfl, .inl (.inl (rl.sub _ _ e)),rfl,v1,_,rfl,v2,_,rfl,v3,_,rfl,rfl,hQ _ _ (((en.set i n1).set j n2).set l n3) h⟩
 ·exact h.elim
end L2
namespace Fr0
variable{b t:Int}
def g(a b:Int):Int:=(Int.gcd a b:Nat)
theorem qO{a:Int}(h:b≠0):0 < g a b:=by have:=Int.gcd_pos_of_ne_zero_right a h;unfold g;omega
theorem B9{a:Int}(h:0<=a):g a 0=a:=by unfold g;rw [Int.gcd_zero_right];omega
theorem Bk{a:Int}(hb:0 < b):g b (a.fmod b)=g a b:=by
 unfold g;rw [abu a (aai hb),Int.gcd_comm a b]
 congr 1
 refine Int.gcd_right_eq_iff.mpr λc hc=> ?_;rw [Int.emod_def];constructor
 ·intro h;have:=Int.dvd_add h (Int.dvd_mul_of_dvd_left (c:=a / b) hc);rwa [Int.sub_add_cancel] at this
 ·intro h;exact Int.dvd_sub h (Int.dvd_mul_of_dvd_left (c:=a / b) hc)
theorem Hr(a b:Int):g (if a < 0 then -a else a) (if b < 0 then -b else b)=g a b:=by unfold g;split <;> split <;> simp
def dv(t b:Int):Int:=if b < 0 then -(g t b) else g t b
def aw(t b:Int):Int×Int:=(t.fdiv (dv t b),b.fdiv (dv t b))
theorem yE(h:b≠0):dv t b≠0:=by have:=qO (a:=t) h;unfold dv;split <;> omega
theorem uG{k p:Int}(h:k≠0):(k * p).fdiv k=p:=by rw [aaT];exact Int.mul_fdiv_cancel p h
theorem Dc(h:b≠0):∃p q:Int,t=dv t b * p/\b=dv t b * q/\0 < q/\Int.gcd p q=1:=by
 have hg:=qO (a:=t) h;have h0:0 < Int.gcd t b:=Int.gcd_pos_of_ne_zero_right t h;obtain ⟨p,hp⟩:=Int.gcd_dvd_left t b;obtain ⟨q,hq⟩:=Int.gcd_dvd_right t b;have hc:Int.gcd p q=1:=by
  have e:=Int.gcd_ediv_gcd_ediv_gcd h0;have n0:(Int.gcd t b:Int)≠0:=by omega
  have e1:t / (Int.gcd t b:Int)=p:=by
   conv=>lhs;arg 1;rw [hp]
   exact abj p n0
  have e2:b / (Int.gcd t b:Int)=q:=by
   conv=>lhs;arg 1;rw [hq]
   exact abj q n0
  rwa [e1,e2] at e
 have Lc:t=g t b * p:=hp;have A7:b=g t b * q:=hq;by_cases hb:b < 0
 ·have hd:dv t b= -(g t b):=by unfold dv;rw [if_pos hb]
  refine ⟨-p, -q, ?_, ?_, ?_, ?_⟩
  ·rw [hd,Int.neg_mul_neg];exact Lc
  ·rw [hd,Int.neg_mul_neg];exact A7
  ·have:g t b * q < 0:=by rw [<-A7];exact hb
   by_cases q0:0<=q
   ·exact aaJ (aa4 (aai hg) q0) (by omega)
   ·omega
  ·simpa using hc
 ·have hd:dv t b=g t b:=by unfold dv;rw [if_neg hb]
  refine ⟨p,q,by rw [hd];exact Lc,by rw [hd];exact A7, ?_,hc⟩;have:0 < g t b * q:=by rw [<-A7];omega
  exact Int.pos_of_mul_pos_right this hg
theorem fb  (h : b ≠ 0) : ∃ p q : Int, aw t b = (p, q) /\ 0 < q /\ Int.gcd p q = 1 /\ t = dv t b * p /\ b = dv t b * q := by
  obtain ⟨p, q, hp, hq, h0, hc⟩ := Dc (t := t) h;have n0 := yE (t := t) h;refine ⟨p, q, ?_, h0, hc, hp, hq⟩;unfold aw
  have e1 : t.fdiv (dv t b) = p := by conv => lhs; arg 1; rw [hp]
                                      exact uG n0
  have e2 : b.fdiv (dv t b) = q := by conv => lhs; arg 1; rw [hq]
                                      exact uG n0
  rw [e1, e2]
theorem cM(h:b≠0):t * (aw t b).2=b * (aw t b).1:=by
 obtain ⟨p,q,e,_,_,hp,hq⟩:=fb (t:=t) h;rw [e];show t * q=b * p
 calc t * q=dv t b * p * q:=by rw [<-hp]
  _=dv t b * q * p:=by rw [abQ,aaT p q,<-abQ]
  _=b * p:=by rw [<-hq]
theorem bP(h:b≠0):0 < (aw t b).2:=by obtain ⟨p,q,e,h0,_⟩:=fb (t:=t) h;rw [e];exact h0
theorem vN(h:b≠0):Int.gcd (aw t b).1 (aw t b).2=1:=by obtain ⟨p,q,e,_,hc,_⟩:=fb (t:=t) h;rw [e];exact hc
theorem ma{k m n:Int}(h:k∣m * n)(hc:Int.gcd k m=1):k∣n:=by have:=(Int.dvd_gcd_mul_iff_dvd_mul (k:=k) (n:=m) (m:=n)).mpr h;rw [hc] at this;simpa using this
theorem xD{p q p' q':Int}(hq:0 < q)(A7:0 < q')(h:Int.gcd p q=1)(h':Int.gcd p' q'=1)(e:p * q'=p' * q):p=p'/\q=q':=by
 have d1:q∣q':=by have:q∣p * q':=⟨p',by rw [e,aaT]⟩;exact ma this (by rw [Int.gcd_comm];exact h)
 have d2:q'∣q:=by have:q'∣p' * q:=⟨p,by rw [<-e,aaT]⟩;exact ma this (by rw [Int.gcd_comm];exact h')
 have eq:q=q':=Int.le_antisymm (ab4 A7 d1) (ab4 hq d2);subst eq;exact ⟨Int.eq_of_mul_eq_mul_right (by omega) e,rfl⟩
theorem yV{p q:Int}(h:b≠0)(hq:0 < q)(hc:Int.gcd p q=1)(e:t * q=b * p):aw t b=(p,q):=by
 have h1:=cM (t:=t) h;have h2:=bP (t:=t) h;have h3:=vN (t:=t) h;have h4:(aw t b).1 * q=p * (aw t b).2:=by
  have:b * ((aw t b).1 * q)=b * (p * (aw t b).2):=by rw [<-abQ,<-h1,Int.mul_right_comm,e,abQ]
  exact aby h this
 have:=xD h2 hq h3 hc h4;exact Prod.ext this.1 this.2
theorem zr{p q:Int}(hq:0 < q)(hc:Int.gcd p q=1):aw p q=(p,q):=yV (by omega) hq hc (aaT _ _)
theorem sJ(h:b≠0):(dv t b).natAbs<=b.natAbs:=by
 have e:(dv t b).natAbs=Int.gcd t b:=by unfold dv g;split <;> omega
 rw [e];exact Int.gcd_le_natAbs_right t h
theorem kQ  (h : b ≠ 0) : (aw t b).1.natAbs <= t.natAbs := by
  obtain ⟨p, q, e, _, _, hp, _⟩ := fb (t := t) h;have n0 := yE (t := t) h;rw [e];show p.natAbs <= t.natAbs
  have : t.natAbs = (dv t b).natAbs * p.natAbs := by conv => lhs; rw [hp]
                                                     exact abh _ _
  rw [this];exact Nat.le_mul_of_pos_left _ (by omega)
theorem j'  (h : b ≠ 0) : (aw t b).2.natAbs <= b.natAbs := by
  obtain ⟨p, q, e, _, _, _, hq⟩ := fb (t := t) h;have n0 := yE (t := t) h;rw [e];show q.natAbs <= b.natAbs
  have : b.natAbs = (dv t b).natAbs * q.natAbs := by conv => lhs; rw [hq]
                                                     exact abh _ _
  rw [this];exact Nat.le_mul_of_pos_left _ (by omega)
theorem yd(h:0 < b):aw t b=(t.fdiv (g t b),b.fdiv (g t b)):=by unfold aw dv;rw [aaA (by omega)]
end Fr0
namespace Tx
open PySem PySem.NumText
end Tx
seal L2.JE L2.JT L2.JW L2.JA L2.JS L2.zF L2.JI L2.JK
local macro_rules | `(tactic| walk_at "vc")=>`(tactic| dsimp only [L2.gN,L2.Lw,L2.Nd,L2.PN,L2.JU,L2.Hg,L2.Sl,L2.Nh,L2.zU,L2.HA,L2.HK,L2.A5,L2.iF,L2.Of,L2.wD,L2.dC,L2.Kj,L2.Bs,L2.M9,L2.Jl,L2.kD,L2.So,L2.Nk,L2.Me,L2.Sx,L2.R8,L2.k9,List.map_cons,List.map_nil,List.length_cons,List.length_nil,List.cons_append,List.nil_append,List.replicate,List.getElem?_cons_zero,List.getElem?_cons_succ,List.set_cons_zero,List.set_cons_succ,Nat.reduceSub,Nat.reduceAdd,Nat.zero_add])
namespace Pg
open PySem L2
variable{mg:Str->Option Value}{f aA pv j1 aW gz b7 b6 bU:Addr}{fd aC oz jA aT gF bZ bY bT:FuncData}{i n m j:Nat}{M:Ms}{d:Dt}{xs ds:List Dt}{ρ:En}{b t B a E C p:Int}{ns:List Int}
def top(i:Nat):Stmt:=PySem.Challenge.pw_chanceduel_k64_a_mean_by_all_plays.main.body.getD i (.Pass ⟨0,0,0,0⟩)
def cls(i j:Nat):Stmt:=match top i with
 | .ClassDef _ _ _ b _ _ _ _ _ _ _=>b.getD j (.Pass ⟨0,0,0,0⟩)
 | _=> .Pass ⟨0,0,0,0⟩
abbrev fq:Stmt:=top 8
abbrev lr:Stmt:=top 9
abbrev DU:Stmt:=top 10
abbrev xE:Stmt:=top 11
abbrev xF:Stmt:=top 12
abbrev n_:Stmt:=top 17
abbrev lH:Stmt:=top 18
abbrev gk:Stmt:=top 19
abbrev gW:Stmt:=top 20
abbrev jX:Stmt:=top 21
abbrev oY:Stmt:=top 22
abbrev jD:Stmt:=top 23
abbrev jE:Stmt:=top 27
abbrev oO:Stmt:=top 28
abbrev lF:Stmt:=top 29
abbrev xV:Stmt:=top 30
abbrev oZ:Stmt:=top 33
abbrev nW:Stmt:=top 34
abbrev lA:Stmt:=top 35
abbrev iz:Stmt:=top 37
abbrev rJ:Stmt:=top 38
abbrev tR:Stmt:=top 39
abbrev jI:Stmt:=top 40
abbrev iG:Stmt:=top 41
abbrev gU:Stmt:=top 42
abbrev rS:Stmt:=top 43
abbrev sR:Stmt:=top 45
abbrev jZ:Stmt:=top 46
abbrev nD:Stmt:=top 47
abbrev jP:Stmt:=top 48
abbrev k_:Stmt:=top 49
abbrev sQ:Stmt:=top 50
abbrev lD:Stmt:=top 51
abbrev oh:Stmt:=top 52
abbrev lP:Stmt:=top 53
abbrev jH:Stmt:=top 54
abbrev lj:Stmt:=top 55
abbrev n4:Stmt:=top 56
abbrev fB:Stmt:=top 57
abbrev lZ:Stmt:=top 58
abbrev Km:Stmt:=top 59
abbrev jJ:Stmt:=cls 31 0
abbrev jW:Stmt:=cls 31 1
abbrev hV:Stmt:=cls 31 2
abbrev jR:Stmt:=cls 31 3
abbrev ij:Stmt:=cls 31 4
abbrev lI:Stmt:=cls 31 5
abbrev iC:Stmt:=cls 31 7
abbrev fA:Stmt:=cls 31 8
abbrev jw:Stmt:=cls 31 9
open PySem L2 Fr0 Tx
structure Ev(K:fv)(mg:Str->Option Value)(Cn:Addr):Prop where
 cE:mg "len"=none
 pe:mg "abs"=none
 aS:mg "isinstance"=none
 vd:mg "int"=none
 nP:mg "bool"=none
 BM:mg "str"=none
 kz:mg "tuple"=none
 iu:mg "list"=none
 bh:mg "range"=none
 eC:mg "enumerate"=none
 yv:mg "any"=none
 yT:mg "all"=none
 uQ:mg "sum"=none
 yw:mg "zip"=none
 jQ:mg "dict"=none
 ib:PySem.W.kitOne K (.type "int") (.type "bool")=some false
 XU:PySem.W.kitOne K (.type "int") (.type "str")=some false
 Wv:PySem.W.kitOne K (.type "tuple") (.type "str")=some false
 U8:PySem.W.kitOne K (.type "tuple") (.type "int")=some false
 Wy:PySem.W.kitOne K (.type "list") (.type "str")=some false
 Uj:PySem.W.kitOne K (.type "list") (.type "int")=some false
 Vl:PySem.W.kitOne K (.type "tuple") (.type "list")=some false
 klt:PySem.W.kitOne K (.type "list") (.type "tuple")=some false
 cU:yt K Cn
 b9:gb K Cn "kept_rows"
 ez:gb K Cn "kept_share"
 sD:∃a o its n,mg "HANDS"=some (.ref a)/\K.lookup a=some o/\o.cls= .type "tuple"/\o.data= .seq its n/\its.size<=sizeLine/\Paired (λ(z:Str) (u:Value)=>∃tk,u= .str z tk) ["one","other"] its.toList
 mw:∃tk,mg "MOST_DOORS"=some (.int 6 tk)
 gX:∃tk,mg "MOST_BOTTOM"=some (.int 1000000 tk)
 ki:∃tk,mg "MOST_PLACES"=some (.int 12 tk)
 ff:∃tk,mg "MOST_SHARE_BOTTOM"=some (.int 1000 tk)
theorem om{K:fv}{T:String}:PySem.W.kitOne K (.type T) (.type T)=some true:=by unfold PySem.W.kitOne;rw [aaE (beq_self_eq_true _)]
section
variable{P:Program}{w:World}{K:fv}{base:Heap}{Cn:Addr}
def DM:DF:=λds M q _=>match ds with
 | [.int a, .int b]=>q (.int (g a b)) M
 | _=>False
theorem bf:χ ["one","other","great","small","rest"] ["one","other"] (ο fq):= .of rfl
theorem lq(F:dN K "common_divisor" "common_divisor" fq f fd)(E:Ev K mg Cn):ar P w K mg base (cR P w) 1 f fd ["one","other"] (dE K DM):=by
 refine F.eN bf (λds M q x h=> ?_) (λbu A outer s H E' hr=>⟨_,(ι (π 2 bf.nd (yj E.pe (Ο (jv 0) ζ)))
   (ι (π 3 bf.nd (yj E.pe (Ο (jv 1) ζ)))
   (ι (oR (nB hr (jv 3) ξ) (ι (π 4 bf.nd (bo (jv 2) (jv 3)))
   (ι (π 2 bf.nd (jv 3))
   (μ (π 3 bf.nd (jv 4))))))
   (μ (ψ (jv 2)))))),λds M q x h=> ?_⟩)
 ·unfold DM at h;split at h; · rfl
  ·exact h.elim
 ·unfold DM at h;split at h
  ·rename_i a b;refine ⟨λm ρ M'=>M'=M/\∃(x y:Int) (r:Option Dt),ρ=[some (.int a),some (.int b),some (.int x),some (.int y),r]/\0<=x/\0<=y/\g x y=g a b/\m=y.toNat,⟨_,rfl,_,_,_,rfl,by split <;> omega,by split <;> omega,Hr a b,rfl⟩, ?_⟩;rintro m ρ M' ⟨rfl,x,y,r,rfl,hx,hy,e,rfl⟩;refine ⟨λhb=> ?_,λhb=> ?_⟩
   ·have Fg:y≠0:=by simpa using hb
    refine ⟨_,λρ' M2 h2=>h2, ?_⟩;refine ⟨by omega,(x % y).toNat, ?_,rfl,y,x % y,_,rfl,hy,aaU _ Fg, ?_,rfl⟩
    ·have:=aaN x (show 0 < y by omega);have:=aaU x Fg;omega
    ·rw [<-abu x hy,Bk (by omega)];exact e
   ·have Fg:y=0:=by simpa using hb
    subst Fg;rw [B9 hx] at e;subst e;exact h
  ·exact h.elim
theorem AX{i j:Int}(h:gG j)(l:i.natAbs<=j.natAbs):gG i:=aaM l h
def vi:DF:=λds M q _=>match ds with
 | [.int t, .int b]=>gG b/\(b=0->False)/\(b≠0->q (.tup [.int (aw t b).1, .int (aw t b).2]) M)
 | _=>False
theorem jz:χ ["top","bottom","divisor"] ["top","bottom"] (ο lr):= .of rfl
theorem uP(F:dN K "fraction" "fraction" lr f fd)(E:Ev K mg Cn){fh:Addr}{fi:FuncData}(bc:aE P w K mg base 1 "common_divisor" ["one","other"] DM fh fi):ar P w K mg base (cR P w) 2 f fd ["top","bottom"] (dE K vi):=by
 refine F.eN jz (λds M q x h=> ?_) (λbu A outer s H E' hr=>⟨_,(ι (aI (cW hr (jv 1) ξ) (μ iw) Ξ)
   (ι (π 2 jz.nd (aj bc hr ν (Ο (jv 0) (Ο (jv 1) ζ))))
   (ι (lQ (aI (yW (jv 1) ξ) (μ (π 2 jz.nd (CG (jv 2)))) Ξ))
   (μ (ψ (aV (η (Di (jv 0) (jv 2)) (η (Di (jv 1) (jv 2)) ζ aX) aX))))))),λds M q x h=> ?_⟩)
 ·unfold vi at h;split at h; · rfl
  ·exact h.elim
 ·unfold vi at h;split at h
  ·rename_i t b;obtain ⟨hB,h0,h1⟩:=h;refine ⟨λhb=> ?_,λhb=> ?_⟩
   ·exact h0 (by simpa using hb)
   ·have Hw:b≠0:=by simpa using hb
    refine ⟨λρ M'=>M'=M/\ρ=[some (.int t),some (.int b),some (.int (dv t b))],⟨λhn=> ?_,λhn=> ?_⟩, ?_⟩
    ·have MX:b < 0:=by simpa using hn
     exact ⟨rfl,by unfold dv;rw [if_pos MX];rfl⟩
    ·have MX:¬b < 0:=by simpa using hn
     exact ⟨rfl,by unfold dv;rw [if_neg MX];rfl⟩
    ·rintro ρ M' ⟨rfl,rfl⟩;have hd:=yE (t:=t) Hw;have R1:gG (dv t b):=AX hB (sJ Hw);exact ⟨⟨hd,R1⟩,⟨hd,R1⟩,fI,h1 Hw⟩
  ·exact h.elim
abbrev Fr:=Int×Int
def Δ(p:Fr):Dt:= .tup [.int p.1, .int p.2]
def aH(p:Fr):Bool:=decide ((if p.1 < 0 then -p.1 else p.1)<=10 ^ 30)&&decide (p.2<=1000000)
def oB:DF:=λds M q _=>∃p,ds=[Δ p]/\q (.bl (aH p)) M
theorem AY:χ ["pay"] ["pay"] (ο n_):= .of rfl
theorem xc(F:dN K "fits_pay" "fits_pay" n_ f fd)(E:Ev K mg Cn):ar P w K mg base (cR P w) 1 f fd ["pay"] (dE K oB):=by
 refine F.eN AY (λds M q x h=> ?_) (λbu A outer s H E' hr=>⟨_,(μ (ψ (ee (ug (yj E.pe (η (Α (jv 0) ξ) ζ ax)) (ke ξ ξ)) (fZ (ug (Α (jv 0) ξ) (pC E.gX)))))),λds M q x h=> ?_⟩)
 ·obtain ⟨p,rfl,_⟩:=h;rfl
 ·obtain ⟨p,rfl,h⟩:=h;refine ⟨⟨by decide,by decide,by decide⟩,λh1=> ?_,λh1=> ?_⟩
  ·have e:aH p=decide (p.2<=1000000):=by unfold aH;rw [show decide ((if p.1 < 0 then -p.1 else p.1)<=10 ^ 30)=true from h1];rfl
   rw [e] at h;exact h
  ·have e:aH p=false:=by unfold aH;rw [show decide ((if p.1 < 0 then -p.1 else p.1)<=10 ^ 30)=false from h1];rfl
   rw [e] at h;exact h
theorem mX{ok:Ms->Prop}(h:g6 M d=some (xs,ok)):ok M:=by
 cases d with
 | lst ds=>cases h;trivial
 | fc ns=>cases h;trivial
 | loc k=>
  have h:(match M[k]? with | some (.lst xs)=>some (xs,λM':Ms=>M'[k]? =some (.lst xs)) | _=>none)=some (xs,ok):=h;split at h
  ·rename_i ys hm;cases h;exact hm
  ·cases h
 | _=>cases h
theorem uU{ok:Ms->Prop}(h:g6 M d=some (xs,ok)):nH M d=some (xs,ok):=by
 cases d with
 | lst ds=>cases h;rfl
 | fc ns=>cases h;rfl
 | loc k=>exact h
 | _=>cases h
theorem cx{ok:Ms->Prop}{q:List Dt->(Ms->Prop)->Ms->Prop}{x:DX}(hv:ρ[i]? =some (some d))(hl:g6 M d=some (xs,ok))(h:q xs ok M):eG (wD i) ρ M q x:=by unfold eG wD;rw [hv];show (match nH M d with | some (xs,ok)=>q xs ok M | none=>False);rw [uU hl];exact h
theorem bg{n:Int}{k:Nat}(h:n.natAbs < 2 ^ k)(hk:k<=8000:=by decide):gG n:=aaq h (aa6 (by decide) hk)
def aG(t:Int)(p:Fr)(size:Int):Bool:=decide (0<=t)&&(decide (t < size)&&aH p)
def qB:DF:=λds M q _=>∃t p r size,ds=[.tup (.int t::Δ p::r), .int size]/\q (.bl (aG t p size)) M
theorem wL:χ ["door","size"] ["door","size"] (ο lH):= .of rfl
theorem vA(F:dN K "fits_door" "fits_door" lH f fd)(E:Ev K mg Cn){nN:Addr}{og:FuncData}(e_:aE P w K mg base 1 "fits_pay" ["pay"] oB nN og):ar P w K mg base (cR P w) 2 f fd ["door","size"] (dE K qB):=by
 refine F.eN wL (λds M q x h=> ?_) (λbu A outer s H E' hr=>⟨_,(μ (ψ (ee (ug ξ (Α (jv 0) ξ)) (ee (zB (Α (jv 0) ξ) (jv 1)) (fZ (aj e_ hr ν (η (Α (jv 0) ξ) ζ ax))))))),λds M q x h=> ?_⟩)
 ·obtain ⟨t,p,r,size,rfl,_⟩:=h;rfl
 ·obtain ⟨t,p,r,size,rfl,h⟩:=h;walk_at "vc";refine ω rfl dM ?_;refine ⟨λh1=> ?_,λh1=> ?_⟩
  ·refine ω rfl dM ⟨λh2=> ?_,λh2=> ?_⟩
   ·refine ω rfl (Θ (j:=1) rfl) ⟨p,rfl, ?_⟩;have e:aG t p size=aH p:=by unfold aG;rw [h1,h2];rfl
    rw [<-e];exact h
   ·have e:aG t p size=false:=by unfold aG;rw [h1,h2];rfl
    rw [<-e];exact h
  ·have e:aG t p size=false:=by unfold aG;rw [h1];rfl
   rw [<-e];exact h
abbrev dj:=Int×Fr×List Fr
def a_(d:dj):Dt:= .tup (.int d.1::Δ d.2.1::d.2.2.map Δ)
def ah(ds:List dj)(size:Int):Bool:=decide (1<=ds.length)&&decide (ds.length<=6)&&ds.all λd=>aG d.1 d.2.1 size
def oJ:DF:=λas M q _=>∃d size ds ok,as=[d, .int size]/\g6 M d=some (ds.map a_,ok)/\ds.length<=100/\q (.bl (ah ds size)) M
theorem mx:χ ["doors","size"] ["doors","size"] (ο jX):= .of rfl
theorem sZ(F:dN K "fits_doors" "fits_doors" jX f fd)(E:Ev K mg Cn){zL:Addr}{AA:FuncData}(jT:aE P w K mg base 2 "fits_door" ["door","size"] qB zL AA):ar P w K mg base (cR P w) 3 f fd ["doors","size"] (dE K oJ):=by
 refine F.eN mx (λds M q x h=> ?_) (λbu A outer s H E' hr=>⟨_,(ι (aI (JW.jt (kJ (yW (c7 E.cE (Ο (jv 0) ζ)) ξ) (nq (Hz (c7 E.cE (Ο (jv 0) ζ)) (pC E.mw))))) (μ (ψ Hv)) Ξ)
   (μ (ψ (Ly E.yT (η (gR (ys:=["size"]) (Ψ:=[1]) (.of mx rfl rfl rfl) (bL (jv 0)) (λC s H fp=>(aj jT hr (iO (P:=P) (w:=w)) (Ο (jv 0) (Ο (jv 1) ζ))))) ζ))))),λds M q x h=> ?_⟩)
 ·obtain ⟨d,size,ds,ok,rfl,_⟩:=h;rfl
 ·obtain ⟨d,size,ds,ok,rfl,hl,hz,h⟩:=h;have hs:=ky hl;walk_at "vc";refine az hs ⟨λh1=> ?_,λh1=> ?_⟩
  ·refine ⟨λ_=> ?_,λz=>(nomatch z)⟩;have e:ah ds size=false:=by
    have:(ds.length:Int) < 1:=by simpa using h1
    unfold ah;rw [aaD (by omega)];rfl
   rw [<-e];exact h
  ·have h1:¬(ds.length:Int) < 1:=by simpa using h1
   refine az hs ⟨λh2=> ?_,λh2=> ?_⟩
   ·have e:ah ds size=false:=by
     have:6 < (ds.length:Int):=by simpa using h2
     unfold ah;rw [aaD (p:=ds.length<=6) (by omega),Bool.and_false];rfl
    rw [<-e];exact h
   ·have h2:¬6 < (ds.length:Int):=by simpa using h2
    refine cx rfl hl ⟨by rw [aac];exact aaI hz (by decide), ?_⟩;refine cQ (f:=λd=> .bl (match d with | .tup (.int t:: .tup [.int a, .int b]::_)=>aG t (a,b) size | _=>false)) (mX hl) (λx hx q hq=> ?_) ?_
    ·obtain ⟨y,_,rfl⟩:=aas.mp hx;exact ⟨y.1,y.2.1,y.2.2.map Δ,size,rfl,hq⟩
    ·refine ⟨ds.map λd=>aG d.1 d.2.1 size, ?_, ?_⟩
     ·rw [aaO,aa3,aaO];rfl
     ·have e:ah ds size=(ds.map λd=>aG d.1 d.2.1 size).all id:=by unfold ah;rw [aav (show 1<=ds.length by omega),aav (show ds.length<=6 by omega),List.all_map];rfl
      rw [<-e];exact h
def ae(cs:List Fr):Int:=cs.foldl (λb c=>b * c.2 / g b c.2) 1
theorem kG{c:Int}(hb:0 < b)(hc:0 < c):0 < b * c / g b c/\b * c / g b c<=b * c/\0 < g b c/\g b c<=c:=by
 have hg:0 < g b c:=qO (by omega);have WO:0 < b * c:=aaC hb hc;have hd:g b c∣c:=Int.gcd_dvd_right ..;have hle:g b c<=c:=ab4 hc hd;have h1:c<=b * c:=by have:=aaj (show 1<=b by omega) (show 0<=c by omega);simpa using this
 refine ⟨Int.ediv_pos_of_pos_of_dvd WO (by omega) (Int.dvd_mul_of_dvd_right hd), ?_,hg,hle⟩;exact Int.ediv_le_self _ (by omega)
def Hq(cs:List Fr):Prop:=cs.length<=12/\∀c∈cs,0 < c.2/\c.2 < 2 ^ 200/\c.1.natAbs < 2 ^ 200
theorem i0:∀(cs:List Fr) (b:Int) (k:Nat),0 < b->b<=2 ^ (200 * k)->(∀c∈cs,0 < c.2/\c.2 < 2 ^ 200)->0 < cs.foldl (λb c=>b * c.2 / g b c.2) b/\cs.foldl (λb c=>b * c.2 / g b c.2) b<=2 ^ (200 * (k+cs.length))
 | [],b,k,h0,h1,_=>⟨h0,h1⟩
 | c::cs,b,k,h0,h1,hc=>by
  obtain ⟨c0,c1⟩:=hc c aae;obtain ⟨s0,s1,_⟩:=kG h0 c0;have Hy:b * c.2 / g b c.2<=2 ^ (200 * (k+1)):=by refine ab1 s1 ?_;rw [show 200 * (k+1)=200 * k+200 by omega,ab9];exact aba h1 (aai c1) (aai c0) (aai (abr (by decide)))
  have:=i0 cs _ (k+1) s0 Hy λd hd=>hc d (aad _ hd);rw [ab3,aaw,show k+(cs.length+1)=k+1+cs.length by omega];exact this
theorem La{n:Int}{k:Nat}(h0:0<=n)(h:n<=2 ^ k)(hk:k < 8000):gG n:=by
 refine bg (k:=k+1) ?_ hk;have:(n.natAbs:Int) < ((2 ^ (k+1):Nat):Int):=by rw [aa7 h0,abN,aa0];have:(0:Int) < 2 ^ k:=abr (by decide);show n < 2 ^ k * 2;omega
 exact abB.mp this
theorem gh:∀(cs:List Fr) (b:Int),0 < b->(∀c∈cs,0 < c.2)->0 < cs.foldl (λb c=>b * c.2 / g b c.2) b
 | [],_,h0,_=>h0
 | c::cs,b,h0,hc=>gh cs _ (kG h0 (hc c aae)).1 λd hd=>hc d (aad _ hd)
theorem xf{n:Int}{k:Nat}(h0:0<=n)(h:n < 2 ^ k)(hk:k<=8000):gG n:=by
 refine bg (k:=k) ?_ hk;have:(n.natAbs:Int) < ((2 ^ k:Nat):Int):=by rw [aa7 h0,abN];exact h
 exact abB.mp this
def gu:DF:=λds M q _=>∃cs:List Fr,ds=[.lst (cs.map Δ)]/\Hq cs/\q (.int (ae cs)) M
theorem dR:χ ["chances","bottom","chance"] ["chances"] (ο gk):= .of rfl
theorem mI(F:dN K "common_bottom" "common_bottom" gk f fd)(E:Ev K mg Cn){fh:Addr}{fi:FuncData}(bc:aE P w K mg base 1 "common_divisor" ["one","other"] DM fh fi):ar P w K mg base (cR P w) 2 f fd ["chances"] (dE K gu):=by
 refine F.eN dR (λds M q x h=> ?_) (λbu A outer s H E' hr=>⟨_,(ι (π 1 dR.nd ξ)
   (ι (cC (bL (jv 0)) (Ι (i:=2) dR.nd rfl (Or.inl rfl)) aJ (μ (π 1 dR.nd (cF (br (jv 1) (Α (jv 2) ξ)) (aj bc hr ν (Ο (jv 1) (η (Α (jv 2) ξ) ζ ax)))))))
   (μ (ψ (jv 1))))),λds M q x h=> ?_⟩)
 ·obtain ⟨cs,rfl,_⟩:=h;rfl
 ·obtain ⟨cs,rfl,⟨hz,hc⟩,h⟩:=h;walk_at "vc";refine cx (i:=0) rfl rfl ?_;refine bK (λxs ρ M'=>M'=M/\∃bR Η r,cs=bR++Η/\xs=Η.map Δ/\ρ=[some (.lst (cs.map Δ)),some (.int (ae bR)),r]) (λ_ _ _ _=>trivial) (λx xs ρ M' hj gO=> ?_) (λρ M' hj=> ?_) _ _ _ ⟨rfl,[],cs,none,rfl,rfl,rfl⟩
  ·obtain ⟨rfl,bR,Η,r,e,ex,rfl⟩:=hj;cases Η with
   | nil=>cases ex
   | cons c Η=>
    cases ex;have hd:∀d∈bR,0 < d.2/\d.2 < 2 ^ 200:=λd hd=>by obtain ⟨a,b,_⟩:=hc d (by rw [e];exact abz _ hd);exact ⟨a,b⟩
    obtain ⟨c0,c1,_⟩:=hc c (by rw [e];exact aaB _ aae);obtain ⟨b0,b1⟩:=i0 bR 1 0 (by decide) (by decide) hd;have hl:bR.length<=12:=by have:=aa5 List.length e;rw [aaf] at this;omega
    obtain ⟨s0,s1,g0,g1⟩:=kG b0 c0;refine ⟨⟨La (aai b0) b1 (by omega),xf (aai c0) c1 (by decide)⟩,⟨g0,xf (aai g0) (aar g1 c1) (by decide)⟩, ?_⟩;refine gO _ _ ⟨rfl,bR++[c],Η,some (Δ c),by rw [e];simp,rfl, ?_⟩;have e2:ae (bR++[c])=ae bR * c.2 / g (ae bR) c.2:=by unfold ae;rw [List.foldl_append];rfl
    rw [e2];rfl
  ·obtain ⟨rfl,bR,Η,r,e,ex,rfl⟩:=hj;cases Η with
   | nil=>rw [aaG] at e;subst e;exact h
   | cons c Η=>cases ex
def Φ(cs:List Fr):Bool:= !(cs.any λc=>decide (c.1<=0))&&(decide ((cs.map λc=>c.1 * (ae cs / c.2)).sum=ae cs)&&decide (ae cs<=1000000))
def j9:DF:=λds M q _=>∃cs:List Fr,ds=[.lst (cs.map Δ)]/\Hq cs/\q (.bl (Φ cs)) M
theorem cT:χ ["chances","bottom","whole"] ["chances"] (ο gW):= .of rfl
theorem nL(F:dN K "fits_chances" "fits_chances" gW f fd)(E:Ev K mg Cn){gv:Addr}{gq:FuncData}(bN:aE P w K mg base 2 "common_bottom" ["chances"] gu gv gq):ar P w K mg base (cR P w) 3 f fd ["chances"] (dE K j9):=by
 refine F.eN cT (λds M q x h=> ?_) (λbu A outer s H E' hr=>⟨_,(ι (aI (da (Ny E.yv (η (gR (ys:=[]) (Ψ:=[]) (.of cT rfl rfl rfl) (bL (jv 0)) (λC s H fp=>(ug (Α (jv 0) ξ) ξ))) ζ))) (μ (ψ Hv)) Ξ)
   (ι (π 1 cT.nd (aj bN hr ν (Ο (jv 0) ζ)))
   (ι (π 2 cT.nd (Hh E.uQ (η (gR (ys:=["bottom"]) (Ψ:=[1]) (.of cT rfl rfl rfl) (bL (jv 0)) (λC s H fp=>(br (Α (jv 0) ξ) (cF (jv 1) (Α (jv 0) ξ))))) ζ)))
   (μ (ψ (ee (MW hr (jv 2) (jv 1)) (fZ (ug (jv 1) (pC E.gX))))))))),λds M q x h=> ?_⟩)
 ·obtain ⟨cs,rfl,_⟩:=h;rfl
 ·obtain ⟨cs,rfl,wq,h⟩:=h;obtain ⟨hz,hc⟩:=id wq;have HQ:(cs.map Δ).length<=sizeLine:=by rw [aac];exact aaI hz (by decide)
  obtain ⟨b0,b1⟩:=i0 cs 1 0 (by decide) (by decide) λc h=>⟨(hc c h).1,(hc c h).2.1⟩;walk_at "vc";refine cx (i:=0) rfl rfl ⟨HQ, ?_⟩;refine cQ (f:=λd=> .bl (match d with | .tup [.int a, .int b]=>decide (a<=0) | _=>false)) trivial (λx hx q hq=> ?_) ?_
  ·obtain ⟨y,_,rfl⟩:=aas.mp hx;exact hq
  ·refine ⟨cs.map λc=>decide (c.1<=0),by rw [aaO,aa3,aaO];rfl,λ_ z=>(nomatch z),λ_ z=>(nomatch z), ?_⟩;have ea:(cs.map λc=>decide (c.1<=0)).any id=cs.any λc=>decide (c.1<=0):=by rw [List.any_map];rfl
   rw [ea];refine ⟨λh1=> ?_,λh1=> ?_⟩
   ·have e:Φ cs=false:=by unfold Φ;rw [h1];rfl
    rw [<-e];exact h
   ·refine ⟨cs,rfl,wq, ?_⟩;walk_at "vc";refine cx (i:=0) rfl rfl ⟨HQ, ?_⟩;refine cQ (f:=λd=> .int (match d with | .tup [.int a, .int b]=>a * (ae cs / b) | _=>0)) trivial (λx hx q hq=> ?_) ?_
    ·obtain ⟨y,hy,rfl⟩:=aas.mp hx;obtain ⟨y0,y1,y2⟩:=hc y hy;refine ⟨⟨y0,xf (aai y0) y1 (by decide)⟩,⟨bg y2, ?_⟩,hq⟩;refine La (k:=200 * (0+cs.length)) (Int.ediv_nonneg (aai b0) (aai y0)) (ab1 (Int.ediv_le_self _ (aai b0)) b1) (by omega)
    ·refine ⟨cs.map λc=>c.1 * (ae cs / c.2),by rw [aaO,aa3,aaO];rfl,⟨_,_,rfl⟩, ?_⟩;refine ⟨λh2=> ?_,λh2=> ?_⟩
     ·have e:Φ cs=decide (ae cs<=1000000):=by unfold Φ;rw [h1,h2];rfl
      rw [e] at h;exact h
     ·have e:Φ cs=false:=by unfold Φ;rw [h1,h2];rfl
      rw [<-e];exact h
inductive Rw where
 | fin (p:Fr)
 | τ (k:Str) (ds:List dj)
def θ(d:dj):Fr:=d.2.2.headD (0,1)
def eP:Rw->Prop
 | .fin p=>0 < p.2
 | .τ k ds=>k≠"end"/\ds.length<=12/\(k="chance"->(∀d∈ds,d.2.2=[θ d])/\Hq (ds.map θ))/\∀d∈ds,d.2.2.length<=1/\0 < d.2.1.2
def iI(M:Ms)(d:Dt):Rw->Prop
 | .fin p=>d= .tup [.str "end",Δ p]
 | .τ k ds=>∃e ok,d= .tup [.str k,e]/\g6 M e=some (ds.map a_,ok)
def Χ:Rw->Dt
 | .fin p=> .tup [.str "end",Δ p]
 | .τ k ds=> .tup [.str k, .lst (ds.map a_)]
theorem Fp(M:Ms)(r:Rw):iI M (Χ r) r:=by
 cases r with
 | fin p=>rfl
 | τ k ds=>exact ⟨_,_,rfl,rfl⟩
theorem oH(p:Fr):(Δ p).under n:=⟨trivial,trivial,trivial⟩
theorem tV{n:Nat}:∀(ps:List Fr),Dt.bW n (ps.map Δ)
 | []=>trivial
 | p::ps=>⟨oH p,tV ps⟩
theorem Jw(d:dj):(a_ d).under n:=⟨trivial,oH _,tV _⟩
theorem dJ{n:Nat}:∀(ds:List dj),Dt.bW n (ds.map a_)
 | []=>trivial
 | d::ds=>⟨Jw d,dJ ds⟩
theorem Fb(r:Rw):(Χ r).under n:=by
 cases r with
 | fin p=>exact ⟨trivial,oH p,trivial⟩
 | τ k ds=>exact ⟨trivial,dJ ds,trivial⟩
theorem gA{n:Nat}:∀(rs:List Rw),Dt.bW n (rs.map Χ)
 | []=>trivial
 | r::rs=>⟨Fb r,gA rs⟩
def Ζ(k:Str):Bool:=k=="one" || k=="other"
def eV(r:Rw)(size:Int):Bool:=match r with
 | .fin p=>aH p
 | .τ k ds=>if Ζ k then ah ds size else if k="chance" then ah ds size&&Φ (ds.map θ) else false
theorem BS{j:Int}{ok:Ms->Prop}{q:List Dt->(Ms->Prop)->Ms->Prop}{x:DX}(hv:ρ[i]? =some (some (.tup ds)))(hj:jh ds j=some d)(hl:g6 M d=some (xs,ok))(h:q xs ok M):eG (iF cB (wD i) (dC (.int j))) ρ M q x:=by unfold eG iF wD;rw [hv];show cB (.tup ds) (.int j) M (λd M1=>match nH M1 d with | some (xs,ok)=>q xs ok M1 | none=>False);refine ω rfl hj ?_;show (match nH M d with | some (xs,ok)=>q xs ok M | none=>False);rw [uU hl];exact h
theorem oW{k:Str}:Oy (.str k) [.str "one", .str "other"]=Ζ k:=by show ((("one":Str)==k) || ((("other":Str)==k) || false))=(k=="one" || k=="other");rw [Bool.or_false,BEq.comm (a:=("one":Str)),BEq.comm (a:=("other":Str))]
def vu:DF:=λas M q _=>∃d r size,as=[d, .int size]/\iI M d r/\eP r/\q (.bl (eV r size)) M
theorem lM:χ ["row","size","kind"] ["row","size"] (ο oY):= .of rfl
theorem wZ   (F:dN K "fits_row" "fits_row" oY f fd) (E:Ev K mg Cn) {nN:Addr} {og:FuncData} (e_:aE P w K mg base 1 "fits_pay" ["pay"] oB nN og) {xG:Addr} {xi:FuncData} (fU:aE P w K mg base 3 "fits_doors" ["doors","size"] oJ xG xi) {rP:Addr} {tG:FuncData} (gs:aE P w K mg base 3 "fits_chances" ["chances"] j9 rP tG):ar P w K mg base (cR P w) 4 f fd ["row","size"] (dE K vu):=by
 refine F.eN lM (λds M q x h=> ?_) (λbu A outer s H E' hr=>⟨_,(ι (π 2 lM.nd (Α (jv 0) ξ))
   (ι (aI (cW hr (jv 2) dZ) (μ (ψ (aj e_ hr ν (η (Α (jv 0) ξ) ζ ax)))) Ξ)
   (ι (aI (wY (jv 2) (CU E.sD)) (μ (ψ (aj fU hr ν (η (Α (jv 0) ξ) (Ο (jv 1) ζ) ax)))) Ξ)
   (ι (aI (cW hr (jv 2) dZ) (μ (ψ (ee (aj fU hr ν (η (Α (jv 0) ξ) (Ο (jv 1) ζ) ax)) (fZ (aj gs hr ν (η (gR (ys:=[]) (Ψ:=[]) (.of lM rfl rfl rfl) (bL (Α (jv 0) ξ)) (λC s H fp=>(Α (jv 0) ξ))) ζ)))))) Ξ)
   (μ (ψ Hv)))))),λds M q x h=> ?_⟩)
 ·obtain ⟨d,r,size,rfl,_⟩:=h;rfl
 ·obtain ⟨d,r,size,rfl,ra,ro,h⟩:=h;cases r with
  | fin p=>
   have ra:d= .tup [.str "end",Δ p]:=ra;subst ra;exact ⟨λ_=>⟨p,rfl,h⟩,λz=>(nomatch z)⟩
  | τ k ds=>
   obtain ⟨e,ok,rfl,hl⟩:=ra;obtain ⟨hk,hz,mR,_⟩:=ro;refine ⟨λz=>aaJ (aaH z) hk,λ_=> ?_⟩;refine ⟨.str k,[.str "one", .str "other"],[.str "one", .str "other"],rfl,rfl,rfl, ?_⟩;rw [oW];refine ⟨λh1=> ?_,λh1=> ?_⟩
   ·refine ⟨e,size,ds,ok,rfl,hl,by omega, ?_⟩;have e1:eV (.τ k ds) size=ah ds size:=by show (if Ζ k then _ else _)=_;rw [aaE h1]
    rw [<-e1];exact h
   ·have e1:eV (.τ k ds) size=if k="chance" then ah ds size&&Φ (ds.map θ) else false:=by show (if Ζ k then _ else _)=_;rw [aaA (by rw [h1];decide)]
    rw [e1] at h;refine ⟨λh2=> ?_,λh2=> ?_⟩
    ·have h2:k="chance":=aaH h2;rw [aaE h2] at h;obtain ⟨mG,wq⟩:=mR h2;refine ⟨e,size,ds,ok,rfl,hl,by omega,λh3=> ?_,λh3=> ?_⟩
     ·rw [h3,ab5] at h;show eG _ _ _ _ _;refine BS (i:=0) (j:=1) (ds:=[.str k,e]) rfl (Θ (j:=1) rfl) hl ⟨by rw [aac];exact aaI hz (by decide), ?_⟩;refine cQ (f:=λd=>match d with | .tup [_,_,c]=>c | _=> .ba) (mX hl) (λx hx q hq=> ?_) ?_
      ·obtain ⟨y,hy,rfl⟩:=aas.mp hx;have ey:a_ y= .tup [.int y.1,Δ y.2.1,Δ (θ y)]:=by unfold a_;rw [mG y hy];rfl
       rw [ey] at hq⊢;exact hq
      ·refine ⟨ds.map θ, ?_,wq,h⟩;rw [aa3,aaO,aaO];have:∀y∈ds,((λd=>match d with | Dt.tup [_,_,c]=>c | _=>Dt.ba) ∘ a_) y=(Δ ∘ θ) y:=λy hy=>by
        have ey:a_ y= .tup [.int y.1,Δ y.2.1,Δ (θ y)]:=by unfold a_;rw [mG y hy];rfl
        show (match a_ y with | Dt.tup [_,_,c]=>c | _=>Dt.ba)=Δ (θ y);rw [ey]
       rw [abt this]
     ·rw [h3,Bool.false_and] at h;exact h
    ·have h2:k≠"chance":=aaW h2;rw [aaA h2] at h;exact h
def oP:DF:=λas M q _=>∃d r,as=[d]/\iI M d r/\eP r/\match r with
 | .fin p=>q (.tup [.str "end",Δ p]) M
 | .τ k ds=>q (.tup [.str k, .loc M.length]) (M++[.lst (ds.map a_)])
theorem u9:χ ["row"] ["row"] (ο jD):= .of rfl
theorem se(F:dN K "copied_row" "copied_row" jD f fd)(E:Ev K mg Cn):ar P w K mg base (cR P w) 1 f fd ["row"] (dE K oP):=by
 refine F.eN u9 (λds M q x h=> ?_) (λbu A outer s H E' hr=>⟨_,(ι (aI (cW hr (Α (jv 0) ξ) dZ) (μ (ψ (aV (η (Α (jv 0) ξ) (η (Α (jv 0) ξ) ζ ax) ax)))) Ξ)
   (μ (ψ (aV (η (Α (jv 0) ξ) (η (tF E.iu (η (Α (jv 0) ξ) ζ ax)) ζ aP) ax))))),λds M q x h=> ?_⟩)
 ·obtain ⟨d,r,rfl,_⟩:=h;rfl
 ·obtain ⟨d,r,rfl,ra,ro,h⟩:=h;cases r with
  | fin p=>
   have ra:d= .tup [.str "end",Δ p]:=ra;subst ra;exact ⟨λ_=>⟨fI,h⟩,λz=>(nomatch z)⟩
  | τ k ds=>
   obtain ⟨e,ok,rfl,hl⟩:=ra;refine ⟨λz=>aaJ (aaH z) ro.1,λ_=> ?_⟩;show (match mJ M e with | some xs=>_ | none=>False);rw [ky hl];exact ⟨fI,h⟩
def ai(p:Fr):Bool:=decide (0<=p.1)&&(decide (p.1 < p.2)&&decide (p.2<=1000))
def nG:DF:=λas M q _=>∃p,as=[Δ p]/\q (.bl (ai p)) M
theorem uo:χ ["share"] ["share"] (ο jE):= .of rfl
theorem sH(F:dN K "fits_share" "fits_share" jE f fd)(E:Ev K mg Cn):ar P w K mg base (cR P w) 1 f fd ["share"] (dE K nG):=by
 refine F.eN uo (λds M q x h=> ?_) (λbu A outer s H E' hr=>⟨_,(μ (ψ (ee (ug ξ (Α (jv 0) ξ)) (ee (zB (Α (jv 0) ξ) (Α (jv 0) ξ)) (fZ (ug (Α (jv 0) ξ) (pC E.ff))))))),λds M q x h=> ?_⟩)
 ·obtain ⟨p,rfl,_⟩:=h;rfl
 ·obtain ⟨p,rfl,h⟩:=h;unfold ai at h;refine ⟨λh1=>⟨λh2=> ?_,λh2=> ?_⟩,λh1=> ?_⟩
  ·rw [show decide (0<=p.1)=true from h1,show decide (p.1 < p.2)=true from h2] at h;exact h
  ·rw [show decide (0<=p.1)=true from h1,show decide (p.1 < p.2)=false from h2] at h;exact h
  ·rw [show decide (0<=p.1)=false from h1] at h;exact h
theorem GJ{c S:Int}(hb:b∣S)(hc:c∣S)(Hw:0 < b)(V1:0 < c):b * c / g b c∣S/\b∣b * c / g b c/\c∣b * c / g b c:=by
 have e:b * c / g b c=(Int.lcm b c:Nat):=by
  have h:=Int.gcd_mul_lcm b c;have hg:0 < g b c:=qO (by omega);have h2:((Int.gcd b c:Nat):Int) * ((Int.lcm b c:Nat):Int)=b * c:=by rw [<-Int.natCast_mul,h,Int.natCast_mul,aa7 (aai Hw),aa7 (aai V1)]
  rw [<-h2];exact Int.mul_ediv_cancel_left _ (by unfold g at hg;omega)
 rw [e];exact ⟨Int.coe_lcm_dvd hb hc,Int.dvd_lcm_left ..,Int.dvd_lcm_right ..⟩
theorem ik:∀(cs:List Fr) (b S:Int),0 < b->b∣S->(∀c∈cs,0 < c.2/\c.2∣S)->cs.foldl (λb c=>b * c.2 / g b c.2) b∣S/\b∣cs.foldl (λb c=>b * c.2 / g b c.2) b/\∀c∈cs,c.2∣cs.foldl (λb c=>b * c.2 / g b c.2) b
 | [],b,S,_,h,_=>⟨h,Int.dvd_refl b,λc hc=>nomatch hc⟩
 | c::cs,b,S,h0,h,hc=>by
  obtain ⟨c0,cS⟩:=hc c aae;obtain ⟨d1,d2,d3⟩:=GJ h cS h0 c0;obtain ⟨i1,i2,i3⟩:=ik cs _ S (kG h0 c0).1 d1 λx hx=>hc x (aad _ hx);rw [ab3];refine ⟨i1,Int.dvd_trans d2 i2,λx hx=> ?_⟩;rcases aaP.mp hx with rfl | hx
  ·exact Int.dvd_trans d3 i2
  ·exact i3 x hx
theorem mq(m:Int)(f:Int->Int):∀(ws:List Int),(ws.map λw=>m * f w).sum=m * (ws.map f).sum
 | []=>by simp
 | w::ws=>by simp only [List.map_cons,List.sum_cons];rw [mq m f ws,Int.mul_add]
theorem D9(h:0 < b):(aw t b).2∣b:=by obtain ⟨p,q,e,_,_,_,eb⟩:=fb (t:=t) (show b≠0 by omega);rw [e];exact ⟨dv t b,by show b=q * dv t b;rw [aaT];exact eb⟩
theorem uB(ht:0 < t)(h:0 < b):0 < (aw t b).1:=by have hc:=cM (t:=t) (show b≠0 by omega);have hp:=bP (t:=t) (show b≠0 by omega);have h1:0 < t * (aw t b).2:=aaC ht hp;rw [hc] at h1;exact Int.pos_of_mul_pos_right h1 h |> λz=>z
theorem w4{ws:List Int}{S:Int}(hS:ws.sum=S)(hw:∀w∈ws,0 < w)(hn:ws≠[])(X_:S<=1000000)(hz:ws.length<=12):Φ (ws.map λw=>aw w S)=true/\Hq (ws.map λw=>aw w S):=by
 have pos:∀{l:List Int},(∀w∈l,0 < w)->0<=l.sum/\(l≠[]->0 < l.sum)/\∀w∈l,w<=l.sum:=by
  intro l
  induction l with
  | nil=>exact λ_=>⟨by simp,λz=>absurd rfl z,λw hw=>nomatch hw⟩
  | cons a l ih=>
   intro h;obtain ⟨i1,i2,i3⟩:=ih λw hw=>h w (aad _ hw);have:=h a aae;rw [List.sum_cons];refine ⟨by omega,λ_=>by omega,λw hw=> ?_⟩;rcases aaP.mp hw with rfl | hw
   ·omega
   ·have:=i3 w hw;omega
 obtain ⟨_,p2,p3⟩:=pos hw;have S0:0 < S:=by rw [<-hS];exact p2 hn
 have KP:S≠0:=by omega
 have hd:∀c∈ws.map (λw=>aw w S),0 < c.2/\c.2∣S:=λc hc=>by obtain ⟨w,_,rfl⟩:=aas.mp hc;exact ⟨bP KP,D9 S0⟩
 obtain ⟨⟨m,hm⟩,_,hB⟩:=ik (ws.map λw=>aw w S) 1 S (by decide) (Int.one_dvd _) hd;have B0:0 < ae (ws.map λw=>aw w S):=by refine (gh (ws.map λw=>aw w S) 1 (by decide) λc hc=>(hd c hc).1)
 generalize Qa:ae (ws.map λw=>aw w S)=B at *
 have hm:S=B * m:=by rw [<-Qa];exact hm
 have m0:0 < m:=by
  rcases Int.lt_trichotomy m 0 with h | h | h
  ·have:=abV B0 h;omega
  ·rw [h,Int.mul_zero] at hm;omega
  ·exact h
 have key:((ws.map λw=>aw w S).map λc=>c.1 * (B / c.2)).sum=B:=by
  have e1:∀w∈ws,m * ((aw w S).1 * (B / (aw w S).2))=w:=λw hw=>by
   have hb:(aw w S).2∣B:=by rw [<-Qa];exact hB _ (aas.mpr ⟨w,hw,rfl⟩)
   obtain ⟨k,hk⟩:=hb;have q0:=bP (t:=w) KP;have e2:B / (aw w S).2=k:=by rw [hk];exact abj _ (by omega)
   have hc:=cM (t:=w) KP;rw [e2];have UR:S=(aw w S).2 * k * m:=by rw [<-hk];exact hm
   generalize (aw w S).1=x at *
   generalize (aw w S).2=y at *
   have e4:S * x=y * (m * (x * k)):=by rw [UR];simp only [Int.mul_assoc,Int.mul_comm,Int.mul_left_comm]
   have e3:y * (m * (x * k))=y * w:=by rw [<-e4,<-hc,aaT]
   exact aby (by omega) e3
  have e5:m * ((ws.map λw=>aw w S).map λc=>c.1 * (B / c.2)).sum=m * B:=by rw [aaO];show m * (ws.map λw=>(aw w S).1 * (B / (aw w S).2)).sum=m * B;rw [<-mq,abt e1,List.map_id',hS,hm,aaT]
  exact aby (by omega) e5
 refine ⟨?_,⟨by rw [aac];exact hz,λc hc=> ?_⟩⟩
 ·unfold Φ;rw [Qa,key];have ha:((ws.map λw=>aw w S).any λc=>decide (c.1<=0))=false:=by rw [List.any_eq_false];intro c hc;obtain ⟨w,N0,rfl⟩:=aas.mp hc;have:=uB (hw w N0) S0;simpa using this
  have hle:B<=S:=by have:=aa8 (show 1<=m by omega) (aai B0);rw [ab0,<-hm] at this;exact this
  rw [ha,aav rfl,aav (show B<=1000000 by omega)];rfl
 ·obtain ⟨w,N0,rfl⟩:=aas.mp hc;have q0:=bP (t:=w) KP;have l1:=kQ (t:=w) KP;have l2:=j' (t:=w) KP;have:=p3 w N0;have w0:=hw w N0;have big:(1000000:Int) < 2 ^ 200:=by decide
  have T9:1000000 < 2 ^ 200:=by decide
  exact ⟨q0,by omega,by omega⟩
theorem jG{α:Type}{te:DE}{cs:En}{ok:Ms->Prop}{F:Dt->α->Prop}{f:α->Dt}{M:Ms}{k:List Dt->Ms->Prop}(ho:ok M)(ht:∀x a,F x a->∀q:DQ,q (f a) M->te (some x::cs) M q l9):∀{xs:List Dt} {as:List α} {υ:List Dt},Paired F xs as->k (υ++as.map f) M->nI te cs ok xs υ M k
 | _,_,υ, .nil,h=>⟨ho,by simpa using h⟩
 | _,_,υ, .cons r t,h=>⟨ho,ht _ _ r _ (jG ho ht t (by simpa using h))⟩
theorem ub{k:Nat}{C C':Addr}{ns ns':List Str}{xs':List Dt}{e:Dt}{ys:List Dt}{ok:Ms->Prop}(hk:M[k]? =some (.ins C ns xs))(h:g6 M e=some (ys,ok)):g6 (M.set k (.ins C' ns' xs')) e=some (ys,ok):=by
 cases e with
 | lst ds=>exact h
 | fc ns=>exact h
 | loc j=>
  have h:(match M[j]? with | some (.lst xs)=>some (xs,λM':Ms=>M'[j]? =some (.lst xs)) | _=>none)=some (ys,ok):=h;have ne:k≠j:=λz=>by subst z;rw [hk] at h;cases h
  show (match (M.set k (.ins C' ns' xs'))[j]? with | some (.lst xs)=>some (xs,λM':Ms=>M'[j]? =some (.lst xs)) | _=>none)=some (ys,ok);rw [abl ne];exact h
 | _=>cases h
theorem AN{k:Nat}{C C':Addr}{ns ns':List Str}{xs':List Dt}{r:Rw}(hk:M[k]? =some (.ins C ns xs))(h:iI M d r):iI (M.set k (.ins C' ns' xs')) d r:=by
 cases r with
 | fin p=>exact h
 | τ k' ds=>
  obtain ⟨e,ok,h1,h2⟩:=h;exact ⟨e,ok,h1,ub hk h2⟩
def Κ(C:Addr)(δ:Fr)(γ:List Rw):Dt:= .obj C ["kept_share","kept_rows"] [Δ δ, .lst (γ.map Χ)]
def GS(Cn:Addr):DF:=λas M q _=>∃k d δ ds γ ok,as=[.loc k,Δ δ,d]/\M[k]? =some (.ins Cn [] [])/\g6 M d=some (ds,ok)/\Paired (iI M) ds γ/\ai δ=true/\1<=γ.length/\γ.length<=12/\
 (∀r∈γ,eP r/\eV r γ.length=true)/\q .ba (M.set k (.ins Cn ["kept_share","kept_rows"] [Δ δ, .lst (γ.map Χ)]))
theorem fS:χ ["self","share","rows","place","row"] ["self","share","rows"] (ο jJ):= .of rfl
theorem tm(F:dN K "__init__" "Floor.__init__" jJ f fd)(E:Ev K mg Cn){wA:Addr}{wX:FuncData}(iA:aE P w K mg base 1 "fits_share" ["share"] nG wA wX){BP:Addr}{Df:FuncData}(lU:aE P w K mg base 4 "fits_row" ["row","size"] vu BP Df){wG:Addr}{xK:FuncData}(ip:aE P w K mg base 1 "copied_row" ["row"] oP wG xK):ar P w K mg base (cR P w) 5 f fd ["self","share","rows"] (dE K (GS Cn)):=by
 refine F.eN fS (λds M q x h=> ?_) (λbu A outer s H E' hr=>⟨_,(ι (aI (ie (da (aj iA hr ν (Ο (jv 1) ζ)))) (μ iw) Ξ)
   (ι (aI (JW.jt (kJ (yW (c7 E.cE (Ο (jv 2) ζ)) ξ) (nq (Hz (c7 E.cE (Ο (jv 2) ζ)) (pC E.ki))))) (μ iw) Ξ)
   (ι (cC (y8 E.eC (Ο (jv 2) ζ)) (h7 rfl (aM (Ι (i:=3) fS.nd rfl (Or.inl rfl)) (aM (Ι (i:=4) fS.nd rfl (Or.inl rfl)) fN))) tO (μ (aI (ie (da (aj lU hr ν (Ο (jv 4) (η (c7 E.cE (Ο (jv 2) ζ)) ζ aP))))) (μ iw) Ξ)))
   (ι (yb E.cU E.ez (jv 0) (jv 1))
   (μ (yb E.cU E.b9 (jv 0) (gR (ys:=[]) (Ψ:=[]) (.of fS rfl rfl rfl) (bL (jv 2)) (λC s H fp=>(eQ (aj ip hr (iO (P:=P) (w:=w)) (Ο (jv 0) ζ))))))))))),λds M q x h=> ?_⟩)
 ·obtain ⟨k,d,δ,ds,γ,ok,rfl,_⟩:=h;rfl
 ·obtain ⟨k,d,δ,ds,γ,ok,rfl,hk,hl,hp,hs,h1,Vo,Gj,h⟩:=h;have hlen:ds.length=γ.length:=Paired.length hp;walk_at "vc";refine ⟨δ,rfl,λz=> ?_,λ_=> ?_⟩
  ·rw [hs] at z;exact nomatch z
  have Rq:=ky hl;refine az Rq ⟨λz=> ?_,λ_=> ?_⟩
  ·have:(ds.length:Int) < 1:=by simpa using z
   omega
  refine az Rq ⟨λz=> ?_,λ_=> ?_⟩
  ·have:12 < (ds.length:Int):=by simpa using z
   omega
  refine ⟨d,ds,ok,rfl,hl, ?_⟩;refine bK (λxs ρ M'=>M'=M/\∃n Hl yq a b,xs=iD n Hl/\Paired (iI M) Hl yq/\(∀r∈yq,r∈γ)/\ρ=[some (.loc k),some (Δ δ),some d,a,b]) (λxs ρ M' hj=>by obtain ⟨rfl,_⟩:=hj;exact mX hl) (λx xs ρ M' hj gO=> ?_) (λρ M' hj=> ?_) _ _ _ ⟨rfl,0,ds,γ,none,none,rfl,hp,λ_ h=>h,rfl⟩
  ·obtain ⟨rfl,n,Hl,yq,a,b,ex,Lc,Ol,rfl⟩:=hj;cases Lc with
   | nil=>cases ex
   | cons ra t=>
    rename_i d1 r1 Wo L_;cases ex;refine az Rq ⟨d1,r1,ds.length,rfl,ra,(Gj r1 (Ol r1 aae)).1,λz=> ?_,λ_=> ?_⟩
    ·rw [hlen,(Gj r1 (Ol r1 aae)).2] at z;exact nomatch z
    ·exact gO _ _ ⟨rfl,n+1,Wo,L_,_,_,rfl,t,λr hr=>Ol r (aad _ hr),rfl⟩
  ·obtain ⟨rfl,n,Hl,yq,a,b,ex,Lc,Ol,rfl⟩:=hj;have Xo:k < M'.length:=(aah.mp hk).1;refine ⟨k,[],[],rfl,hk,(λz=>(nomatch z)),by decide, ?_⟩;have O4:=ub (C':=Cn) (ns':=["kept_share"]) (xs':=[Δ δ]) hk hl;dsimp only [HB,List.nil_append];show eG _ _ _ _ _;refine cx (i:=2) rfl O4 ⟨by rw [hlen];exact aaI Vo (by decide), ?_⟩;have IX:Paired (λx a=>iI (M'.set k (.ins Cn ["kept_share"] [Δ δ])) x a/\eP a) ds γ:=by
    have:∀{xs:List Dt} {rs:List Rw},Paired (iI M') xs rs->(∀r∈rs,eP r)->Paired (λx a=>iI (M'.set k (.ins Cn ["kept_share"] [Δ δ])) x a/\eP a) xs rs:=by
     intro xs rs hp
     induction hp with
     | nil=>exact λ_=> .nil
     | cons r t ih=>exact λh=> .cons ⟨AN hk r,h _ aae⟩ (ih λy hy=>h y (aad _ hy))
    exact this hp λr hr=>(Gj r hr).1
   refine jG (f:=Χ) (mX O4) (λx a ha q' hq=> ?ht) IX ?fin
   case ht=>
    obtain ⟨ha,ho⟩:=ha;refine ⟨x,a,rfl,ha,ho, ?_⟩;cases a with
    | fin p=>exact yn ⟨trivial,oH p,trivial⟩ hq
    | τ k2 C6=>exact xH (.tup (.cons (.old trivial) (.cons (.L7 (Nat.le_refl _) (by simp) (jf.old (dJ C6))) .nil))) hq
   case fin=>
    refine ⟨k,["kept_share"],[Δ δ],rfl,by rw [abe Xo],by decide,by decide, ?_⟩;rw [List.set_set];exact h
def kindOf:Rw->Str
 | .fin _=>"end"
 | .τ k _=>k
def Ν:Rw->List dj
 | .fin _=>[]
 | .τ _ ds=>ds
def K4:Rw->Dt
 | .fin p=>Δ p
 | .τ _ _=> .ba
theorem ko{γ:List Rw}{r:Rw}(h:γ[i]? =some r):(γ.map Χ)[i]? =some (Χ r):=by rw [aax,h];rfl
theorem CK{r:Rw}:∃e,Χ r= .tup [.str (kindOf r),e]:=by
 cases r with
 | fin p=>exact ⟨_,rfl⟩
 | τ k ds=>exact ⟨_,rfl⟩
def qk(C:Addr):DF:=λas M q _=>∃δ γ,as=[Κ C δ γ]/\q (.int γ.length) M
theorem ui:χ ["self"] ["self"] (ο jW):= .of rfl
theorem sI(F:dN K "size" "Floor.size" jW f fd)(E:Ev K mg Cn):ar P w K mg base (cR P w) 1 f fd ["self"] (dE K (qk Cn)):=by
 refine F.eN ui (λds M q x h=> ?_) (λbu A outer s H E' hr=>⟨_,(μ (ψ (c7 E.cE (η (pB E.cU E.b9 (jv 0)) ζ)))),λds M q x h=> ?_⟩)
 ·obtain ⟨δ,γ,rfl,_⟩:=h;rfl
 ·obtain ⟨δ,γ,rfl,h⟩:=h;refine ⟨_,_,_, .inl rfl,rfl, ?_⟩;show gC [.lst (γ.map Χ)] M _;refine az (xs:=γ.map Χ) rfl ?_;rw [aac];exact h
def CN(C:Addr):DF:=λas M q _=>∃δ γ,as=[Κ C δ γ]/\q (Δ δ) M
theorem sv:χ ["self"] ["self"] (ο hV):= .of rfl
theorem pY(F:dN K "share" "Floor.share" hV f fd)(E:Ev K mg Cn):ar P w K mg base (cR P w) 1 f fd ["self"] (dE K (CN Cn)):=by
 refine F.eN sv (λds M q x h=> ?_) (λbu A outer s H E' hr=>⟨_,(μ (ψ (pB E.cU E.ez (jv 0)))),λds M q x h=> ?_⟩)
 ·obtain ⟨δ,γ,rfl,_⟩:=h;rfl
 ·obtain ⟨δ,γ,rfl,h⟩:=h;exact ⟨_,_,_, .inl rfl,rfl,h⟩
def j5(C:Addr):DF:=λas M q _=>∃δ γ i r,as=[Κ C δ γ, .int (i:Nat)]/\γ[i]? =some r/\q (.str (kindOf r)) M
theorem vB:χ ["self","place"] ["self","place"] (ο jR):= .of rfl
theorem sN(F:dN K "kind" "Floor.kind" jR f fd)(E:Ev K mg Cn):ar P w K mg base (cR P w) 1 f fd ["self","place"] (dE K (j5 Cn)):=by
 refine F.eN vB (λds M q x h=> ?_) (λbu A outer s H E' hr=>⟨_,(μ (ψ (Α (Α (pB E.cU E.b9 (jv 0)) (jv 1)) ξ))),λds M q x h=> ?_⟩)
 ·obtain ⟨δ,γ,i,r,rfl,_⟩:=h;rfl
 ·obtain ⟨δ,γ,i,r,rfl,hi,h⟩:=h;refine ⟨_,_,_, .inl rfl,rfl, ?_⟩;walk_at "vc";refine ω (xs:=γ.map Χ) rfl (Θ (ko hi)) ?_;obtain ⟨e,er⟩:=CK (r:=r);rw [er];exact h
def jS(C:Addr):DF:=λas M q _=>∃δ γ i r,as=[Κ C δ γ, .int (i:Nat)]/\γ[i]? =some r/\eP r/\q (.loc M.length) (M++[.lst ((Ν r).map a_)])
theorem sX:χ ["self","place"] ["self","place"] (ο ij):= .of rfl
theorem pN(F:dN K "doors" "Floor.doors" ij f fd)(E:Ev K mg Cn)(Ε:cz P w K mg base 1 Cn "kind" ["self","place"] (j5 Cn) aA aC):ar P w K mg base (cR P w) 2 f fd ["self","place"] (dE K (jS Cn)):=by
 refine F.eN sX (λds M q x h=> ?_) (λbu A outer s H E' hr=>⟨_,(ι (aI (cW hr (aY Ε hr ν (jv 0) (Ο (jv 1) ζ)) dZ) (μ (ψ (ic ζ))) Ξ)
   (μ (ψ (tF E.iu (η (Α (Α (pB E.cU E.b9 (jv 0)) (jv 1)) ξ) ζ ax))))),λds M q x h=> ?_⟩)
 ·obtain ⟨δ,γ,i,r,rfl,_⟩:=h;rfl
 ·obtain ⟨δ,γ,i,r,rfl,hi,ro,h⟩:=h;refine ⟨⟨_,_, .inl rfl,rfl⟩,δ,γ,i,r,rfl,hi, ?_⟩;cases r with
  | fin p=>exact ⟨λ_=>⟨by decide,h⟩,λz=>(nomatch z)⟩
  | τ k ds=>
   refine ⟨λz=>aaJ (aaH z) ro.1,λ_=> ?_⟩;refine ⟨_,_,_, .inl rfl,rfl, ?_⟩;walk_at "vc";refine ω (xs:=γ.map Χ) rfl (Θ (ko hi)) ?_;exact h
def FJ(C:Addr):DF:=λas M q _=>∃δ γ i r,as=[Κ C δ γ, .int (i:Nat)]/\γ[i]? =some r/\eP r/\q (K4 r) M
theorem x9:χ ["self","place"] ["self","place"] (ο lI):= .of rfl
theorem uY(F:dN K "pay" "Floor.pay" lI f fd)(E:Ev K mg Cn)(Ε:cz P w K mg base 1 Cn "kind" ["self","place"] (j5 Cn) aA aC):ar P w K mg base (cR P w) 2 f fd ["self","place"] (dE K (FJ Cn)):=by
 refine F.eN x9 (λds M q x h=> ?_) (λbu A outer s H E' hr=>⟨_,(ι (aI (cW hr (aY Ε hr ν (jv 0) (Ο (jv 1) ζ)) dZ) (μ (ψ (Α (Α (pB E.cU E.b9 (jv 0)) (jv 1)) ξ))) Ξ)
   (μ (ψ Mc))),λds M q x h=> ?_⟩)
 ·obtain ⟨δ,γ,i,r,rfl,_⟩:=h;rfl
 ·obtain ⟨δ,γ,i,r,rfl,hi,ro,h⟩:=h;refine ⟨⟨_,_, .inl rfl,rfl⟩,δ,γ,i,r,rfl,hi, ?_⟩;cases r with
  | fin p=>
   refine ⟨λ_=> ?_,λz=>(nomatch z)⟩;refine ⟨_,_,_, .inl rfl,rfl, ?_⟩;walk_at "vc";refine ω (xs:=γ.map Χ) rfl (Θ (ko hi)) ?_;exact h
  | τ k ds=>exact ⟨λz=>aaJ (aaH z) ro.1,λ_=>h⟩
theorem vL{α:Type}(f:α->Dt):∀(xs ys:List α),(∀x∈xs,x∈ys)->Paired (λx a=>x=f a/\a∈ys) (xs.map f) xs
 | [],_,_=> .nil
 | x::xs,ys,h=> .cons ⟨rfl,h x aae⟩ (vL f xs ys λy hy=>h y (aad _ hy))
theorem fg{q:DQ}(u:Dt.bW M.length ds)(h:q (.lst ds) M):oF M q (.loc M.length) (M++[.lst ds]):=xH (.L7 (aam _) (by rw [Nat.sub_self];rfl) (jf.old u)) h
theorem tP{q:DQ}(u:Dt.bW M.length ds)(h:q (.lst ds) M):yr [.lst ds] M (oF M q):=by show oF M q (.loc M.length) (M++[.lst ds]);exact fg u h
theorem GZ{d:dj}{q:DQ}(h:q (Δ d.2.1) M):cB (a_ d) (.int 1) M q:=ω (xs:= .int d.1::Δ d.2.1::d.2.2.map Δ) rfl (Θ (j:=1) rfl) h
theorem qE{d:dj}{q:DQ}(h:q (.int d.1) M):cB (a_ d) (.int 0) M q:=ω (xs:= .int d.1::Δ d.2.1::d.2.2.map Δ) rfl dM h
theorem yY{k:Str}{e:Dt}{q:DQ}(h:q e M):cB (.tup [.str k,e]) (.int 1) M q:=ω (xs:=[.str k,e]) rfl (Θ (j:=1) rfl) h
theorem cK{g:Dt->En->(En->Prop)->Prop}{tb:DS}{Dn:ia}(J:List Dt->En->Ms->Prop)
  (step:∀x xs ρ M,J (x::xs) ρ M->(∀ρ M,J xs ρ M->r9 g tb Dn xs ρ M)->g x ρ λρ'=>tb {Dn with nx:=r9 g tb Dn xs,ct:=r9 g tb Dn xs,bk:=Dn.nx} ρ' M)
  (fin:∀ρ M,J [] ρ M->Dn.nx ρ M):∀(xs:List Dt) (ρ:En) (M:Ms),J xs ρ M->r9 g tb Dn xs ρ M
 | [],ρ,M,h=>fin _ _ h
 | x::xs,ρ,M,h=>step x xs ρ M h λρ' M' h'=>cK J step fin xs ρ' M' h'
theorem cy{lo:Int}{x:Dt}(h:x::xs=dY lo n):∃m,n=m+1/\x= .int lo/\xs=dY (lo+1) m:=by
 cases n with
 | zero=>exact nomatch h
 | succ m=>
  unfold dY at h;rw [abH,aaS,aaO] at h;cases h;refine ⟨m,rfl,by simp, ?_⟩;unfold dY;apply abt;intro k _;show Dt.int (lo+((k+1:Nat):Int))=Dt.int (lo+1+(k:Int))
  congr 1
  omega
theorem j4{lo:Int}{x:Dt}(h:x∈dY lo n):∃k:Nat,k < n/\x= .int (lo+k):=by unfold dY at h;obtain ⟨k,hk,rfl⟩:=aas.mp h;exact ⟨k,abU.mp hk,rfl⟩
theorem cI{lo:Int}:(dY lo n).length=n:=by unfold dY;simp
theorem nC{α:Type}{te:DE}{cs:En}{M:Ms}{f:α->Dt}(G:α->Prop){k:List Dt->Ms->Prop}:∀(xs:List Dt) (υ:List α),(∀a∈υ,G a)->(∀x∈xs,∀q:DQ,(∀a,G a->q (f a) M)->te (some x::cs) M q l9)->
  (∀as:List α,as.length=υ.length+xs.length->(∀a∈as,G a)->k (as.map f) M)->qg te cs xs (υ.map f) M k
 | [],υ,ha,_,h=>h υ (by simp) ha
 | x::xs,υ,ha,ht,h=>ht x aae _ λa hg=>by
  have e:υ.map f++[f a]=(υ++[a]).map f:=by simp
  rw [e];refine nC G xs (υ++[a]) (λb hb=> ?_) (λy hy=>ht y (List.mem_cons_of_mem _ hy)) λas hl Wz=>h as (by rw [hl];simp;omega) Wz;rcases aa2.mp hb with hb | hb
  ·exact ha b hb
  ·have:b=a:=by simpa using hb
   rw [this];exact hg
theorem yy{n:Nat}:∀(xs:List Int),Dt.bW n (xs.map Dt.int)
 | []=>trivial
 | _::xs=>⟨trivial,yy xs⟩
theorem DJ{m:Int}:∀{l:List Int},(∀w∈l,w<=m)->l.sum<=l.length * m
 | [],_=>by simp
 | a::l,h=>by have i:=DJ (l:=l) λw hw=>h w (aad _ hw);have:=h a aae;rw [List.sum_cons,aaw,abc,Int.add_mul];omega
def m_(dD:Int)(r:Rw):Prop:=eP r/\eV r dD=true
theorem Fv{k:Str}{ds:List dj}{dD:Int}(hk:Ζ k=true)(hz:1<=ds.length)(PH:ds.length<=6)(hd:∀d∈ds,aG d.1 d.2.1 dD=true)(hs:∀d∈ds,d.2.2=[]/\0 < d.2.1.2):m_ dD (.τ k ds):=by
 have fd:ah ds dD=true:=by unfold ah;rw [aav hz,aav PH,abY.mpr hd];rfl
 have ne:k≠"end"/\k≠"chance":=by refine ⟨λz=> ?_,λz=> ?_⟩ <;> (subst z;exact aaJ hk (by decide))
 refine ⟨⟨ne.1,by omega,λz=>aaJ z ne.2,λd h=>⟨by rw [(hs d h).1];exact abK _,(hs d h).2⟩⟩, ?_⟩;show (if Ζ k then _ else _)=true;rw [aaE hk];exact fd
theorem Aa{ds:List dj}{dD:Int}(hz:1<=ds.length)(PH:ds.length<=6)(hd:∀d∈ds,aG d.1 d.2.1 dD=true)(h1:∀d∈ds,d.2.2=[θ d])(hc:Φ (ds.map θ)=true)(ho:Hq (ds.map θ))(hp:∀d∈ds,0 < d.2.1.2):m_ dD (.τ "chance" ds):=by
 have fd:ah ds dD=true:=by unfold ah;rw [aav hz,aav PH,abY.mpr hd];rfl
 refine ⟨⟨by decide,by omega,λ_=>⟨h1,ho⟩,λd h=>⟨by rw [h1 d h];exact aam _,hp d h⟩⟩, ?_⟩;have e:eV (.τ "chance" ds) dD=(ah ds dD&&Φ (ds.map θ)):=by dsimp only [eV];rw [aaA (by decide),aaE rfl]
 rw [e,fd,hc];rfl
theorem FI{dD:Int}{p:Fr}(h0:0<=t)(h1:t < dD)(hp:aH p=true):aG t p dD=true:=by unfold aG;rw [aav h0,aav h1,hp];rfl
theorem GC(h1:1<=m)(h6:m<=6):0 < (1000000:Int) / m/\(m:Int) * (1000000 / m)<=1000000:=by
 have:m=1\/m=2\/m=3\/m=4\/m=5\/m=6:=by omega
 rcases this with rfl | rfl | rfl | rfl | rfl | rfl <;> decide
theorem D'{xs:List Int}(h:j < xs.length):jh (xs.map Dt.int) (j:Int)=some (.int xs[j]):=Θ (by rw [aax,aaa h];rfl)
theorem y9:∀{l:List Int},(∀w∈l,0 < w)->l≠[]->0 < l.sum
 | [],_,z=>aaJ rfl z
 | [a],h,_=>by have:=h a List.mem_cons_self;simpa using this
 | a::b::l,h,_=>by have i:=y9 (l:=b::l) (λw hw=>h w (List.mem_cons_of_mem _ hw)) (by simp);have:=h a aae;rw [List.sum_cons];omega
def Sz(k:Nat)(p:Fr):Prop:=p.1.natAbs < 2 ^ k/\0 < p.2/\p.2.natAbs < 2 ^ k
def bE(p q:Fr):Fr:=aw (p.1 * q.2+q.1 * p.2) (p.2 * q.2)
def Λ(p q:Fr):Fr:=aw (p.1 * q.1) (p.2 * q.2)
theorem eT{k k':Nat}{p:Fr}(h:Sz k p)(hk:k<=k'):Sz k' p:=
 ⟨aaq h.1 (aa6 (by decide) hk),h.2.1,aaq h.2.2 (aa6 (by decide) hk)⟩
theorem dh{a b k l:Nat}(h:a < 2 ^ k)(h':b < 2 ^ l):a * b < 2 ^ (k+l):=by rw [Nat.pow_add];exact Nat.mul_lt_mul'' h h'
theorem FZ{k:Nat}(hb:0 < b)(h1:t.natAbs < 2 ^ k)(h2:b.natAbs < 2 ^ k):Sz k (aw t b):=
 ⟨aaM (kQ (by omega)) h1,bP (by omega),aaM (j' (by omega)) h2⟩
theorem zE{p q:Fr}{k l:Nat}(hp:Sz k p)(hq:Sz l q):(p.1 * q.2+q.1 * p.2).natAbs < 2 ^ (k+l+1)/\(p.2 * q.2).natAbs < 2 ^ (k+l+1)/\0 < p.2 * q.2:=by
 have a:=dh hp.1 hq.2.2;have b:=dh hq.1 hp.2.2;have c:=dh hp.2.2 hq.2.2;rw [Nat.add_comm l k] at b;have e:(2:Nat) ^ (k+l+1)=2 ^ (k+l)+2 ^ (k+l):=by rw [Nat.pow_succ];omega
 have hn:=Int.natAbs_add_le (p.1 * q.2) (q.1 * p.2);rw [abh,abh] at hn;refine ⟨by rw [e];omega, ?_,aaC hp.2.1 hq.2.1⟩;rw [abh,e];omega
theorem oV{p q:Fr}{k l:Nat}(hp:Sz k p)(hq:Sz l q):(p.1 * q.1).natAbs < 2 ^ (k+l)/\(p.2 * q.2).natAbs < 2 ^ (k+l)/\0 < p.2 * q.2:=by have a:=dh hp.1 hq.1;have c:=dh hp.2.2 hq.2.2;exact ⟨by rw [abh];exact a,by rw [abh];exact c,aaC hp.2.1 hq.2.1⟩
theorem vF{p q:Fr}{k l:Nat}(hp:Sz k p)(hq:Sz l q):Sz (k+l) (Λ p q):=
 let ⟨a,b,c⟩:=oV hp hq
 FZ c a b
theorem m8{p:Fr}{k:Nat}(h:Sz k p)(hk:k<=8000):gG p.1:=bg h.1 hk
theorem iS{p:Fr}{k:Nat}(h:Sz k p)(hk:k<=8000):gG p.2:=bg h.2.2 hk
theorem xu{p:Fr}(h:aH p=true)(h0:0 < p.2):Sz 101 p:=by
 unfold aH at h;rw [aaF,aat,aat] at h;obtain ⟨h1,h2⟩:=h;have e1:(10:Int) ^ 30 < 2 ^ 101:=by decide
 have n1:(p.1.natAbs:Int)<=10 ^ 30:=by split at h1 <;> omega
 refine ⟨?_,h0, ?_⟩
 ·have:(p.1.natAbs:Int) < ((2 ^ 101:Nat):Int):=aar n1 (by decide);exact abB.mp this
 ·have:(p.2.natAbs:Int) < ((2 ^ 101:Nat):Int):=aar (show (p.2.natAbs:Int)<=1000000 by omega) (by decide);exact abB.mp this
theorem vY{p:Fr}(h:ai p=true):Sz 11 p:=by unfold ai at h;rw [aaF,aaF,aat,aat,aat] at h;obtain ⟨h1,h2,h3⟩:=h;exact ⟨by omega,by omega,by omega⟩
theorem iB{p:Fr}{q:DQ}(h:q (.int p.1) M):cB (Δ p) (.int 0) M q:=ω (xs:=[.int p.1, .int p.2]) rfl dM h
theorem g9{p:Fr}{q:DQ}(h:q (.int p.2) M):cB (Δ p) (.int 1) M q:=ω (xs:=[.int p.1, .int p.2]) rfl (Θ (j:=1) rfl) h
def vT:DF:=λas M q _=>∃p r k l,as=[Δ p,Δ r]/\Sz k p/\Sz l r/\k+l+1<=8000/\q (Δ (bE p r)) M
theorem JJ:χ ["one","other"] ["one","other"] (ο DU):= .of rfl
theorem FR(F:dN K "plus" "plus" DU f fd)(E:Ev K mg Cn){lJ:Addr}{lh:FuncData}(d_:aE P w K mg base 2 "fraction" ["top","bottom"] vi lJ lh):ar P w K mg base (cR P w) 3 f fd ["one","other"] (dE K vT):=by
 refine F.eN JJ (λds M q x h=> ?_) (λbu A outer s H E' hr=>⟨_,(μ (ψ (aj d_ hr ν (η (ck (br (Α (jv 0) ξ) (Α (jv 1) ξ)) (br (Α (jv 1) ξ) (Α (jv 0) ξ))) (η (br (Α (jv 0) ξ) (Α (jv 1) ξ)) ζ aX) aX)))),λds M q x h=> ?_⟩)
 ·obtain ⟨p,r,k,l,rfl,_⟩:=h;rfl
 ·obtain ⟨p,r,k,l,rfl,hp,G_,hk,h⟩:=h;obtain ⟨a,b,c⟩:=zE hp G_;refine ⟨⟨m8 hp (by omega),iS G_ (by omega)⟩,⟨m8 G_ (by omega),iS hp (by omega)⟩,⟨iS hp (by omega),iS G_ (by omega)⟩,bg b hk,λz=>aaJ z (by omega),λ_=>h⟩
def oK:DF:=λas M q _=>∃p r k l,as=[Δ p,Δ r]/\Sz k p/\Sz l r/\k+l+1<=8000/\q (Δ (Λ p r)) M
theorem EW:χ ["one","other"] ["one","other"] (ο xE):= .of rfl
theorem CJ(F:dN K "times" "times" xE f fd)(E:Ev K mg Cn){lJ:Addr}{lh:FuncData}(d_:aE P w K mg base 2 "fraction" ["top","bottom"] vi lJ lh):ar P w K mg base (cR P w) 3 f fd ["one","other"] (dE K oK):=by
 refine F.eN EW (λds M q x h=> ?_) (λbu A outer s H E' hr=>⟨_,(μ (ψ (aj d_ hr ν (η (br (Α (jv 0) ξ) (Α (jv 1) ξ)) (η (br (Α (jv 0) ξ) (Α (jv 1) ξ)) ζ aX) aX)))),λds M q x h=> ?_⟩)
 ·obtain ⟨p,r,k,l,rfl,_⟩:=h;rfl
 ·obtain ⟨p,r,k,l,rfl,hp,G_,hk,h⟩:=h;obtain ⟨a,b,c⟩:=oV hp G_;refine ⟨⟨m8 hp (by omega),m8 G_ (by omega)⟩,⟨iS hp (by omega),iS G_ (by omega)⟩,bg b (by omega),λz=>aaJ z (by omega),λ_=>h⟩
def jx(B:Int)(c:Fr):Int:=c.1 * (B / c.2)
def dz(cs:List Fr)(B:Int)(j:Nat):Int:=((cs.take (j+1)).map (jx B)).sum
def nM(cs:List Fr)(r:Int):Nat:=(List.range cs.length).countP λj=>decide (dz cs (ae cs) j<=r)
structure kZ(cs:List Fr):Prop where
 pos:∀c∈cs,0 < jx (ae cs) c
 sum:(cs.map (jx (ae cs))).sum=ae cs
 b0:0 < ae cs
 b1:ae cs<=1000000
 ne:cs≠[]
 wq:Hq cs
theorem MS{cs:List Fr}(h:Φ cs=true)(o:Hq cs)(n:cs≠[]):kZ cs:=by
 unfold Φ at h;rw [aaF,aaF,aat,aat,Bool.not_eq_true'] at h;obtain ⟨h1,h2,h3⟩:=h;have B0:0 < ae cs:=gh cs 1 (by decide) λc hc=>(o.2 c hc).1;obtain ⟨_,_,hB⟩:=ik cs 1 0 (by decide) (acd _) λc hc=>⟨(o.2 c hc).1,acd _⟩;refine ⟨λc hc=> ?_,h2,B0,h3,n,o⟩;have c1:0 < c.1:=by have:=List.any_eq_false.mp h1 c hc;simpa using this
 exact aaC c1 (Int.ediv_pos_of_pos_of_dvd B0 (aai (o.2 c hc).1) (hB c hc))
theorem oq{cs:List Fr}(h:j+1 < cs.length):dz cs B (j+1)=dz cs B j+jx B cs[j+1]:=by
 have e:cs.take (j+1+1)=cs.take (j+1)++[cs[j+1]]:=by rw [List.take_succ,aaa h];rfl
 unfold dz;rw [e,abd,List.sum_append];simp only [List.map_cons,List.map_nil,List.sum_cons,List.sum_nil,Int.add_zero]
theorem Ct{c:Fr}{cs:List Fr}:dz (c::cs) B 0=jx B c:=by unfold dz;simp
theorem oo{cs:List Fr}(o:kZ cs)(h:j+1=cs.length):dz cs (ae cs) j=ae cs:=by unfold dz;rw [h,List.take_length];exact o.sum
theorem j3{cs:List Fr}(o:kZ cs)(h:i<=j):dz cs (ae cs) i<=dz cs (ae cs) j:=by
 induction j with
 | zero=>rw [show i=0 by omega];exact Int.le_refl _
 | succ j ih=>
  by_cases e:i=j+1
  ·rw [e];exact Int.le_refl _
  ·have i1:=ih (by omega);by_cases hl:j+1 < cs.length
   ·rw [oq hl];have:=o.pos _ (aaz hl);omega
   ·have:dz cs (ae cs) (j+1)=dz cs (ae cs) j:=by unfold dz;rw [List.take_of_length_le (by omega),List.take_of_length_le (by omega)]
    omega
structure Ie(cs:List Fr)(r:Int)(j:Nat):Prop where
 lt:j < cs.length
 up:r < dz cs (ae cs) j
 low:∀i,i < j->dz cs (ae cs) i<=r
theorem vS(j:Nat):∀n:Nat,(List.range n).countP (λi=>decide (i < j))=min n j
 | 0=>by simp
 | n+1=>by
  rw [abM,List.countP_append,vS j n];by_cases h:n < j
  ·rw [show [n].countP (λi=>decide (i < j))=1 by simp [h]];omega
  ·rw [show [n].countP (λi=>decide (i < j))=0 by simp [h]];omega
theorem l7{cs:List Fr}{r:Int}(o:kZ cs)(d:Ie cs r j):nM cs r=j:=by
 unfold nM;have e:(List.range cs.length).countP (λi=>decide (dz cs (ae cs) i<=r))=(List.range cs.length).countP (λi=>decide (i < j)):=by
  apply List.countP_congr;intro i _;simp only [decide_eq_true_iff];constructor
  ·intro h;rcases Nat.lt_or_ge i j with z | z
   ·exact z
   ·have:=j3 o z;have:=d.up;omega
  ·exact d.low i
 rw [e,vS];have:=d.lt;omega
theorem FE{cs:List Fr}{r:Int}(o:kZ cs)(h1:r < ae cs):∃j,Ie cs r j:=by
 have hl:0 < cs.length:=List.length_pos_iff.mpr o.ne;have :∀n,n < cs.length->(∃j,Ie cs r j)\/∀i,i<=n->dz cs (ae cs) i<=r:=by
  intro n
  induction n with
  | zero=>
   intro _;by_cases h:r < dz cs (ae cs) 0
   ·exact .inl ⟨0,hl,h,λi hi=>aaJ hi (by omega)⟩
   ·exact .inr λi hi=>by rw [show i=0 by omega];omega
  | succ n ih=>
   intro hn;rcases ih (by omega) with z | z
   ·exact .inl z
   ·by_cases h:r < dz cs (ae cs) (n+1)
    ·exact .inl ⟨n+1,hn,h,λi hi=>z i (by omega)⟩
    ·exact .inr λi hi=>by
      by_cases e:i=n+1
      ·rw [e];omega
      ·exact z i (by omega)
 rcases this (cs.length - 1) (by omega) with z | z
 ·exact z
 ·have a:=z (cs.length - 1) (aam _);rw [oo o (by omega)] at a;omega
def fw(k:Str)(ds:List dj)(pick:Int):Nat:=if Ζ k=true then (pick % (ds.length:Int)).toNat else nM (ds.map θ) (pick % ae (ds.map θ))
def bF(γ:List Rw)(i:Nat)(p:Int):Option (Nat×dj):=match γ[i]? with
 | some (.τ k ds)=>some (fw k ds p,ds.getD (fw k ds p) (0,(0,1),[]))
 | _=>none
def fR(γ:List Rw):Nat->List Int->List (Nat×Nat)
 | _,[]=>[]
 | i,p::ps=>match bF γ i p with
  | some (j,d)=>(i,j)::fR γ d.1.toNat ps
  | none=>[]
def c5(γ:List Rw):Nat->List Int->Nat
 | i,[]=>i
 | i,p::ps=>match bF γ i p with
  | some (_,d)=>c5 γ d.1.toNat ps
  | none=>i
def aZ(γ:List Rw):Nat->List Int->List Fr
 | _,[]=>[]
 | i,p::ps=>match bF γ i p with
  | some (_,d)=>d.2.1::aZ γ d.1.toNat ps
  | none=>[]
def hX(γ:List Rw)(i:Nat):Fr:=match γ[i]? with
 | some (.fin p)=>p
 | _=>(0,1)
def val(p:Fr):Rat:=(p.1:Rat) / (p.2:Rat)
structure Red(p:Fr):Prop where
 pos:0 < p.2
 low:Int.gcd p.1 p.2=1
theorem bJ(h:b≠0):(b:Rat)≠0:=λz=>h (Rat.intCast_eq_zero_iff.mp z)
theorem GK{c d:Int}(h:a * b=c * d):(a:Rat) * b=c * d:=by rw [<-aaY,<-aaY,h]
theorem aF(h:b≠0):Red (aw t b):=⟨bP h,vN h⟩
theorem ph(h:b≠0):val (aw t b)=(t:Rat) / (b:Rat):=by
 have hq:=bP (t:=t) h;have hx:=GK (cM (t:=t) h);have h1:=bJ h;have h2:=bJ (show (aw t b).2≠0 by omega);unfold val;generalize ((aw t b).1:Rat)=x at *
 generalize ((aw t b).2:Rat)=y at *
 generalize (t:Rat)=t' at *
 generalize (b:Rat)=b' at *
 grind
theorem kX{p q:Fr}(hp:Red p)(hq:Red q)(h:val p=val q):p=q:=by
 have h1:=bJ (show p.2≠0 by have:=hp.pos;omega);have h2:=bJ (show q.2≠0 by have:=hq.pos;omega);have e:p.1 * q.2=p.2 * q.1:=by
  unfold val at h;have e1:(p.1:Rat) * (q.2:Rat)=(p.2:Rat) * (q.1:Rat):=by
   generalize (p.1:Rat)=a at *
   generalize (p.2:Rat)=b at *
   generalize (q.1:Rat)=c at *
   generalize (q.2:Rat)=d at *
   grind
  rw [<-aaY,<-aaY] at e1;exact Rat.intCast_inj.mp e1
 have a:=yV (show p.2≠0 by have:=hp.pos;omega) hq.pos hq.low e;have b:=zr hp.pos hp.low;rw [<-Prod.eta p,<-b,a]
theorem dF{p q:Fr}(hp:0 < p.2)(hq:0 < q.2):val (bE p q)=val p+val q:=by
 unfold bE;rw [ph (aaR (aaC hp hq))];have h1:=bJ (show p.2≠0 by omega);have h2:=bJ (show q.2≠0 by omega);rw [Rat.intCast_add,aaY,aaY,aaY];unfold val;generalize (p.1:Rat)=a at *
 generalize (p.2:Rat)=b at *
 generalize (q.1:Rat)=c at *
 generalize (q.2:Rat)=d at *
 grind
theorem cP{p q:Fr}(hp:0 < p.2)(hq:0 < q.2):val (Λ p q)=val p * val q:=by
 unfold Λ;rw [ph (aaR (aaC hp hq))];have h1:=bJ (show p.2≠0 by omega);have h2:=bJ (show q.2≠0 by omega);rw [aaY,aaY];unfold val;generalize (p.1:Rat)=a at *
 generalize (p.2:Rat)=b at *
 generalize (q.1:Rat)=c at *
 generalize (q.2:Rat)=d at *
 grind
def cG(s:Rat):List Fr->Rat->Rat
 | [],l=>l
 | p::ps,l=>val p+s * cG s ps l
def fk(p:Fr)(E:Int):Prop:=∃N,p.1 * E=N * p.2
theorem qd{N:Int}(h:b≠0)(e:t * E=N * b):fk (aw t b) E:=by
 have hx:=cM (t:=t) h;generalize hf:aw t b=f at *
 obtain ⟨x,y⟩:=f;refine ⟨N, ?_⟩;show x * E=N * y;have hx:t * y=b * x:=hx;have:b * (x * E)=b * (N * y):=by grind
 exact aby h this
theorem h_{p:Fr}(k:Int)(h:fk p E):fk p (E * k):=by obtain ⟨N,e⟩:=h;exact ⟨N * k,by grind⟩
theorem iQ(p:Fr):fk p p.2:=⟨p.1,rfl⟩
theorem qF{p q:Fr}(hp:0 < p.2)(hq:0 < q.2)(h:fk p E)(h':fk q E):fk (bE p q) E:=by obtain ⟨N,e⟩:=h;obtain ⟨N',e'⟩:=h';unfold bE;exact qd (N:=N+N') (Int.ne_of_gt (Int.mul_pos hp hq)) (by grind)
theorem jL{p q:Fr}{F:Int}(hp:0 < p.2)(hq:0 < q.2)(h:fk p E)(h':fk q F):fk (Λ p q) (E * F):=by obtain ⟨N,e⟩:=h;obtain ⟨N',e'⟩:=h';unfold Λ;exact qd (N:=N * N') (Int.ne_of_gt (Int.mul_pos hp hq)) (by grind)
theorem FC{p:Fr}(hp:Red p)(h:fk p E):p.2∣E:=by
 obtain ⟨N,e⟩:=h;have d:p.2∣p.1 * E:=⟨N,by rw [e,aaT]⟩;have d2:p.2.natAbs∣p.1.natAbs * E.natAbs:=by rw [<-abh];exact Int.natAbs_dvd_natAbs.mpr d
 have co:Nat.Coprime p.2.natAbs p.1.natAbs:=by have:=hp.low;unfold Int.gcd at this;rw [Nat.coprime_comm];exact this
 exact Int.natAbs_dvd_natAbs.mp (co.dvd_of_dvd_mul_left d2)
def fX(p:Fr)(C:Int):Prop:=p.1<=p.2 * C/\ -(p.2 * C)<=p.1
theorem uN(h:0 < b)(h1:t<=b * C)(h2: -(b * C)<=t):fX (aw t b) C:=by
 have hx:=cM (t:=t) (show b≠0 by omega);have hq:=bP (t:=t) (show b≠0 by omega);generalize hf:aw t b=f at *
 obtain ⟨x,y⟩:=f;have hx:t * y=b * x:=hx;have hq:0 < y:=hq;constructor
 ·show x<=y * C;have:=aaj h1 (aai hq);rw [hx] at this;have e:b * C * y=b * (y * C):=by grind
  rw [e] at this;exact abW this h
 ·show -(y * C)<=x;have:=aaj h2 (aai hq);rw [hx] at this;have e: -(b * C) * y=b * (-(y * C)):=by grind
  rw [e] at this;exact abW this h
theorem eB{c:Int}(h:a<=b)(hc:0<=c):a * c<=b * c:=aaj h hc
theorem v7{p q:Fr}{D:Int}(hp:0 < p.2)(hq:0 < q.2)(h:fX p C)(h':fX q D):fX (bE p q) (C+D):=by
 unfold bE;have a:=eB h.1 (aai hq);have b:=eB h'.1 (aai hp);have c:=eB h.2 (aai hq);have d:=eB h'.2 (aai hp);refine uN (aaC hp hq) ?_ ?_
 ·have e:p.2 * q.2 * (C+D)=p.2 * C * q.2+q.2 * D * p.2:=by grind
  omega
 ·have e: -(p.2 * q.2 * (C+D))= -(p.2 * C) * q.2+ -(q.2 * D) * p.2:=by grind
  omega
def dX(c:Fr):Prop:=0<=c.1/\c.1<=c.2
theorem qI{c p:Fr}(hc:0 < c.2)(hp:0 < p.2)(u:dX c)(h:fX p C)(hC:0<=C):fX (Λ c p) C:=by
 unfold Λ;have pc:0<=p.2 * C:=aa4 (aai hp) hC;have a:=eB h.1 u.1;have b:=eB u.2 pc;have c':=eB h.2 u.1;refine uN (aaC hc hp) ?_ ?_
 ·have e:c.2 * p.2 * C=c.2 * (p.2 * C):=by grind
  have e1:c.1 * p.1=p.1 * c.1:=aaT ..;have e2:p.2 * C * c.1=c.1 * (p.2 * C):=aaT ..;omega
 ·have e: -(c.2 * p.2 * C)= -(c.2 * (p.2 * C)):=by grind
  have e1:c.1 * p.1=p.1 * c.1:=aaT ..;have e2: -(p.2 * C) * c.1= -(c.1 * (p.2 * C)):=by grind
  omega
theorem wz{c s:Fr}(hc:0 < c.2)(hs:0 < s.2)(u:dX c)(v:dX s):dX (Λ c s):=by
 unfold Λ;have hx:=cM (t:=c.1 * s.1) (aaR (aaC hc hs));have hq:=bP (t:=c.1 * s.1) (aaR (aaC hc hs));have t0:0<=c.1 * s.1:=aa4 u.1 v.1
 have t1:c.1 * s.1<=c.2 * s.2:=ab1 (eB u.2 v.1) (by
  have:=eB v.2 (aai hc)
  rw [aaT c.2 s.1,aaT c.2 s.2];exact this)
 have bp:=aaC hc hs;generalize c.1 * s.1=t at *
 generalize c.2 * s.2=b at *
 generalize hf:aw t b=f at *
 obtain ⟨x,y⟩:=f;have hx:t * y=b * x:=hx;have hq:0 < y:=hq;constructor
 ·show 0<=x;rcases ace x 0 with z | z
  ·have:=abV bp z;have:=aa4 t0 (aai hq);omega
  ·exact z
 ·show x<=y;have:=eB t1 (aai hq);rw [hx] at this;exact abW this bp
theorem Bx{p:Fr}{k:Nat}(r:Red p)(h:fk p E)(e0:0 < E)(e1:E < 2 ^ k)(a:fX p C)(c0:0<=C)(c1:C < 2 ^ m):Sz (k+m) p:=by
 have d:=ab4 e0 (FC r h);have rp:=r.pos;have b1:p.2.natAbs < 2 ^ k:=by
  have:(p.2.natAbs:Int) < ((2 ^ k:Nat):Int):=by rw [aa7 (aai rp)];exact aar d (by exact_mod_cast e1)
  exact abB.mp this
 have b2:C.natAbs < 2 ^ m:=by
  have:(C.natAbs:Int) < ((2 ^ m:Nat):Int):=by
   rw [aa7 c0]
   exact_mod_cast c1
  exact abB.mp this
 have b3:=dh b1 b2;refine ⟨?_,rp,aaq b1 (aa6 (by decide) (abk _ _))⟩;refine aaM ?_ b3;rw [<-abh];have q0:0<=p.2 * C:=aa4 (aai rp) c0;have:=a.1;have:=a.2;omega
theorem kK{cs:List Fr}(h:j < cs.length):jh (cs.map Δ) (j:Int)=some (Δ cs[j]):=Θ (by rw [aax,aaa h];rfl)
theorem Bt{ds:List dj}(h:j < ds.length):jh (ds.map a_) (j:Int)=some (a_ ds[j]):=Θ (by rw [aax,aaa h];rfl)
structure zA(δ:Fr)(γ:List Rw):Prop where
 sh:ai δ=true
 len:γ.length<=12
 row:∀r∈γ,eP r/\eV r γ.length=true
structure uL(γ:List Rw)(k:Str)(ds:List dj):Prop where
 ro:eP (.τ k ds)
 l1:1<=ds.length
 l6:ds.length<=6
 kd:Ζ k=true\/(Ζ k=false/\k="chance"/\kZ (ds.map θ))
 to:∀d∈ds,0<=d.1/\d.1 < γ.length
 py:∀d∈ds,aH d.2.1=true/\0 < d.2.1.2
theorem aq{δ:Fr}{γ:List Rw}{k:Str}{ds:List dj}(f:zA δ γ)(h:Rw.τ k ds∈γ):uL γ k ds:=by
 obtain ⟨ro,h2⟩:=f.row _ h;have h2:(if Ζ k then ah ds γ.length else if k="chance" then ah ds γ.length&&Φ (ds.map θ) else false)=true:=h2;have key:ah ds γ.length=true/\(Ζ k=true\/(Ζ k=false/\k="chance"/\Φ (ds.map θ)=true)):=by
  by_cases hk:Ζ k=true
  ·rw [aaE hk] at h2;exact ⟨h2, .inl hk⟩
  ·rw [aaA hk] at h2;by_cases hc:k="chance"
   ·rw [if_pos hc,Bool.and_eq_true] at h2;exact ⟨h2.1, .inr ⟨by simpa using hk,hc,h2.2⟩⟩
   ·rw [aaA hc] at h2;cases h2
 obtain ⟨fd,hk⟩:=key;unfold ah at fd;rw [aaF,aaF,aat,aat] at fd;obtain ⟨⟨d1,d6⟩,fa⟩:=fd;have each:∀d∈ds,0<=d.1/\d.1 < γ.length/\aH d.2.1=true:=λd hd=>by have h3:=abY.mp fa d hd;unfold aG at h3;rw [aaF,aaF,aat,aat] at h3;exact ⟨h3.1,h3.2.1,h3.2.2⟩
 refine ⟨ro,d1,d6, ?_,λd hd=>⟨(each d hd).1,(each d hd).2.1⟩,λd hd=>⟨(each d hd).2.2,(ro.2.2.2 d hd).2⟩⟩;rcases hk with hk | ⟨hk,hc,hf⟩
 ·exact .inl hk
 ·refine .inr ⟨hk,hc,MS hf (ro.2.2.1 hc).2 λz=> ?_⟩;have:=aa5 List.length z;rw [aac] at this;have:ds.length=0:=this;omega
theorem yZ{α:Type}(xs:List α)(a:α)(f:α->Dt):(dY 0 xs.length).map (λx=>match x with | .int j=>f (xs.getD j.toNat a) | _=> .ba)=xs.map f:=by
 unfold dY;rw [aaO];apply List.ext_getElem
 ·simp
 ·intro i h1 h2;simp only [List.getElem_map,List.getElem_range,Function.comp];rw [show (0+(i:Int)).toNat=i by omega];have hi:i < xs.length:=by simpa using h2
  rw [aab,aaa hi];rfl
abbrev d0:dj:=(0,(0,1),[])
def mB(tb:List Fr)(t:Int):Fr:=tb.getD t.toNat (0,1)
def aU(δ:Fr)(tb:List Fr)(d:dj):Fr:=bE d.2.1 (Λ δ (mB tb d.1))
def l0(ps:List (Fr×Fr)):Fr:=ps.foldl (λw p=>bE w (Λ p.1 p.2)) (0,1)
def oa(δ:Fr)(tb:List Fr):Rw->Fr
 | .fin p=>p
 | .τ _ ds=>l0 ((ds.map θ).zip (ds.map (aU δ tb)))
structure Nb(E C:Int)(p:Fr):Prop where
 pos:0 < p.2
 he:fk p E
 ab:fX p C
 sz:Sz 2600 p
structure Bd(E C:Int):Prop where
 e0:0 < E
 e1:E < 2 ^ 2200
 c0:0<=C
 c1:C < 2 ^ 400
theorem HI{p:Fr}(r:Red p)(h:fk p E)(a:fX p C)(b:Bd E C):Nb E C p:=⟨r.pos,h,a,Bx (k:=2200) (m:=400) r h b.e0 b.e1 a b.c0 b.c1⟩
theorem iU{D:Int}{p q:Fr}(h:Nb E C p)(h':Nb E D q)(b:Bd E (C+D)):Nb E (C+D) (bE p q):=HI (aF (aaR (aaC h.pos h'.pos))) (qF h.pos h'.pos h.he h'.he) (v7 h.pos h'.pos h.ab h'.ab) b
theorem fj{F:Int}{c p:Fr}(c0:0 < c.2)(hc:fk c F)(u:dX c)(h:Nb E C p)(b:Bd (F * E) C):Nb (F * E) C (Λ c p):=HI (aF (aaR (aaC c0 h.pos))) (jL c0 h.pos hc h.he) (qI c0 h.pos u h.ab b.c0) b
theorem jr{p:Fr}(k:Int)(h:Nb E C p):Nb (E * k) C p:=⟨h.pos,h_ k h.he,h.ab,h.sz⟩
theorem JY{p:Fr}{D:Int}(h0:0 < p.2)(h:fX p C)(hd:C<=D):fX p D:=by have:=aa8 hd (aai h0);obtain ⟨a,b⟩:=h;exact ⟨by omega,by omega⟩
theorem gK{D:Int}{p:Fr}(h:Nb E C p)(hd:C<=D):Nb E D p:=⟨h.pos,h.he,JY h.pos h.ab hd,h.sz⟩
theorem sy:Nb E 0 (0,1):=⟨by decide,⟨0,by simp⟩,⟨by decide,by decide⟩,eT (k:=1) ⟨by decide,by decide,by decide⟩ (by decide)⟩
structure Fl(δ:Fr)(γ:List Rw)(E B:Int):Prop where
 pl:zA δ γ
 e0:0 < E
 e1:E < 2 ^ 1000
 b0:0 < B
 b1:B < 2 ^ 250
 PF:∀k ds,Rw.τ k ds∈γ->∀d∈ds,Nb E (10 ^ 30) d.2.1
 fin:∀p,Rw.fin p∈γ->Nb E (10 ^ 30) p
 Po:∀k ds,Rw.τ k ds∈γ->Ζ k=true->∀d∈ds,d.2.2=[]
 ch:∀ds,Rw.τ "chance" ds∈γ->∀d∈ds,0 < (θ d).2/\fk (θ d) B/\dX (θ d)/\Sz 300 (θ d)
structure Tb(γ:List Rw)(E C:Int)(tb:List Fr):Prop where
 len:tb.length=γ.length
 nb:∀t∈tb,Nb E C t
theorem eD{p:Fr}(h:ai p=true):0 < p.2/\p.2<=1000/\dX p:=by unfold ai at h;rw [aaF,aaF,aat,aat,aat] at h;obtain ⟨h1,h2,h3⟩:=h;exact ⟨by omega,h3,h1,by omega⟩
theorem Bc{γ:List Rw}{tb:List Fr}(f:Tb γ E C tb)(h0:0<=t)(h1:t < γ.length):jh (tb.map Δ) t=some (Δ (mB tb t))/\Nb E C (mB tb t):=by
 have hl:t.toNat < tb.length:=by rw [f.len];omega
 have e:mB tb t=tb[t.toNat]:=by unfold mB;rw [List.getD_eq_getElem?_getD,List.getElem?_eq_getElem hl];rfl
 refine ⟨?_,by rw [e];exact f.nb _ (aaz hl)⟩;have e2:(tb.map Δ)[t.toNat]? =some (Δ (mB tb t)):=by rw [aax,aaa hl,e];rfl
 have:=Θ e2;rwa [show ((t.toNat:Nat):Int)=t by omega] at this
theorem aN(h0:0 < a)(h1:a < 2 ^ m)(h2:0 < b)(h3:b < 2 ^ n):0 < a * b/\a * b < 2 ^ (m+n):=by refine ⟨aaC h0 h2, ?_⟩;rw [ab9];exact aar (aaj (aai h1) (aai h2)) (Int.mul_lt_mul_of_pos_left h3 (abr (by decide)))
section
variable{δ:Fr}{γ:List Rw}{F:Int}{tb:List Fr}{k:Str}{ds:List dj}{d:dj}
structure Gr(F C:Int):Prop where
 f0:0 < F
 f1:F < 2 ^ 900
 c0:0<=C
 c1:C < 2 ^ 200
theorem ve(fl:Fl δ γ E B)(g:Gr F C)(LJ:Tb γ (E * F) C tb)(h0:0<=t)(h1:t < γ.length):Nb (E * F * δ.2) C (Λ δ (mB tb t)):=by obtain ⟨s0,s1,su⟩:=eD fl.pl.sh;obtain ⟨a,b⟩:=aN fl.e0 fl.e1 g.f0 g.f1;obtain ⟨a2,b2⟩:=aN a b s0 (show δ.2 < 2 ^ 10 by omega);have:=fj s0 (iQ δ) su (Bc LJ h0 h1).2 (by rw [aaT];exact ⟨a2,aa1 b2 (by decide),g.c0,acf g.c1 (by decide)⟩);rwa [aaT] at this
theorem nj(fl:Fl δ γ E B)(g:Gr F C)(LJ:Tb γ (E * F) C tb)(hm:Rw.τ k ds∈γ)(hd:d∈ds):Nb (E * F * δ.2) (10 ^ 30+C) (aU δ tb d):=by obtain ⟨s0,s1,su⟩:=eD fl.pl.sh;obtain ⟨a,b⟩:=aN fl.e0 fl.e1 g.f0 g.f1;obtain ⟨a2,b2⟩:=aN a b s0 (show δ.2 < 2 ^ 10 by omega);obtain ⟨t0,t1⟩:=(aq fl.pl hm).to d hd;have hp:Nb (E * F * δ.2) (10 ^ 30) d.2.1:=jr _ (jr _ (fl.PF k ds hm d hd));have c0:=g.c0;have c1:=g.c1;exact iU hp (ve fl g LJ t0 t1) ⟨a2,aa1 b2 (by decide),by omega,by omega⟩
end
def xZ(A:Addr):DF:=λas M q _=>∃δ γ tb i j k ds d E B F C,as=[Κ A δ γ, .int (i:Nat), .int (j:Nat), .lst (tb.map Δ)]/\γ[i]? =some (.τ k ds)/\ds[j]? =some d/\Fl δ γ E B/\Gr F C/\Tb γ (E * F) C tb/\q (Δ (aU δ tb d)) M
theorem j6:χ ["self","place","door","table","taken"] ["self","place","door","table"] (ο iC):= .of rfl
theorem pI(F:dN K "shown" "Floor.shown" iC f fd)(E:Ev K mg Cn)(dQ:aE P w K mg base 3 "plus" ["one","other"] vT pv oz)(cD:aE P w K mg base 3 "times" ["one","other"] oK j1 jA):ar P w K mg base (cR P w) 4 f fd ["self","place","door","table"] (dE K (xZ Cn)):=by
 refine F.eN j6 (λds M q x h=> ?_) (λbu A outer s H E' hr=>⟨_,(ι (π 4 j6.nd (Α (Α (Α (pB E.cU E.b9 (jv 0)) (jv 1)) ξ) (jv 2)))
   (μ (ψ (aj dQ hr ν (η (Α (jv 4) ξ) (η (aj cD hr ν (η (pB E.cU E.ez (jv 0)) (η (Α (jv 3) (Α (jv 4) ξ)) ζ ax))) ζ aP) ax))))),λds M q x h=> ?_⟩)
 ·obtain ⟨δ,γ,tb,i,j,k,ds,d,E,B,F,C,rfl,_⟩:=h;rfl
 ·obtain ⟨δ,γ,tb,i,j,k,ds,d,Ep,B,Ft,C,rfl,hi,hj,fl,g,ht,h⟩:=h;have hm:Rw.τ k ds∈γ:=aag hi;have hd:d∈ds:=aag hj;obtain ⟨a,b⟩:=(aq fl.pl hm).to d hd;obtain ⟨t1,t2⟩:=Bc ht a b;have OA:(ds.map a_)[j]? =some (a_ d):=by rw [aax,hj];rfl
  refine ⟨_,_,_, .inl rfl,rfl, ?_⟩;walk_at "vc";refine ω (xs:=γ.map Χ) rfl (Θ (ko hi)) (yY (ω (d:= .lst (ds.map a_)) rfl (Θ OA) ?_));exact GZ ⟨_,_,_, .inl rfl,rfl,qE (ω (d:= .lst (tb.map Δ)) rfl t1 ⟨δ,mB tb d.1,11,2600,rfl,vY fl.pl.sh,t2.sz,by decide,d.2.1,_,2600,2600,rfl,(fl.PF k ds hm d hd).sz,(ve fl g ht a b).sz,by decide,h⟩)⟩
def qj(A:Addr):DF:=λas M q _=>∃δ γ tb i k ds E B F C,as=[Κ A δ γ, .int (i:Nat), .lst (tb.map Δ)]/\γ[i]? =some (.τ k ds)/\Fl δ γ E B/\Gr F C/\Tb γ (E * F) C tb/\q (.lst (ds.map λd=>Δ (aU δ tb d))) M
theorem g7:χ ["self","place","table"] ["self","place","table"] (ο fA):= .of rfl
theorem lV(F:dN K "all_shown" "Floor.all_shown" fA f fd)(E:Ev K mg Cn)(Μ:cz P w K mg base 2 Cn "doors" ["self","place"] (jS Cn) aW aT){h8:Addr}{iH:FuncData}(cN:cz P w K mg base 4 Cn "shown" ["self","place","door","table"] (xZ Cn) h8 iH):ar P w K mg base (cR P w) 5 f fd ["self","place","table"] (dE K (qj Cn)):=by
 refine F.eN g7 (λds M q x h=> ?_) (λbu A outer s H E' hr=>⟨_,(μ (ψ (D6 (ys:=["place","table","self"]) (Ψ:=[1,2,0]) (.of g7 rfl rfl rfl) (bq E.bh (η (c7 E.cE (η (eQ (aY Μ hr ν (jv 0) (Ο (jv 1) ζ))) ζ aP)) ζ aP)) (λC s H fp=>(aY cN hr (iO (P:=P) (w:=w)) (jv 3) (Ο (jv 1) (Ο (jv 0) (Ο (jv 2) ζ)))))))),λds M q x h=> ?_⟩)
 ·obtain ⟨δ,γ,tb,i,k,ds,E,B,F,C,rfl,_⟩:=h;rfl
 ·obtain ⟨δ,γ,tb,i,k,ds,Ep,B,Ft,C,rfl,hi,fl,g,ht,h⟩:=h;have hm:Rw.τ k ds∈γ:=aag hi;have dr:=aq fl.pl hm;have l6:=dr.l6;refine ⟨⟨_,_, .inl rfl,rfl⟩,δ,γ,i, .τ k ds,rfl,hi,dr.ro,fg (ds:=ds.map a_) (dJ ds) ?_⟩;walk_at "vc";refine az (d:= .lst (ds.map a_)) (xs:=ds.map a_) rfl ?_;rw [aac];refine ⟨⟨by omega,by omega⟩,by rw [cI];exact aaI (show _<=6 by omega) (by decide), ?_⟩;refine lx (f:=λx=>match x with | .int j=>Δ (aU δ tb (ds.getD j.toNat d0)) | _=> .ba) _ _ (λx EI q' hq=> ?_) ?_
  ·obtain ⟨j,hj,rfl⟩:=j4 EI;have hj:j < ds.length:=by omega
   have e:ds.getD (0+(j:Int)).toNat d0=ds[j]:=by rw [show (0+(j:Int)).toNat=j by omega,aab,aaa hj];rfl
   have hq:q' (Δ (aU δ tb (ds.getD (0+(j:Int)).toNat d0))) M:=hq;rw [e] at hq;refine ⟨⟨_,_, .inl rfl,rfl⟩,δ,γ,tb,i,j,k,ds,ds[j],Ep,B,Ft,C,by rw [Int.zero_add],hi,aaa hj,fl,g,ht,hq⟩
  ·rw [aa3,show ((ds.length:Int)).toNat=ds.length by omega,yZ ds d0 (λd=>Δ (aU δ tb d))];exact h
theorem aO{o:MO}:(M++[o])[M.length]? =some o:=by simp
theorem eu{a c:MO}:(M++[a]).set M.length c=M++[c]:=by simp [List.set_append]
theorem Bh(cs ns:List Fr):vZ (cs.map Δ) (ns.map Δ)=(cs.zip ns).map λp=> .tup [Δ p.1,Δ p.2]:=by unfold vZ;rw [List.zip_map,aaO];rfl
structure Ch(B:Int)(c:Fr):Prop where
 pos:0 < c.2
 he:fk c B
 u:dX c
 sz:Sz 300 c
theorem nF{E B C:Int}(b0:0 < B)(e0:0 < E)(be:B * E < 2 ^ 2200)(c0:0<=C)(c1:C < 2 ^ 300):∀(ps:List (Fr×Fr)) (w:Fr) (j:Nat),j+ps.length<=6->Nb (B * E) (j * C) w->(∀p∈ps,Ch B p.1/\Nb E C p.2)->Nb (B * E) ((j+ps.length:Nat) * C) (ps.foldl (λw p=>bE w (Λ p.1 p.2)) w)
 | [],w,j,_,hw,_=>hw
 | p::ps,w,j,hj,hw,h=>by
  rw [aaw] at hj;obtain ⟨h1,h2⟩:=h p aae;have jc:((j:Int)+1) * C=j * C+C:=by rw [Int.add_mul,abO]
  have jm:((j:Int)+1) * C<=6 * C:=aaj (by omega) c0;have j0:0<=(j:Int) * C:=aa4 (by omega) c0;have ht:=fj h1.pos h1.he h1.u h2 ⟨aaC b0 e0,be,c0,acf c1 (by decide)⟩;have hp:=iU hw ht ⟨aaC b0 e0,be,by omega,by omega⟩;rw [<-jc] at hp;have:=nF b0 e0 be c0 c1 ps _ (j+1) (by omega) (by exact_mod_cast hp) (λq hq=>h q (aad _ hq));rw [ab3,aaw,show j+(ps.length+1)=j+1+ps.length by omega];exact this
def vD:DF:=λas M q _=>∃(cs ns:List Fr) (E B C:Int),as=[.lst (cs.map Δ), .lst (ns.map Δ)]/\cs.length<=6/\0 < B/\0 < E/\B * E < 2 ^ 2200/\0<=C/\C < 2 ^ 300/\(∀c∈cs,Ch B c)/\(∀n∈ns,Nb E C n)/\q (Δ (l0 (cs.zip ns))) M
theorem gw:χ ["chances","numbers","whole","chance","number"] ["chances","numbers"] (ο oO):= .of rfl
theorem xm(F:dN K "weighed" "weighed" oO f fd)(E:Ev K mg Cn)(dQ:aE P w K mg base 3 "plus" ["one","other"] vT pv oz)(cD:aE P w K mg base 3 "times" ["one","other"] oK j1 jA):ar P w K mg base (cR P w) 4 f fd ["chances","numbers"] (dE K vD):=by
 refine F.eN gw (λds M q x h=> ?_) (λbu A outer s H E' hr=>⟨_,(ι (π 2 gw.nd (aV (η ξ (η ξ ζ aL) aL)))
   (ι (cC (JV E.yw (Ο (jv 0) (Ο (jv 1) ζ))) (h7 rfl (aM (Ι (i:=3) gw.nd rfl (Or.inl rfl)) (aM (Ι (i:=4) gw.nd rfl (Or.inl rfl)) fN))) tO (μ (π 2 gw.nd (aj dQ hr ν (Ο (jv 2) (η (aj cD hr ν (Ο (jv 3) (Ο (jv 4) ζ))) ζ aP))))))
   (μ (ψ (jv 2))))),λds M q x h=> ?_⟩)
 ·obtain ⟨cs,ns,E,B,C,rfl,_⟩:=h;rfl
 ·obtain ⟨cs,ns,Ep,B,C,rfl,hz,b0,e0,be,c0,c1,hc,hn,h⟩:=h;refine ⟨fI, ?_⟩;refine ⟨.lst (cs.map Δ), .lst (ns.map Δ),cs.map Δ,ns.map Δ,λ_=>True,λ_=>True,rfl,rfl,rfl, ?_⟩;rw [Bh];refine bK (λxs ρ M'=>M'=M/\∃(Η:List (Fr×Fr)) (w:Fr) (a b:Option Dt) (j:Nat),xs=Η.map (λp=> .tup [Δ p.1,Δ p.2])/\(∀p∈Η,Ch B p.1/\Nb Ep C p.2)/\Nb (B * Ep) (j * C) w/\j+Η.length<=6/\Η.foldl (λw p=>bE w (Λ p.1 p.2)) w=l0 (cs.zip ns)/\ρ=[some (.lst (cs.map Δ)),some (.lst (ns.map Δ)),some (Δ w),a,b]) (λxs ρ M' hj=>⟨trivial,trivial⟩) (λx xs ρ M' hj gO=> ?_) (λρ M' hj=> ?_) _ _ _ ⟨rfl,cs.zip ns,(0,1),none,none,0,rfl,λp hp=>⟨hc _ (abp hp).1,hn _ (abp hp).2⟩,by rw [Int.natCast_zero,Int.zero_mul];exact sy, ?_,rfl,rfl⟩
  ·obtain ⟨rfl,Η,w,a,b,j,ex,Gj,hw,hj,hf,rfl⟩:=hj;cases Η with
   | nil=>cases ex
   | cons p Η=>
    cases ex;obtain ⟨h1,h2⟩:=Gj p aae;rw [aaw] at hj;have ht:=fj h1.pos h1.he h1.u h2 ⟨aaC b0 e0,be,c0,acf c1 (by decide)⟩;refine ⟨p.1,p.2,300,2600,rfl,h1.sz,h2.sz,by decide,w,Λ p.1 p.2,2600,2600,rfl,hw.sz,ht.sz,by decide, ?_⟩;refine gO _ _ ⟨rfl,Η,_,_,_,j+1,rfl,λp hp=>Gj p (aad _ hp), ?_,by omega,hf,rfl⟩;exact nF b0 e0 be c0 c1 [p] w j (by simp;omega) hw (λq hq=>by rw [List.mem_singleton.mp hq];exact ⟨h1,h2⟩)
  ·obtain ⟨rfl,Η,w,a,b,j,ex,Gj,hw,hj,hf,rfl⟩:=hj;cases Η with
   | nil=>rw [<-hf] at h;exact h
   | cons p Η=>cases ex
  ·rw [abb];omega
def w8:DF:=λ_ _ _ _=>False
theorem Ey:χ ["one","other"] ["one","other"] (ο xF):= .of rfl
theorem C5(F:dN K "under" "under" xF f fd)(E:Ev K mg Cn):ar P w K mg base (cR P w) 1 f fd ["one","other"] (dE K w8):=by exact F.eN Ey (λds M q x h=>h.elim) (λbu A outer s H E' hr=>⟨_,(μ (ψ (zB (br (Α (jv 0) ξ) (Α (jv 1) ξ)) (br (Α (jv 1) ξ) (Α (jv 0) ξ))))),λds M q x h=>h.elim⟩)
theorem gT:χ ["numbers","found","number"] ["numbers"] (ο lF):= .of rfl
theorem uV(F:dN K "greatest" "greatest" lF f fd)(E:Ev K mg Cn){xh:Addr}{xn:FuncData}(i4:aE P w K mg base 1 "under" ["one","other"] w8 xh xn):ar P w K mg base (cR P w) 2 f fd ["numbers"] (dE K w8):=by
 exact F.eN gT (λds M q x h=>h.elim) (λbu A outer s H E' hr=>⟨_,(ι (π 1 gT.nd (Α (jv 0) ξ))
   (ι (cC (bL (jv 0)) (Ι (i:=2) gT.nd rfl (Or.inl rfl)) aJ (μ (aI (da (aj i4 hr ν (Ο (jv 1) (Ο (jv 2) ζ)))) (μ (π 1 gT.nd (jv 2))) Ξ)))
   (μ (ψ (jv 1))))),λds M q x h=>h.elim⟩)
theorem mV:χ ["numbers","found","number"] ["numbers"] (ο xV):= .of rfl
theorem C2(F:dN K "least" "least" xV f fd)(E:Ev K mg Cn){xh:Addr}{xn:FuncData}(i4:aE P w K mg base 1 "under" ["one","other"] w8 xh xn):ar P w K mg base (cR P w) 2 f fd ["numbers"] (dE K w8):=by
 exact F.eN mV (λds M q x h=>h.elim) (λbu A outer s H E' hr=>⟨_,(ι (π 1 mV.nd (Α (jv 0) ξ))
   (ι (cC (bL (jv 0)) (Ι (i:=2) mV.nd rfl (Or.inl rfl)) aJ (μ (aI (da (aj i4 hr ν (Ο (jv 2) (Ο (jv 1) ζ)))) (μ (π 1 mV.nd (jv 2))) Ξ)))
   (μ (ψ (jv 1))))),λds M q x h=>h.elim⟩)
section
variable{δ:Fr}{γ:List Rw}{F:Int}{tb:List Fr}{ds:List dj}
theorem Fl.N3(fl:Fl δ γ E B)(h:Rw.τ "chance" ds∈γ):∀c∈ds.map θ,Ch B c:=λc hc=>by obtain ⟨d,hd,rfl⟩:=aas.mp hc;obtain ⟨a,b,c,e⟩:=fl.ch ds h d hd;exact ⟨a,b,c,e⟩
theorem y4(fl:Fl δ γ E B)(g:Gr F C):0 < E * F * δ.2/\B * (E * F * δ.2) < 2 ^ 2200:=by obtain ⟨s0,s1,su⟩:=eD fl.pl.sh;obtain ⟨a,b⟩:=aN fl.e0 fl.e1 g.f0 g.f1;obtain ⟨a2,b2⟩:=aN a b s0 (show δ.2 < 2 ^ 10 by omega);obtain ⟨a3,b3⟩:=aN fl.b0 fl.b1 a2 b2;exact ⟨a2,aa1 b3 (by decide)⟩
theorem EK(fl:Fl δ γ E B)(g:Gr F C)(LJ:Tb γ (E * F) C tb){r:Rw}(hm:r∈γ)(hk:kindOf r="chance"\/kindOf r="end"):Nb (E * (F * (δ.2 * B))) (6 * (10 ^ 30+C)) (oa δ tb r):=by
 have c0:=g.c0;have c1:=g.c1;cases r with
 | fin p=>exact gK (jr _ (fl.fin p hm)) (by omega)
 | τ k ds=>
  have hk:k="chance":=by
   rcases hk with z | z
   ·exact z
   ·exact aaJ z ((fl.pl.row _ hm).1).1
  subst hk;have l6:=(aq fl.pl hm).l6;obtain ⟨z1,z2⟩:=y4 fl g
  have:=nF fl.b0 z1 z2 (show 0<=10 ^ 30+C by omega) (by omega) ((ds.map θ).zip (ds.map (aU δ tb))) (0,1) 0 (by rw [abb,aac,aac];omega) (by rw [Int.natCast_zero,Int.zero_mul];exact sy) (λp hp=>⟨fl.N3 hm _ (abp hp).1,by
   obtain ⟨d,hd,e⟩:=aas.mp (abp hp).2
   rw [<-e];exact nj fl g LJ hm hd⟩)
  have e:B * (E * F * δ.2)=E * (F * (δ.2 * B)):=by grind
  rw [e] at this;refine gK this ?_;refine aaj ?_ (by omega);rw [abb,aac,aac];omega
end
def Hj(A:Addr):DF:=λas M q _=>∃δ γ tb i r E B F C,as=[Κ A δ γ, .int (i:Nat), .lst (tb.map Δ)]/\γ[i]? =some r/\(kindOf r="chance"\/kindOf r="end")/\Fl δ γ E B/\Gr F C/\Tb γ (E * F) C tb/\q (Δ (oa δ tb r)) M
theorem hJ:χ ["self","place","table","kind"] ["self","place","table"] (ο jw):= .of rfl
theorem tD(F:dN K "look" "Floor.look" jw f fd)(E:Ev K mg Cn)(Ε:cz P w K mg base 1 Cn "kind" ["self","place"] (j5 Cn) aA aC)(bx:cz P w K mg base 2 Cn "pay" ["self","place"] (FJ Cn) gz gF){Cu:Addr}{Cr:FuncData}(lO:aE P w K mg base 4 "weighed" ["chances","numbers"] vD Cu Cr){nV:Addr}{nv:FuncData}(cw:cz P w K mg base 5 Cn "all_shown" ["self","place","table"] (qj Cn) nV nv)(Μ:cz P w K mg base 2 Cn "doors" ["self","place"] (jS Cn) aW aT){zC:Addr}{Am:FuncData}(jU:aE P w K mg base 2 "greatest" ["numbers"] w8 zC Am){Jf:Addr}{IU:FuncData}(rK:aE P w K mg base 2 "least" ["numbers"] w8 Jf IU):ar P w K mg base (cR P w) 6 f fd ["self","place","table"] (dE K (Hj Cn)):=by
 refine F.eN hJ (λds M q x h=> ?_) (λbu A outer s H E' hr=>⟨_,(ι (π 3 hJ.nd (aY Ε hr ν (jv 0) (Ο (jv 1) ζ)))
   (ι (aI (cW hr (jv 3) dZ) (μ (ψ (aY bx hr ν (jv 0) (Ο (jv 1) ζ)))) Ξ)
   (ι (aI (cW hr (jv 3) dZ) (μ (ψ (aj lO hr ν (η (gR (ys:=[]) (Ψ:=[]) (.of hJ rfl rfl rfl) (bL (eQ (aY Μ hr ν (jv 0) (Ο (jv 1) ζ)))) (λC s H fp=>(Α (jv 0) ξ))) (η (aY cw hr ν (jv 0) (Ο (jv 1) (Ο (jv 2) ζ))) ζ aP))))) Ξ)
   (ι (aI (cW hr (jv 3) dZ) (μ (ψ (aj jU hr ν (η (aY cw hr ν (jv 0) (Ο (jv 1) (Ο (jv 2) ζ))) ζ aP)))) Ξ)
   (μ (ψ (aj rK hr ν (η (aY cw hr ν (jv 0) (Ο (jv 1) (Ο (jv 2) ζ))) ζ aP)))))))),λds M q x h=> ?_⟩)
 ·obtain ⟨δ,γ,tb,i,r,E,B,F,C,rfl,_⟩:=h;rfl
 ·obtain ⟨δ,γ,tb,i,r,Ep,B,Ft,C,rfl,hi,hk,fl,g,ht,h⟩:=h;have hm:r∈γ:=aag hi;have ro:=(fl.pl.row _ hm).1;refine ⟨⟨_,_, .inl rfl,rfl⟩,δ,γ,i,r,rfl,hi, ?_⟩;cases r with
  | fin p=>exact ⟨λ_=>⟨⟨_,_, .inl rfl,rfl⟩,δ,γ,i, .fin p,rfl,hi,ro,h⟩,λz=>(nomatch z)⟩
  | τ k ds=>
   have hk:k="chance":=by
    rcases hk with z | z
    ·exact z
    ·exact aaJ z ro.1
   subst hk;have l6:=(aq fl.pl hm).l6;have eS:ds.map (λd=>Δ (aU δ tb d))=(ds.map (aU δ tb)).map Δ:=by rw [aaO];rfl
   refine ⟨λz=>aaJ (aaH z) ro.1,λ_=>⟨λz=> ?_,λz=>aaJ rfl (aaW z)⟩⟩;obtain ⟨mG,wq⟩:=ro.2.2.1 rfl;refine ⟨⟨_,_, .inl rfl,rfl⟩,δ,γ,i, .τ "chance" ds,rfl,hi,ro,fg (ds:=ds.map a_) (dJ ds) ?_⟩;refine ⟨by rw [aac];exact aaI l6 (by decide), ?_⟩;refine cQ (f:=λd=>match d with | .tup [_,_,c]=>c | _=> .ba) trivial (λx hx q' hq=> ?_) ?_
   ·obtain ⟨y,hy,rfl⟩:=aas.mp hx;have ey:a_ y= .tup [.int y.1,Δ y.2.1,Δ (θ y)]:=by unfold a_;rw [mG y hy];rfl
    rw [ey] at hq⊢;exact hq
   ·rw [aa3,aaO];have e2:ds.map ((λd=>match d with | Dt.tup [_,_,c]=>c | _=>Dt.ba) ∘ a_)=(ds.map θ).map Δ:=by
     rw [aaO];apply abt;intro y hy;have ey:a_ y= .tup [.int y.1,Δ y.2.1,Δ (θ y)]:=by unfold a_;rw [mG y hy];rfl
     show (match a_ y with | Dt.tup [_,_,c]=>c | _=>Dt.ba)=Δ (θ y);rw [ey]
    rw [e2];refine ⟨⟨_,_, .inl rfl,rfl⟩,δ,γ,tb,i,"chance",ds,Ep,B,Ft,C,rfl,hi,fl,g,ht, ?_⟩;rw [eS];obtain ⟨z1,z2⟩:=y4 fl g;have c0:=g.c0;have c1:=g.c1
    exact ⟨_,_,Ep * Ft * δ.2,B,10 ^ 30+C,rfl,by rw [aac];exact l6,fl.b0,z1,z2,by omega,by omega,fl.N3 hm,λn hn=>by
     obtain ⟨d,hd,rfl⟩:=aas.mp hn
     exact nj fl g ht hm hd,h⟩
abbrev Pl:=List (Int×Int)
def kP(pl:Pl):List Key:=pl.map λp=>Sum.inl p.1
def vP(pl:Pl):List Dt:=pl.map λp=>Dt.int p.2
abbrev dP(pl:Pl):MO:= .eK (kP pl) (vP pl)
def af:Pl->Int->Option Int
 | [],_=>none
 | p::r,i=>if p.1=i then some p.2 else af r i
def eU(pl:Pl)(i v:Int):Pl:=if (af pl i).isSome=true then pl.map (λp=>if p.1=i then (p.1,v) else p) else pl++[(i,v)]
theorem Ca:(decide ((Sum.inl a:Key)=Sum.inl b))=decide (a=b):=by
 by_cases h:a=b
 ·rw [aav h,aav (aa5 Sum.inl h)]
 ·rw [aaD h,aaD λz=>h (Sum.inl.inj z)]
theorem kF{i:Int}:∀{pl:Pl},av (kP pl) (vP pl) (Sum.inl i)=(af pl i).map Dt.int
 | []=>rfl
 | p::r=>by
  have ih:=kF (i:=i) (pl:=r);unfold av at ih⊢;show (List.find? (λq:Key×Dt=>decide (q.1=Sum.inl i)) ((Sum.inl p.1,Dt.int p.2)::(kP r).zip (vP r))).map (·.2)=Option.map Dt.int (if p.1=i then some p.2 else af r i);rw [List.find?_cons,Ca];by_cases h:p.1=i
  ·rw [aav h,aaE h];rfl
  ·rw [aaD h,aaA h];exact ih
theorem BX{i:Int}:∀{pl:Pl},Ei (kP pl) (Sum.inl i)=(af pl i).isSome
 | []=>rfl
 | p::r=>by
  have ih:=BX (i:=i) (pl:=r);unfold Ei at ih⊢;show (decide ((Sum.inl p.1:Key)=Sum.inl i) || (kP r).any λc=>decide (c=Sum.inl i))=(if p.1=i then some p.2 else af r i).isSome;rw [Ca,ih];by_cases h:p.1=i
  ·rw [aav h,aaE h];rfl
  ·rw [aaD h,aaA h,Bool.false_or]
theorem yO{i v:Int}:∀{pl:Pl},jo (Sum.inl i:Key) (Dt.int v) (kP pl) (vP pl)=vP (pl.map λp=>if p.1=i then (p.1,v) else p)
 | []=>rfl
 | p::r=>by
  show (if (Sum.inl p.1:Key)=Sum.inl i then Dt.int v else Dt.int p.2)::jo (Sum.inl i:Key) (Dt.int v) (kP r) (vP r)=Dt.int (if p.1=i then (p.1,v) else p).2::vP (r.map λp=>if p.1=i then (p.1,v) else p);rw [yO];by_cases h:p.1=i
  ·rw [aaE h,aaE (aa5 Sum.inl h)]
  ·rw [aaA h,aaA λz=>h (Sum.inl.inj z)]
theorem wk{i v:Int}:∀{pl:Pl},kP (pl.map λp=>if p.1=i then (p.1,v) else p)=kP pl
 | []=>rfl
 | p::r=>by show (Sum.inl (if p.1=i then (p.1,v) else p).1:Key)::kP (r.map λp=>if p.1=i then (p.1,v) else p)=Sum.inl p.1::kP r;rw [wk];split <;> rfl
theorem Cs{pl:Pl}{i v:Int}:jj (kP pl) (Sum.inl i)=kP (eU pl i v):=by
 unfold jj eU;rw [BX];split
 ·exact wk.symm
 ·unfold kP;rw [List.map_append];rfl
theorem Cw{pl:Pl}{i v:Int}:fY (kP pl) (Sum.inl i) (vP pl) (Dt.int v)=vP (eU pl i v):=by
 unfold fY eU;rw [BX];split
 ·exact yO
 ·unfold vP;rw [List.map_append];rfl
theorem ng{i v j:Int}:∀{pl:Pl},af (pl.map λp=>if p.1=i then (p.1,v) else p) j=if j=i then (af pl j).map λ_=>v else af pl j
 | []=>by split <;> rfl
 | p::r=>by
  have ih:=ng (i:=i) (v:=v) (j:=j) (pl:=r);rw [aaS];unfold af;by_cases h:p.1=i
  ·rw [aaE h];by_cases hj:p.1=j
   ·rw [aaE hj,aaE hj,aaE (by omega)];rfl
   ·rw [aaA hj,aaA hj];exact ih
  ·rw [aaA h];by_cases hj:p.1=j
   ·rw [aaE hj,aaE hj,aaA (by omega)]
   ·rw [aaA hj,aaA hj];exact ih
theorem yx{i j v:Int}:∀{pl:Pl},af (pl++[(i,v)]) j=if (af pl j).isSome=true then af pl j else if i=j then some v else none
 | []=>rfl
 | p::r=>by
  have ih:=yx (i:=i) (j:=j) (v:=v) (pl:=r);rw [List.cons_append];unfold af;by_cases hj:p.1=j
  ·rw [aaE hj,aaE hj];rfl
  ·rw [aaA hj,aaA hj];exact ih
theorem mZ{pl:Pl}{i v j:Int}:af (eU pl i v) j=if j=i then some v else af pl j:=by
 unfold eU;split
 ·rename_i h;rw [ng];split
  ·rename_i e;subst e;obtain ⟨x,hx⟩:=abA.mp h;rw [hx];rfl
  ·rfl
 ·rename_i h;rw [yx];by_cases e:j=i
  ·subst e;rw [aaA h,aaE rfl,aaE rfl]
  ·rw [aaA e];cases hj:af pl j with
   | none=>rw [if_neg (by simp),if_neg (by omega)]
   | some x=>rfl
def m7(pl:Pl):Prop:=(pl.map (·.1)).Nodup
theorem zi{i v:Int}:∀{pl:Pl},m7 pl->(i,v)∈pl->af pl i=some v
 | [],_,h=>by cases h
 | p::r,nd,h=>by
  unfold m7 at nd;rw [aaS,abL] at nd;unfold af;rcases aaP.mp h with e | e
  ·rw [aaE (by rw [<-e])];rw [<-e]
  ·have:p.1≠i:=λz=>nd.1 (by rw [z];exact aas.mpr ⟨_,e,rfl⟩);rw [aaA this];exact zi nd.2 e
theorem Ea{i:Int}{pl:Pl}(h:af pl i=none):i∉pl.map (·.1):=λz=>by
 obtain ⟨p,hp,e⟩:=aas.mp z;have:∀{pl:Pl},p∈pl->af pl i≠none:=λ{pl}=>by
  induction pl with
  | nil=>intro h;cases h
  | cons q r ih=>
   intro h;unfold af;rcases aaP.mp h with e' | e'
   ·rw [if_pos (by rw [<-e'];exact e)];simp
   ·split
    ·simp
    ·exact ih e'
 exact this hp h
theorem wB{pl:Pl}{i v:Int}(h:m7 pl):m7 (eU pl i v):=by
 unfold m7 eU;split
 ·have e:(pl.map λp=>if p.1=i then (p.1,v) else p).map (·.1)=pl.map (·.1):=by rw [aaO];refine abt λp _=> ?_;show (if p.1=i then (p.1,v) else p).1=p.1;split <;> rfl
  rw [e];exact h
 ·rename_i hn;have hn:af pl i=none:=by
   cases hg:af pl i with
   | none=>rfl
   | some x=>rw [hg] at hn;exact aaJ rfl hn
  rw [abd];refine List.nodup_append.mpr ⟨h,by simp,λa ha b hb z=> ?_⟩;have:b=i:=by simpa using hb
  exact Ea hn (by rw [<-this,<-z];exact ha)
def KI(p1 p2:Pl):Bool:=decide (p1.length=p2.length)&&(List.range p1.length).all λj=>decide (af p2 (p1.getD j (0,0)).1=some (p1.getD j (0,0)).2)
theorem HS{pl:Pl}{k:Key}(h:(kP pl)[j]? =some k):j < pl.length/\k=Sum.inl (pl.getD j (0,0)).1:=by unfold kP at h;rw [aax] at h;obtain ⟨p,hp,e⟩:=abJ.mp h;refine ⟨(aah.mp hp).1, ?_⟩;rw [aab,hp];exact e.symm
theorem Mg{pl:Pl}(h:(vP pl)[j]? =some d):d= .int (pl.getD j (0,0)).2:=by unfold vP at h;rw [aax] at h;obtain ⟨p,hp,e⟩:=abJ.mp h;rw [aab,hp];exact e.symm
theorem FW(a b:Int):qq (V.int a) (V.int b)=decide (a=b):=by
 unfold qq;by_cases h:a=b
 ·subst h;simp
 ·simp [h]
theorem Hm{k1 k2:Nat}{p1 p2:Pl}(h1:M[k1]? =some (dP p1))(h2:M[k2]? =some (dP p2)):BZ M (n+1) (.loc k1) (.loc k2) (KI p1 p2):=by
 have l1:(kP p1).length=p1.length:=by unfold kP;simp
 have l2:(kP p2).length=p2.length:=by unfold kP;simp
 by_cases hl:p1.length=p2.length
 ·have:=BZ.eK (M:=M) (n:=n) (f:=λj=>decide (af p2 (p1.getD j (0,0)).1=some (p1.getD j (0,0)).2)) h1 h2 (by rw [l1,l2];exact hl) (λj k hk hn=>by
   obtain ⟨hj,e⟩:=HS hk;subst e;rw [kF] at hn;have hn:af p2 (p1.getD j (0,0)).1=none:=by
    cases hg:af p2 (p1.getD j (0,0)).1 with
    | none=>rfl
    | some x=>rw [hg] at hn;cases hn
   rw [hn];rfl) (λj k d d' hk hd hg=>by
   obtain ⟨hj,e⟩:=HS hk;have ed:=Mg hd;subst e ed;rw [kF] at hg;obtain ⟨x,hx,ex⟩:=abJ.mp hg;subst ex;have:decide (af p2 (p1.getD j (0,0)).1=some (p1.getD j (0,0)).2)=qq (V.int (p1.getD j (0,0)).2) (V.int x):=by
    rw [hx,FW];by_cases e:(p1.getD j (0,0)).2=x
    ·rw [decide_eq_true e,e];simp
    ·rw [aaD e,aaD λz=>e (aan z).symm]
   show BZ M n _ _ (decide (af p2 (p1.getD j (0,0)).1=some (p1.getD j (0,0)).2));rw [this]
   exact BZ.flat rfl rfl)
  rw [l1] at this;unfold KI;rw [aav hl,ab5];exact this
 ·have e:KI p1 p2=false:=by unfold KI;rw [decide_eq_false hl];rfl
  rw [e];exact BZ.len h1 h2 (by rw [l1,l2];exact hl)
theorem zK{pl:Pl}(h:j < pl.length):pl.getD j (0,0)∈pl:=by rw [aab,aaa h];exact aaz _
theorem ur{pl:Pl}(nd:m7 pl):KI pl pl=true:=by unfold KI;rw [aav rfl,ab5,abY];intro j hj;exact aav (zi nd (zK (abU.mp hj)))
structure vO(M:Ms)(k:Nat)(p1 p2:Pl):Prop where
 ex:∃k1 k2,M[k]? =some (.eK [Sum.inr "one",Sum.inr "other"] [.loc k1, .loc k2])/\M[k1]? =some (dP p1)/\M[k2]? =some (dP p2)
theorem ay{E:Ms}{k:Nat}{m:MO}(h:M[k]? =some m):(M++E)[k]? =some m:=by rw [aay (aah.mp h).1];exact h
theorem vO.app{E:Ms}{k:Nat}{p1 p2:Pl}(h:vO M k p1 p2):vO (M++E) k p1 p2:=by obtain ⟨k1,k2,a,b,c⟩:=h;exact ⟨k1,k2,ay a,ay b,ay c⟩
def bz(pl:Pl)(i:Nat)(n:Nat):Bool:=match af pl i with
 | some v=>decide (0<=v)&&decide (v < n)
 | none=>false
def Ω(p1 p2:Pl)(k:Str):Option Pl:=if k="one" then some p1 else if k="other" then some p2 else none
def dG(p1 p2:Pl)(i:Nat)(r:Rw):Bool:=match Ω p1 p2 (kindOf r) with
 | some pl=>bz pl i (Ν r).length
 | none=>true
def bV(γ:List Rw)(p1 p2:Pl)(i:Nat):Bool:=match γ[i]? with
 | some r=>dG p1 p2 i r
 | none=>true
def dW(γ:List Rw)(p1 p2:Pl):Nat->Pl
 | 0=>[]
 | n+1=>match (γ[n]?).bind λr=>Ω p1 p2 (kindOf r) with
  | some pl=>eU (dW γ p1 p2 n) n ((af pl n).getD 0)
  | none=>dW γ p1 p2 n
theorem ye(γ:List Rw)(p1 p2:Pl):∀n,(dW γ p1 p2 n).length<=n
 | 0=>aam _
 | n+1=>by
  have ih:=ye γ p1 p2 n;unfold dW;split
  ·unfold eU;split
   ·rw [aac];omega
   ·rw [aaf];exact abZ ih
  ·omega
theorem mQ(γ:List Rw)(p1 p2:Pl):∀(n i:Nat),af (dW γ p1 p2 n) i=if i < n then ((γ[i]?).bind λr=>Ω p1 p2 (kindOf r)).map λpl=>(af pl i).getD 0 else none
 | 0,i=>by rw [aaA (ab6 _)];rfl
 | n+1,i=>by
  have ih:=mQ γ p1 p2 n i;have step:af (dW γ p1 p2 (n+1)) i=if i=n then (match (γ[n]?).bind λr=>Ω p1 p2 (kindOf r) with | some pl=>some ((af pl n).getD 0) | none=>af (dW γ p1 p2 n) i) else af (dW γ p1 p2 n) i:=by
   rw [dW];cases hb:(γ[n]?).bind λr=>Ω p1 p2 (kindOf r) with
   | none=>dsimp only;split <;> rfl
   | some pl=>
    dsimp only;rw [mZ];by_cases e:i=n
    ·rw [aaE e,aaE (by omega)]
    ·rw [aaA e,aaA (by omega)]
  rw [step,ih];by_cases e:i=n
  ·subst e;rw [aaE rfl,aaA (abx _),aaE (abX _)];cases (γ[i]?).bind λr=>Ω p1 p2 (kindOf r) with
   | none=>rfl
   | some pl=>rfl
  ·rw [aaA e];by_cases h:i < n
   ·rw [aaE h,aaE (by omega)]
   ·rw [aaA h,aaA (by omega)]
theorem E6(k:Str):Ei [Sum.inr "one",Sum.inr "other"] (Sum.inr k)=Ζ k:=by
 have e:∀z:Str,decide ((Sum.inr z:Key)=Sum.inr k)=(k==z):=λz=>by
  by_cases h:z=k
  ·rw [decide_eq_true (congrArg Sum.inr h),h];simp
  ·rw [decide_eq_false λy=>h (Sum.inr.inj y)];simp;exact λy=>h y.symm
 show (decide ((Sum.inr (Str.ofString "one"):Key)=Sum.inr k) || (decide ((Sum.inr (Str.ofString "other"):Key)=Sum.inr k) || false))=Ζ k;rw [e,e,Bool.or_false];rfl
theorem iW{p1 p2:Pl}{k:Str}(h:Ζ k=false):Ω p1 p2 k=none:=by unfold Ζ at h;rw [Bool.or_eq_false_iff,beq_eq_false_iff_ne,beq_eq_false_iff_ne] at h;unfold Ω;rw [aaA h.1,aaA h.2]
theorem yN{k:Nat}{p1 p2:Pl}(h:vO M k p1 p2){z:Str}(hz:Ζ z=true):∃ks ds k' pl,M[k]? =some (.eK ks ds)/\av ks ds (Sum.inr z)=some (.loc k')/\Ω p1 p2 z=some pl/\M[k']? =some (dP pl):=by
 obtain ⟨k1,k2,a,b,c⟩:=h;unfold Ζ at hz;rw [ab7,abi,abi] at hz;rcases hz with rfl | rfl
 ·exact ⟨_,_,k1,p1,a,rfl,rfl,b⟩
 ·exact ⟨_,_,k2,p2,a,rfl,rfl,c⟩
def K9(A:Addr):DF:=λas M q _=>∃δ γ i r k pl,as=[Κ A δ γ, .loc k, .int (i:Nat)]/\M[k]? =some (dP pl)/\γ[i]? =some r/\eP r/\q (.bl (bz pl i (Ν r).length)) M
theorem Ao:χ ["floor","plan","place"] ["floor","plan","place"] (ο oZ):= .of rfl
theorem xB(F:dN K "has_door" "has_door" oZ f fd)(E:Ev K mg Cn)(Μ:cz P w K mg base 2 Cn "doors" ["self","place"] (jS Cn) aW aT):ar P w K mg base (cR P w) 3 f fd ["floor","plan","place"] (dE K (K9 Cn)):=by
 refine F.eN Ao (λds M q x h=> ?_) (λbu A outer s H E' hr=>⟨_,(μ (ψ (ee (Mb hr (jv 2) (jv 1)) (ee (ug ξ (b8 hr (jv 1) (jv 2))) (fZ (zB (b8 hr (jv 1) (jv 2)) (c7 E.cE (η (eQ (aY Μ hr ν (jv 0) (Ο (jv 2) ζ))) ζ aP)))))))),λds M q x h=> ?_⟩)
 ·obtain ⟨δ,γ,i,r,k,pl,rfl,_⟩:=h;rfl
 ·obtain ⟨δ,γ,i,r,k,pl,rfl,hk,hi,ro,h⟩:=h;unfold bz at h;have gi:(Sum.inl (i:Int):Key)=Sum.inl ((i:Nat):Int):=rfl;refine ⟨k,_,_,Sum.inl (i:Int),rfl,hk,rfl, ?_⟩;rw [BX];cases hg:af pl i with
  | none=>
   rw [hg] at h;exact ⟨λz=>(nomatch z),λ_=>h⟩
  | some v=>
   rw [hg] at h;have h:q (.bl (decide (0<=v)&&decide (v < ((Ν r).length:Int)))) M:=h;have dg:av (kP pl) (vP pl) (Sum.inl (i:Int))=some (.int v):=by rw [kF,hg];rfl
   refine ⟨λ_=> ?_,λz=>(nomatch z)⟩;refine ⟨k,_,_,Sum.inl (i:Int),_,rfl,hk,rfl,dg, ?_⟩;refine ⟨λz=> ?_,λz=> ?_⟩
   ·have z:0<=v:=aaH z;rw [aav z,ab5] at h;refine ⟨k,_,_,Sum.inl (i:Int),_,rfl,hk,rfl,dg, ?_⟩;refine ⟨⟨_,_, .inl rfl,rfl⟩,δ,γ,i,r,rfl,hi,ro,fg (dJ _) ?_⟩;walk_at "vc";refine (az (d:= .lst ((Ν r).map a_)) (xs:=(Ν r).map a_) rfl ?_:gC [.lst ((Ν r).map a_)] _ _);rw [aac];exact h
   ·have z:¬0<=v:=aaW z;rw [aaD z,Bool.false_and] at h;have key:decide (0<=v)=false:=aaD z;exact h
def va(A:Addr):DF:=λas M q _=>∃δ γ k p1 p2,as=[Κ A δ γ, .loc k]/\vO M k p1 p2/\zA δ γ/\(∀i,i < γ.length->bV γ p1 p2 i=true)/\q (.loc M.length) (M++[dP (dW γ p1 p2 γ.length)])
theorem iM:χ ["floor","plans","doors","place","hand"] ["floor","plans"] (ο nW):= .of rfl
theorem xI(F:dN K "doors_of" "doors_of" nW f fd)(E:Ev K mg Cn)(ao:cz P w K mg base 1 Cn "size" ["self"] (qk Cn) b7 bZ)(Ε:cz P w K mg base 1 Cn "kind" ["self","place"] (j5 Cn) aA aC){BN:Addr}{C0:FuncData}(ly:aE P w K mg base 3 "has_door" ["floor","plan","place"] (K9 Cn) BN C0):ar P w K mg base (cR P w) 4 f fd ["floor","plans"] (dE K (va Cn)):=by
 refine F.eN iM (λds M q x h=> ?_) (λbu A outer s H E' hr=>⟨_,(ι (π 2 iM.nd xP)
   (ι (gj (bq E.bh (η (iX ao hr ν (jv 0)) ζ aP)) (Ι (i:=3) iM.nd rfl (Or.inl rfl)) aJ (ι (π 4 iM.nd (aY Ε hr ν (jv 0) (Ο (jv 3) ζ)))
   (ι (aI (AD hr (jv 4) (jv 1)) (μ l_) Ξ)
   (ι (aI (ie (da (aj ly hr ν (Ο (jv 0) (η (b8 hr (jv 1) (jv 4)) (Ο (jv 3) ζ) ax))))) (μ iw) Ξ)
   (μ (yL hr (jv 2) (jv 3) (b8 hr (b8 hr (jv 1) (jv 4)) (jv 3))))))))
   (μ (ψ (jv 2))))),λds M q x h=> ?_⟩)
 ·obtain ⟨δ,γ,k,p1,p2,rfl,_⟩:=h;rfl
 ·obtain ⟨δ,γ,k,p1,p2,rfl,tw,pl,UA,hg⟩:=h;have GX:=pl.len;have km:k≠M.length:=λe=>by obtain ⟨k1,k2,a,_⟩:=tw;rw [e,abP (aam _)] at a;cases a
  walk_at "vc";refine ⟨⟨_,_, .inl rfl,rfl⟩,δ,γ,rfl, ?_⟩;refine ⟨by omega, ?_⟩;rw [show ((γ.length:Int)).toNat=γ.length by omega];refine cK (λzs ρ' M'=>∃(i m:Nat) (o3 o4:Option Dt),zs=dY (i:Int) m/\i+m=γ.length/\M'=M++[dP (dW γ p1 p2 i)]/\ρ'=[some (Κ Cn δ γ),some (.loc k),some (.loc M.length),o3,o4]) (λx zs ρ' M' hj gO=> ?_) (λρ' M' hj=> ?_) _ _ _ ⟨0,γ.length,none,none,rfl,by omega,rfl,rfl⟩
  ·obtain ⟨i,m,o3,o4,ex,im,rfl,rfl⟩:=hj;obtain ⟨m',rfl,rfl,rfl⟩:=cy ex;have il:i < γ.length:=by omega
   have hi:γ[i]? =some γ[i]:=aaa il;generalize AJ:γ[i]=r at *
   have rm:r∈γ:=aag hi;have ro:=(pl.row r rm).1;have ga:bV γ p1 p2 i=dG p1 p2 i r:=by unfold bV;rw [hi]
   have ac:∀wm,Ω p1 p2 (kindOf r)=some wm->dW γ p1 p2 (i+1)=eU (dW γ p1 p2 i) i ((af wm i).getD 0):=λwm e=>by rw [dW,hi];show (match Ω p1 p2 (kindOf r) with | some pl=>_ | none=>_)=_;rw [e]
   have an:Ω p1 p2 (kindOf r)=none->dW γ p1 p2 (i+1)=dW γ p1 p2 i:=λe=>by rw [dW,hi];show (match Ω p1 p2 (kindOf r) with | some pl=>_ | none=>_)=_;rw [e]
   have QU:vO (M++[dP (dW γ p1 p2 i)]) k p1 p2:=tw.app;obtain ⟨c1,c2,ca,cb,cc⟩:=QU;refine ⟨⟨_,_, .inl rfl,rfl⟩,δ,γ,i,r,rfl,hi, ?_⟩;refine ⟨k,_,_,Sum.inr (kindOf r),rfl,ca,rfl, ?_⟩;rw [E6];cases hh:Ζ (kindOf r) with
   | false=>
    refine ⟨λ_=> ?_,λz=>(nomatch z)⟩;have e:=iW (p1:=p1) (p2:=p2) hh;refine gO _ _ ⟨i+1,m',_,_,by rw [abc];rfl,by omega,by rw [an e],rfl⟩
   | true=>
    refine ⟨λz=>(nomatch z),λ_=> ?_⟩;obtain ⟨ks,ds,k',wm,g1,g2,g3,g4⟩:=yN (M:=M++[dP (dW γ p1 p2 i)]) tw.app hh;refine ⟨k,ks,ds,Sum.inr (kindOf r),_,rfl,g1,rfl,g2, ?_⟩;have gr:dG p1 p2 i r=bz wm i (Ν r).length:=by unfold dG;rw [g3]
    refine ⟨δ,γ,i,r,k',wm,rfl,g4,hi,ro,λz=> ?_,λz=> ?_⟩
    ·have z:bz wm i (Ν r).length=false:=by simpa using z
     have:=UA i il;rw [ga,gr,z] at this;cases this
    ·have z:bz wm i (Ν r).length=true:=by simpa using z
     obtain ⟨v,hv⟩:∃v,af wm i=some v:=by
      unfold bz at z;cases hv:af wm i with
      | none=>rw [hv] at z;cases z
      | some v=>exact ⟨v,rfl⟩
     have dg:av (kP wm) (vP wm) (Sum.inl (i:Int))=some (.int v):=by rw [kF,hv];rfl
     dsimp only [xv,yz];walk_at "vc";refine ⟨k,ks,ds,Sum.inr (kindOf r),_,rfl,g1,rfl,g2, ?_⟩;refine ⟨k',_,_,Sum.inl (i:Int),_,rfl,g4,rfl,dg, ?_⟩;refine ⟨M.length,_,_,Sum.inl (i:Int),rfl,aO,rfl, ?_, ?_⟩
     ·unfold kP;rw [List.length_map];have:=ye γ p1 p2 i;omega
     rw [Cs (v:=v),Cw,eu];have e:=ac wm g3;rw [hv] at e;have e:dW γ p1 p2 (i+1)=eU (dW γ p1 p2 i) i v:=e;refine gO _ _ ⟨i+1,m',_,_,by rw [abc];rfl,by omega,by rw [e],rfl⟩
  ·obtain ⟨i,m,o3,o4,ex,im,rfl,rfl⟩:=hj;have m0:m=0:=by have:=aa5 List.length ex;rw [cI] at this;exact this.symm
   have:i=γ.length:=by omega
   subst this;exact hg
structure pM(γ:List Rw)(υ:Pl):Prop where
 hand:∀(i:Nat) (r:Rw),γ[i]? =some r->Ζ (kindOf r)=true->∃j:Nat,af υ i=some (j:Int)/\j < (Ν r).length
 wK:∀(i:Nat) (r:Rw),γ[i]? =some r->Ζ (kindOf r)=false->af υ i=none
theorem HP{γ:List Rw}{p1 p2:Pl}(h:∀i,i < γ.length->bV γ p1 p2 i=true):pM γ (dW γ p1 p2 γ.length):=by
 refine ⟨λi r hi hk=> ?_,λi r hi hk=> ?_⟩
 ·have il:=(aah.mp hi).1;have g:=h i il;unfold bV at g;rw [hi] at g;have g:dG p1 p2 i r=true:=g;obtain ⟨pl,e⟩:∃pl,Ω p1 p2 (kindOf r)=some pl:=by
   unfold Ζ at hk;rw [ab7,abi,abi] at hk;rcases hk with e | e <;> rw [e]
   ·exact ⟨p1,rfl⟩
   ·exact ⟨p2,rfl⟩
  unfold dG at g;rw [e] at g;have g:bz pl i (Ν r).length=true:=g;unfold bz at g;cases hv:af pl i with
  | none=>rw [hv] at g;cases g
  | some v=>
   rw [hv] at g;have g:(decide (0<=v)&&decide (v < ((Ν r).length:Int)))=true:=g;rw [aaF,aat,aat] at g;refine ⟨v.toNat, ?_,by omega⟩;rw [mQ,aaE il,hi];show Option.map (λpl=>(af pl i).getD 0) (Ω p1 p2 (kindOf r))=_;rw [e];show some ((af pl i).getD 0)=_;rw [hv,abf g.1];rfl
 ·have il:=(aah.mp hi).1;rw [mQ,aaE il,hi];show Option.map (λpl=>(af pl i).getD 0) (Ω p1 p2 (kindOf r))=_;rw [iW hk];rfl
def bj(υ:Pl)(i:Nat)(r:Rw):List dj:=match af υ i with
 | some j=>let d:=(Ν r).getD j.toNat d0;[(d.1,d.2.1,d.2.2++[(1,1)])]
 | none=>Ν r
def cj(δ:Fr)(γ:List Rw)(υ:Pl)(tb:List Fr):List Fr:=(List.range γ.length).map λi:Nat=>match γ[i]? with
 | some r=>(match af υ i with
  | some j=>aU δ tb ((Ν r).getD j.toNat d0)
  | none=>oa δ tb r)
 | none=>(0,1)
def bM(γ:List Rw):List Fr:=γ.map λr=>match r with
 | .fin p=>p
 | .τ _ _=>(0,1)
def Hb(A:Addr):DF:=λas M q _=>∃δ γ i r k υ,as=[Κ A δ γ, .int (i:Nat), .loc k]/\M[k]? =some (dP υ)/\γ[i]? =some r/\eP r/\pM γ υ/\q (.lst ((bj υ i r).map a_)) M
theorem pf:χ ["floor","place","doors","ways"] ["floor","place","doors"] (ο lA):= .of rfl
theorem uS(F:dN K "ways_from" "ways_from" lA f fd)(E:Ev K mg Cn)(Μ:cz P w K mg base 2 Cn "doors" ["self","place"] (jS Cn) aW aT)(Ε:cz P w K mg base 1 Cn "kind" ["self","place"] (j5 Cn) aA aC):ar P w K mg base (cR P w) 3 f fd ["floor","place","doors"] (dE K (Hb Cn)):=by
 refine F.eN pf (λds M q x h=> ?_) (λbu A outer s H E' hr=>⟨_,(ι (π 3 pf.nd (eQ (aY Μ hr ν (jv 0) (Ο (jv 1) ζ))))
   (ι (aI (wY (aY Ε hr ν (jv 0) (Ο (jv 1) ζ)) (CU E.sD)) (μ (ψ (kO (η (ck (Α (jv 3) (b8 hr (jv 2) (jv 1))) (iN 3 (d:= .tup [.tup [.int 1, .int 1]]) (by rfl))) ζ aX)))) Ξ)
   (μ (ψ (jv 3))))),λds M q x h=> ?_⟩)
 ·obtain ⟨δ,γ,i,r,k,υ,rfl,_⟩:=h;rfl
 ·obtain ⟨δ,γ,i,r,k,υ,rfl,hk,hi,ro,dk,h⟩:=h;refine ⟨⟨_,_, .inl rfl,rfl⟩,δ,γ,i,r,rfl,hi,ro,fg (dJ _) ?_⟩;refine ⟨⟨_,_, .inl rfl,rfl⟩,δ,γ,i,r,rfl,hi, ?_⟩;refine ⟨_,_,_,rfl,rfl,rfl, ?_⟩;rw [oW];cases hh:Ζ (kindOf r) with
  | true=>
   refine ⟨λ_=> ?_,λz=>(nomatch z)⟩;obtain ⟨j,hj,jl⟩:=dk.hand i r hi hh;have dg:av (kP υ) (vP υ) (Sum.inl (i:Int))=some (.int (j:Int)):=by rw [kF,hj];rfl
   have e:bj υ i r=[(((Ν r).getD j d0).1,((Ν r).getD j d0).2.1,((Ν r).getD j d0).2.2++[(1,1)])]:=by unfold bj;rw [hj];rfl
   rw [e] at h;have gd:(Ν r).getD j d0=(Ν r)[j]:=by rw [aab,aaa jl];rfl
   have dm:(Ν r)[j].2.2.length<=1:=by
    cases r with
    | fin p=>exact aaJ jl (ab6 _)
    | τ k' ds=>exact (ro.2.2.2 _ (aaz jl)).1
   rw [gd] at h;obtain ⟨d,hd⟩:∃d,d=(Ν r)[j]:=⟨_,rfl⟩;rw [<-hd] at h dm;walk_at "vc";refine ⟨k,_,_,Sum.inl (i:Int),_,rfl,hk,rfl,dg, ?_⟩;refine (ω (d:= .lst ((Ν r).map a_)) rfl (Bt jl) ?_:cB (.lst ((Ν r).map a_)) (.int (j:Int)) _ _);rw [<-hd];have sz:∀{z:Nat},z<=1000->z<=sizeLine:=λh=>aaI h (by decide);refine ⟨⟨λz=>(nomatch z),sz ?_⟩,sz (by decide), ?_⟩
   ·simp;omega
   have e2:a_ (d.1,d.2.1,d.2.2++[(1,1)])= .tup ((.int d.1::Δ d.2.1::d.2.2.map Δ)++[.tup [.int 1, .int 1]]):=by unfold a_;rw [List.map_append];rfl
   have h:q (.lst [a_ (d.1,d.2.1,d.2.2++[(1,1)])]) M:=h;rw [e2] at h;exact h
  | false=>
   refine ⟨λz=>(nomatch z),λ_=> ?_⟩;have e:bj υ i r=Ν r:=by unfold bj;rw [dk.wK i r hi hh]
   rw [e] at h;exact h
def Cb(A:Addr):DF:=λas M q _=>∃δ γ,as=[Κ A δ γ]/\γ.length<=12/\(∀r∈γ,eP r)/\q (.lst ((bM γ).map Δ)) M
theorem kM:χ ["floor"] ["floor"] (ο iG):= .of rfl
theorem pT(F:dN K "first_means" "first_means" iG f fd)(E:Ev K mg Cn)(ao:cz P w K mg base 1 Cn "size" ["self"] (qk Cn) b7 bZ)(bx:cz P w K mg base 2 Cn "pay" ["self","place"] (FJ Cn) gz gF):ar P w K mg base (cR P w) 3 f fd ["floor"] (dE K (Cb Cn)):=by
 refine F.eN kM (λds M q x h=> ?_) (λbu A outer s H E' hr=>⟨_,(μ (ψ (D6 (ys:=["floor"]) (Ψ:=[0]) (.of kM rfl rfl rfl) (bq E.bh (η (iX ao hr ν (jv 0)) ζ aP)) (λC s H fp=>(u6 (J8 (aY bx hr (iO (P:=P) (w:=w)) (jv 1) (Ο (jv 0) ζ)) Mc) (aV (η ξ (η ξ ζ aL) aL)) (aY bx hr (iO (P:=P) (w:=w)) (jv 1) (Ο (jv 0) ζ))))))),λds M q x h=> ?_⟩)
 ·obtain ⟨δ,γ,rfl,_⟩:=h;rfl
 ·obtain ⟨δ,γ,rfl,GX,ro,h⟩:=h;have sz:∀{z:Nat},z<=1000->z<=sizeLine:=λh=>aaI h (by decide);walk_at "vc";dsimp only [u3];walk_at "vc";refine ⟨⟨_,_, .inl rfl,rfl⟩,δ,γ,rfl, ?_⟩;refine ⟨⟨by omega,by omega⟩,by rw [cI];exact sz (by omega), ?_⟩;refine lx (f:=λx=>match x with | .int j=>Δ ((bM γ).getD j.toNat (0,1)) | _=> .ba) _ _ (λx EI q' hq=> ?_) ?_
  ·obtain ⟨j,hj,rfl⟩:=j4 EI;have hj:j < γ.length:=by omega
   rw [Int.zero_add] at hq⊢;have hi:γ[j]? =some γ[j]:=aaa hj;have e:(bM γ).getD j (0,1)=match γ[j] with | .fin p=>p | .τ _ _=>(0,1):=by unfold bM;rw [aab,aax,hi];rfl
   have hq:q' (Δ ((bM γ).getD j (0,1))) M:=hq;rw [e] at hq;have rj:=ro _ (aaz hj);generalize γ[j]=r at *
   walk_at "vc";refine ⟨⟨_,_, .inl rfl,rfl⟩,δ,γ,j,r,rfl,hi,rj, ?_⟩;cases r with
   | fin p=>
    refine ⟨λz=>(nomatch z),λ_=> ?_⟩;exact ⟨⟨_,_, .inl rfl,rfl⟩,δ,γ,j, .fin p,rfl,hi,rj,hq⟩
   | τ k ds=>exact ⟨λ_=>⟨sz (by decide),hq⟩,λz=>(nomatch z)⟩
  ·have fl:(bM γ).length=γ.length:=by unfold bM;simp
   have:=yZ (bM γ) (0,1) Δ;rw [fl] at this;rw [aa3,show ((γ.length:Int)).toNat=γ.length by omega];rw [<-this] at h;exact h
def G9(A:Addr):DF:=λas M q _=>∃δ γ k υ tb E B F C,as=[Κ A δ γ, .loc k, .lst (tb.map Δ)]/\M[k]? =some (dP υ)/\pM γ υ/\Fl δ γ E B/\Gr F C/\Tb γ (E * F) C tb/\q (.loc M.length) (M++[.lst ((cj δ γ υ tb).map Δ)])
theorem iy:χ ["floor","doors","means","told","place"] ["floor","doors","means"] (ο jI):= .of rfl
theorem sL(F:dN K "more_means" "more_means" jI f fd)(E:Ev K mg Cn)(ao:cz P w K mg base 1 Cn "size" ["self"] (qk Cn) b7 bZ){h8:Addr}{iH:FuncData}(cN:cz P w K mg base 4 Cn "shown" ["self","place","door","table"] (xZ Cn) h8 iH){wQ:Addr}{xq:FuncData}(ir:cz P w K mg base 6 Cn "look" ["self","place","table"] (Hj Cn) wQ xq):ar P w K mg base (cR P w) 7 f fd ["floor","doors","means"] (dE K (G9 Cn)):=by
 refine F.eN iy (λds M q x h=> ?_) (λbu A outer s H E' hr=>⟨_,(ι (π 3 iy.nd (ic ζ))
   (ι (gj (bq E.bh (η (iX ao hr ν (jv 0)) ζ aP)) (Ι (i:=4) iy.nd rfl (Or.inl rfl)) aJ (μ (aI (Ir hr (jv 4) (jv 1)) (μ (c_ (cY (jv 3) (η (aY cN hr ν (jv 0) (Ο (jv 4) (η (b8 hr (jv 1) (jv 4)) (Ο (jv 2) ζ) ax))) ζ aP)))) (μ (c_ (cY (jv 3) (η (aY ir hr ν (jv 0) (Ο (jv 4) (Ο (jv 2) ζ))) ζ aP)))))))
   (μ (ψ (jv 3))))),λds M q x h=> ?_⟩)
 ·obtain ⟨δ,γ,k,υ,tb,E,B,F,C,rfl,_⟩:=h;rfl
 ·obtain ⟨δ,γ,k,υ,tb,Ep,B,Ft,C,rfl,hk,dk,fl,g,ht,h⟩:=h;have GX:=fl.pl.len;refine ⟨by decide, ?_⟩;walk_at "vc";refine ⟨⟨_,_, .inl rfl,rfl⟩,δ,γ,rfl, ?_⟩;refine ⟨⟨by omega,by omega⟩, ?_⟩;rw [show ((γ.length:Int)).toNat=γ.length by omega];have ml:(cj δ γ υ tb).length=γ.length:=by unfold cj;simp
  refine cK (λzs ρ' M'=>∃(i m:Nat) (o4:Option Dt),zs=dY (i:Int) m/\i+m=γ.length/\M'=M++[.lst (((cj δ γ υ tb).take i).map Δ)]/\ρ'=[some (Κ Cn δ γ),some (.loc k),some (.lst (tb.map Δ)),some (.loc M.length),o4]) (λx zs ρ' M' hj gO=> ?_) (λρ' M' hj=> ?_) _ _ _ ⟨0,γ.length,none,rfl,by omega,rfl,rfl⟩
  ·obtain ⟨i,m,o4,ex,im,rfl,rfl⟩:=hj;obtain ⟨m',rfl,rfl,rfl⟩:=cy ex;have il:i < γ.length:=by omega
   have hi:γ[i]? =some γ[i]:=aaa il;generalize AJ:γ[i]=r at *
   have rm:r∈γ:=aag hi;have ro:=(fl.pl.row r rm).1;have mi:(cj δ γ υ tb)[i]? =some (match af υ i with | some j=>aU δ tb ((Ν r).getD j.toNat d0) | none=>oa δ tb r):=by unfold cj;rw [aax,abF il];show some (match γ[i]? with | some r=>_ | none=>_)=_;rw [hi]
   have tk:(cj δ γ υ tb).take (i+1)=(cj δ γ υ tb).take i++[match af υ i with | some j=>aU δ tb ((Ν r).getD j.toNat d0) | none=>oa δ tb r]:=by rw [List.take_succ,mi];rfl
   have Kh:(M++[MO.lst (((cj δ γ υ tb).take i).map Δ)])[k]? =some (dP υ):=ay hk;have app:∀v,v=(match af υ i with | some j=>aU δ tb ((Ν r).getD j.toNat d0) | none=>oa δ tb r)->∀Dn:ia,(∀o4,Dn.nx [some (Κ Cn δ γ),some (.loc k),some (.lst (tb.map Δ)),some (.loc M.length),o4] (M++[.lst (((cj δ γ υ tb).take (i+1)).map Δ)]))->True:=λ_ _ _ _=>trivial;refine ⟨k,_,_,Sum.inl (i:Int),rfl,Kh,rfl, ?_⟩;rw [BX];have lt:(((cj δ γ υ tb).take i).map Δ).length < sizeLine:=by rw [aac,List.length_take];exact aaM (show _<=12 by omega) (by decide)
   have fin:=λo4=>gO [some (Κ Cn δ γ),some (.loc k),some (.lst (tb.map Δ)),some (.loc M.length),o4] (M++[.lst (((cj δ γ υ tb).take (i+1)).map Δ)]) ⟨i+1,m',o4,by rw [abc];rfl,by omega,rfl,rfl⟩;rw [tk,abd] at fin;clear app tk;cases hh:Ζ (kindOf r) with
   | true=>
    obtain ⟨j,hj,jl⟩:=dk.hand i r hi hh;rw [hj] at fin⊢;refine ⟨λ_=> ?_,λz=>(nomatch z)⟩;cases r with
    | fin p=>exact aaJ jl (ab6 _)
    | τ kd ds=>
     have dg:av (kP υ) (vP υ) (Sum.inl (i:Int))=some (.int (j:Int)):=by rw [kF,hj];rfl
     have jl:j < ds.length:=jl;have gd:ds.getD j d0=ds[j]:=by rw [aab,aaa jl];rfl
     refine ⟨⟨_,_,rfl,aO⟩, ?_⟩;refine ⟨⟨_,_, .inl rfl,rfl⟩, ?_⟩;walk_at "vc";refine ⟨k,_,_,Sum.inl (i:Int),_,rfl,Kh,rfl,dg, ?_⟩;refine ⟨δ,γ,tb,i,j,kd,ds,ds[j],Ep,B,Ft,C,rfl,hi,aaa jl,fl,g,ht, ?_⟩;refine ⟨M.length,_,_,rfl,rfl,aO,lt, ?_⟩;rw [eu];have fin:∀o4,_:=fin;have e:aU δ tb ((Ν (.τ kd ds)).getD ((j:Int)).toNat d0)=aU δ tb ds[j]:=by show aU δ tb (ds.getD ((j:Int)).toNat d0)=_;rw [abo,gd]
     have f2:=fin (some (.int (i:Int)));dsimp only at f2;rw [e] at f2;exact f2
   | false=>
    have hn:=dk.wK i r hi hh;rw [hn] at fin⊢;refine ⟨λz=>(nomatch z),λ_=> ?_⟩;have kd:kindOf r="chance"\/kindOf r="end":=by
     cases r with
     | fin p=>exact .inr rfl
     | τ k' ds=>
      rcases (aq fl.pl rm).kd with z | ⟨_,z,_⟩
      ·have hh:Ζ k'=false:=hh;rw [z] at hh;cases hh
      ·exact .inl z
    refine ⟨⟨_,_,rfl,aO⟩, ?_⟩;refine ⟨⟨_,_, .inl rfl,rfl⟩, ?_⟩;walk_at "vc";refine ⟨δ,γ,tb,i,r,Ep,B,Ft,C,rfl,hi,kd,fl,g,ht, ?_⟩;refine ⟨M.length,_,_,rfl,rfl,aO,lt, ?_⟩;rw [eu];exact fin (some (.int (i:Int)))
  ·obtain ⟨i,m,o4,ex,im,rfl,rfl⟩:=hj;have m0:m=0:=by have:=aa5 List.length ex;rw [cI] at this;exact this.symm
   have:i=γ.length:=by omega
   subst this;rw [<-ml,List.take_length];exact h
def eE(f:Nat->Rat):Nat->Rat
 | 0=>0
 | n+1=>eE f n+f n
def bD(f:dj->Rat):List dj->Rat
 | []=>0
 | d::ds=>f d+bD f ds
theorem d7{f g:Nat->Rat}:∀{n:Nat},(∀i,i < n->f i=g i)->eE f n=eE g n
 | 0,_=>rfl
 | n+1,h=>by show eE f n+f n=eE g n+g n;rw [d7 λi hi=>h i (Nat.lt_succ_of_lt hi),h n (abX _)]
theorem uz(a b:Rat)(f g:Nat->Rat):∀n,eE (λi=>a * f i - b * g i) n=a * eE f n - b * eE g n
 | 0=>by show (0:Rat)=a * 0 - b * 0;grind
 | n+1=>by show eE (λi=>a * f i - b * g i) n+(a * f n - b * g n)=a * (eE f n+f n) - b * (eE g n+g n);rw [uz a b f g n];grind
theorem t_{t:Nat}(y:Nat->Rat):∀{n:Nat},n<=t->eE (λx=>(if x=t then 1 else 0) * y x) n=0
 | 0,_=>rfl
 | n+1,h=>by show eE (λx=>(if x=t then 1 else 0) * y x) n+(if n=t then 1 else 0) * y n=0;rw [t_ y (by omega),if_neg (by omega)];grind
theorem kr{t:Nat}(y:Nat->Rat):∀{n:Nat},t < n->eE (λx=>(if x=t then 1 else 0) * y x) n=y t
 | 0,h=>aaJ h (ab6 _)
 | n+1,h=>by
  show eE (λx=>(if x=t then 1 else 0) * y x) n+(if n=t then 1 else 0) * y n=y t;by_cases e:n=t
  ·subst e;rw [t_ y (Nat.le_refl _),if_pos rfl];grind
  ·rw [kr y (by omega),if_neg e];grind
theorem ni{f g:dj->Rat}:∀{ds:List dj},(∀d∈ds,f d=g d)->bD f ds=bD g ds
 | [],_=>rfl
 | d::ds,h=>by show f d+bD f ds=g d+bD g ds;rw [h d aae,ni λx hx=>h x (aad _ hx)]
abbrev cV(d:dj):Rat:=val (θ d)
theorem JX{c:Fr}(h:0 < c.2)(hd:c.2∣B):((jx B c:Int):Rat)=val c * B:=by
 obtain ⟨k,rfl⟩:=hd;unfold jx val;rw [abj _ (by omega),aaY,aaY];have:=bJ (show c.2≠0 by omega);generalize (c.1:Rat)=a at *
 generalize (c.2:Rat)=b at *
 generalize (k:Rat)=e at *
 grind
theorem DP{B:Int}:∀{ds:List dj},(∀d∈ds,0 < (θ d).2/\(θ d).2∣B)->((((ds.map θ).map (jx B)).sum:Int):Rat)=bD cV ds * B
 | [],_=>by show ((0:Int):Rat)=0 * B;grind
 | d::ds,h=>by have i:=DP (ds:=ds) λx hx=>h x (aad _ hx);obtain ⟨a,b⟩:=h d aae;show (((jx B (θ d)+((ds.map θ).map (jx B)).sum:Int)):Rat)=(cV d+bD cV ds) * B;rw [Rat.intCast_add,i,JX a b];grind
theorem nh{c:Fr}(h:0 < c.2)(h0:0<=c.1):0<=val c:=by
 have e:val c * (c.2:Rat)=c.1:=by
  have:=bJ (show c.2≠0 by omega);unfold val;generalize (c.1:Rat)=x at *
  generalize (c.2:Rat)=y at *
  grind
 have p:(0:Rat) < (c.2:Rat):=Rat.intCast_lt_intCast.mpr h;have q:(0:Rat)<=(c.1:Rat):=Rat.intCast_le_intCast.mpr h0;by_cases z:0<=val c
 ·exact z
 ·have:=Rat.mul_pos (show 0 < -val c by grind) p;grind
theorem FN{ds:List dj}(o:kZ (ds.map θ)):bD cV ds=1/\∀d∈ds,0<=cV d:=by
 obtain ⟨_,_,hB⟩:=ik (ds.map θ) 1 0 (by decide) (acd _) λc hc=>⟨(o.wq.2 c hc).1,acd _⟩;have hm:∀d∈ds,θ d∈ds.map θ:=λd hd=>aas.mpr ⟨d,hd,rfl⟩;have e:=DP (B:=ae (ds.map θ)) (ds:=ds) λd hd=>⟨(o.wq.2 _ (hm d hd)).1,hB _ (hm d hd)⟩;rw [o.sum] at e;have b0:=bJ (show ae (ds.map θ)≠0 by have:=o.b0;omega);refine ⟨?_,λd hd=> ?_⟩
 ·generalize ((ae (ds.map θ):Int):Rat)=b at *
  grind
 ·refine nh (o.wq.2 _ (hm d hd)).1 ?_;have p:=o.pos _ (hm d hd);unfold jx at p;have q0:0<=ae (ds.map θ) / (θ d).2:=Int.ediv_nonneg (aai o.b0) (aai (o.wq.2 _ (hm d hd)).1);rcases ace (θ d).1 0 with z | z
  ·have:=Int.mul_nonpos_of_nonpos_of_nonneg (aai z) q0;omega
  ·exact z
theorem vg{ns:List Fr}{t x:Nat}{a:Fr}(h:t < ns.length):(ns.set t a).getD x (0,1)=if x=t then a else ns.getD x (0,1):=by
 rw [aab,List.getElem?_set];by_cases e:x=t
 ·subst e;rw [aaE rfl,aaE h,aaE rfl];rfl
 ·rw [aaA (Ne.symm e),aaA e,<-aab]
theorem nJ(f:dj->Rat):∀(l r:List dj),bD f (l++r)=bD f l+bD f r
 | [],r=>by show bD f r=0+bD f r;grind
 | d::l,r=>by show f d+bD f (l++r)=f d+bD f l+bD f r;rw [nJ f l r];grind
def Pf(γ:List Rw)(υ:Pl)(f:Nat->Rat)(i:Nat):Rat:=match γ[i]? with
 | some (.τ k ds)=>bD (λd=>cV d * f d.1.toNat) (bj υ i (.τ k ds))
 | _=>f i
def NO(γ:List Rw)(υ:Pl):Nat->(Nat->Rat)->Nat->Rat
 | 0,f=>f
 | t+1,f=>NO γ υ t (Pf γ υ f)
def oy(tl:List Fr)(f:Nat->Rat)(n:Nat):Rat:=eE (λj=>val (tl.getD j (0,1)) * f j) n
theorem vX{tl:List Fr}{t:Nat}{v:Fr}{f:Nat->Rat}(hl:tl.length=n)(ht:t < n):oy (tl.set t v) f n=oy tl f n+(val v - val (tl.getD t (0,1))) * f t:=by
 unfold oy
 rw [d7 (g:=λj=>1 * (val (tl.getD j (0,1)) * f j) - (val (tl.getD t (0,1)) - val v) * ((if j=t then 1 else 0) * f j)) λj hj=>by
  rw [vg (by omega)];by_cases e:j=t
  ·subst e;rw [if_pos rfl,if_pos rfl];grind
  ·rw [if_neg e,if_neg e];grind]
 rw [uz,kr f ht];grind
theorem gE(f:Nat->Rat)(n:Nat):eE f (n+1)=eE f n+f n:=rfl
theorem Dr:∀{n:Nat} {f:Nat->Rat},(∀i,i < n->f i=0)->eE f n=0
 | 0,_,_=>rfl
 | n+1,f,h=>by rw [gE,Dr λi hi=>h i (Nat.lt_succ_of_lt hi),h n (Nat.lt_succ_self _)];grind
theorem Ki{f:Nat->Rat}:oy (List.replicate n ((0,1):Fr)) f m=0:=Dr λi _=>by
 have:val ((List.replicate n ((0,1):Fr)).getD i (0,1))=0:=by
  rw [aab,abC];have:val ((0,1):Fr)=0:=by show ((0:Int):Rat) / ((1:Int):Rat)=0;grind
  split <;> exact this
 rw [this];grind
theorem tH{k:Nat}(h:M[k]? =some (MO.lst xs)):g6 M (.loc k)=some (xs,λM':Ms=>M'[k]? =some (MO.lst xs)):=by show (match M[k]? with | some (MO.lst xs)=>some (xs,λM':Ms=>M'[k]? =some (MO.lst xs)) | _=>none)=_;rw [h]
theorem x8(p q:Fr):Λ p q=Λ q p:=by unfold Λ;rw [aaT p.1,aaT p.2]
theorem lL{k:Nat}(h:M[k]? =some (MO.lst xs)):mJ M (.loc k)=some xs:=by show (match M[k]? with | some (MO.lst xs)=>some xs | _=>none)=some xs;rw [h]
theorem xk{p:Nat}(h:p < n):AV n (p:Int)=some p:=by unfold AV;rw [aaE (by omega),aaE (by omega),abo]
theorem uk{α:Type}(a:α):∀u:Nat,(List.replicate u [a]).flatten=List.replicate u a
 | 0=>rfl
 | u+1=>by rw [aa9,abm,uk a u];rfl
structure Hx(γ:List Rw)(B:Int)(w:dj):Prop where
 ex:∃(t:Nat) (c:Fr),w.1=(t:Int)/\t < γ.length/\w.2.2=[c]/\Ch B c
theorem J1:Ch B (1,1):=⟨by decide,⟨B,by simp⟩,⟨by decide,by decide⟩,eT (k:=2) ⟨by decide,by decide,by decide⟩ (by decide)⟩
theorem Gf{δ:Fr}{γ:List Rw}{υ:Pl}(fl:Fl δ γ E B)(dk:pM γ υ){r:Rw}(hi:γ[i]? =some r)(hk:kindOf r≠"end"):(bj υ i r).length<=6/\∀w∈bj υ i r,Hx γ B w:=by
 have rm:r∈γ:=aag hi;cases r with
 | fin p=>exact aaJ rfl hk
 | τ k ds=>
  have dr:=aq fl.pl rm;cases hh:Ζ k with
  | true=>
   obtain ⟨j,hj,jl⟩:=dk.hand i _ hi hh;have jl:j < ds.length:=jl;have gd:ds.getD j d0=ds[j]:=by rw [aab,aaa jl];rfl
   have e:bj υ i (.τ k ds)=[(ds[j].1,ds[j].2.1,ds[j].2.2++[(1,1)])]:=by unfold bj;rw [hj];show [((ds.getD ((j:Int)).toNat d0).1,(ds.getD ((j:Int)).toNat d0).2.1,(ds.getD ((j:Int)).toNat d0).2.2++[(1,1)])]=_;rw [abo,gd]
   rw [e];refine ⟨by simp,λw hw=> ?_⟩;rw [List.mem_singleton.mp hw];obtain ⟨t0,t1⟩:=dr.to _ (aaz jl);refine ⟨⟨ds[j].1.toNat,(1,1),(abf t0).symm,by omega, ?_,J1⟩⟩;show ds[j].2.2++[(1,1)]=_;rw [fl.Po k ds rm hh _ (aaz jl)];rfl
  | false=>
   have hc:k="chance":=by
    rcases dr.kd with z | ⟨_,z,_⟩
    ·rw [z] at hh;cases hh
    ·exact z
   subst hc;have e:bj υ i (.τ "chance" ds)=ds:=by unfold bj;rw [dk.wK i _ hi hh];rfl
   rw [e];refine ⟨dr.l6,λw hw=> ?_⟩;obtain ⟨t0,t1⟩:=dr.to w hw;refine ⟨⟨w.1.toNat,θ w,(abf t0).symm,by omega,((dr.ro.2.2.1 rfl).1 w hw),fl.N3 rm _ (aas.mpr ⟨w,hw,rfl⟩)⟩⟩
theorem yk{P:Fr->Prop}{l:List Fr}{v:Fr}(h:∀t∈l,P t)(hv:P v):∀t∈l.set j v,P t:=λt ht=>by
 rcases List.mem_or_eq_of_mem_set ht with z | z
 ·exact h t z
 ·rw [z];exact hv
def G7(A:Addr):DF:=λas M q _=>∃(δ:Fr) (γ:List Rw) (k kc:Nat) (υ:Pl) (cs:List Fr) (E0 B E C:Int),as=[Κ A δ γ, .loc k, .loc kc]/\M[k]? =some (dP υ)/\M[kc]? =some (.lst (cs.map Δ))/\pM γ υ/\Fl δ γ E0 B/\cs.length=γ.length/\(∀c∈cs,Nb E C c/\0<=val c/\Red c)/\0 < E/\E < 2 ^ 1000/\0<=C/\C < 2 ^ 200/\
 ∀Jr:List Fr,Jr.length=γ.length->(∀c∈Jr,Nb (B * E) (100 * C) c/\0<=val c/\Red c)->(∀f,oy Jr f γ.length=eE (λi=>val (cs.getD i (0,1)) * Pf γ υ f i) γ.length)->q (.loc M.length) (M++[.lst (Jr.map Δ)])
theorem cX:χ ["floor","doors","chances","told","place","chance","way"] ["floor","doors","chances"] (ο gU):= .of rfl
theorem pj   (F:dN K "chances_next" "chances_next" gU f fd) (E:Ev K mg Cn)   (ao:cz P w K mg base 1 Cn "size" ["self"] (qk Cn) b7 bZ)   (Ε:cz P w K mg base 1 Cn "kind" ["self","place"] (j5 Cn) aA aC)   (dQ:aE P w K mg base 3 "plus" ["one","other"] vT pv oz) {AH:Addr} {Av:FuncData} (jy:aE P w K mg base 3 "ways_from" ["floor","place","doors"] (Hb Cn) AH Av)   (cD:aE P w K mg base 3 "times" ["one","other"] oK j1 jA):ar P w K mg base (cR P w) 4 f fd ["floor","doors","chances"] (dE K (G7 Cn)):=by
 refine F.eN cX (λds M q x h=> ?_) (λbu A outer s H E' hr=>⟨_,(ι (π 3 cX.nd (IG (iN 3 (d:= .lst [.tup [.int 0, .int 1]]) (by rfl)) (iX ao hr ν (jv 0))))
   (ι (cC (y8 E.eC (Ο (jv 2) ζ)) (h7 rfl (aM (Ι (i:=4) cX.nd rfl (Or.inl rfl)) (aM (Ι (i:=5) cX.nd rfl (Or.inl rfl)) fN))) tO (ι (aI (cW hr (aY Ε hr ν (jv 0) (Ο (jv 4) ζ)) dZ) (ι (oQ (jv 3) (jv 4) (aj dQ hr ν (η (Α (jv 3) (jv 4)) (Ο (jv 5) ζ) ax)))
   (μ l_)) Ξ)
   (μ (cC (bL (eQ (aj jy hr ν (Ο (jv 0) (Ο (jv 4) (Ο (jv 1) ζ)))))) (Ι (i:=6) cX.nd rfl (Or.inl rfl)) aJ (μ (oQ (jv 3) (Α (jv 6) ξ) (aj dQ hr ν (η (Α (jv 3) (Α (jv 6) ξ)) (η (aj cD hr ν (Ο (jv 5) (η (Α (jv 6) ξ) ζ ax))) ζ aP) ax))))))))
   (μ (ψ (jv 3))))),λds M q x h=> ?_⟩)
 ·obtain ⟨δ,γ,k,kc,υ,cs,E0,B,E,C,rfl,_⟩:=h;rfl
 ·obtain ⟨δ,γ,k,kc,υ,cs,E0,B,Ec,C,rfl,hk,Ja,dk,fl,cl,Ko,e0,e1,c0,c1,h⟩:=h;have GX:=fl.pl.len;have sz:∀{z:Nat},z<=1000->z<=sizeLine:=λh=>aaI h (by decide);obtain ⟨T3,Qp⟩:=aN fl.b0 fl.b1 e0 e1;have Qp:B * Ec < 2 ^ 2200:=aa1 Qp (by decide);have bd:∀n:Nat,n<=100->Bd (B * Ec) (n * C):=λn hn=>by have a:(n:Int) * C<=100 * C:=aaj (by omega) c0;have b:0<=(n:Int) * C:=aa4 (by omega) c0;exact ⟨T3,Qp,b,by omega⟩
  have add:∀(n:Nat) (t v:Fr),n+1<=100->Nb (B * Ec) (n * C) t->Nb (B * Ec) C v->Nb (B * Ec) ((n+1:Nat) * C) (bE t v):=λn t v hn ht hv=>by
   have e:((n+1:Nat):Int) * C=n * C+C:=by rw [Int.natCast_add,Int.add_mul];simp
   have b:=bd (n+1) hn;rw [e] at b⊢;exact iU ht hv b
  walk_at "vc";refine ⟨⟨_,_, .inl rfl,rfl⟩,δ,γ,rfl, ?_⟩;refine ⟨[.tup [.int 0, .int 1]],(γ.length:Int),rfl,rfl,by omega,by omega, ?_, ?_⟩
  ·show 1 * ((γ.length:Int)).toNat<=sizeLine;exact sz (by omega)
  rw [show ((γ.length:Int)).toNat=γ.length by omega,uk,show List.replicate γ.length (Dt.tup [.int 0, .int 1])=(List.replicate γ.length ((0,1):Fr)).map Δ by rw [List.map_replicate];rfl];refine ⟨.loc kc,cs.map Δ,λM'=>M'[kc]? =some (.lst (cs.map Δ)),rfl,tH (ay Ja), ?_⟩;refine bK (λxs ρ M'=>∃(n:Nat) (Η:List Fr) (tl:List Fr) (o4 o5 o6:Option Dt),xs=iD n (Η.map Δ)/\n+Η.length=γ.length/\cs.drop n=Η/\tl.length=γ.length/\(∀t∈tl,Nb (B * Ec) ((6 * n:Nat) * C) t/\0<=val t/\Red t)/\(∀f,oy tl f γ.length=eE (λi=>val (cs.getD i (0,1)) * Pf γ υ f i) n)/\M'=M++[.lst (tl.map Δ)]/\ρ=[some (Κ Cn δ γ),some (.loc k),some (.loc kc),some (.loc M.length),o4,o5,o6]) (λxs ρ M' hj=>by obtain ⟨n,Η,tl,o4,o5,o6,_,_,_,_,_,_,rfl,_⟩:=hj;exact ay Ja) (λx xs ρ M' hj gO=> ?_) (λρ M' hj=> ?_) _ _ _ ⟨0,cs,List.replicate γ.length (0,1),none,none,none,rfl,by omega,rfl,by simp,λt ht=> ?_,λf=>Ki,rfl,rfl⟩
  ·obtain ⟨n,Η,tl,o4,o5,o6,ex,nl,yp,Ej,xJ,hf,rfl,rfl⟩:=hj;cases Η with
   | nil=>cases ex
   | cons c Η=>
    cases ex;have nl:n+(Η.length+1)=γ.length:=nl;have il:n < γ.length:=by omega
    have Ru:n < cs.length:=by omega
    have cd:=abg Ru;rw [yp] at cd;have ec:cs[n]=c:=(List.cons.inj cd).1.symm;have HF:cs.drop (n+1)=Η:=(List.cons.inj cd).2.symm;have cg:cs.getD n (0,1)=c:=by rw [aab,aaa Ru,ec];rfl
    obtain ⟨hc,Xh,Yd⟩:=Ko c (by rw [<-ec];exact aaz Ru);have hi:γ[n]? =some γ[n]:=aaa il;generalize AJ:γ[n]=r at *
    have rm:r∈γ:=aag hi;have ro:=(fl.pl.row r rm).1;have GR:∀m:Nat,6 * n<=m->m<=6 * (n+1)->∀vn:List Fr,(∀t∈vn,Nb (B * Ec) ((m:Nat) * C) t/\0<=val t/\Red t)->∀t∈vn,Nb (B * Ec) ((6 * (n+1):Nat) * C) t/\0<=val t/\Red t:=λm h1 h2 vn ht t SE=>⟨gK (ht t SE).1 (aaj (by omega) c0),(ht t SE).2⟩;refine ⟨⟨_,_, .inl rfl,rfl⟩,δ,γ,n,r,rfl,hi, ?_⟩;have Kh:∀vn:List Fr,(M++[MO.lst (vn.map Δ)])[k]? =some (dP υ):=λvn=>ay hk;have rd:∀(vn:List Fr) (j:Nat),j < vn.length->∀q:DQ,q (Δ (vn.getD j (0,1))) (M++[MO.lst (vn.map Δ)])->cB (.loc M.length) (.int (j:Int)) (M++[MO.lst (vn.map Δ)]) q:=λvn j hj q hq=>by refine ω (d:= .loc M.length) (lL aO) (kK hj) ?_;rwa [aab,aaa hj] at hq
    have gm:∀(vn:List Fr) (j:Nat),j < vn.length->vn.getD j (0,1)∈vn:=λvn j hj=>by rw [aab,aaa hj];exact aaz _
    refine ⟨λz=> ?_,λz=> ?_⟩
    ·have W3:Nb (B * Ec) C c:=by rw [aaT];exact jr B hc
     walk_at "vc";dsimp only [tI];walk_at "vc";refine rd tl n (by omega) _ ?_;refine ⟨tl.getD n (0,1),c,2600,2600,rfl,(xJ _ (gm tl n (by omega))).1.sz,hc.sz,by decide, ?_⟩;refine ⟨M.length,(n:Int),_,n,rfl,rfl,aO,by rw [aac];exact xk (by omega), ?_⟩;rw [eu,show ((tl.map Δ).set n (Δ (bE (tl.getD n (0,1)) c)))=(tl.set n (bE (tl.getD n (0,1)) c)).map Δ by rw [List.map_set]];obtain ⟨Gs,QL,_⟩:=xJ _ (gm tl n (by omega));have vp:=dF Gs.pos hc.pos;refine gO _ _ ⟨n+1,Η,_,_,_,_,rfl,by omega,HF,by rw [abq];exact Ej, ?_,λf=> ?_,rfl,rfl⟩
     ·exact GR (6 * n+1) (by omega) (by omega) _ (yk (λt ht=>⟨gK (xJ t ht).1 (Int.mul_le_mul_of_nonneg_right (by omega) c0),(xJ t ht).2⟩) ⟨add (6 * n) _ _ (by omega) Gs W3,by rw [vp];grind,aF (Int.ne_of_gt (Int.mul_pos Gs.pos hc.pos))⟩)
     ·have ep:Pf γ υ f n=f n:=by
       unfold Pf;rw [hi];cases r with
       | fin p=>rfl
       | τ k' ds=>exact aaJ (aaH z) ro.1
      rw [vX Ej il,hf f,gE,cg,ep,vp];grind
    ·have vW:kindOf r≠"end":=aaW z;obtain ⟨w6,Te⟩:=Gf fl dk hi vW;dsimp only [qG,eG,PN];walk_at "vc";refine ⟨δ,γ,n,r,k,υ,rfl,Kh tl,hi,ro,dk,yn (dJ _) ?_⟩;refine bK (λxs ρ M'=>∃(bR ws:List dj) (m:Nat) (tl:List Fr) (o6:Option Dt),xs=ws.map a_/\bj υ n r=bR++ws/\m+ws.length<=6/\(∀w∈ws,Hx γ B w)/\tl.length=γ.length/\(∀t∈tl,Nb (B * Ec) ((6 * n+m:Nat) * C) t/\0<=val t/\Red t)/\(∀f,oy tl f γ.length=eE (λi=>val (cs.getD i (0,1)) * Pf γ υ f i) n+val c * bD (λd=>cV d * f d.1.toNat) bR)/\M'=M++[.lst (tl.map Δ)]/\ρ=[some (Κ Cn δ γ),some (.loc k),some (.loc kc),some (.loc M.length),some (.int (n:Int)),some (Δ c),o6]) (λxs ρ M' hj=>trivial) (λx xs ρ M' hj rA=> ?_) (λρ M' hj=> ?_) _ _ _ ⟨[],bj υ n r,0,tl,o6,rfl,rfl,by omega,Te,Ej,xJ,λf=>by rw [hf f];show _=_+val c * 0;grind,rfl,rfl⟩
     ·obtain ⟨bR,ws,m,tl,o6,ex,ew,ml,Kl,Ej,xJ,hf,rfl,rfl⟩:=hj;cases ws with
      | nil=>cases ex
      | cons v ws=>
       cases ex;rw [aaw] at ml;obtain ⟨t,ch,et,V_,Sy,mR⟩:=(Kl v aae).ex;have i2:∀(M:Ms) (q:DQ),q (Δ ch) M->cB (a_ v) (.int 2) M q:=λM q hq=>ω (xs:= .int v.1::Δ v.2.1::v.2.2.map Δ) rfl (Θ (j:=2) (by rw [Sy];rfl)) hq;have tv:Nb (B * Ec) C (Λ c ch):=by rw [x8];exact fj mR.pos mR.he mR.u hc (by have:=bd 1 (by decide);rwa [Int.natCast_one,abO] at this)
       walk_at "vc";dsimp only [tI];walk_at "vc";refine qE ?_;rw [et];refine rd tl t (by omega) _ ?_;refine i2 _ _ ?_;refine ⟨c,ch,2600,300,rfl,hc.sz,mR.sz,by decide, ?_⟩;refine ⟨tl.getD t (0,1),Λ c ch,2600,2600,rfl,(xJ _ (gm tl t (by omega))).1.sz,tv.sz,by decide, ?_⟩;refine qE ?_;rw [et];refine ⟨M.length,(t:Int),_,t,rfl,rfl,aO,by rw [aac];exact xk (by omega), ?_⟩;rw [eu,show ((tl.map Δ).set t (Δ (bE (tl.getD t (0,1)) (Λ c ch))))=(tl.set t (bE (tl.getD t (0,1)) (Λ c ch))).map Δ by rw [List.map_set]];obtain ⟨Gs,QL,_⟩:=xJ _ (gm tl t (by omega));have vp:=dF Gs.pos tv.pos;have vt:=cP hc.pos mR.pos;have QT:θ v=ch:=by unfold θ;rw [Sy];rfl
       have To:0<=val ch:=nh mR.pos mR.u.1;have tn:0<=val c * val ch:=Rat.mul_nonneg Xh To;refine rA _ _ ⟨bR++[v],ws,m+1,_,_,rfl,by rw [ew];simp,by omega,λw hw=>Kl w (List.mem_cons_of_mem _ hw),by rw [List.length_set];exact Ej, ?_,λf=> ?_,rfl,rfl⟩
       ·exact yk (λt ht=>⟨gK (xJ t ht).1 (Int.mul_le_mul_of_nonneg_right (by omega) c0),(xJ t ht).2⟩) ⟨add (6 * n+m) _ _ (by omega) Gs tv,by rw [vp,vt];grind,aF (Int.ne_of_gt (Int.mul_pos Gs.pos tv.pos))⟩
       ·rw [vX Ej V_,hf f,vp,vt,nJ];have e1:bD (λd=>cV d * f d.1.toNat) [v]=val ch * f t:=by show cV v * f v.1.toNat+0=_;rw [et,Int.toNat_natCast,show cV v=val ch from congrArg val QT];grind
        rw [e1];grind
     ·obtain ⟨bR,ws,m,tl,o6,ex,ew,ml,Kl,Ej,xJ,hf,rfl,rfl⟩:=hj;cases ws with
      | cons v ws=>cases ex
      | nil=>
       rw [aaG] at ew;refine gO _ _ ⟨n+1,Η,tl,_,_,_,rfl,by omega,HF,Ej,GR (6 * n+m) (by omega) (by omega) _ xJ,λf=> ?_,rfl,rfl⟩;have ep:Pf γ υ f n=bD (λd=>cV d * f d.1.toNat) (bj υ n r):=by
        unfold Pf;rw [hi];cases r with
        | fin p=>exact aaJ rfl vW
        | τ k' ds=>rfl
       rw [hf f,gE,cg,ep,ew]
  ·obtain ⟨n,Η,tl,o4,o5,o6,ex,nl,yp,Ej,xJ,hf,rfl,rfl⟩:=hj;cases Η with
   | cons c Η=>cases ex
   | nil=>
    have nl:n+0=γ.length:=nl;have en:n=γ.length:=by omega
    exact h tl Ej (λt ht=>⟨gK (xJ t ht).1 (aaj (by omega) c0),(xJ t ht).2⟩) (by rw [<-en] at hf⊢;exact hf)
  ·rw [List.eq_of_mem_replicate ht];refine ⟨?_,by show (0:Rat)<=((0:Int):Rat) / ((1:Int):Rat);grind,by decide,by decide⟩;show Nb (B * Ec) ((6 * 0:Nat) * C) (0,1);rw [show ((6 * 0:Nat):Int) * C=0 by simp];exact sy
def dU(δ:Fr)(γ:List Rw)(υ:Pl):Nat->List Fr
 | 0=>bM γ
 | t+1=>cj δ γ υ (dU δ γ υ t)
theorem gx(hb:1<=b)(Th:m<=n):b ^ m<=b ^ n:=by obtain ⟨c,rfl⟩:=Nat.exists_eq_add_of_le Th;rw [ab9];have p:0 < b ^ c:=abr (by omega);have q:0<=b ^ m:=aca (by omega);have:=aa8 (show 1<=b ^ c by omega) q;omega
section
variable{δ:Fr}{γ:List Rw}{F:Int}{tb:List Fr}{υ:Pl}
theorem FQ(fl:Fl δ γ E B)(g:Gr F C)(ht:Tb γ (E * F) C tb)(dk:pM γ υ):Tb γ (E * (F * (δ.2 * B))) (6 * (10 ^ 30+C)) (cj δ γ υ tb):=by
 have c0:=g.c0;refine ⟨by unfold cj;simp,λt SJ=> ?_⟩;unfold cj at SJ;obtain ⟨i,hi,rfl⟩:=aas.mp SJ;have il:=abU.mp hi;have hi:γ[i]? =some γ[i]:=aaa il;rw [hi];generalize γ[i]=r at *
 have rm:r∈γ:=aag hi;dsimp only;cases hh:Ζ (kindOf r) with
 | true=>
  obtain ⟨j,hj,jl⟩:=dk.hand i r hi hh;rw [hj];cases r with
  | fin p=>exact aaJ jl (ab6 _)
  | τ k ds=>
   have jl:j < ds.length:=jl;have gd:ds.getD j d0=ds[j]:=by rw [aab,aaa jl];rfl
   show Nb _ _ (aU δ tb (ds.getD ((j:Int)).toNat d0));rw [abo,gd];have:=jr B (nj fl g ht rm (aaz jl));rw [show E * F * δ.2 * B=E * (F * (δ.2 * B)) by grind] at this;exact gK this (by omega)
 | false=>
  rw [dk.wK i r hi hh];refine EK fl g ht rm ?_;cases r with
  | fin p=>exact .inr rfl
  | τ k' ds=>
   rcases (aq fl.pl rm).kd with z | ⟨_,z,_⟩
   ·have hh:Ζ k'=false:=hh;rw [z] at hh;cases hh
   ·exact .inl z
theorem C3(fl:Fl δ γ E B):Tb γ (E * 1) (10 ^ 30) (bM γ):=by
 refine ⟨by unfold bM;simp,λt ht=> ?_⟩;unfold bM at ht;obtain ⟨r,hr,rfl⟩:=aas.mp ht;rw [ab0];cases r with
 | fin p=>exact fl.fin p hr
 | τ k ds=>exact gK sy (by decide)
end
structure Ra(γ:List Rw)(υ:Pl)(pl t:Nat)(E C:Int)(cs:List Fr):Prop where
 len:cs.length=γ.length
 nb:∀c∈cs,Nb E C c/\0<=val c/\Red c
 sum:∀f,oy cs f γ.length=NO γ υ t f pl
def GO(A:Addr):DF:=λas M q _=>∃(δ:Fr) (γ:List Rw) (k1 k2:Nat) (p1 p2:Pl) (pl tn:Nat) (E B:Int),as=[Κ A δ γ, .loc k1, .loc k2, .int (pl:Nat), .int (tn:Nat)]/\M[k1]? =some (dP p1)/\M[k2]? =some (dP p2)/\pl < γ.length/\tn<=3/\Fl δ γ E B/\(δ.2 * B) ^ 3 < 2 ^ 850/\(∀i,i < γ.length->bV γ p1 p2 i=true)/\
 ∀(E':Ms) (kc:Nat) (cs:List Fr) (Ft C Ec Cc:Int),Tb γ (E * Ft) C (dU δ γ (dW γ p1 p2 γ.length) tn)->0 < Ft->Ft < 2 ^ 850->0<=C->C < 2 ^ 190->Ra γ (dW γ p1 p2 γ.length) pl tn Ec Cc cs->0 < Ec->Ec < 2 ^ 850->0<=Cc->Cc < 2 ^ 130->M.length<=kc->(M++E')[kc]? =some (.lst (cs.map Δ))->q (.tup [Δ ((dU δ γ (dW γ p1 p2 γ.length) tn).getD pl (0,1)), .loc kc]) (M++E')
theorem eI:χ ["floor","plan_one","plan_other","place","turns","doors","means","chances","turn"] ["floor","plan_one","plan_other","place","turns"] (ο rS):= .of rfl
theorem zq(F:dN K "mean_of" "mean_of" rS f fd)(E:Ev K mg Cn){CM:Addr}{Dw:FuncData}(lB:aE P w K mg base 4 "doors_of" ["floor","plans"] (va Cn) CM Dw){uy:Addr}{uM:FuncData}(gZ:aE P w K mg base 3 "first_means" ["floor"] (Cb Cn) uy uM)(ao:cz P w K mg base 1 Cn "size" ["self"] (qk Cn) b7 bZ){xp:Addr}{xg:FuncData}(iE:aE P w K mg base 7 "more_means" ["floor","doors","means"] (G9 Cn) xp xg){sE:Addr}{tE:FuncData}(gf:aE P w K mg base 4 "chances_next" ["floor","doors","chances"] (G7 Cn) sE tE):ar P w K mg base (cR P w) 8 f fd ["floor","plan_one","plan_other","place","turns"] (dE K (GO Cn)):=by
 refine F.eN eI (λds M q x h=> ?_) (λbu A outer s H E' hr=>⟨_,(ι (π 5 eI.nd (aj lB hr ν (Ο (jv 0) (η (sx (jv 1) (jv 2)) ζ))))
   (ι (π 6 eI.nd (aj gZ hr ν (Ο (jv 0) ζ)))
   (ι (kI (i:=7) eI.nd rfl (Or.inl rfl) (ys:=["place"]) (Ψ:=[3]) (.of eI rfl rfl rfl) (B7 (bq E.bh (η (iX ao hr ν (jv 0)) ζ aP))) (λC s H fp=>(u6 (cW hr (jv 0) (jv 1)) (aV (η ξ (η ξ ζ aL) aL)) (aV (η ξ (η ξ ζ aL) aL)))))
   (ι (gj (bq E.bh (Ο (jv 4) ζ)) (Ι (i:=8) eI.nd rfl (Or.inl rfl)) aJ (ι (π 6 eI.nd (eQ (aj iE hr ν (Ο (jv 0) (Ο (jv 5) (Ο (jv 6) ζ))))))
   (μ (π 7 eI.nd (aj gf hr ν (Ο (jv 0) (Ο (jv 5) (Ο (jv 7) ζ))))))))
   (μ (ψ (aV (η (Α (jv 6) (jv 3)) (Ο (jv 7) ζ) ax)))))))),λds M q x h=> ?_⟩)
 ·obtain ⟨δ,γ,k1,k2,p1,p2,pl,tn,E,B,rfl,_⟩:=h;rfl
 ·obtain ⟨δ,γ,k1,k2,p1,p2,pl,tn,Ep,B,rfl,h1,h2,CV,SK,fl,Hk,gd,hg⟩:=h;have GX:=fl.pl.len;have sz:∀{z:Nat},z<=1000->z<=sizeLine:=λh=>aaI h (by decide);obtain ⟨s0,s1,su⟩:=eD fl.pl.sh;have b0:=fl.b0;have ro:∀r∈γ,eP r:=λr hr=>(fl.pl.row r hr).1;refine ⟨δ,γ,M.length,p1,p2,rfl,⟨k1,k2,aO,ay h1,ay h2⟩,fl.pl,gd, ?_⟩;have dk:=HP gd;generalize uA:dW γ p1 p2 γ.length=υ at *
  generalize SA:M++[MO.eK [Sum.inr "one",Sum.inr "other"] [.loc k1, .loc k2]]=M1 at *
  refine ⟨δ,γ,rfl,GX,ro, ?_⟩;dsimp only;walk_at "vc";refine ⟨⟨_,_, .inl rfl,rfl⟩,δ,γ,rfl, ?_⟩;refine ⟨⟨by omega,by omega⟩,by rw [cI];exact sz (by omega), ?_⟩;refine cQ (f:=λx=>match x with | .int j=>Δ (if j=(pl:Int) then (1,1) else (0,1)) | _=> .ba) trivial (λx EI q' hq=> ?_) ?_
  ·obtain ⟨j,hj,rfl⟩:=j4 EI;rw [Int.zero_add] at hq⊢;have hq:q' (Δ (if (j:Int)=(pl:Int) then (1,1) else (0,1))) _:=hq;refine ⟨λz=> ?_,λz=> ?_⟩
   ·have z:(j:Int)=(pl:Int):=aaH z;rw [aaE z] at hq;exact ⟨sz (by decide),hq⟩
   ·have z:¬(j:Int)=(pl:Int):=aaW z;rw [aaA z] at hq;exact ⟨sz (by decide),hq⟩
  obtain ⟨cs,Ko⟩:∃cs:List Fr,cs=(List.range γ.length).map λj:Nat=>if (j:Int)=(pl:Int) then ((1,1):Fr) else (0,1):=⟨_,rfl⟩
  have er:∀g:Dt->Dt,(∀c:Nat,g (.int (0+(c:Int)))=Δ (if (c:Int)=(pl:Int) then ((1,1):Fr) else (0,1)))->(dY 0 ((γ.length:Int)).toNat).map g=cs.map Δ:=λg hg=>by rw [show ((γ.length:Int)).toNat=γ.length by omega,Ko];unfold dY;rw [aaO,aaO];exact abt λc hc=>hg c
  rw [aa3,er _ λc=>by show Δ (if (0+(c:Int))=(pl:Int) then (1,1) else (0,1))=_;rw [Int.zero_add]];have v1:val ((1,1):Fr)=1:=by show ((1:Int):Rat) / ((1:Int):Rat)=1;grind
  have v0:val ((0,1):Fr)=0:=by show ((0:Int):Rat) / ((1:Int):Rat)=0;grind
  have UD:Ra γ υ pl 0 1 1 cs:=by
   refine ⟨by rw [Ko];simp,λc hc=> ?_,λf=> ?_⟩
   ·rw [Ko] at hc;obtain ⟨j,_,rfl⟩:=aas.mp hc;split
    ·exact ⟨⟨by decide,⟨1,by decide⟩,⟨by decide,by decide⟩,eT (k:=2) ⟨by decide,by decide,by decide⟩ (by decide)⟩,by rw [v1];grind,by decide,by decide⟩
    ·exact ⟨gK sy (by decide),by rw [v0];grind,by decide,by decide⟩
   ·show oy cs f γ.length=f pl;unfold oy
    rw [d7 (g:=λx=>(if x=pl then 1 else 0) * f x) λx hx=>by
     rw [Ko,aab,aax,abF hx];show val (if (x:Int)=(pl:Int) then ((1,1):Fr) else (0,1)) * f x=_;by_cases e:x=pl
     ·rw [aaE (by omega),aaE e,v1]
     ·rw [aaA (by omega),aaA e,v0]]
    exact kr f CV
  clear er Ko;refine ⟨by omega, ?_⟩;rw [show ((tn:Int)).toNat=tn by omega];have Ww:1<=δ.2 * B:=by have:=aaC s0 b0;omega
  have OU:∀i,i<=3->(δ.2 * B) ^ i < 2 ^ 850:=λi hi=>aar (gx Ww hi) Hk;have bi:∀i,i<=3->B ^ i < 2 ^ 850:=λi hi=>by refine aar ?_ (OU i hi);rw [Int.mul_pow];have a:0<=B ^ i:=aca (by omega);have b:0 < δ.2 ^ i:=abr s0;have:=aaj (show 1<=δ.2 ^ i by omega) a;omega
  refine cK (λzs ρ' M'=>∃(i m kc:Nat) (Ex:Ms) (cs:List Fr) (C Cc:Int) (o8:Option Dt),zs=dY (i:Int) m/\i+m=tn/\M'=M1++[dP υ]++Ex/\M'[kc]? =some (.lst (cs.map Δ))/\M1.length<=kc/\Tb γ (Ep * (δ.2 * B) ^ i) C (dU δ γ υ i)/\0<=C/\C<=2 ^ (100+10 * i)/\Ra γ υ pl i (B ^ i) Cc cs/\0<=Cc/\Cc<=2 ^ (10 * i)/\ρ'=[some (Κ Cn δ γ),some (.loc k1),some (.loc k2),some (.int (pl:Int)),some (.int (tn:Int)),some (.loc M1.length),some (.lst ((dU δ γ υ i).map Δ)),some (.loc kc),o8]) (λx zs ρ' M' hj gO=> ?_) (λρ' M' hj=> ?_) _ _ _ ⟨0,tn,(M1++[dP υ]).length,[.lst (cs.map Δ)],cs,10 ^ 30,1,none,rfl,by omega,rfl,aO,by simp,by rw [Int.pow_zero];exact C3 fl,by decide,by decide,by rw [Int.pow_zero];exact UD,by decide,by decide,rfl⟩
  ·obtain ⟨i,m,kc,Ex,cs,C,Cc,o8,ex,im,rfl,Ja,Qe,ht,c0,c1,ct,LQ,Lo,rfl⟩:=hj;obtain ⟨m',rfl,rfl,rfl⟩:=cy ex;have i2:i<=2:=by omega
   have p1:∀{a b:Nat},a<=b->(2:Int) ^ a<=2 ^ b:=λ{a b} h=>gx (by decide) h;have f0:0 < (δ.2 * B) ^ i:=abr (by omega);have e0:0 < B ^ i:=abr b0;have g:Gr ((δ.2 * B) ^ i) C:=⟨f0,acf (OU i (by omega)) (by decide),c0,aar c1 (aar (p1 (show 100+10 * i<=190 by omega)) (by decide))⟩;refine ⟨δ,γ,M1.length,υ,dU δ γ υ i,Ep,B,(δ.2 * B) ^ i,C,rfl,ay aO,dk,fl,g,ht,fg (tV _) ?_⟩;refine ⟨δ,γ,M1.length,kc,υ,cs,Ep,B,B ^ i,Cc,rfl,ay aO,Ja,dk,fl,ct.len,ct.nb,e0,acf (bi i (by omega)) (by decide),LQ,aar Lo (aar (p1 (show 10 * i<=30 by omega)) (by decide)),λJr S3 Wu Xv=> ?_⟩;refine gO _ _ ⟨i+1,m',(M1++[dP υ]++Ex).length,Ex++[.lst (Jr.map Δ)],Jr,6 * (10 ^ 30+C),100 * Cc,_,by rw [Int.natCast_add];rfl,by omega,by simp,aO,by simp, ?_,by omega, ?_, ?_,by omega, ?_,rfl⟩
   ·have:=FQ fl g ht dk;rw [aa0];exact this
   ·have e:(2:Int) ^ (100+10 * (i+1))=2 ^ (100+10 * i) * 1024:=by rw [show 100+10 * (i+1)=100+10 * i+10 by omega,ab9];rfl
    have x:(2:Int) ^ 100<=2 ^ (100+10 * i):=p1 (by omega);rw [e];generalize (2:Int) ^ (100+10 * i)=X at *
    omega
   ·refine ⟨S3,λc hc=> ?_,λf=> ?_⟩
    ·have:=Wu c hc;rw [aa0,aaT];exact this
    ·rw [Xv f];show eE (λj=>val (cs.getD j (0,1)) * Pf γ υ f j) γ.length=NO γ υ i (Pf γ υ f) pl;rw [<-ct.sum (Pf γ υ f)];rfl
   ·have e:(2:Int) ^ (10 * (i+1))=2 ^ (10 * i) * 1024:=by rw [show 10 * (i+1)=10 * i+10 by omega,ab9];rfl
    rw [e];generalize (2:Int) ^ (10 * i)=X at *
    omega
  ·obtain ⟨i,m,kc,Ex,cs,C,Cc,o8,ex,im,rfl,Ja,Qe,ht,c0,c1,ct,LQ,Lo,rfl⟩:=hj;have m0:m=0:=by have:=aa5 List.length ex;rw [cI] at this;exact this.symm
   have ei:i=tn:=by omega
   subst ei;have p1:∀{a b:Nat},a<=b->(2:Int) ^ a<=2 ^ b:=λ{a b} h=>gx (by decide) h;have tl:pl < (dU δ γ υ i).length:=by rw [ht.len];exact CV
   walk_at "vc";refine (ω (d:= .lst ((dU δ γ υ i).map Δ)) rfl (kK tl) ?_:cB (.lst ((dU δ γ υ i).map Δ)) (.int (pl:Int)) _ _);refine ⟨sz (by decide), ?_⟩;have kl:M.length<=kc:=by rw [<-SA,aaf] at Qe;exact aaI (abk _ _) Qe
   rw [<-SA,abn,abn] at Ja⊢;have:=hg ([MO.eK [Sum.inr "one",Sum.inr "other"] [.loc k1, .loc k2]]++([dP υ]++Ex)) kc cs _ C _ Cc ht (abr (by omega)) (OU i SK) c0 (aar c1 (aar (p1 (show 100+10 * i<=180 by omega)) (by decide))) ct (abr b0) (bi i SK) LQ (aar Lo (aar (p1 (show 10 * i<=30 by omega)) (by decide))) kl Ja;rw [aab,aaa tl] at this;exact this
theorem lX{cs:List Fr}(h:0 < cs.length):dz cs B 0=jx B cs[0]:=by
 cases cs with
 | nil=>exact aaJ h (by decide)
 | cons c cs=>exact Ct
theorem mP{cs:List Fr}{c:Fr}(o:kZ cs)(hc:c∈cs):(0 < c.2/\gG c.2)/\gG c.1/\gG (ae cs / c.2):=by obtain ⟨a,b,d⟩:=o.wq.2 c hc;refine ⟨⟨a,xf (k:=200) (aai a) b (by decide)⟩,bg (k:=200) d, ?_⟩;have b0:=o.b0;have b1:=o.b1;have l:=Int.ediv_le_self c.2 (aai b0);have g:=Int.ediv_nonneg (aai b0) (aai a);exact bg (k:=20) (by omega)
theorem mS{γ:List Rw}{k:Str}{ds:List dj}(d:uL γ k ds)(pick:Int):fw k ds pick < ds.length:=by
 have l1:=d.l1;unfold fw;rcases d.kd with hk | ⟨hk,_,o⟩
 ·rw [aaE hk];have a:=aaU pick (show (ds.length:Int)≠0 by omega);have b:=aaN pick (show (0:Int) < ds.length by omega);omega
 ·rw [aaA (by rw [hk];decide)];obtain ⟨j,hj⟩:=FE o (aaN pick o.b0);rw [l7 o hj];have:=hj.lt;rwa [aac] at this
theorem gS{γ:List Rw}{k:Str}{ds:List dj}(d:uL γ k ds)(hi:γ[i]? =some (.τ k ds))(p:Int):bF γ i p=some (fw k ds p,ds[fw k ds p]'(mS d p)):=by unfold bF;rw [hi];show some (fw k ds p,ds.getD (fw k ds p) _)=_;rw [aab,aaa (mS d p)];rfl
theorem uZ{γ:List Rw}{e:Fr}(hi:γ[i]? =some (.fin e))(p:Int):bF γ i p=none:=by unfold bF;rw [hi]
def dI(s:Nat×Nat):Dt:= .tup [.int (s.1:Int), .int (s.2:Int)]
theorem Es{p:Fr}(h:aH p=true)(h0:0 < p.2):fX p (10 ^ 30)/\p.2<=1000000:=by
 unfold aH at h;rw [aaF,aat,aat] at h;obtain ⟨h1,h2⟩:=h;have h1:(if p.1 < 0 then -p.1 else p.1)<=1000000000000000000000000000000:=h1;have e:p.2 * 10 ^ 30 ≥ 1000000000000000000000000000000:=by have:=aaj (show 1<=p.2 by omega) (show (0:Int)<=10 ^ 30 by decide);rw [abO] at this;exact this
 refine ⟨⟨?_, ?_⟩,h2⟩ <;> (split at h1 <;> omega)
theorem uC{s:Fr}(h:ai s=true):0 < s.2/\dX s/\s.2<=1000:=by unfold ai at h;rw [aaF,aaF,aat,aat,aat] at h;exact ⟨by omega,⟨h.1,by omega⟩,h.2.2⟩
structure Acc(g c:Fr)(n:Nat)(E:Int):Prop where
 rg:Red g
 rc:Red c
 hg:fk g E
 hc:fk c E
 e0:0 < E
 e1:E<=2 ^ (30 * n)
 ag:fX g (n * 10 ^ 30)
 uc:dX c
theorem Jx{s:Int}(e0:0 < E)(e1:E<=2 ^ n)(s0:0 < s)(s1:s<=1000)(p0:0 < p)(p1:p<=1000000):0 < E * (s * p)/\E * (s * p)<=2 ^ (n+30):=by have sp:=aaC s0 p0;refine ⟨aaC e0 sp, ?_⟩;have a:s * p<=1000 * 1000000:=aba s1 p1 (aai p0) (by decide);have b:s * p<=2 ^ 30:=ab1 a (by decide);have c:=aba e1 b (aai sp) (ab1 (aai e0) e1);rw [ab9];exact c
theorem Acc.step{g c p s:Fr}(a:Acc g c n E)(hp:aH p=true)(GL:0 < p.2)(hs:ai s=true):Acc (bE g (Λ c p)) (Λ c s) (n+1) (E * (s.2 * p.2)):=by
 obtain ⟨pa,p6⟩:=Es hp GL;obtain ⟨s0,su,s1⟩:=uC hs;obtain ⟨e0,e1⟩:=Jx a.e0 a.e1 s0 s1 GL p6;have gp:=a.rg.pos;have cp:=a.rc.pos;have t0:=aaR (aaC cp GL);have rt:Red (Λ c p):=aF t0;have ht:fk (Λ c p) (E * (s.2 * p.2)):=by have:=h_ s.2 (jL cp GL a.hc (iQ p));rwa [abQ,aaT p.2 s.2] at this
 refine ⟨aF (aaR (aaC gp rt.pos)),aF (aaR (aaC cp s0)),qF gp rt.pos (h_ _ a.hg) ht, ?_,e0,e1, ?_,wz cp s0 a.uc su⟩
 ·have:=h_ p.2 (jL cp s0 a.hc (iQ s));rwa [abQ] at this
 ·have:=v7 gp rt.pos a.ag (qI cp GL a.uc pa (by decide));have e:((n:Int) * 10 ^ 30+10 ^ 30)=((n+1:Nat):Int) * 10 ^ 30:=by rw [show ((n+1:Nat):Int)=(n:Int)+1 from rfl,Int.add_mul,abO]
  rw [e] at this;exact this
theorem CQ(h:E<=2 ^ n)(hm:n < m):E < 2 ^ m:=by
 have:(2:Nat) ^ n < 2 ^ m:=Nat.pow_lt_pow_right (by decide) hm;have:((2 ^ n:Nat):Int) < ((2 ^ m:Nat):Int):=abB.mpr this;refine aar h ?_
 exact_mod_cast this
theorem Acc.sz{g c:Fr}(a:Acc g c n E)(hn:n<=100):Sz 3200 g/\Sz 3200 c:=by
 have e:=CQ a.e1 (show 30 * n < 3001 by omega);have n0:(0:Int)<=n * 10 ^ 30:=aa4 (by omega) (by decide);have n1:(n:Int) * 10 ^ 30 < 2 ^ 107:=by have:=aaj (show (n:Int)<=100 by omega) (show (0:Int)<=10 ^ 30 by decide);exact aar this (by decide)
 refine ⟨eT (Bx a.rg a.hg a.e0 e a.ag n0 n1) (by decide),eT (Bx (C:=1) (m:=1) a.rc a.hc a.e0 e ?_ (by decide) (by decide)) (by decide)⟩;have u:=a.uc;have:=a.rc.pos;unfold dX at u;exact ⟨by rw [ab0];exact u.2,by rw [ab0];omega⟩
theorem Eb:Acc (0,1) (1,1) 0 1:=⟨⟨by decide,by decide⟩,⟨by decide,by decide⟩,⟨0,by decide⟩,⟨1,by decide⟩,by decide,by decide,⟨by decide,by decide⟩,⟨by decide,by decide⟩⟩
theorem Be{g:Dt->En->(En->Prop)->Prop}{tb:DS}{Dn:ia}{ok:Ms->Prop}(J:List Dt->En->Ms->Prop)(I:En->Ms->Prop)(aR:∀xs ρ M,J xs ρ M->ok M)
  (step:∀x xs ρ M,J (x::xs) ρ M->(∀ρ M,J xs ρ M->kC g tb Dn ok xs ρ M)->(∀ρ M,I ρ M->Dn.nx ρ M)->g x ρ λρ'=>tb {Dn with nx:=kC g tb Dn ok xs,ct:=kC g tb Dn ok xs,bk:=Dn.nx} ρ' M)
  (fin:∀ρ M,J [] ρ M->I ρ M) (out:∀ρ M,I ρ M->Dn.nx ρ M) (xs:List Dt) (ρ:En) (M:Ms) (h:J xs ρ M):kC g tb Dn ok xs ρ M:=
 bK J aR (λx xs ρ M hj gO=>step x xs ρ M hj gO out) (λρ M hj=>out ρ M (fin ρ M hj)) xs ρ M h
def l':DF:=λas M q _=>∃(cs:List Fr) (pick:Int),as=[.lst (cs.map Δ), .int pick]/\kZ cs/\q (.int (nM cs (pick % ae cs):Nat)) M
theorem bX:χ ["chances","pick","bottom","rest","door","taken"] ["chances","pick"] (ο iz):= .of rfl
theorem pR(F:dN K "chance_door" "chance_door" iz f fd)(E:Ev K mg Cn){gv:Addr}{gq:FuncData}(bN:aE P w K mg base 2 "common_bottom" ["chances"] gu gv gq):ar P w K mg base (cR P w) 3 f fd ["chances","pick"] (dE K l'):=by
 refine F.eN bX (λds M q x h=> ?_) (λbu A outer s H E' hr=>⟨_,(ι (π 2 bX.nd (aj bN hr ν (Ο (jv 0) ζ)))
   (ι (π 3 bX.nd (bo (jv 1) (jv 2)))
   (ι (π 4 bX.nd ξ)
   (ι (π 5 bX.nd (br (Α (Α (jv 0) ξ) ξ) (cF (jv 2) (Α (Α (jv 0) ξ) ξ))))
   (ι (oR (MQ (jv 3) (jv 5)) (ι (π 4 bX.nd (ck (jv 4) ξ))
   (μ (π 5 bX.nd (ck (jv 5) (br (Α (Α (jv 0) (jv 4)) ξ) (cF (jv 2) (Α (Α (jv 0) (jv 4)) ξ))))))))
   (μ (ψ (jv 4)))))))),λds M q x h=> ?_⟩)
 ·obtain ⟨cs,pick,rfl,_⟩:=h;rfl
 ·obtain ⟨cs,pick,rfl,o,h⟩:=h;have hl:0 < cs.length:=List.length_pos_iff.mpr o.ne;obtain ⟨b1,b2,b3⟩:=mP o (aaz hl);have r1:=aaN pick o.b0;refine ⟨cs,rfl,o.wq,o.b0, ?_⟩;generalize pick % ae cs=r at *
  walk_at "vc";refine (ω (d:= .lst (cs.map Δ)) rfl (kK hl) ?_:cB (.lst (cs.map Δ)) (.int 0) _ _);refine (iB ?_:cB (Δ cs[0]) (.int 0) _ _);refine (ω (d:= .lst (cs.map Δ)) rfl (kK hl) ?_:cB (.lst (cs.map Δ)) (.int 0) _ _);refine (g9 ?_:cB (Δ cs[0]) (.int 1) _ _);refine ⟨b1,⟨b2,b3⟩, ?_⟩;refine ⟨λm ρ M'=>M'=M/\∃j:Nat,j < cs.length/\(∀i,i < j->dz cs (ae cs) i<=r)/\m=cs.length - j/\ρ=[some (.lst (cs.map Δ)),some (.int pick),some (.int (ae cs)),some (.int r),some (.int (j:Int)),some (.int (dz cs (ae cs) j))],⟨_,rfl,0,hl,λi hi=>aaJ hi (by omega),rfl, ?_⟩, ?_⟩
  ·rw [lX hl];rfl
  rintro m ρ M' ⟨rfl,j,hj,K3,rfl,rfl⟩;refine ⟨λz=> ?_,λz=> ?_⟩
  ·have z:dz cs (ae cs) j<=r:=aaH z;have MM:j+1 < cs.length:=by
    rcases Nat.lt_or_ge (j+1) cs.length with y | y
    ·exact y
    ·have:=oo o (show j+1=cs.length by omega);omega
   obtain ⟨d1,d2,d3⟩:=mP o (aaz MM);refine ⟨_,λρ' M2 h2=>h2, ?_⟩;walk_at "vc";dsimp only [z0];refine (ω (d:= .lst (cs.map Δ)) rfl (kK MM) ?_:cB (.lst (cs.map Δ)) (.int ((j:Int)+1)) _ _);refine (iB ?_:cB (Δ cs[j+1]) (.int 0) _ _);refine (ω (d:= .lst (cs.map Δ)) rfl (kK MM) ?_:cB (.lst (cs.map Δ)) (.int ((j:Int)+1)) _ _);refine (g9 ?_:cB (Δ cs[j+1]) (.int 1) _ _);refine ⟨d1,⟨d2,d3⟩,cs.length - (j+1),by omega,rfl,j+1,MM,λi hi=> ?_,rfl, ?_⟩
   ·by_cases e:i=j
    ·rw [e];exact z
    ·exact K3 i (by omega)
   ·rw [oq MM];rfl
  ·have z:¬dz cs (ae cs) j<=r:=aaW z;rw [l7 o ⟨hj,by omega,K3⟩] at h;exact h
def yF(C:Addr):DF:=λas M q _=>∃δ γ i k ds pick,as=[Κ C δ γ, .int (i:Nat), .int pick]/\γ[i]? =some (.τ k ds)/\uL γ k ds/\q (.int (fw k ds pick:Nat)) M
theorem nr:χ ["floor","place","pick","doors"] ["floor","place","pick"] (ο rJ):= .of rfl
theorem zt(F:dN K "door_by" "door_by" rJ f fd)(E:Ev K mg Cn)(Μ:cz P w K mg base 2 Cn "doors" ["self","place"] (jS Cn) aW aT)(Ε:cz P w K mg base 1 Cn "kind" ["self","place"] (j5 Cn) aA aC){vU:Addr}{vI:FuncData}(gQ:aE P w K mg base 3 "chance_door" ["chances","pick"] l' vU vI):ar P w K mg base (cR P w) 4 f fd ["floor","place","pick"] (dE K (yF Cn)):=by
 refine F.eN nr (λds M q x h=> ?_) (λbu A outer s H E' hr=>⟨_,(ι (π 3 nr.nd (eQ (aY Μ hr ν (jv 0) (Ο (jv 1) ζ))))
   (ι (aI (wY (aY Ε hr ν (jv 0) (Ο (jv 1) ζ)) (CU E.sD)) (μ (ψ (bo (jv 2) (c7 E.cE (Ο (jv 3) ζ))))) Ξ)
   (μ (ψ (aj gQ hr ν (η (gR (ys:=[]) (Ψ:=[]) (.of nr rfl rfl rfl) (bL (jv 3)) (λC s H fp=>(Α (jv 0) ξ))) (Ο (jv 2) ζ))))))),λds M q x h=> ?_⟩)
 ·obtain ⟨δ,γ,i,k,ds,pick,rfl,_⟩:=h;rfl
 ·obtain ⟨δ,γ,i,k,ds,pick,rfl,hi,dn,h⟩:=h;have l1:=dn.l1;refine ⟨⟨_,_, .inl rfl,rfl⟩,δ,γ,i, .τ k ds,rfl,hi,dn.ro,fg (ds:=ds.map a_) (dJ ds) ?_⟩;refine ⟨⟨_,_, .inl rfl,rfl⟩,δ,γ,i, .τ k ds,rfl,hi, ?_⟩;refine ⟨.str k,[.str "one", .str "other"],[.str "one", .str "other"],rfl,rfl,rfl, ?_⟩;rw [oW];unfold fw at h;refine ⟨λz=> ?_,λz=> ?_⟩
  ·rw [aaE z,abf (aaU _ (by omega))] at h;walk_at "vc";refine (az (d:= .lst (ds.map a_)) (xs:=ds.map a_) rfl ?_:gC [.lst (ds.map a_)] M _);rw [aac];exact ⟨by omega,h⟩
  ·rw [aaA (by rw [z];decide)] at h;rcases dn.kd with hk | ⟨_,hc,o⟩
   ·rw [hk] at z;cases z
   have mG:=(dn.ro.2.2.1 hc).1;walk_at "vc";show eG _ _ _ _ _;refine cx (i:=3) (d:= .lst (ds.map a_)) rfl rfl ⟨by rw [aac];exact aaI dn.l6 (by decide), ?_⟩;refine jG (F:=λx a=>x=a_ a/\a∈ds) (f:=λd=>Δ (θ d)) trivial (λx a ha q' hq=> ?_) (vL a_ ds ds λ_ h=>h) ?_
   ·obtain ⟨rfl,ha⟩:=ha;have ey:a_ a= .tup [.int a.1,Δ a.2.1,Δ (θ a)]:=by unfold a_;rw [mG a ha];rfl
    rw [ey];exact hq
   rw [aa3,show ds.map (λd=>Δ (θ d))=(ds.map θ).map Δ by rw [aaO];rfl];exact ⟨ds.map θ,pick,rfl,o,h⟩
theorem Fs{γ:List Rw}{k:Str}{ds:List dj}(d:uL γ k ds)(hi:γ[i]? =some (.τ k ds))(p:Int):∃j e,fw k ds p=j/\j < ds.length/\ds[j]? =some e/\bF γ i p=some (j,e):=
 ⟨_,_,rfl,mS d p,aaa (mS d p),gS d hi p⟩
theorem d9{γ:List Rw}{ps:List Int}{d:dj}(h:bF γ i p=some (j,d)):fR γ i (p::ps)=(i,j)::fR γ d.1.toNat ps/\c5 γ i (p::ps)=c5 γ d.1.toNat ps/\aZ γ i (p::ps)=d.2.1::aZ γ d.1.toNat ps:=by
 refine ⟨?_, ?_, ?_⟩
 ·show (match bF γ i p with | some (j,d)=>(i,j)::fR γ d.1.toNat ps | none=>[])=_;rw [h]
 ·show (match bF γ i p with | some (_,d)=>c5 γ d.1.toNat ps | none=>i)=_;rw [h]
 ·show (match bF γ i p with | some (_,d)=>d.2.1::aZ γ d.1.toNat ps | none=>[])=_;rw [h]
theorem zT{γ:List Rw}{i:Nat}{e:Fr}(h:γ[i]? =some (.fin e)):∀ps:List Int,fR γ i ps=[]/\c5 γ i ps=i/\aZ γ i ps=[]
 | []=>⟨rfl,rfl,rfl⟩
 | p::ps=>by
  have hn:=uZ h p;refine ⟨?_, ?_, ?_⟩
  ·show (match bF γ i p with | some (j,d)=>(i,j)::fR γ d.1.toNat ps | none=>[])=_;rw [hn]
  ·show (match bF γ i p with | some (_,d)=>c5 γ d.1.toNat ps | none=>i)=_;rw [hn]
  ·show (match bF γ i p with | some (_,d)=>d.2.1::aZ γ d.1.toNat ps | none=>[])=_;rw [hn]
def nE(δ:Fr)(γ:List Rw)(i:Nat)(picks:List Int):Rat:=cG (val δ) (aZ γ i picks) (val (hX γ (c5 γ i picks)))
def yM(C:Addr):DF:=λas M q _=>∃δ γ i g picks ok,as=[Κ C δ γ, .int (i:Nat),g]/\g6 M g=some (picks.map Dt.int,ok)/\(∀E,ok (M++E))/\zA δ γ/\i < γ.length/\picks.length<=100/\∀R,Red R->val R=nE δ γ i picks->q (.tup [.loc M.length, .int (c5 γ i picks:Nat),Δ R]) (M++[.lst ((fR γ i picks).map dI)])
theorem cL:χ ["floor","place","picks","steps","gathered","counts","pick","door","taken"] ["floor","place","picks"] (ο tR):= .of rfl
theorem zI(F:dN K "played" "played" tR f fd)(E:Ev K mg Cn)(Ε:cz P w K mg base 1 Cn "kind" ["self","place"] (j5 Cn) aA aC){ED:Addr}{Fe:FuncData}(nU:aE P w K mg base 4 "door_by" ["floor","place","pick"] (yF Cn) ED Fe)(Μ:cz P w K mg base 2 Cn "doors" ["self","place"] (jS Cn) aW aT)(dQ:aE P w K mg base 3 "plus" ["one","other"] vT pv oz)(cD:aE P w K mg base 3 "times" ["one","other"] oK j1 jA){wb:Addr}{vv:FuncData}(gP:cz P w K mg base 1 Cn "share" ["self"] (CN Cn) wb vv)(bx:cz P w K mg base 2 Cn "pay" ["self","place"] (FJ Cn) gz gF):ar P w K mg base (cR P w) 6 f fd ["floor","place","picks"] (dE K (yM Cn)):=by
 refine F.eN cL (λds M q x h=> ?_) (λbu A outer s H E' hr=>⟨_,(ι (π 3 cL.nd (ic ζ))
   (ι (π 4 cL.nd (aV (η ξ (η ξ ζ aL) aL)))
   (ι (π 5 cL.nd (aV (η ξ (η ξ ζ aL) aL)))
   (ι (cC (bL (jv 2)) (Ι (i:=6) cL.nd rfl (Or.inl rfl)) aJ (ι (aI (cW hr (aY Ε hr ν (jv 0) (Ο (jv 1) ζ)) dZ) (μ Dm) Ξ)
   (ι (π 7 cL.nd (aj nU hr ν (Ο (jv 0) (Ο (jv 1) (Ο (jv 6) ζ)))))
   (ι (c_ (cY (jv 3) (η (aV (Ο (jv 1) (Ο (jv 7) ζ))) ζ fT)))
   (ι (π 8 cL.nd (Α (eQ (aY Μ hr ν (jv 0) (Ο (jv 1) ζ))) (jv 7)))
   (ι (π 4 cL.nd (aj dQ hr ν (Ο (jv 4) (η (aj cD hr ν (Ο (jv 5) (η (Α (jv 8) ξ) ζ ax))) ζ aP))))
   (ι (π 5 cL.nd (aj cD hr ν (Ο (jv 5) (η (iX gP hr ν (jv 0)) ζ aP))))
   (μ (π 1 cL.nd (Α (jv 8) ξ))))))))))
   (ι (lQ (aI (cW hr (aY Ε hr ν (jv 0) (Ο (jv 1) ζ)) dZ) (μ (π 4 cL.nd (aj dQ hr ν (Ο (jv 4) (η (aj cD hr ν (Ο (jv 5) (η (aY bx hr ν (jv 0) (Ο (jv 1) ζ)) ζ aP))) ζ aP))))) Ξ))
   (μ (ψ (aV (Ο (jv 3) (Ο (jv 1) (Ο (jv 4) ζ))))))))))),λds M q x h=> ?_⟩)
 ·obtain ⟨δ,γ,i,g,picks,ok,rfl,_⟩:=h;rfl
 ·obtain ⟨δ,γ,i,g0,picks,ok,rfl,hit,aR,f,hi,hp,h⟩:=h;obtain ⟨s0,su,s1⟩:=uC f.sh;have U3:=vY f.sh;refine ⟨by decide,fI,fI, ?_⟩;have Rv:g6 (M++[MO.lst []]) g0=some (picks.map Dt.int,ok):=by
   cases g0 with
   | lst ds=>exact hit
   | fc ns=>exact hit
   | loc k=>
    have hit:(match M[k]? with | some (MO.lst xs)=>some (xs,λM':Ms=>M'[k]? =some (MO.lst xs)) | _=>none)=some (picks.map Dt.int,ok):=hit;show (match (M++[MO.lst []])[k]? with | some (MO.lst xs)=>some (xs,λM':Ms=>M'[k]? =some (MO.lst xs)) | _=>none)=some (picks.map Dt.int,ok);have hk:k < M.length:=by
     rcases Nat.lt_or_ge k M.length with z | z
     ·exact z
     ·rw [abP z] at hit;cases hit
    rw [aay hk];exact hit
   | _=>cases hit
  walk_at "vc";show eG _ _ _ _ _;refine cx (i:=2) (d:=g0) rfl Rv ?_
  refine Be (λxs ρ M'=>∃(ps:List Int) (i':Nat) (st:List (Nat×Nat)) (g c:Fr) (n:Nat) (E:Int) (o6 o7 o8:Option Dt),xs=ps.map Dt.int/\i' < γ.length/\n+ps.length=picks.length/\st.length=n/\fR γ i picks=st++fR γ i' ps/\c5 γ i picks=c5 γ i' ps/\Acc g c n E/\val g+val c * nE δ γ i' ps=nE δ γ i picks/\M'=M++[MO.lst (st.map dI)]/\ρ=[some (Κ Cn δ γ),some (.int (i':Int)),some g0,some (.loc M.length),some (Δ g),some (Δ c),o6,o7,o8])
   (λρ M'=>∃(i':Nat) (g c:Fr) (n:Nat) (E:Int) (o6 o7 o8:Option Dt),i' < γ.length/\n<=100/\c5 γ i picks=i'/\Acc g c n E/\val g+val c * val (hX γ i')=nE δ γ i picks/\M'=M++[MO.lst ((fR γ i picks).map dI)]/\ρ=[some (Κ Cn δ γ),some (.int (i':Int)),some g0,some (.loc M.length),some (Δ g),some (Δ c),o6,o7,o8])
   (λxs ρ M' hj=> ?_) (λx xs ρ M' hj gO out=> ?_) (λρ M' hj=> ?_) (λρ M' hj=> ?_) _ _ _ ⟨picks,i,[],(0,1),(1,1),0,1,none,none,none,rfl,hi,by simp,rfl,rfl,rfl,Eb, ?_,rfl,rfl⟩
  ·obtain ⟨ps,i',st,g,c,n,E,o6,o7,o8,_,_,_,_,_,_,_,_,rfl,_⟩:=hj;exact aR _
  ·obtain ⟨ps,i',st,g,c,n,E,o6,o7,o8,ex,A4,hn,Bo,hS,hL,υ,hv,rfl,rfl⟩:=hj;cases ps with
   | nil=>cases ex
   | cons p ps=>
    cases ex;rw [aaw] at hn;have ri:γ[i']? =some γ[i']:=aaa A4;have hm:γ[i']∈γ:=aaz A4;generalize γ[i']=r at ri hm;refine ⟨⟨_,_, .inl rfl,rfl⟩,δ,γ,i',r,rfl,ri, ?_⟩;cases r with
    | fin e=>
     obtain ⟨e1,e2,e3⟩:=zT ri (p::ps);refine ⟨λ_=>out _ _ ⟨i',g,c,n,E,_,_,_,A4,by omega,by rw [hL,e2],υ, ?_, ?_,rfl⟩,λz=>(nomatch z)⟩
     ·rw [<-hv];unfold nE;rw [e2,e3];rfl
     ·rw [hS,e1,aaG]
    | τ k ds=>
     have dn:=aq f hm;refine ⟨λz=>aaJ (aaH z) dn.ro.1,λ_=> ?_⟩;obtain ⟨j,d,hj,dl,OA,T_⟩:=Fs dn ri p;obtain ⟨e1,e2,e3⟩:=d9 (ps:=ps) T_;have hd:d∈ds:=aag OA;obtain ⟨t0,t1⟩:=dn.to _ hd;obtain ⟨p0,p1⟩:=dn.py _ hd;have ad:jh (ds.map a_) (j:Int)=some (a_ d):=Θ (by rw [aax,OA];rfl);have Hu:=xu p0 p1;obtain ⟨Qi,KO⟩:=υ.sz (by omega);have Gm:(M++[MO.lst (st.map dI)])[M.length]? =some (.lst (st.map dI)):=by simp
     have setM:(M++[MO.lst (st.map dI)]).set M.length (.lst (st.map dI++[dI (i',j)]))=M++[.lst ((st++[(i',j)]).map dI)]:=by simp
     have lt:(st.map dI).length < sizeLine:=by rw [aac,Bo];exact aaM (show n<=100 by omega) (by decide)
     refine ⟨δ,γ,i',k,ds,p,rfl,ri,dn, ?_⟩;rw [hj];refine ⟨⟨M.length,_,rfl,Gm⟩,fI,M.length,_,_,rfl,rfl,Gm,lt, ?_⟩;rw [show (M++[MO.lst (st.map dI)]).set M.length (MO.lst (st.map dI++[Dt.tup [Dt.int (i':Int),Dt.int (j:Int)]]))=M++[MO.lst ((st++[(i',j)]).map dI)] from setM];refine ⟨⟨_,_, .inl rfl,rfl⟩,δ,γ,i', .τ k ds,rfl,ri,dn.ro,fg (ds:=ds.map a_) (dJ ds) ?_⟩;refine (ω (d:= .lst (ds.map a_)) rfl ad ?_:cB (.lst (ds.map a_)) (.int (j:Int)) _ _);refine (GZ ?_:cB (a_ d) (.int 1) _ _);refine ⟨c,d.2.1,3200,101,rfl,KO,Hu,by decide,g,Λ c d.2.1,3200,3301,rfl,Qi,vF KO Hu,by decide, ?_⟩;refine ⟨⟨_,_, .inl rfl,rfl⟩,δ,γ,rfl,c,δ,3200,11,rfl,KO,U3,by decide, ?_⟩;refine (qE ?_:cB (a_ d) (.int 0) _ _);rw [show d.1=((d.1.toNat:Nat):Int) by omega];refine gO _ _ ⟨ps,d.1.toNat,st++[(i',j)],bE g (Λ c d.2.1),Λ c δ,n+1,_,_,_,_,rfl,by omega,by omega,by simp [Bo],by rw [hS,e1];simp,by rw [hL,e2],υ.step p0 p1 f.sh, ?_,rfl,rfl⟩;rw [<-hv];have c0:=υ.rc.pos;have tp:0 < (Λ c d.2.1).2:=bP (aaR (aaC c0 p1));rw [dF υ.rg.pos tp,cP c0 p1,cP c0 s0];have e4:nE δ γ i' (p::ps)=val d.2.1+val δ * nE δ γ d.1.toNat ps:=by unfold nE;rw [e2,e3];rfl
     rw [e4];generalize nE δ γ d.1.toNat ps=z1;generalize val g=z2;generalize val c=z3;generalize val d.2.1=z4;generalize val δ=z5;grind
  ·obtain ⟨ps,i',st,g,c,n,E,o6,o7,o8,ex,A4,hn,Bo,hS,hL,υ,hv,rfl,rfl⟩:=hj;cases ps with
   | cons p ps=>cases ex
   | nil=>
    refine ⟨i',g,c,n,E,o6,o7,o8,A4,by omega,hL,υ, ?_, ?_,rfl⟩
    ·rw [<-hv];rfl
    ·rw [hS];show M++[MO.lst (st.map dI)]=M++[MO.lst ((st++[]).map dI)];rw [aaG]
  ·obtain ⟨i',g,c,n,E,o6,o7,o8,A4,hn,hL,υ,hv,rfl,rfl⟩:=hj;have ri:γ[i']? =some γ[i']:=aaa A4;have hm:γ[i']∈γ:=aaz A4;generalize γ[i']=r at ri hm;obtain ⟨Qi,KO⟩:=υ.sz hn;refine ⟨λρ M2=>M2=M++[MO.lst ((fR γ i picks).map dI)]/\∃R,Red R/\val R=nE δ γ i picks/\ρ=[some (Κ Cn δ γ),some (.int (i':Int)),some g0,some (.loc M.length),some (Δ R),some (Δ c),o6,o7,o8], ?_, ?_⟩
   ·refine ⟨⟨_,_, .inl rfl,rfl⟩,δ,γ,i',r,rfl,ri, ?_⟩;cases r with
    | τ k ds=>
     have dn:=aq f hm;refine ⟨λz=>aaJ (aaH z) dn.ro.1,λ_=>⟨rfl,g,υ.rg, ?_,rfl⟩⟩;rw [<-hv];unfold hX;rw [ri];have:val (0,1)=0:=by unfold val;grind
     show val g=val g+val c * val (0,1);rw [this];grind
    | fin e=>
     obtain ⟨e0,ef⟩:=f.row _ hm;have e0:0 < e.2:=e0;have Hu:=xu ef e0;refine ⟨λ_=> ?_,λz=>(nomatch z)⟩;refine ⟨⟨_,_, .inl rfl,rfl⟩,δ,γ,i', .fin e,rfl,ri,e0, ?_⟩;have c0:=υ.rc.pos;have tp:0 < (Λ c e).2:=bP (aaR (aaC c0 e0));refine ⟨c,e,3200,101,rfl,KO,Hu,by decide,g,Λ c e,3200,3301,rfl,Qi,vF KO Hu,by decide,rfl,bE g (Λ c e),aF (aaR (aaC υ.rg.pos tp)), ?_,rfl⟩;rw [<-hv,dF υ.rg.pos tp,cP c0 e0];unfold hX;rw [ri]
   ·rintro ρ2 M2 ⟨rfl,R,rR,vR,rfl⟩;have hq:=h R rR vR;rw [hL] at hq;exact ⟨by show 3<=sizeLine;decide,hq⟩
  ·have a:val (0,1)=0:=by unfold val;grind
   have b:val (1,1)=1:=by unfold val;grind
   rw [a,b];grind
def BK(ns:List Int)(k:Int):Int:=ns.getD k.toNat 0
theorem wH{k:Int}(h0:0<=k)(h2:k < ns.length):jh (ns.map Dt.int) k=some (.int (BK ns k)):=by
 have e:(ns.map Dt.int)[k.toNat]? =some (.int (BK ns k)):=by rw [aax,aaa (show k.toNat < ns.length by omega)];unfold BK;rw [aab,aaa (show k.toNat < ns.length by omega)];rfl
 have:=Θ e;rwa [show ((k.toNat:Nat):Int)=k by omega] at this
theorem FF{k:Int}(h:¬k < ns.length):BK ns k=0:=by unfold BK;rw [aab,abP (by omega)];rfl
def FP(ns:List Int)(k:Int):Bool:=decide (k < ns.length)&&(decide (BK ns k < 0) || decide (BK ns k ≥ 10 ^ 18))
theorem GF{k:Int}(h:FP ns k=false):0<=BK ns k/\BK ns k < 10 ^ 18:=by
 unfold FP at h;by_cases hk:k < ns.length
 ·rw [aav hk,ab5,Bool.or_eq_false_iff,decide_eq_false_iff_not,decide_eq_false_iff_not] at h;omega
 ·rw [FF hk];exact ⟨by decide,by decide⟩
theorem TK:rN 10 18:=⟨by decide,by decide,by decide⟩
theorem Sb:rN 10 64:=⟨by decide,by decide,by decide⟩
theorem p8:rN 10 8:=⟨by decide,by decide,by decide⟩
theorem p6:rN 10 6:=⟨by decide,by decide,by decide⟩
theorem VY:rN 10 22:=⟨by decide,by decide,by decide⟩
theorem SU:rN 10 30:=⟨by decide,by decide,by decide⟩
def Nm(n:Int):Prop:=0<=n/\n < 10 ^ 128
theorem B_{n:Int}(h:Nm n):gG n:=xf (k:=440) h.1 (aa1 h.2 (by decide)) (by decide)
theorem nY{m:Int}(h0:0 < m)(h1:m<=10 ^ 128):Nm (a % m):=⟨aaU _ (by omega),aa1 (aaN _ h0) h1⟩
theorem Cv{m:Int}(h:Nm a)(h0:0 < m):Nm (a / m):=⟨Int.ediv_nonneg h.1 (by omega),aar (Int.ediv_le_self _ h.1) h.2⟩
def Kp:DF:=λas M q _=>∃(ns:List Int) (k:Int),as=[.fc ns, .int k]/\0<=k/\q (.bl (FP ns k)) M
theorem Dx:χ ["_law_script","_law_k"] ["_law_script","_law_k"] (ο sR):= .of rfl
theorem AS(F:dN K "_law_far" "_law_far" sR f fd)(E:Ev K mg Cn):ar P w K mg base (cR P w) 1 f fd ["_law_script","_law_k"] (dE K Kp):=by
 refine F.eN Dx (λds M q x h=> ?_) (λbu A outer s H E' hr=>⟨_,(μ (ψ (ee (zB (jv 1) (c7 E.cE (Ο (jv 0) ζ))) (fZ (Nv (zB (Α (jv 0) (jv 1)) ξ) (fZ (RF (Α (jv 0) (jv 1)) (ke ξ ξ)))))))),λds M q x h=> ?_⟩)
 ·obtain ⟨ns,k,rfl,_⟩:=h;rfl
 ·obtain ⟨ns,k,rfl,hk,h⟩:=h;unfold FP at h;walk_at "vc";refine (az (d:= .fc ns) (xs:=ns.map .int) rfl ?_:gC [.fc ns] M _);rw [aac];refine ⟨λh1=> ?_,λh1=> ?_⟩
  ·have h1:decide (k < ns.length)=true:=h1;have HU:k < ns.length:=aaH h1;rw [h1,ab5] at h;refine (ω (d:= .fc ns) rfl (wH hk HU) ?_:cB (.fc ns) (.int k) M _);refine ⟨λh2=> ?_,λh2=> ?_⟩
   ·have h2:decide (BK ns k < 0)=true:=h2;rw [h2,Bool.true_or] at h;exact h
   ·have h2:decide (BK ns k < 0)=false:=h2;rw [h2,Bool.false_or] at h;refine (ω (d:= .fc ns) rfl (wH hk HU) ?_:cB (.fc ns) (.int k) M _);exact ⟨TK,h⟩
  ·have h1:decide (k < ns.length)=false:=h1;rw [h1,Bool.false_and] at h;exact h
def vw:DF:=λas M q _=>∃(ns:List Int) (k:Int),as=[.fc ns, .int k]/\0<=k/\k<=200/\∀n,Nm n->q (.int n) M
theorem Bz(x:Int)(h0:0<=x)(h1:x < 2147483647):gG x/\gG (x % 65521+30011):=⟨bg (k:=40) (by omega),bg (k:=40) (by omega)⟩
theorem IY{k:Int}(h0:0<=k)(h1:k<=200):gG ((k+1) * (k+1)):=by have a:=aba (show k+1<=201 by omega) (show k+1<=201 by omega) (show 0<=k+1 by omega) (show (0:Int)<=201 by decide);have b:0<=(k+1) * (k+1):=aa4 (by omega) (by omega);exact bg (k:=40) (by omega)
theorem iq:χ ["_law_script","_law_k","_law_cell","_law_number_here"] ["_law_script","_law_k"] (ο jZ):= .of rfl
theorem sd(F:dN K "_law_number" "_law_number" jZ f fd)(E:Ev K mg Cn){tS:Addr}{rQ:FuncData}(gy:aE P w K mg base 1 "_law_far" ["_law_script","_law_k"] Kp tS rQ):ar P w K mg base (cR P w) 2 f fd ["_law_script","_law_k"] (dE K vw):=by
 refine F.eN iq (λds M q x h=> ?_) (λbu A outer s H E' hr=>⟨_,(ι (π 2 iq.nd (u6 (yW (jv 1) (c7 E.cE (Ο (jv 0) ζ))) (Α (jv 0) (jv 1)) ξ))
   (ι (aI (da (aj gy hr ν (Ο (jv 0) (Ο (jv 1) ζ)))) (μ (ψ (bo (jv 2) (ke ξ ξ)))) Ξ)
   (ι (π 3 iq.nd (bo (ck (br (jv 2) ξ) (br (br (ck (jv 1) ξ) (ck (jv 1) ξ)) ξ)) ξ))
   (μ (ψ (bo (ck (br (jv 3) (ck (bo (jv 3) ξ) ξ)) (br (ck (jv 1) ξ) ξ)) ξ)))))),λds M q x h=> ?_⟩)
 ·obtain ⟨ns,k,rfl,_⟩:=h;rfl
 ·obtain ⟨ns,k,rfl,hk,k2,h⟩:=h;have bk:=IY hk k2;have b1:gG (k+1):=bg (k:=40) (by omega);have b3:gG (k+3):=bg (k:=40) (by omega);have cc:∀n:Int,n.natAbs < 2 ^ 20->gG n:=λn hn=>bg hn;walk_at "vc";refine (az (d:= .fc ns) (xs:=ns.map .int) rfl ?_:gC [.fc ns] M _);rw [aac];refine ⟨λh1=> ?_,λh1=> ?_⟩
  ·have HU:k < ns.length:=aaH h1;refine (ω (d:= .fc ns) rfl (wH hk HU) ?_:cB (.fc ns) (.int k) M _);refine ⟨ns,k,rfl,hk,λh2=> ?_,λh2=> ?_⟩
   ·exact ⟨Sb,by decide,h _ (nY (by decide) (by decide))⟩
   ·obtain ⟨c0,c1⟩:=GF h2;refine ⟨⟨bg (k:=64) (by omega),cc _ (by decide)⟩,⟨b1,b1⟩,⟨bk,cc _ (by decide)⟩,by decide, ?_⟩;exact ⟨by decide,Bz _ (aaU _ (by decide)) (aaN _ (by decide)),⟨b3,cc _ (by decide)⟩,by decide,h _ (nY (by decide) (by decide))⟩
  ·have HU:¬k < ns.length:=aaW h1;refine ⟨ns,k,rfl,hk,λh2=> ?_,λh2=> ?_⟩
   ·exact ⟨Sb,by decide,h _ (nY (by decide) (by decide))⟩
   ·refine ⟨⟨cc _ (by decide),cc _ (by decide)⟩,⟨b1,b1⟩,⟨bk,cc _ (by decide)⟩,by decide, ?_⟩;exact ⟨by decide,Bz _ (aaU _ (by decide)) (aaN _ (by decide)),⟨b3,cc _ (by decide)⟩,by decide,h _ (nY (by decide) (by decide))⟩
theorem qt:χ ["_law_script","_law_k","_law_number_here"] ["_law_script","_law_k"] (ο nD):= .of rfl
theorem wI(F:dN K "_law_rest" "_law_rest" nD f fd)(E:Ev K mg Cn)(Υ:aE P w K mg base 2 "_law_number" ["_law_script","_law_k"] vw b6 bY){tS:Addr}{rQ:FuncData}(gy:aE P w K mg base 1 "_law_far" ["_law_script","_law_k"] Kp tS rQ):ar P w K mg base (cR P w) 3 f fd ["_law_script","_law_k"] (dE K vw):=by
 refine F.eN qt (λds M q x h=> ?_) (λbu A outer s H E' hr=>⟨_,(ι (π 2 qt.nd (aj Υ hr ν (Ο (jv 0) (Ο (jv 1) ζ))))
   (ι (aI (da (aj gy hr ν (Ο (jv 0) (Ο (jv 1) ζ)))) (μ (ψ (cF (jv 2) (ke ξ ξ)))) Ξ)
   (μ (ψ (bo (br (jv 2) ξ) ξ))))),λds M q x h=> ?_⟩)
 ·obtain ⟨ns,k,rfl,_⟩:=h;rfl
 ·obtain ⟨ns,k,rfl,hk,k2,h⟩:=h;refine ⟨ns,k,rfl,hk,k2,λn hn=> ?_⟩;refine ⟨ns,k,rfl,hk,λh2=> ?_,λh2=> ?_⟩
  ·exact ⟨p8,⟨by decide,bg (k:=40) (by decide)⟩,h _ (Cv hn (by decide))⟩
  ·exact ⟨⟨B_ hn,bg (k:=20) (by decide)⟩,by decide,h _ (nY (by decide) (by decide))⟩
theorem Mv(h1: -(10 ^ 30)<=a)(h2:a<=10 ^ 30)(h3:b<=1000000):aH (a,b)=true:=by
 unfold aH;have:(if a < 0 then -a else a)<=10 ^ 30:=by split <;> omega
 show (decide ((if a < 0 then -a else a)<=10 ^ 30)&&decide (b<=1000000))=true;rw [aav this,aav h3];rfl
theorem zd(h1: -(10 ^ 30)<=t)(h2:t<=10 ^ 30)(h0:0 < b)(h3:b<=1000000):aH (aw t b)=true:=by
 have l1:=kQ (t:=t) (show b≠0 by omega);have l2:=j' (t:=t) (show b≠0 by omega);generalize aw t b=f at *
 obtain ⟨x,y⟩:=f;have l1:x.natAbs<=t.natAbs:=l1;have l2:y.natAbs<=b.natAbs:=l2;exact Mv (by omega) (by omega) (by omega)
theorem xb(t0:0<=t)(t1:t < b)(X9:b<=1000):ai (aw t b)=true:=by
 have Hw:0 < b:=by omega
 have l2:=j' (t:=t) (show b≠0 by omega);have q0:=bP (t:=t) (show b≠0 by omega);have hc:=cM (t:=t) (show b≠0 by omega);generalize aw t b=f at *
 obtain ⟨x,y⟩:=f;have l2:y.natAbs<=b.natAbs:=l2;have q0:0 < y:=q0;have hc:t * y=b * x:=hc;have x0:0<=x:=by
  rcases ace x 0 with z | z
  ·have:=abV Hw z;have:=aa4 t0 (aai q0);omega
  ·exact z
 have x1:x < y:=by
  rcases ace x y with z | z
  ·exact z
  ·have h3:b * y<=b * x:=aa8 z (aai Hw);have h4:t * y < b * y:=Int.mul_lt_mul_of_pos_right t1 q0;omega
 unfold ai;show (decide (0<=x)&&(decide (x < y)&&decide (y<=1000)))=true;rw [aav x0,aav x1,aav (show y<=1000 by omega)];rfl
def An:DF:=λas M q _=>∃t b:Int,as=[.int t, .int b]/\0 < b/\gG b/\q (Δ (aw t b)) M
theorem fW:χ ["_law_top","_law_bottom","_law_one","_law_other"] ["_law_top","_law_bottom"] (ο jP):= .of rfl
theorem rT(F:dN K "_law_lowest" "_law_lowest" jP f fd)(E:Ev K mg Cn):ar P w K mg base (cR P w) 1 f fd ["_law_top","_law_bottom"] (dE K An):=by
 refine F.eN fW (λds M q x h=> ?_) (λbu A outer s H E' hr=>⟨_,(ι (π 2 fW.nd (yj E.pe (Ο (jv 0) ζ)))
   (ι (π 3 fW.nd (jv 1))
   (ι (oR (nB hr (jv 3) ξ) (μ (IC (i:=2) (j:=3) fW.nd rfl rfl (Ο (jv 3) (η (bo (jv 2) (jv 3)) ζ aX)))))
   (μ (ψ (aV (η (cF (jv 0) (jv 2)) (η (cF (jv 1) (jv 2)) ζ aX) aX))))))),λds M q x h=> ?_⟩)
 ·obtain ⟨t,b,rfl,_⟩:=h;rfl
 ·obtain ⟨t,b,rfl,h0,h1,h⟩:=h;have ga:g (if t < 0 then -t else t) b=g t b:=by have:=Hr t b;rwa [aaA (show¬b < 0 by omega)] at this
  refine ⟨λm ρ M'=>M'=M/\∃(x y:Int),ρ=[some (.int t),some (.int b),some (.int x),some (.int y)]/\0<=x/\0<=y/\g x y=g t b/\m=y.toNat,⟨_,rfl,_,_,rfl,by split <;> omega,by omega,ga,rfl⟩, ?_⟩;rintro m ρ M' ⟨rfl,x,y,rfl,hx,hy,e,rfl⟩;refine ⟨λhb=> ?_,λhb=> ?_⟩
  ·have Fg:y≠0:=by simpa using hb
   refine ⟨_,λρ' M2 h2=>h2, ?_⟩;refine ⟨by omega,(x % y).toNat, ?_,rfl,y,x % y,rfl,hy,aaU _ Fg, ?_,rfl⟩
   ·have:=aaN x (show 0 < y by omega);have:=aaU x Fg;omega
   ·rw [<-abu x hy,Bk (by omega)];exact e
  ·have Fg:y=0:=by simpa using hb
   subst Fg;rw [B9 hx] at e;subst e;have hg:0 < g t b:=qO (by omega);have hle:g t b<=b:=ab4 h0 (Int.gcd_dvd_right ..);have hb:gG (g t b):=aaM (show (g t b).natAbs<=b.natAbs by omega) h1;have e:aw t b=(t / g t b,b / g t b):=by rw [yd h0,abv _ (aai hg),abv _ (aai hg)]
   rw [e] at h;exact ⟨⟨hg,hb⟩,⟨hg,hb⟩,fI,h⟩
def CA:DF:=λas M q _=>∃n:Int,as=[.int n]/\Nm n/\∀p,aH p=true->Red p->q (Δ p) M
theorem Ck:χ ["_law_number_here"] ["_law_number_here"] (ο sQ):= .of rfl
theorem zG(F:dN K "_law_pay" "_law_pay" sQ f fd)(E:Ev K mg Cn)(aa:aE P w K mg base 1 "_law_lowest" ["_law_top","_law_bottom"] An bU bT):ar P w K mg base (cR P w) 2 f fd ["_law_number_here"] (dE K CA):=by
 refine F.eN Ck (λds M q x h=> ?_) (λbu A outer s H E' hr=>⟨_,(ι (aI (cW hr (bo (jv 0) ξ) ξ) (μ (ψ (aj aa hr ν (η (yB (bo (br (jv 0) (ke ξ ξ)) (ck (br ξ (ke ξ ξ)) ξ)) (ke ξ ξ)) (η (ck ξ (bo (cF (jv 0) ξ) (ke ξ ξ))) ζ aX) aX)))) Ξ)
   (μ (ψ (aj aa hr ν (η (yB (bo (cF (jv 0) ξ) ξ) ξ) (η (ck ξ (bo (cF (jv 0) ξ) ξ)) ζ aX) aX))))),λds M q x h=> ?_⟩)
 ·obtain ⟨n,rfl,_⟩:=h;rfl
 ·obtain ⟨n,rfl,hn,h⟩:=h;refine ⟨by decide,λ_=> ?_,λ_=> ?_⟩
  ·have KW:0 < 1+n / 8 % 10 ^ (6:Int).toNat/\1+n / 8 % 10 ^ (6:Int).toNat<=1000000:=by show 0 < 1+n / 8 % 1000000/\1+n / 8 % 1000000<=1000000;omega
   have XS:gG (1+n / 8 % 10 ^ (6:Int).toNat):=xf (k:=20) (aai KW.1) (aar KW.2 (by decide)) (by decide);have Tu:gG ((10:Int) ^ (22:Int).toNat):=bg (k:=110) (by decide);have T2:gG ((10:Int) ^ (30:Int).toNat):=bg (k:=110) (by decide);have m0:(0:Int) < 2 * 10 ^ (30:Int).toNat+1:=by decide
   have Qm:=aaU (n * 10 ^ (22:Int).toNat) (show (2 * 10 ^ (30:Int).toNat+1:Int)≠0 by decide);have Sd:=aaN (n * 10 ^ (22:Int).toNat) m0;refine ⟨VY,⟨B_ hn,Tu⟩,SU,⟨bg (k:=4) (by decide),T2⟩,m0,SU,⟨by decide,bg (k:=5) (by decide)⟩,p6,(by show (0:Int) < 1000000;decide),_,_,rfl,KW.1,XS,h _ (zd ?_ ?_ KW.1 KW.2) (aF (by omega))⟩
   ·show -(10 ^ 30)<=n * 10 ^ (22:Int).toNat % (2 * 10 ^ (30:Int).toNat+1) - 10 ^ 30;omega
   ·have e:(10:Int) ^ (30:Int).toNat=10 ^ 30:=rfl;rw [e] at Sd;show n * 10 ^ (22:Int).toNat % (2 * 10 ^ 30+1) - 10 ^ 30<=10 ^ 30;omega
  ·exact ⟨⟨by decide,bg (k:=4) (by decide)⟩,by decide,⟨by decide,bg (k:=8) (by decide)⟩,by decide,_,_,rfl,by omega,bg (k:=10) (by omega),h _ (zd (by omega) (by omega) (by omega) (by omega)) (aF (by omega))⟩
structure qL(kd:Str)(size:Int)(cs:List Fr)(ds:List dj):Prop where
 fit:∀d∈ds,aG d.1 d.2.1 size=true/\0 < d.2.1.2
 NI:kd="chance"->(∀d∈ds,d.2.2=[θ d])/\ds.map θ=cs.take ds.length
 QP:kd≠"chance"->∀d∈ds,d.2.2=[]
theorem qL.more{kd:Str}{size:Int}{cs:List Fr}{ds:List dj}{d:dj}(h:qL kd size cs ds)(h1:aG d.1 d.2.1 size=true)(h2:0 < d.2.1.2)(hl:ds.length < cs.length)(h3:kd="chance"->d.2.2=[cs[ds.length]])(h4:kd≠"chance"->d.2.2=[]):qL kd size cs (ds++[d]):=by
 refine ⟨λe he=> ?_,λhc=>⟨λe he=> ?_, ?_⟩,λhc e he=> ?_⟩
 ·rcases aa2.mp he with he | he
  ·exact h.fit e he
  ·have:e=d:=by simpa using he
   subst this;exact ⟨h1,h2⟩
 ·rcases aa2.mp he with he | he
  ·exact (h.NI hc).1 e he
  ·have:e=d:=by simpa using he
   subst this;unfold θ;rw [h3 hc];rfl
 ·rw [abd,(h.NI hc).2,aaf];show cs.take ds.length++[θ d]=cs.take (ds.length+1);rw [List.take_succ,aaa hl];unfold θ;rw [h3 hc];rfl
 ·rcases aa2.mp he with he | he
  ·exact h.QP hc e he
  ·have:e=d:=by simpa using he
   subst this;exact h4 hc
theorem qL.good{kd:Str}{size:Int}{cs:List Fr}{ds:List dj}(h:qL kd size cs ds)(hk:Ζ kd=true\/kd="chance")(h1:1<=ds.length)(h6:ds.length<=6)(hl:ds.length=cs.length)(hc:Φ cs=true)(ho:Hq cs):m_ size (.τ kd ds):=by
 by_cases mR:kd="chance"
 ·subst mR;have e:ds.map θ=cs:=by rw [(h.NI rfl).2,hl,List.take_length]
  exact Aa h1 h6 (λd hd=>(h.fit d hd).1) (h.NI rfl).1 (by rw [e];exact hc) (by rw [e];exact ho) λd hd=>(h.fit d hd).2
 ·exact Fv (hk.resolve_right mR) h1 h6 (λd hd=>(h.fit d hd).1) λd hd=>⟨h.QP mR d hd,(h.fit d hd).2⟩
def KH(size:Int)(r:Rw):Prop:=m_ size r/\(∀k ds,r= .τ k ds->Ζ k=true->∀d∈ds,d.2.2=[])/\(∀p,r= .fin p->Red p)
theorem ER{k:Str}(h:Ζ k=true):k≠"chance":=λz=>by subst z;exact aaJ h (by decide)
def zc:DF:=λas M q _=>∃(ns:List Int) (a:Int) (kd:Str) (dD:Nat) (size:Int),as=[.fc ns, .int a, .str kd, .int dD, .int size]/\1<=a/\a<=150/\1<=dD/\dD<=6/\1<=size/\size<=12/\(Ζ kd=true\/kd="chance")/\∀ds,KH size (.τ kd ds)->q (.loc M.length) (M++[.lst (ds.map a_)])
theorem bB:χ ["_law_script","_law_at","_law_kind","_law_many","_law_size","_law_numbers","_law_most","_law_weights","_law_doors_here","_law_k","_law_door"] ["_law_script","_law_at","_law_kind","_law_many","_law_size"] (ο lD):= .of rfl
theorem ud(F:dN K "_law_doors" "_law_doors" lD f fd)(E:Ev K mg Cn)(Υ:aE P w K mg base 2 "_law_number" ["_law_script","_law_k"] vw b6 bY){rZ:Addr}{tU:FuncData}(gB:aE P w K mg base 2 "_law_pay" ["_law_number_here"] CA rZ tU){CY:Addr}{Dg:FuncData}(l3:aE P w K mg base 3 "_law_rest" ["_law_script","_law_k"] vw CY Dg)(aa:aE P w K mg base 1 "_law_lowest" ["_law_top","_law_bottom"] An bU bT):ar P w K mg base (cR P w) 4 f fd ["_law_script","_law_at","_law_kind","_law_many","_law_size"] (dE K zc):=by
 refine F.eN bB (λds M q x h=> ?_) (λbu A outer s H E' hr=>⟨_,(ι (xw (i:=5) bB.nd rfl (Or.inl rfl) (ys:=["_law_script","_law_at"]) (Ψ:=[0,1]) (.of bB rfl rfl rfl) (bq E.bh (Ο (jv 3) ζ)) (λC s H fp=>(aj Υ hr (iO (P:=P) (w:=w)) (Ο (jv 1) (η (ck (jv 2) (jv 0)) ζ aX)))))
   (ι (π 6 bB.nd (Α (kO (η ξ (η (cF (ke ξ ξ) (jv 3)) ζ aX) aL)) (cF (bo (cF (aj Υ hr ν (Ο (jv 0) (η (yB (jv 1) ξ) ζ aX))) ξ) ξ) ξ)))
   (ι (uf (i:=7) bB.nd rfl (Or.inl rfl) (ys:=["_law_most","_law_size"]) (Ψ:=[6,4]) (.of bB rfl rfl rfl) (bL (jv 5)) (λC s H fp=>(ck ξ (bo (cF (jv 0) (jv 2)) (jv 1)))))
   (ι (π 8 bB.nd (ic ζ))
   (ι (gj (bq E.bh (Ο (jv 3) ζ)) (Ι (i:=9) bB.nd rfl (Or.inl rfl)) aJ (ι (π 10 bB.nd (aV (η (bo (Α (jv 5) (jv 9)) (jv 4)) (η (aj gB hr ν (η (aj l3 hr ν (Ο (jv 0) (η (ck (jv 1) (jv 9)) ζ aX))) ζ aP)) ζ aP) aX)))
   (ι (lQ (aI (cW hr (jv 2) dZ) (μ (π 10 bB.nd (ck (jv 10) (aV (η (aj aa hr ν (η (Α (jv 7) (jv 9)) (η (Hh E.uQ (Ο (jv 7) ζ)) ζ aP) ax)) ζ aP))))) Ξ))
   (μ (c_ (cY (jv 8) (Ο (jv 10) ζ)))))))
   (μ (ψ (jv 8)))))))),λds M q x h=> ?_⟩)
 ·obtain ⟨ns,a,kd,dD,size,rfl,_⟩:=h;rfl
 ·obtain ⟨ns,a,kd,dD,size,rfl,a0,a1,n1,n6,s1,Yk,Nj,h⟩:=h;walk_at "vc";refine ⟨⟨by omega,by omega⟩,by rw [cI];exact aaI (show _<=6 by omega) (by decide), ?_⟩;refine nC (f:=Dt.int) Nm _ [] (λ_ z=>(nomatch z)) (λx EI q' hq=> ?_) λxs Oo hx=> ?_
  ·obtain ⟨k,hk,rfl⟩:=j4 EI;have Yj:(k:Int) < 6:=by omega
   exact ⟨ns,a+(0+(k:Int)),rfl,by omega,by omega,hq⟩
  have Oo:xs.length=dD:=by rw [Oo,cI];simp
  refine ⟨p6,⟨by omega,bg (k:=10) (by omega)⟩,fI,ns,a - 1,rfl,by omega,by omega,λn hn=> ?_⟩;refine ⟨⟨by decide,bg (k:=8) (by decide)⟩,by decide,⟨by decide,bg (k:=4) (by decide)⟩, ?_⟩;obtain ⟨most,em,m0,m1⟩:∃most:Int,jh [Dt.int 6,Dt.int (10 ^ (6:Int).toNat / (dD:Int))] (n / 42 % 4 / 3)=some (.int most)/\0 < most/\dD * most<=1000000:=by
   obtain ⟨t1,t2⟩:=GC n1 n6;have:n / 42 % 4 / 3=0\/n / 42 % 4 / 3=1:=by omega
   rcases this with e | e
   ·rw [e];exact ⟨6,dM,by decide,by omega⟩
   ·rw [e];exact ⟨_,Θ (j:=1) rfl,t1,t2⟩
  refine ω (d:= .lst [Dt.int 6,Dt.int (10 ^ (6:Int).toNat / (dD:Int))]) rfl em ?_;show eG _ _ _ _ _;refine cx (i:=5) (d:= .lst (xs.map .int)) rfl rfl ⟨by rw [aac,Oo];exact aaI n6 (by decide), ?_⟩;refine cQ (f:=λd=>match d with | .int n=> .int (1+n / size % most) | _=> .ba) trivial (λx EI q' hq=> ?_) ?_
  ·obtain ⟨y,hy,rfl⟩:=aas.mp EI;exact ⟨⟨by omega,bg (k:=10) (by omega)⟩,m0,hq⟩
  rw [aa3,show (xs.map Dt.int).map (λd=>match d with | .int n=> .int (1+n / size % most) | _=> .ba)=(xs.map λn=>1+n / size % most).map Dt.int by rw [aaO,aaO];rfl];generalize Kl:(xs.map λn=>1+n / size % most)=ws;have wl:ws.length=dD:=by rw [<-Kl,aac,Oo]
  have w0:∀w∈ws,0 < w/\w<=most:=λw hw=>by rw [<-Kl] at hw;obtain ⟨y,_,rfl⟩:=aas.mp hw;have e0:=aaU (y / size) (show most≠0 by omega);have e1:=aaN (y / size) m0;omega
  have hS:ws.sum<=1000000:=by have:=DJ λw Rr=>(w0 w Rr).2;rw [wl] at this;omega
  have vW:ws≠[]:=λz=>by rw [z] at wl;simp at wl;omega
  have QW:=y9 (λw hw=>(w0 w hw).1) vW;obtain ⟨c1,c2⟩:=w4 (S:=ws.sum) rfl (λw Rr=>(w0 w Rr).1) vW hS (by omega);have cl:(ws.map λw=>aw w ws.sum).length=dD:=by rw [aac,wl]
  have bS:gG ws.sum:=bg (k:=21) (by omega);clear Kl;refine ⟨by decide,⟨by omega,by omega⟩, ?_⟩;refine cK (λzs ρ M'=>∃(n k:Nat) (ds:List dj) (o1 o2:Option Dt),zs=dY k n/\k+n=dD/\ds.length=k/\qL kd size (ws.map λw=>aw w ws.sum) ds/\M'=M++[MO.lst (ds.map a_)]/\ρ=[some (.fc ns),some (.int a),some (.str kd),some (.int dD),some (.int size),some (.lst (xs.map .int)),some (.int most),some (.lst (ws.map .int)),some (.loc M.length),o1,o2]) (λx zs ρ M' hj gO=> ?_) (λρ M' hj=> ?_) _ _ _ ⟨dD,0,[],none,none,by simp,by simp,rfl,⟨λ_ z=>(nomatch z),λ_=>⟨λ_ z=>(nomatch z),rfl⟩,λ_ _ z=>(nomatch z)⟩,rfl,rfl⟩
  ·obtain ⟨n,k,ds,o1,o2,ex,QQ,hl,hd,rfl,rfl⟩:=hj;obtain ⟨m,rfl,rfl,rfl⟩:=cy ex;have k6:(k:Int) < 6:=by omega
   have kx:k < xs.length:=by omega
   have kw:k < ws.length:=by omega
   have Gm:(M++[MO.lst (ds.map a_)])[M.length]? =some (.lst (ds.map a_)):=by simp
   have setM:∀y:dj,(M++[MO.lst (ds.map a_)]).set M.length (.lst (ds.map a_++[a_ y]))=M++[.lst ((ds++[y]).map a_)]:=λy=>by simp
   have lt:(ds.map a_).length < sizeLine:=by rw [aac,hl];exact aaM (show k<=12 by omega) (by decide)
   walk_at "vc";refine (ω (d:= .lst (xs.map .int)) rfl (D' kx) ?_:cB (.lst (xs.map .int)) (.int (k:Int)) _ _);refine ⟨by omega,ns,_,rfl,by omega,by omega,λr Gj=>⟨r,rfl,Gj,λp hp Oj=>⟨fI, ?_⟩⟩⟩;have GL:=Oj.pos;have Ff:aG (xs[k] % size) p size=true:=FI (aaU _ (by omega)) (aaN _ (by omega)) hp;refine ⟨λρ M2=>M2=M++[MO.lst (ds.map a_)]/\∃d:dj,(aG d.1 d.2.1 size=true/\0 < d.2.1.2/\(kd="chance"->d.2.2=[aw ws[k] ws.sum])/\(kd≠"chance"->d.2.2=[]))/\ρ=[some (.fc ns),some (.int a),some (.str kd),some (.int dD),some (.int size),some (.lst (xs.map .int)),some (.int most),some (.lst (ws.map .int)),some (.loc M.length),some (.int (k:Int)),some (a_ d)],⟨λhc=> ?_,λhc=> ?_⟩, ?_⟩
   ·have hc:kd="chance":=aaH hc;walk_at "vc";refine (ω (d:= .lst (ws.map .int)) rfl (D' kw) ?_:cB (.lst (ws.map .int)) (.int (k:Int)) _ _);exact ⟨ws,rfl,⟨_,_,rfl⟩,_,_,rfl,QW,bS,(by show 1<=sizeLine;decide),⟨by simp,by show 3<=sizeLine;decide⟩,rfl,(xs[k] % size,p,[aw ws[k] ws.sum]),⟨Ff,GL,λ_=>rfl,λz=>absurd hc z⟩,rfl⟩
   ·have hc:kd≠"chance":=aaW hc;exact ⟨rfl,(xs[k] % size,p,[]),⟨Ff,GL,λz=>aaJ z hc,λ_=>rfl⟩,rfl⟩
   ·rintro ρ2 M2 ⟨rfl,d,⟨d1,d2,d3,d4⟩,rfl⟩;refine ⟨⟨M.length,_,rfl,Gm⟩,M.length,_,_,rfl,rfl,Gm,lt, ?_⟩;rw [setM d];refine gO _ _ ⟨m,k+1,ds++[d],_,_,by simp,by omega,by simp [hl],hd.more d1 d2 (by rw [cl];omega) (λz=> ?_) d4,rfl,rfl⟩;rw [d3 z];simp [hl]
  ·obtain ⟨n,k,ds,o1,o2,ex,QQ,hl,hd,rfl,rfl⟩:=hj;have hn:n=0:=by have:=aa5 List.length ex;unfold dY at this;simpa using this.symm
   exact h ds ⟨hd.good Nj (by omega) (by omega) (by rw [cl];omega) c1 c2,λk' Hl e hk d Mp=>by cases e;exact hd.QP (ER hk) d Mp,λ_ e=>(nomatch e)⟩
theorem BL{n:Int}:∃kd:Str,jh [Dt.str "one",Dt.str "chance",Dt.str "other",Dt.str "end",Dt.str "chance",Dt.str "one",Dt.str "other"] (n % 7)=some (.str kd)/\(Ζ kd=true\/kd="chance"\/kd="end"):=by
 have:n % 7=0\/n % 7=1\/n % 7=2\/n % 7=3\/n % 7=4\/n % 7=5\/n % 7=6:=by omega
 rcases this with e | e | e | e | e | e | e <;> rw [e]
 ·exact ⟨_,dM, .inl (by decide)⟩
 ·exact ⟨_,Θ (j:=1) rfl, .inr (.inl rfl)⟩
 ·exact ⟨_,Θ (j:=2) rfl, .inl (by decide)⟩
 ·exact ⟨_,Θ (j:=3) rfl, .inr (.inr rfl)⟩
 ·exact ⟨_,Θ (j:=4) rfl, .inr (.inl rfl)⟩
 ·exact ⟨_,Θ (j:=5) rfl, .inl (by decide)⟩
 ·exact ⟨_,Θ (j:=6) rfl, .inl (by decide)⟩
def BG:DF:=λas M q _=>∃ns:List Int,as=[.fc ns, .int 6, .int 5]/\∀γ:List Rw,1<=γ.length->γ.length<=6->(∀r∈γ,KH γ.length r)->q (.loc M.length) (M++[.lst (γ.map Χ)])
theorem dq:χ ["_law_script","_law_most","_law_wide","_law_size","_law_rows_here","_law_place","_law_at","_law_first","_law_kind"] ["_law_script","_law_most","_law_wide"] (ο oh):= .of rfl
theorem xM(F:dN K "_law_rows" "_law_rows" oh f fd)(E:Ev K mg Cn)(Υ:aE P w K mg base 2 "_law_number" ["_law_script","_law_k"] vw b6 bY){rZ:Addr}{tU:FuncData}(gB:aE P w K mg base 2 "_law_pay" ["_law_number_here"] CA rZ tU){AO:Addr}{AB:FuncData}(jM:aE P w K mg base 4 "_law_doors" ["_law_script","_law_at","_law_kind","_law_many","_law_size"] zc AO AB):ar P w K mg base (cR P w) 5 f fd ["_law_script","_law_most","_law_wide"] (dE K BG):=by
 refine F.eN dq (λds M q x h=> ?_) (λbu A outer s H E' hr=>⟨_,(ι (π 3 dq.nd (ck ξ (bo (aj Υ hr ν (Ο (jv 0) (η ξ ζ aL))) (jv 1))))
   (ι (lQ (π 2 dq.nd (u6 (MF (jv 3) ξ) ξ (jv 2))))
   (ι (π 4 dq.nd (ic ζ))
   (ι (gj (bq E.bh (Ο (jv 3) ζ)) (Ι (i:=5) dq.nd rfl (Or.inl rfl)) aJ (ι (π 6 dq.nd (ck ξ (br (jv 2) (jv 5))))
   (ι (π 7 dq.nd (aj Υ hr ν (Ο (jv 0) (Ο (jv 6) ζ))))
   (ι (π 8 dq.nd (Α (iN 3 (d:= .lst [.str "one", .str "chance", .str "other", .str "end", .str "chance", .str "one", .str "other"]) (by rfl)) (bo (jv 7) ξ)))
   (μ (aI (cW hr (jv 8) dZ) (μ (c_ (cY (jv 4) (η (aV (η dZ (η (aj gB hr ν (η (cF (jv 7) ξ) ζ aX)) ζ aP) aL)) ζ fT)))) (μ (c_ (cY (jv 4) (η (aV (Ο (jv 8) (η (eQ (aj jM hr ν (Ο (jv 0) (η (ck (jv 6) ξ) (Ο (jv 8) (η (ck ξ (bo (cF (jv 7) ξ) (yB (jv 2) ξ))) (Ο (jv 3) ζ) aX)) aX)))) ζ aP))) ζ fT))))))))))
   (μ (ψ (jv 4))))))),λds M q x h=> ?_⟩)
 ·obtain ⟨ns,rfl,_⟩:=h;rfl
 ·obtain ⟨ns,rfl,h⟩:=h;refine ⟨ns,0,rfl,by decide,by decide,λn0 Ox=>⟨by decide, ?_⟩⟩;obtain ⟨sz,hz,z1,z6⟩:∃sz:Nat,1+n0 % 6=(sz:Int)/\1<=sz/\sz<=6:=⟨(1+n0 % 6).toNat,by omega,by omega,by omega⟩;dsimp only [z0];rw [hz];refine ⟨λρ M'=>M'=M/\∃wd:Int,(wd=5\/wd=7)/\ρ=[some (.fc ns),some (.int 6),some (.int wd),some (.int sz),none,none,none,none,none],⟨λ_=>⟨rfl,7, .inr rfl,rfl⟩,λ_=>⟨rfl,5, .inl rfl,rfl⟩⟩, ?_⟩;rintro ρ' M' ⟨rfl,wd,XI,rfl⟩;refine ⟨by decide,⟨by omega,by omega⟩, ?_⟩;refine cK (λzs ρ M2=>∃(n k:Nat) (rs:List Rw) (o1 o2 o3 o4:Option Dt),zs=dY k n/\k+n=sz/\rs.length=k/\(∀r∈rs,KH sz r)/\M2=M'++[MO.lst (rs.map Χ)]/\ρ=[some (.fc ns),some (.int 6),some (.int wd),some (.int sz),some (.loc M'.length),o1,o2,o3,o4]) (λx zs ρ M2 hj gO=> ?_) (λρ M2 hj=> ?_) _ _ _ ⟨sz,0,[],none,none,none,none,by simp,by simp,rfl,λ_ z=>(nomatch z),rfl,rfl⟩
  ·obtain ⟨n,k,rs,o1,o2,o3,o4,ex,QQ,hl,hd,rfl,rfl⟩:=hj;obtain ⟨m,rfl,rfl,rfl⟩:=cy ex;have k6:(k:Int) < 6:=by omega
   have XX:0<=2+wd * (k:Int)/\2+wd * (k:Int)<=100:=by rcases XI with rfl | rfl <;> omega
   have bw:gG wd:=bg (k:=10) (by omega);have Gm:(M'++[MO.lst (rs.map Χ)])[M'.length]? =some (.lst (rs.map Χ)):=by simp
   have setM:∀y:Rw,(M'++[MO.lst (rs.map Χ)]).set M'.length (.lst (rs.map Χ++[Χ y]))=M'++[.lst ((rs++[y]).map Χ)]:=λy=>by simp
   have lt:(rs.map Χ).length < sizeLine:=by rw [aac,hl];exact aaM (show k<=12 by omega) (by decide)
   have first:∃k' xs',Dt.loc M'.length= .loc k'/\(M'++[MO.lst (rs.map Χ)])[k']? =some (.lst xs'):=⟨_,_,rfl,Gm⟩
   have more:∀y,KH sz y->∀r∈rs++[y],KH sz r:=λy hy r hr=>by
    rcases aa2.mp hr with hr | hr
    ·exact hd r hr
    ·have:r=y:=by simpa using hr
     rw [this];exact hy
   refine ⟨⟨bw,bg (k:=10) (by omega)⟩,ns,_,rfl,XX.1,by omega,λf hf=>⟨by decide, ?_⟩⟩;obtain ⟨kd,ek,Nj⟩:=BL (n:=f);refine ω rfl ek ?_;refine ⟨λz=> ?_,λz=> ?_⟩
   ·refine ⟨first,⟨by decide,bg (k:=4) (by decide)⟩,_,rfl,Cv hf (by decide),λp hp Oj=>⟨fI,M'.length,_,_,rfl,rfl,Gm,lt, ?_⟩⟩;refine gO _ _ ⟨m,k+1,rs++[Rw.fin p],_,_,_,_,by simp,by omega,by simp [hl],more (.fin p) ⟨⟨Oj.pos,hp⟩,λ_ _ e=>(nomatch e),λ_ e=>by cases e;exact Oj⟩,setM (.fin p),rfl⟩
   ·have z:kd≠"end":=aaW z;have Nj:Ζ kd=true\/kd="chance":=by
     rcases Nj with hk | hk | hk
     ·exact .inl hk
     ·exact .inr hk
     ·exact aaJ hk z
    have w1:0 < wd - 1:=by omega
    have Qm:=aaU (f / 7) (show wd - 1≠0 by omega);have Sd:=aaN (f / 7) w1;refine ⟨first,⟨by decide,bg (k:=4) (by decide)⟩,w1,ns,_,kd,(1+f / 7 % (wd - 1)).toNat,sz,by rw [abf (by omega)],by omega,by omega,by omega,by omega,by omega,by omega,Nj,λds Uy=>fg (dJ ds) ?_⟩;refine ⟨fI,M'.length,_,_,rfl,rfl,Gm,lt, ?_⟩;exact gO _ _ ⟨m,k+1,rs++[Rw.τ kd ds],_,_,_,_,by simp,by omega,by simp [hl],more (.τ kd ds) Uy,setM (.τ kd ds),rfl⟩
  ·obtain ⟨n,k,rs,o1,o2,o3,o4,ex,QQ,hl,hd,rfl,rfl⟩:=hj;have hn:n=0:=by have:=aa5 List.length ex;unfold dY at this;simpa using this.symm
   have e:rs.length=sz:=by omega
   exact h rs (by omega) (by omega) (by rw [e];exact hd)
def zl:DF:=λas M q _=>∃n:Int,as=[.int n]/\∀p,ai p=true->q (Δ p) M
theorem pd:χ ["_law_number_here","_law_bottom"] ["_law_number_here"] (ο k_):= .of rfl
theorem uF(F:dN K "_law_share" "_law_share" k_ f fd)(E:Ev K mg Cn)(aa:aE P w K mg base 1 "_law_lowest" ["_law_top","_law_bottom"] An bU bT):ar P w K mg base (cR P w) 2 f fd ["_law_number_here"] (dE K zl):=by
 refine F.eN pd (λds M q x h=> ?_) (λbu A outer s H E' hr=>⟨_,(ι (π 1 pd.nd (Α (kO (η ξ (η (ck ξ (bo (jv 0) ξ)) (η ξ ζ aL) aX) aL)) (bo (cF (jv 0) ξ) ξ)))
   (μ (ψ (aj aa hr ν (η (bo (cF (jv 0) ξ) (jv 1)) (Ο (jv 1) ζ) aX))))),λds M q x h=> ?_⟩)
 ·obtain ⟨n,rfl,_⟩:=h;rfl
 ·obtain ⟨n,rfl,h⟩:=h;refine ⟨by decide,(by show 3<=sizeLine;decide),⟨by decide,bg (k:=11) (by decide)⟩,by decide, ?_⟩;obtain ⟨b,eb,b0,b1⟩:∃b:Int,jh [Dt.int 2, .int (1+n % 1000), .int 3] (n / 1000 % 3)=some (.int b)/\0 < b/\b<=1000:=by
   have:n / 1000 % 3=0\/n / 1000 % 3=1\/n / 1000 % 3=2:=by omega
   rcases this with e | e | e <;> rw [e]
   ·exact ⟨_,dM,by decide,by decide⟩
   ·exact ⟨_,Θ (j:=1) rfl,by omega,by omega⟩
   ·exact ⟨_,Θ (j:=2) rfl,by decide,by decide⟩
  refine ω rfl eb ?_;exact ⟨⟨by decide,bg (k:=13) (by decide)⟩,b0,_,_,rfl,b0,bg (k:=11) (by omega),h _ (xb (aaU _ (by omega)) (aaN _ b0) b1)⟩
def gY(M:Ms)(p1 p2:Pl):Ms:=M++[dP p1,dP p2, .eK [Sum.inr "one",Sum.inr "other"] [.loc M.length, .loc (M.length+1)]]
theorem yc(M:Ms)(p1 p2:Pl):vO (gY M p1 p2) (M.length+2) p1 p2:=by
 refine ⟨M.length,M.length+1, ?_, ?_, ?_⟩ <;> unfold gY
 ·rw [aap (by omega),show M.length+2 - M.length=2 by omega];rfl
 ·rw [aap (by omega),Nat.sub_self];rfl
 ·rw [aap (by omega),show M.length+1 - M.length=1 by omega];rfl
theorem HN(M:Ms)(p1 p2:Pl)(E:Ms):(gY M p1 p2++E)[M.length+2]? =some (.eK [Sum.inr "one",Sum.inr "other"] [.loc M.length, .loc (M.length+1)]):=by rw [List.getElem?_append_left (by unfold gY;simp)];unfold gY;rw [aap (by omega),show M.length+2 - M.length=2 by omega];rfl
theorem Ml(M:Ms)(p1 p2:Pl)(E:Ms):(gY M p1 p2++E)[M.length]? =some (dP p1):=by rw [List.getElem?_append_left (by unfold gY;simp)];unfold gY;rw [aap (by omega),Nat.sub_self];rfl
theorem Lf(M:Ms)(p1 p2:Pl)(E:Ms):(gY M p1 p2++E)[M.length+1]? =some (dP p2):=by rw [List.getElem?_append_left (by unfold gY;simp)];unfold gY;rw [aap (by omega),show M.length+1 - M.length=1 by omega];rfl
theorem D4(M:Ms)(p1 p2 p:Pl)(E:Ms):(gY M p1 p2++E).set M.length (dP p)=gY M p p2++E:=by unfold gY;rw [List.append_assoc,List.append_assoc,List.set_append_right (h:=Nat.le_refl _),Nat.sub_self];rfl
theorem A'(M:Ms)(p1 p2 p:Pl)(E:Ms):(gY M p1 p2++E).set (M.length+1) (dP p)=gY M p1 p++E:=by unfold gY;rw [List.append_assoc,List.append_assoc,List.set_append_right (h:=by omega),show M.length+1 - M.length=1 by omega];rfl
def zm(k:Str)(f:Pl->Pl)(p:Pl):Pl:=if k="one" then f p else p
def AG(k:Str)(f:Pl->Pl)(p:Pl):Pl:=if k="one" then p else f p
theorem A_(M:Ms)(p1 p2:Pl)(E:Ms){k:Str}(h:Ζ k=true):∃(k':Nat) (p:Pl),av [Sum.inr "one",Sum.inr "other"] [Dt.loc M.length,Dt.loc (M.length+1)] (Sum.inr k)=some (.loc k')/\(gY M p1 p2++E)[k']? =some (dP p)/\Ω p1 p2 k=some p/\∀f:Pl->Pl,(gY M p1 p2++E).set k' (dP (f p))=gY M (zm k f p1) (AG k f p2)++E:=by
 unfold Ζ at h;rw [ab7,abi,abi] at h;rcases h with rfl | rfl
 ·exact ⟨M.length,p1,rfl,Ml M p1 p2 E,rfl,λf=>D4 M p1 p2 (f p1) E⟩
 ·exact ⟨M.length+1,p2,rfl,Lf M p1 p2 E,rfl,λf=>A' M p1 p2 (f p2) E⟩
theorem yG{p1 p2:Pl}{k k':Str}{f:Pl->Pl}(h:Ζ k=true):Ω (zm k f p1) (AG k f p2) k'=if k'=k then (Ω p1 p2 k').map f else Ω p1 p2 k':=by
 unfold Ζ at h;rw [ab7,abi,abi] at h;unfold Ω zm AG;rcases h with rfl | rfl
 ·rw [aaE rfl,aaE rfl];by_cases e:k'="one"
  ·subst e;rfl
  ·rw [aaA e,aaA e,aaA e]
 ·have vW:¬(Str.ofString "other"=Str.ofString "one"):=by decide
  have Py:¬(Str.ofString "one"=Str.ofString "other"):=by decide
  rw [aaA vW,aaA vW];by_cases e:k'="one"
  ·subst e;rw [aaE rfl,aaA Py,aaE rfl]
  ·rw [aaA e,aaA e];by_cases e':k'="other"
   ·subst e';rw [aaE rfl,aaE rfl,aaE rfl];rfl
   ·rw [aaA e',aaA e',aaA e']
theorem Fx{γ:List Rw}{p1 p2:Pl}{k:Str}{f:Pl->Pl}(h:Ζ k=true)(hf:∀p j,j≠(i:Int)->af (f p) j=af p j)(hj:j≠i):bV γ (zm k f p1) (AG k f p2) j=bV γ p1 p2 j:=by
 unfold bV;cases hr:γ[j]? with
 | none=>rfl
 | some r=>
  show dG (zm k f p1) (AG k f p2) j r=dG p1 p2 j r;unfold dG;rw [yG h];by_cases e:kindOf r=k
  ·rw [aaE e];cases hp:Ω p1 p2 (kindOf r) with
   | none=>rfl
   | some p=>
    show bz (f p) j _=bz p j _;unfold bz;rw [hf p j (by omega)]
  ·rw [aaA e]
theorem IA{γ:List Rw}{p1 p2:Pl}{f:Pl->Pl}{r:Rw}{p:Pl}(hi:γ[i]? =some r)(h:Ζ (kindOf r)=true)(hp:Ω p1 p2 (kindOf r)=some p):bV γ (zm (kindOf r) f p1) (AG (kindOf r) f p2) i=bz (f p) i (Ν r).length:=by unfold bV;rw [hi];show dG _ _ i r=_;unfold dG;rw [yG h,aaE rfl,hp];rfl
theorem Nq{p1 p2:Pl}{k:Str}{f:Pl->Pl}(h1:m7 p1)(h2:m7 p2)(hf:∀p,m7 p->m7 (f p)):m7 (zm k f p1)/\m7 (AG k f p2):=by
 unfold zm AG;split
 ·exact ⟨hf _ h1,h2⟩
 ·exact ⟨h1,hf _ h2⟩
theorem FA{r:Rw}{q:DQ}(h:q (.str (kindOf r)) M):cB (Χ r) (.int 0) M q:=by obtain ⟨e,er⟩:=CK (r:=r);rw [er];exact ω (xs:=[.str (kindOf r),e]) rfl dM h
theorem DV{γ:List Rw}{r:Rw}(hi:γ[i]? =some r){q:DQ}(h:q (Χ r) M):cB (.lst (γ.map Χ)) (.int (i:Int)) M q:=ω (xs:=γ.map Χ) rfl (Θ (ko hi)) h
theorem EG{k:Str}(h1:k≠"one")(h2:k≠"other"):Ζ k=false:=by unfold Ζ;rw [Bool.or_eq_false_iff,beq_eq_false_iff_ne,beq_eq_false_iff_ne];exact ⟨h1,h2⟩
def BD:DF:=λas M q _=>∃(ns:List Int) (γ:List Rw),as=[.fc ns, .lst (γ.map Χ), .int 34]/\γ.length<=12/\(∀k ds,Rw.τ k ds∈γ->1<=ds.length)/\∀p1 p2,m7 p1->m7 p2->p1.length<=12->p2.length<=12->(∀i,i < γ.length->bV γ p1 p2 i=true)->q (.loc (M.length+2)) (gY M p1 p2)
theorem gL:χ ["_law_script","_law_rows_here","_law_at","_law_found","_law_place","_law_kind"] ["_law_script","_law_rows_here","_law_at"] (ο lP):= .of rfl
theorem uO(F:dN K "_law_plans" "_law_plans" lP f fd)(E:Ev K mg Cn)(Υ:aE P w K mg base 2 "_law_number" ["_law_script","_law_k"] vw b6 bY):ar P w K mg base (cR P w) 3 f fd ["_law_script","_law_rows_here","_law_at"] (dE K BD):=by
 refine F.eN gL (λds M q x h=> ?_) (λbu A outer s H E' hr=>⟨_,(ι (π 3 gL.nd (sx xP xP))
   (ι (gj (bq E.bh (η (c7 E.cE (Ο (jv 1) ζ)) ζ aP)) (Ι (i:=4) gL.nd rfl (Or.inl rfl)) aJ (ι (π 5 gL.nd (Α (Α (jv 1) (jv 4)) ξ))
   (μ (aI (JW.jt (kJ (cW hr (jv 5) dZ) (nq (cW hr (jv 5) dZ)))) (μ (yL hr (b8 hr (jv 3) (jv 5)) (jv 4) (bo (aj Υ hr ν (Ο (jv 0) (η (ck (jv 2) (jv 4)) ζ aX))) (c7 E.cE (η (Α (Α (jv 1) (jv 4)) ξ) ζ ax))))) Ξ))))
   (μ (ψ (jv 3))))),λds M q x h=> ?_⟩)
 ·obtain ⟨ns,γ,rfl,_⟩:=h;rfl
 ·obtain ⟨ns,γ,rfl,GX,UE,h⟩:=h;walk_at "vc";refine (az (d:= .lst (γ.map Χ)) (xs:=γ.map Χ) rfl ?_:gC [.lst (γ.map Χ)] _ _);rw [aac];refine ⟨by omega, ?_⟩;rw [show ((γ.length:Int)).toNat=γ.length by omega];have Kk:∀{p1 p2:Pl} {k:Str} {n:Nat} {v:Int} {i:Int},p1.length<=n->p2.length<=n->(zm k (λp=>eU p i v) p1).length<=n+1/\(AG k (λp=>eU p i v) p2).length<=n+1:=λ{p1 p2 k n v i} h1 h2=>by
   have pp:∀p:Pl,p.length<=n->(eU p i v).length<=n+1:=λp hp=>by
    unfold eU;split
    ·rw [aac];omega
    ·rw [aaf];exact abZ hp
   unfold zm AG;split
   ·exact ⟨pp _ h1,by omega⟩
   ·exact ⟨by omega,pp _ h2⟩
  refine cK (λzs ρ' M'=>∃(i m:Nat) (p1 p2:Pl) (o4 o5:Option Dt),zs=dY (i:Int) m/\i+m=γ.length/\m7 p1/\m7 p2/\p1.length<=i/\p2.length<=i/\(∀j,j < i->bV γ p1 p2 j=true)/\M'=gY M p1 p2/\ρ'=[some (.fc ns),some (.lst (γ.map Χ)),some (.int 34),some (.loc (M.length+2)),o4,o5]) (λx zs ρ' M' hj gO=> ?_) (λρ' M' hj=> ?_) _ _ _ ⟨0,γ.length,[],[],none,none,rfl,by omega,List.nodup_nil,List.nodup_nil,by simp,by simp,λj hj=>absurd hj (Nat.not_lt_zero _),by unfold gY;simp [kP,vP],by simp⟩
  ·obtain ⟨i,m,p1,p2,o4,o5,ex,im,n1,n2,N9,NW,gd,rfl,rfl⟩:=hj;obtain ⟨m',rfl,rfl,rfl⟩:=cy ex;have il:i < γ.length:=by omega
   have hi:γ[i]? =some γ[i]:=aaa il;generalize AJ:γ[i]=r at *
   have rm:r∈γ:=aag hi;walk_at "vc";refine DV hi (FA ?_);refine ⟨λz=>⟨λ_=> ?_,λy=>(nomatch y)⟩,λz=>⟨λz'=> ?_,λz'=> ?_⟩⟩
   rotate_left 2
   ·have hh:=EG (aaW z) (aaW z');refine gO _ _ ⟨i+1,m',p1,p2,_,_,by rw [abc];rfl,by omega,n1,n2,by omega,by omega,λj hj=> ?_,rfl,rfl⟩;by_cases ej:j=i
    ·rw [ej];unfold bV;rw [hi];show dG p1 p2 i r=true;unfold dG;rw [iW hh]
    ·exact gd j (by omega)
   all_goals
    have hh:Ζ (kindOf r)=true:=by
     first
     | (have z':kindOf r="other":=aaH z';rw [z'];decide)
     | (have z:kindOf r="one":=aaH z;rw [z];decide)
    obtain ⟨k',p,g1,g2,g3,g4⟩:=A_ M p1 p2 [] hh;rw [aaG] at g2 g4;cases r with
    | fin p=>exact aaJ hh (by show¬Ζ (Str.ofString "end")=true;decide)
    | τ k ds=>
     have d1:=UE k ds rm;dsimp only [xv,yz];walk_at "vc";refine ⟨ns,34+(i:Int),rfl,by omega,by omega,λn hn=> ?_⟩;refine DV hi (yY ?_);refine (az (d:= .lst (ds.map a_)) (xs:=ds.map a_) rfl ?_:gC [.lst (ds.map a_)] _ _);rw [aac];refine ⟨by omega, ?_⟩;have v0:=aaU n (show (ds.length:Int)≠0 by omega);have v1:=aaN n (show 0 < (ds.length:Int) by omega);generalize n % (ds.length:Int)=v at *
     have dd:=HN M p1 p2 [];rw [aaG] at dd;refine ⟨M.length+2,_,_,Sum.inr k,_,rfl,dd,rfl,g1, ?_⟩;have WA:p.length<=i:=by
      have g3:Ω p1 p2 k=some p:=g3;unfold Ω at g3;split at g3
      ·rw [<-aan g3];exact N9
      ·split at g3
       ·rw [<-aan g3];exact NW
       ·cases g3
     refine ⟨k',_,_,Sum.inl (i:Int),rfl,g2,rfl,by unfold kP;rw [List.length_map];omega, ?_⟩;rw [Cs (v:=v),Cw];have g5:=g4 λp=>eU p i v;rw [aaG] at g5;rw [g5];obtain ⟨q1,q2⟩:=Nq (k:=kindOf (.τ k ds)) (f:=λp=>eU p i v) n1 n2 λp hp=>wB hp;obtain ⟨l1,l2⟩:=Kk (k:=kindOf (.τ k ds)) (v:=v) (i:=(i:Int)) N9 NW;refine gO _ _ ⟨i+1,m',_,_,_,_,by rw [abc];rfl,by omega,q1,q2,l1,l2,λj hj=> ?_,rfl,rfl⟩;by_cases ej:j=i
     ·rw [ej,IA hi hh g3];unfold bz;rw [mZ,aaE rfl];show (decide (0<=v)&&decide (v < (ds.length:Int)))=true;rw [aav v0,aav v1];rfl
     ·rw [Fx hh (λp j hj=>by rw [mZ,aaA hj]) ej];exact gd j (by omega)
  ·obtain ⟨i,m,p1,p2,o4,o5,ex,im,n1,n2,N9,NW,gd,rfl,rfl⟩:=hj;have m0:m=0:=by have:=aa5 List.length ex;rw [cI] at this;exact this.symm
   have:i=γ.length:=by omega
   subst this;exact h p1 p2 n1 n2 (by omega) (by omega) gd
def jk:List Int->Int
 | []=>1
 | a::l=>a * jk l
theorem ku:∀{l:List Int},(∀a∈l,0 < a)->0 < jk l
 | [],_=>by decide
 | a::l,h=>aaC (h a aae) (ku λb hb=>h b (aad _ hb))
theorem rB:∀{l:List Int},(∀a∈l,0 < a/\a<=1000000)->jk l<=1000000 ^ l.length
 | [],_=>by decide
 | a::l,h=>by have i:=rB λb hb=>h b (aad _ hb);have p:=ku (l:=l) λb hb=>(h b (aad _ hb)).1;have h0:=h a aae;show a * jk l<=_;rw [aaw,aa0,aaT a];exact aba i h0.2 (aai h0.1) (aca (by decide))
theorem j2:∀{l:List Int} {a:Int},a∈l->a∣jk l
 | b::l,a,h=>by
  rcases aaP.mp h with e | e
  ·rw [e];exact ⟨jk l,rfl⟩
  ·obtain ⟨c,hc⟩:=j2 e;exact ⟨b * c,by show b * jk l=_;rw [hc];grind⟩
def mm:Rw->List Fr
 | .fin p=>[p]
 | .τ _ ds=>ds.map (·.2.1)
def wU:List Rw->List Fr
 | []=>[]
 | r::rs=>mm r++wU rs
def Oc:Rw->Int
 | .fin _=>1
 | .τ k ds=>if k="chance" then ae (ds.map θ) else 1
theorem rV{r:Rw}{p:Fr}(hp:p∈mm r):∀{γ:List Rw},r∈γ->p∈wU γ
 | s::rs,h=>by
  rcases aaP.mp h with e | e
  ·subst e;exact abz _ hp
  ·exact aaB _ (rV hp e)
theorem vb:∀{γ:List Rw},(∀r∈γ,(mm r).length<=6)->(wU γ).length<=6 * γ.length
 | [],_=>aam _
 | r::rs,h=>by have i:=vb λs hs=>h s (aad _ hs);have:=h r aae;show (mm r++wU rs).length<=_;rw [aaf,aaw];omega
theorem uD{Q:Fr->Prop}:∀{γ:List Rw},(∀r∈γ,∀p∈mm r,Q p)->∀p∈wU γ,Q p
 | [],_,p,hp=>by cases hp
 | r::rs,h,p,hp=>by
  rcases aa2.mp hp with z | z
  ·exact h r aae p z
  ·exact uD (λs hs=>h s (aad _ hs)) p z
theorem vl{p:Fr}(h:p.2∣E):fk p E:=by obtain ⟨k,e⟩:=h;exact ⟨p.1 * k,by rw [e];grind⟩
theorem oG:∀{l:List Int} {a:Int},(∀b∈l,0 < b)->a∈l->a<=l.sum
 | b::l,a,h,ha=>by
  have ih:∀{l:List Int},(∀b∈l,0 < b)->0<=l.sum:=λ{l}=>by
   induction l with
   | nil=>intro _;exact Int.le_refl _
   | cons c l ih=>
    intro h;have:=ih λd hd=>h d (aad _ hd);have:=h c aae;rw [List.sum_cons];omega
  rw [List.sum_cons];have h0:=h b aae;rcases aaP.mp ha with e | e
  ·have:=ih λd hd=>h d (aad _ hd);omega
  ·have:=oG (λd hd=>h d (aad _ hd)) e;omega
theorem yK{cs:List Fr}(o:kZ cs){c:Fr}(hc:c∈cs):0 < c.2/\c.2∣ae cs/\dX c/\Sz 300 c:=by
 obtain ⟨a,b,d⟩:=o.wq.2 c hc;have B0:=o.b0;obtain ⟨_,_,hB⟩:=ik cs 1 0 (by decide) (acd _) λc hc=>⟨(o.wq.2 c hc).1,acd _⟩;have dv:c.2∣ae cs:=hB c hc
 have le:=oG (l:=cs.map (jx (ae cs))) (λb hb=>by
  obtain ⟨x,hx,rfl⟩:=aas.mp hb
  exact o.pos x hx) (aas.mpr ⟨c,hc,rfl⟩)
 rw [o.sum] at le;have wp:=o.pos c hc;unfold jx at le wp;obtain ⟨m,em⟩:=dv;have Xk:ae cs / c.2=m:=by rw [em];exact abj m (by omega)
 rw [Xk] at le wp;have m0:0 < m:=by
  rw [em] at B0;rcases ace 0 m with z | z
  ·exact z
  ·have:=aa8 z (aai a);omega
 have c0:0<=c.1:=by
  rcases ace c.1 0 with z | z
  ·have:=aaj (aai z) (aai m0);omega
  ·exact z
 have c1:c.1<=c.2:=by rw [em] at le;exact Int.le_of_mul_le_mul_right le m0
 refine ⟨a,⟨m,em⟩,⟨c0,c1⟩,eT (k:=200) ⟨d,a, ?_⟩ (by decide)⟩;have:(c.2.natAbs:Int) < ((2 ^ 200:Nat):Int):=by rw [aa7 (aai a)];exact b
 exact abB.mp this
theorem BB{p:Fr}(hp:aH p=true)(p0:0 < p.2)(hd:p.2∣E):Nb E (10 ^ 30) p:=by
 refine ⟨p0,vl hd, ?_,eT (xu hp p0) (by decide)⟩;unfold aH at hp;rw [aaF,aat,aat] at hp;have h1:=hp.1;have:10 ^ 30<=p.2 * 10 ^ 30:=by have:=aaj (show 1<=p.2 by omega) (show (0:Int)<=10 ^ 30 by decide);omega
 unfold fX;split at h1 <;> exact ⟨by omega,by omega⟩
theorem L8{δ:Fr}{γ:List Rw}(hs:ai δ=true)(r6:γ.length<=6)(hg:∀r∈γ,KH γ.length r):∃E B,Fl δ γ E B:=by
 have pl:zA δ γ:=⟨hs,by omega,λr hr=>(hg r hr).1⟩;have pr:∀r∈γ,∀p∈mm r,aH p=true/\0 < p.2:=λr hr p hp=>by
  cases r with
  | fin p'=>
   have:p=p':=by simpa [mm] using hp
   subst this;exact ⟨(hg _ hr).1.2,(hg _ hr).1.1⟩
  | τ k ds=>
   obtain ⟨d,hd,rfl⟩:=aas.mp hp;exact (aq pl hr).py d hd
 have Ts:∀r∈γ,(mm r).length<=6:=λr hr=>by
  cases r with
  | fin p=>show 1<=6;decide
  | τ k ds=>show (ds.map _).length<=6;rw [aac];exact (aq pl hr).l6
 have pa:=uD pr;have SY:∀a∈(wU γ).map (·.2),0 < a/\a<=1000000:=λa ha=>by obtain ⟨p,hp,rfl⟩:=aas.mp ha;obtain ⟨f,p0⟩:=pa p hp;unfold aH at f;rw [aaF,aat,aat] at f;exact ⟨p0,f.2⟩
 have cb:∀a∈γ.map Oc,0 < a/\a<=1000000:=λa ha=>by
  obtain ⟨r,hr,rfl⟩:=aas.mp ha;cases r with
  | fin p=>exact ⟨show (0:Int) < 1 by decide,show (1:Int)<=1000000 by decide⟩
  | τ k ds=>
   show 0 < (if k="chance" then ae (ds.map θ) else 1)/\(if k="chance" then ae (ds.map θ) else 1)<=1000000;by_cases hk:k="chance"
   ·rw [aaE hk];subst hk;rcases (aq pl hr).kd with z | ⟨_,_,o⟩
    ·exact aaJ z (by decide)
    ·exact ⟨o.b0,o.b1⟩
   ·rw [aaA hk];exact ⟨by decide,by decide⟩
 have pw:∀{a b:Nat},a<=b->(1000000:Int) ^ a<=1000000 ^ b:=λ{a b} h=>by have h:=aa6 (show 0 < 1000000 by decide) h;have:((1000000 ^ a:Nat):Int)<=((1000000 ^ b:Nat):Int):=Int.ofNat_le.mpr h;rw [abN,abN] at this;exact this
 refine ⟨jk ((wU γ).map (·.2)),jk (γ.map Oc),pl,ku λa ha=>(SY a ha).1, ?_,ku λa ha=>(cb a ha).1, ?_,λk ds hm d hd=> ?_,λp hm=> ?_,λk ds hm hk d hd=>(hg _ hm).2.1 k ds rfl hk d hd,λds hm d hd=> ?_⟩
 ·have l:=vb Ts;have:=rB SY;rw [aac] at this;exact aar (ab1 this (pw (show _<=36 by omega))) (by decide)
 ·have:=rB cb;rw [aac] at this;exact aar (ab1 this (pw r6)) (by decide)
 ·obtain ⟨f,p0⟩:=(aq pl hm).py d hd;exact BB f p0 (j2 (aas.mpr ⟨_,rV (r:= .τ k ds) (aas.mpr ⟨d,hd,rfl⟩) hm,rfl⟩))
 ·obtain ⟨f,p0⟩:=pr _ hm p aae;exact BB f p0 (j2 (aas.mpr ⟨_,rV (r:= .fin p) aae hm,rfl⟩))
 ·rcases (aq pl hm).kd with z | ⟨_,_,o⟩
  ·exact aaJ z (by decide)
  ·obtain ⟨a,b,c,e⟩:=yK o (aas.mpr ⟨d,hd,rfl⟩);refine ⟨a,vl (Int.dvd_trans b ?_),c,e⟩;have:Oc (.τ "chance" ds)∣jk (γ.map Oc):=j2 (aas.mpr ⟨_,hm,rfl⟩);exact this
theorem BU:jh (xs++[d]) (-1)=some d:=by
 have e:AV (xs++[d]).length (-1)=some xs.length:=by unfold AV;rw [aaf];simp;omega
 unfold jh;rw [e];show (xs++[d])[xs.length]? =some d;simp
def k4(cs:List Fr):Nat->Int
 | 0=>0
 | j+1=>dz cs (ae cs) j
theorem yh{cs:List Fr}(h:j < cs.length):k4 cs (j+1)=k4 cs j+jx (ae cs) cs[j]:=by
 cases j with
 | zero=>show dz cs (ae cs) 0=0+_;rw [lX h];omega
 | succ j=>exact oq h
theorem Em{c:Int}(b0:0 < b):b * (aw c b).1=b * c / g b c:=by
 have e:aw c b=(c.fdiv (g c b),b.fdiv (g c b)):=yd b0;have gc:g c b=g b c:=by unfold g;rw [Int.gcd_comm]
 have gp:0 < g b c:=gc▸qO (by omega);have dc:g b c∣c:=by unfold g;exact Int.gcd_dvd_right ..
 rw [e,gc];show b * c.fdiv (g b c)=b * c / g b c;rw [abv _ (aai gp),Int.mul_ediv_assoc _ dc]
def yH:DF:=λas M q _=>∃ds:List dj,as=[Χ (.τ "chance" ds)]/\ds.length<=6/\(∀d∈ds,d.2.2=[θ d])/\kZ (ds.map θ)/\q (.loc M.length) (M++[.lst ((List.range (ds.length+1)).map λj=> .int (k4 (ds.map θ) j))])
theorem dt:χ ["_law_row","_law_bottom","_law_door","_law_found"] ["_law_row"] (ο jH):= .of rfl
theorem rn(F:dN K "_law_starts" "_law_starts" jH f fd)(E:Ev K mg Cn)(aa:aE P w K mg base 1 "_law_lowest" ["_law_top","_law_bottom"] An bU bT):ar P w K mg base (cR P w) 2 f fd ["_law_row"] (dE K yH):=by
 refine F.eN dt (λds M q x h=> ?_) (λbu A outer s H E' hr=>⟨_,(ι (π 1 dt.nd ξ)
   (ι (cC (bL (Α (jv 0) ξ)) (Ι (i:=2) dt.nd rfl (Or.inl rfl)) aJ (μ (π 1 dt.nd (br (jv 1) (Α (aj aa hr ν (η (Α (Α (jv 2) ξ) ξ) (Ο (jv 1) ζ) ax)) ξ)))))
   (ι (π 3 dt.nd (ic (η ξ ζ aL)))
   (ι (cC (bL (Α (jv 0) ξ)) (Ι (i:=2) dt.nd rfl (Or.inl rfl)) aJ (μ (c_ (cY (jv 3) (η (ck (Α (jv 3) (CG ξ)) (br (Α (Α (jv 2) ξ) ξ) (cF (jv 1) (Α (Α (jv 2) ξ) ξ)))) ζ aX)))))
   (μ (ψ (jv 3))))))),λds M q x h=> ?_⟩)
 ·obtain ⟨ds,rfl,_⟩:=h;rfl
 ·obtain ⟨ds,rfl,l6,mG,o,h⟩:=h;have i2:∀d∈ds,∀(M:Ms) (q:DQ),q (Δ (θ d)) M->cB (a_ d) (.int 2) M q:=λd hd M q hq=>ω (xs:= .int d.1::Δ d.2.1::d.2.2.map Δ) rfl (Θ (j:=2) (by rw [mG d hd];rfl)) hq;have ok:=λc hc=>o.wq.2 c hc;have Yn:(ds.map a_).length<=sizeLine:=by rw [aac];exact aaI l6 (by decide)
  walk_at "vc";dsimp only [qG,eG];walk_at "vc";refine yY ?_;refine bK (λxs ρ M'=>M'=M/\∃(bR Η:List dj) (o2 o3:Option Dt),ds=bR++Η/\xs=Η.map a_/\ρ=[some (Χ (.τ "chance" ds)),some (.int (ae (bR.map θ))),o2,o3]) (λ_ _ _ _=>trivial) (λx xs ρ M' hj gO=> ?_) (λρ M' hj=> ?_) _ _ _ ⟨rfl,[],ds,none,none,rfl,rfl,rfl⟩
  ·obtain ⟨rfl,bR,Η,o2,o3,e,ex,rfl⟩:=hj;cases Η with
   | nil=>cases ex
   | cons d Η=>
    cases ex;have hd:d∈ds:=by rw [e];simp
    have Pn:∀c∈bR.map θ,0 < c.2/\c.2 < 2 ^ 200:=λc hc=>by obtain ⟨x,hx,rfl⟩:=aas.mp hc;obtain ⟨a,b,_⟩:=ok (θ x) (aas.mpr ⟨x,by rw [e];exact abz _ hx,rfl⟩);exact ⟨a,b⟩
    obtain ⟨b0,b1⟩:=i0 (bR.map θ) 1 0 (by decide) (by decide) Pn;have b0:0 < ae (bR.map θ):=b0;have b1:ae (bR.map θ)<=2 ^ (200 * (0+(bR.map θ).length)):=b1;have dl:bR.length<=6:=by rw [e,aaf] at l6;omega
    rw [aac] at b1;have bb:gG (ae (bR.map θ)):=xf (k:=1201) (aai b0) (CQ b1 (by omega)) (by decide);obtain ⟨c0,c1,_⟩:=ok (θ d) (aas.mpr ⟨d,hd,rfl⟩);walk_at "vc";refine i2 d hd _ _ ?_;refine (g9 ?_:cB (Δ (θ d)) (.int 1) _ _);refine ⟨_,_,rfl,b0,bb, ?_⟩;refine (iB ?_:cB (Δ (aw (θ d).2 (ae (bR.map θ)))) (.int 0) _ _);refine ⟨⟨bb, ?_⟩, ?_⟩
    ·have:=kQ (t:=(θ d).2) (b:=ae (bR.map θ)) (by omega);have:(θ d).2.natAbs < 2 ^ 200:=by
      have:((θ d).2.natAbs:Int) < ((2 ^ 200:Nat):Int):=by rw [aa7 (aai c0)];exact c1
      exact abB.mp this
     exact bg (k:=200) (by omega)
    rw [Em b0];refine gO _ _ ⟨rfl,bR++[d],Η,some (a_ d),o3,by rw [e];simp,rfl, ?_⟩;rw [List.map_append,show ae (bR.map θ++[d].map θ)=ae (bR.map θ) * (θ d).2 / g (ae (bR.map θ)) (θ d).2 by unfold ae;rw [List.foldl_append];rfl]
  ·obtain ⟨rfl,bR,Η,o2,o3,e,ex,rfl⟩:=hj;cases Η with
   | cons d Η=>cases ex
   | nil=>
    rw [aaG] at e;subst e;walk_at "vc";refine ⟨by decide, ?_⟩;dsimp only [qG,eG];walk_at "vc";refine yY ?_;have b0:=o.b0;refine bK (λxs ρ M1=>∃(n:Nat) (o2:Option Dt),n<=ds.length/\xs=(ds.drop n).map a_/\M1=M'++[.lst ((List.range (n+1)).map λj=> .int (k4 (ds.map θ) j))]/\ρ=[some (Χ (.τ "chance" ds)),some (.int (ae (ds.map θ))),o2,some (.loc M'.length)]) (λ_ _ _ _=>trivial) (λx xs ρ M1 hj gO=> ?_) (λρ M1 hj=> ?_) _ _ _ ⟨0,o2,abK _,rfl,rfl,rfl⟩
    ·obtain ⟨n,o2,nl,ex,rfl,rfl⟩:=hj;have nl:n < ds.length:=by
      rcases Nat.lt_or_ge n ds.length with z | z
      ·exact z
      ·rw [abI z] at ex;cases ex
     rw [abg nl] at ex;cases ex;have hd:ds[n]∈ds:=aaz nl;obtain ⟨⟨c0,c1⟩,c2,c3⟩:=mP o (aas.mpr ⟨ds[n],hd,rfl⟩);have hn:n < (ds.map θ).length:=by rw [aac];exact nl
     have es:k4 (ds.map θ) (n+1)=k4 (ds.map θ) n+(θ ds[n]).1 * (ae (ds.map θ) / (θ ds[n]).2):=by rw [yh hn,List.getElem_map];rfl
     have eR:(List.range (n+1)).map (λj=>Dt.int (k4 (ds.map θ) j))=((List.range n).map λj=>Dt.int (k4 (ds.map θ) j))++[.int (k4 (ds.map θ) n)]:=by rw [abM,abd];rfl
     refine ⟨⟨M'.length,_,rfl,aO⟩, ?_⟩;have al:jh ((List.range (n+1)).map λj=>Dt.int (k4 (ds.map θ) j)) (-1)=some (.int (k4 (ds.map θ) n)):=by rw [eR];exact BU
     walk_at "vc";dsimp only [Co];refine (ω (d:= .loc M'.length) (lL aO) al ?_:cB (.loc M'.length) (.int (-1)) _ _);refine i2 _ hd _ _ ?_;refine (iB ?_:cB (Δ (θ ds[n])) (.int 0) _ _);refine i2 _ hd _ _ ?_;refine (g9 ?_:cB (Δ (θ ds[n])) (.int 1) _ _);refine ⟨⟨c0,c1⟩,⟨c2,c3⟩,M'.length,_,_,rfl,rfl,aO, ?_, ?_⟩
     ·rw [aac,ab8];exact aaM (show n+1<=7 by omega) (by decide)
     rw [eu,<-es];refine gO _ _ ⟨n+1,_,nl,rfl, ?_,rfl⟩;rw [abM (n:=n+1),abd];rfl
    ·obtain ⟨n,o2,nl,ex,rfl,rfl⟩:=hj;have:n=ds.length:=by have:=aa5 List.length ex;rw [aac,List.length_drop] at this;have:(0:Nat)=ds.length - n:=this;omega
     subst this;exact h
theorem vf:∀(ps:List (Fr×Fr)) (w:Fr),Red w->(∀p∈ps,0 < p.1.2/\0 < p.2.2)->Red (ps.foldl (λw p=>bE w (Λ p.1 p.2)) w)
 | [],w,h,_=>h
 | p::ps,w,h,hp=>by obtain ⟨a,b⟩:=hp p aae;have t:Red (Λ p.1 p.2):=aF (aaR (aaC a b));exact vf ps _ (aF (aaR (aaC h.pos t.pos))) λx hx=>hp x (aad _ hx)
theorem vo(f:dj->Fr):∀(ds:List dj) (w:Fr),0 < w.2->(∀d∈ds,0 < (θ d).2/\0 < (f d).2)->val (((ds.map θ).zip (ds.map f)).foldl (λw p=>bE w (Λ p.1 p.2)) w)=val w+bD (λd=>cV d * val (f d)) ds
 | [],w,_,_=>by show val w=val w+0;grind
 | d::ds,w,h,hp=>by obtain ⟨a,b⟩:=hp d aae;have t:Red (Λ (θ d) (f d)):=aF (aaR (aaC a b));have u:Red (bE w (Λ (θ d) (f d))):=aF (aaR (aaC h t.pos));have ih:=vo f ds (bE w (Λ (θ d) (f d))) u.pos λx hx=>hp x (aad _ hx);rw [aaS,aaS,aaX,ab3,ih,dF h t.pos,cP a b];show _=val w+(cV d * val (f d)+bD (λd=>cV d * val (f d)) ds);grind
section
variable{δ:Fr}{γ:List Rw}{F X Y:Int}{tb:List Fr}{υ:Pl}
theorem vh{i:Nat}{r:Rw}(hi:γ[i]? =some r):(cj δ γ υ tb).getD i (0,1)=match af υ i with
 | some j=>aU δ tb ((Ν r).getD j.toNat d0)
 | none=>oa δ tb r:=by
 have il:=(aah.mp hi).1;unfold cj;rw [aab,aax,abF il];show (match γ[i]? with | some r=>_ | none=>_)=_;rw [hi];try rfl
theorem iT(fl:Fl δ γ E B)(hp:∀j,j < γ.length->0 < (tb.getD j (0,1)).2){k:Str}{ds:List dj}(hm:Rw.τ k ds∈γ){d:dj}(hd:d∈ds):val (aU δ tb d)=val d.2.1+val δ * val (tb.getD d.1.toNat (0,1))/\Red (aU δ tb d):=by obtain ⟨s0,s1,su⟩:=eD fl.pl.sh;have dr:=aq fl.pl hm;obtain ⟨t0,t1⟩:=dr.to d hd;have tp:0 < (tb.getD d.1.toNat (0,1)).2:=hp _ (by omega);have p0:=(dr.py d hd).2;have t:Red (Λ δ (tb.getD d.1.toNat (0,1))):=aF (aaR (aaC s0 tp));refine ⟨?_,aF (aaR (aaC p0 t.pos))⟩;show val (bE d.2.1 (Λ δ (tb.getD d.1.toNat (0,1))))=_;rw [dF p0 t.pos,cP s0 tp]
theorem ux(fl:Fl δ γ E B)(ht:∀j,j < γ.length->0 < (tb.getD j (0,1)).2)(dk:pM γ υ){k:Str}{ds:List dj}(hi:γ[i]? =some (.τ k ds)):val ((cj δ γ υ tb).getD i (0,1))=bD (λd=>cV d * (val d.2.1+val δ * val (tb.getD d.1.toNat (0,1)))) (bj υ i (.τ k ds))/\Red ((cj δ γ υ tb).getD i (0,1)):=by
 have rm:Rw.τ k ds∈γ:=aag hi;have dr:=aq fl.pl rm;rw [vh hi];cases hh:Ζ k with
 | true=>
  obtain ⟨j,hj,jl⟩:=dk.hand i _ hi hh;have jl:j < ds.length:=jl;have gd:ds.getD j d0=ds[j]:=by rw [aab,aaa jl];rfl
  have dm:=aaz jl;have e:bj υ i (.τ k ds)=[(ds[j].1,ds[j].2.1,[(1,1)])]:=by unfold bj;rw [hj];show [((ds.getD ((j:Int)).toNat d0).1,(ds.getD ((j:Int)).toNat d0).2.1,(ds.getD ((j:Int)).toNat d0).2.2++[(1,1)])]=_;rw [abo,gd,fl.Po k ds rm hh _ dm];rfl
  rw [e,hj];show val (aU δ tb (ds.getD ((j:Int)).toNat d0))=_/\Red (aU δ tb (ds.getD ((j:Int)).toNat d0));rw [abo,gd];obtain ⟨v,r⟩:=iT fl ht rm dm;refine ⟨?_,r⟩;rw [v];show _=cV (ds[j].1,ds[j].2.1,[((1,1):Fr)]) * (val ds[j].2.1+val δ * val (tb.getD ds[j].1.toNat (0,1)))+0;have:cV (ds[j].1,ds[j].2.1,[((1,1):Fr)])=1:=by show ((1:Int):Rat) / ((1:Int):Rat)=1;grind
  rw [this];grind
 | false=>
  have hc:k="chance":=by
   rcases dr.kd with z | ⟨_,z,_⟩
   ·rw [z] at hh;cases hh
   ·exact z
  subst hc;have gn:=dk.wK i _ hi hh;have e:bj υ i (.τ "chance" ds)=ds:=by unfold bj;rw [gn];rfl
  rw [e,gn];show val (l0 ((ds.map θ).zip (ds.map (aU δ tb))))=_/\Red (l0 ((ds.map θ).zip (ds.map (aU δ tb))));have v:=vo (aU δ tb) ds (0,1) (by decide) λd hd=>⟨(fl.ch ds rm d hd).1,(iT fl ht rm hd).2.pos⟩;refine ⟨?_,vf _ _ ⟨by decide,by decide⟩ λp hp=> ?_⟩
  ·unfold l0;rw [v,ni λd hd=>by rw [(iT fl ht rm hd).1]];have:val ((0,1):Fr)=0:=by show ((0:Int):Rat) / ((1:Int):Rat)=0;grind
   rw [this];grind
  ·obtain ⟨q1,q2⟩:=abp hp;obtain ⟨d,hd,e⟩:=aas.mp q2;exact ⟨(fl.N3 rm _ q1).pos,by rw [<-e];exact (iT fl ht rm hd).2.pos⟩
theorem vK(dk:pM γ υ){p:Fr}(hi:γ[i]? =some (.fin p)):(cj δ γ υ tb).getD i (0,1)=p:=by rw [vh hi,dk.wK i _ hi (show Ζ (Str.ofString "end")=false by decide)];rfl
end
section
variable{γ:List Rw}
theorem Aq(h:bF γ i p=none)(q:Int):bF γ i q=none:=by
 unfold bF at *
 cases hr:γ[i]? with
 | none=>rfl
 | some r=>
  cases r with
  | fin e=>rfl
  | τ k ds=>rw [hr] at h;cases h
theorem e9(h:bF γ i p=none):∀ps:List Int,c5 γ i ps=i/\aZ γ i ps=[]
 | []=>⟨rfl,rfl⟩
 | q::ps=>by
  have hn:=Aq h q;constructor
  ·show (match bF γ i q with | some (_,d)=>c5 γ d.1.toNat ps | none=>i)=i;rw [hn]
  ·show (match bF γ i q with | some (_,d)=>d.2.1::aZ γ d.1.toNat ps | none=>[])=[];rw [hn]
theorem uw(b:List Int):∀(a:List Int) (i:Nat),c5 γ i (a++b)=c5 γ (c5 γ i a) b/\aZ γ i (a++b)=aZ γ i a++aZ γ (c5 γ i a) b
 | [],i=>⟨rfl,rfl⟩
 | p::a,i=>by
  cases hn:bF γ i p with
  | none=>
   obtain ⟨e1,e2⟩:=e9 hn (p::(a++b));obtain ⟨f1,f2⟩:=e9 hn (p::a);obtain ⟨g1,g2⟩:=e9 hn b;rw [List.cons_append,e1,e2,f1,f2,g1,g2];exact ⟨rfl,rfl⟩
  | some jd=>
   obtain ⟨j,d⟩:=jd;obtain ⟨_,e1,e2⟩:=d9 (ps:=a++b) hn;obtain ⟨_,f1,f2⟩:=d9 (ps:=a) hn;obtain ⟨h1,h2⟩:=uw b a d.1.toNat;rw [List.cons_append,e1,e2,f1,f2,h1,h2];exact ⟨rfl,rfl⟩
end
section
variable{s:Rat}
theorem oC(p:Fr)(l:Rat):∀ps:List Fr,cG s (ps++[p]) l=cG s ps (val p+s * l)
 | []=>rfl
 | q::ps=>by show val q+s * cG s (ps++[p]) l=val q+s * cG s ps (val p+s * l);rw [oC p l ps]
theorem vy:∀ps:List Fr,∃a b:Rat,∀l,cG s ps l=a+b * l
 | []=>⟨0,1,λl=>by show l=0+1 * l;grind⟩
 | q::ps=>by obtain ⟨a,b,h⟩:=vy ps;exact ⟨val q+s * a,s * b,λl=>by show val q+s * cG s ps l=_;rw [h];grind⟩
theorem Ak(ps:List Fr)(x:dj->Rat){ds:List dj}(h1:bD cV ds=1):bD (λd=>cV d * cG s ps (x d)) ds=cG s ps (bD (λd=>cV d * x d) ds):=by
 obtain ⟨a,b,h⟩:=vy (s:=s) ps;have:∀ds:List dj,bD (λd=>cV d * cG s ps (x d)) ds=a * bD cV ds+b * bD (λd=>cV d * x d) ds:=λds=>by
  induction ds with
  | nil=>show (0:Rat)=a * 0+b * 0;grind
  | cons d ds ih=>
   show cV d * cG s ps (x d)+bD (λd=>cV d * cG s ps (x d)) ds=a * (cV d+bD cV ds)+b * (cV d * x d+bD (λd=>cV d * x d) ds);rw [ih,h];grind
 rw [this,h1,h];grind
end
theorem qC(h:dj->Rat)(ds:List dj):∀k,k<=ds.length->bD h (ds.take k)=eE (λj=>h (ds.getD j d0)) k
 | 0,_=>rfl
 | k+1,hk=>by
  have e:ds.take (k+1)=ds.take k++[ds[k]]:=by rw [List.take_succ,aaa (by omega)];rfl
  rw [e,nJ,qC h ds k (by omega),gE,aab,aaa (by omega)];show _+(h ds[k]+0)=_+h ds[k];grind
def Mn(s:Rat)(γ:List Rw)(υ:Pl)(f:Nat->Rat)(i:Nat):Rat:=match γ[i]? with
 | some (.τ k ds)=>bD (λd=>cV d * (val d.2.1+s * f d.1.toNat)) (bj υ i (.τ k ds))
 | some (.fin e)=>val e
 | none=>f i
def Js(s:Rat)(γ:List Rw)(υ:Pl):Nat->(Nat->Rat)->Nat->Rat
 | 0,f=>f
 | t+1,f=>Js s γ υ t (Mn s γ υ f)
theorem zk{s:Rat}{γ:List Rw}{υ:Pl}:∀(t:Nat) (f:Nat->Rat),Js s γ υ t (Mn s γ υ f)=Mn s γ υ (Js s γ υ t f)
 | 0,_=>rfl
 | t+1,f=>zk t (Mn s γ υ f)
abbrev EO(γ:List Rw)(i:Nat):Rat:=val ((bM γ).getD i (0,1))
theorem xx{γ:List Rw}:(bM γ).getD i (0,1)=hX γ i:=by
 unfold bM hX;rw [aab,aax];cases γ[i]? with
 | none=>rfl
 | some r=>cases r <;> rfl
theorem yQ{δ:Fr}{γ:List Rw}{E B:Int}{υ:Pl}(fl:Fl δ γ E B)(dk:pM γ υ)(rf:∀p,Rw.fin p∈γ->Red p):∀t,(λi=>val ((dU δ γ υ t).getD i (0,1)))=Js (val δ) γ υ t (EO γ)/\∀i,i < γ.length->Red ((dU δ γ υ t).getD i (0,1))
 | 0=>⟨rfl,λi hi=>by
  show Red ((bM γ).getD i (0,1));rw [xx];unfold hX;cases h:γ[i]? with
  | none=>exact (⟨by decide,by decide⟩:Red (0,1))
  | some r=>
   cases r with
   | fin p=>exact rf p (aag h)
   | τ k ds=>exact (⟨by decide,by decide⟩:Red (0,1))⟩
 | t +1=>by
  obtain ⟨h1,h2⟩:=yQ fl dk rf t;have hp:∀j,j < γ.length->0 < ((dU δ γ υ t).getD j (0,1)).2:=λj hj=>(h2 j hj).pos;refine ⟨?_,λi hi=> ?_⟩
  ·show (λi=>val ((cj δ γ υ (dU δ γ υ t)).getD i (0,1)))=Js (val δ) γ υ t (Mn (val δ) γ υ (EO γ));rw [zk,<-h1]
   funext i
   unfold Mn;cases h:γ[i]? with
   | none=>
    have z:∀l:List Fr,l.length=γ.length->l.getD i (0,1)=(0,1):=λl hl=>by rw [aab,abP (by rw [hl];exact List.getElem?_eq_none_iff.mp h)];rfl
    have l1:∀t,(dU δ γ υ t).length=γ.length:=λt=>by
     cases t with
     | zero=>show (bM γ).length=_;unfold bM;rw [List.length_map]
     | succ t=>show (cj δ γ υ _).length=_;unfold cj;rw [List.length_map,List.length_range]
    show val ((dU δ γ υ (t+1)).getD i (0,1))=val ((dU δ γ υ t).getD i (0,1));rw [z _ (l1 (t+1)),z _ (l1 t)]
   | some r=>
    cases r with
    | fin p=>rw [vK dk h]
    | τ k ds=>exact (ux fl hp dk h).1
  ·show Red ((cj δ γ υ (dU δ γ υ t)).getD i (0,1));have h:=aaa hi;generalize γ[i]=r at h;cases r with
   | fin p=>rw [vK dk h];exact rf p (aag h)
   | τ k ds=>exact (ux fl hp dk h).2
abbrev kY:=List Int×Nat×Fr
def i9(y:kY):Dt:= .tup [.lst (y.1.map Dt.int), .int (y.2.1:Int),Δ y.2.2]
def fJ(f:kY->Rat):List kY->Rat
 | []=>0
 | y::ys=>f y+fJ f ys
theorem eF(f:kY->Rat)(r:List kY):∀l:List kY,fJ f (l++r)=fJ f l+fJ f r
 | []=>by show fJ f r=0+fJ f r;grind
 | y::l=>by show f y+fJ f (l++r)=f y+fJ f l+fJ f r;rw [eF f r l];grind
theorem cJ(f:kY->Rat)(y:kY):fJ f [y]=f y:=by show f y+0=f y;grind
theorem nZ(f:kY->Rat)(h:Nat->kY):∀n,fJ f ((List.range n).map h)=eE (λj=>f (h j)) n
 | 0=>rfl
 | n+1=>by rw [abM,abd,eF,nZ f h n,gE];show _+fJ f [h n]=_;rw [cJ]
structure g8(γ:List Rw)(B:Int)(pl t:Nat)(y:kY):Prop where
 lt:y.2.1 < γ.length
 last:c5 γ pl y.1=y.2.1
 len:y.1.length<=t
 pos:0 < y.2.2.2
 sz:y.2.2.2<=1000000 ^ t
 he:fk y.2.2 (B ^ t)
 un:dX y.2.2
abbrev fP(f:Nat->Rat)(y:kY):Rat:=val y.2.2 * f y.2.1
abbrev fM(s:Rat)(γ:List Rw)(pl:Nat)(f:Nat->Rat)(y:kY):Rat:=val y.2.2 * cG s (aZ γ pl y.1) (f y.2.1)
structure je(s:Rat)(γ:List Rw)(υ:Pl)(B:Int)(pl t:Nat)(bR more:List kY):Prop where
 each:∀y∈more,g8 γ B pl (t+1) y
 len:more.length<=6 * bR.length
 ch:∀f,fJ (fP f) more=fJ (fP (Pf γ υ f)) bR
 mn:∀f,(∀i e,γ[i]? =some (.fin e)->f i=val e)->fJ (fM s γ pl f) more=fJ (fM s γ pl (Mn s γ υ f)) bR
structure Ds(s:Rat)(γ:List Rw)(υ:Pl)(B:Int)(pl t:Nat)(L:List kY):Prop where
 each:∀y∈L,g8 γ B pl t y
 len:L.length<=6 ^ t
 ch:∀f,fJ (fP f) L=NO γ υ t f pl
 mn:∀f,(∀i e,γ[i]? =some (.fin e)->f i=val e)->fJ (fM s γ pl f) L=Js s γ υ t f pl
section
variable{s:Rat}{δ:Fr}{γ:List Rw}{υ:Pl}{pl t:Nat}{bR more L:List kY}{y:kY}
theorem v11:val ((1,1):Fr)=1:=by show ((1:Int):Rat) / ((1:Int):Rat)=1;grind
theorem Kt(h:pl < γ.length):Ds s γ υ B pl 0 [([],pl,(1,1))]:=by
 refine ⟨λy hy=> ?_,aam _,λf=> ?_,λf _=> ?_⟩
 ·rw [List.mem_singleton.mp hy];exact ⟨h,rfl,aam _,show (0:Int) < 1 by decide,show (1:Int)<=1000000 ^ 0 by decide,⟨1,by rw [Int.pow_zero]⟩,⟨show (0:Int)<=1 by decide,Int.le_refl _⟩⟩
 ·rw [cJ];show val ((1,1):Fr) * f pl=f pl;rw [v11];grind
 ·rw [cJ];show val ((1,1):Fr) * f pl=f pl;rw [v11];grind
theorem Jc:je s γ υ B pl t [] []:=⟨λy hy=>(nomatch hy),aam _,λ_=>rfl,λ_ _=>rfl⟩
theorem DH{f:Nat->Rat}{e:Fr}(h:γ[i]? =some (.fin e)):Mn s γ υ f i=val e:=by unfold Mn;rw [h]
theorem je.all(g:je s γ υ B pl t L more)(h:Ds s γ υ B pl t L):Ds s γ υ B pl (t+1) more:=by refine ⟨g.each, ?_,λf=>by rw [g.ch,h.ch];rfl,λf hf=>by rw [g.mn f hf,h.mn _ λi e he=>DH he];rfl⟩;have:=g.len;have:=h.len;rw [Nat.pow_succ];omega
theorem g8.up(b0:0 < B)(h:g8 γ B pl t y):g8 γ B pl (t+1) y:=by refine ⟨h.lt,h.last,Nat.le_succ_of_le h.len,h.pos, ?_,by rw [aa0];exact h_ B h.he,h.un⟩;have:=h.sz;rw [aa0];have p:(0:Int)<=1000000 ^ t:=aca (by decide);omega
theorem je.step{ys:List kY}(g:je s γ υ B pl t bR more)(he:∀y∈ys,g8 γ B pl (t+1) y)(hl:ys.length<=6)(hc:∀f,fJ (fP f) ys=fP (Pf γ υ f) y)(hm:∀f,(∀i e,γ[i]? =some (.fin e)->f i=val e)->fJ (fM s γ pl f) ys=fM s γ pl (Mn s γ υ f) y):je s γ υ B pl t (bR++[y]) (more++ys):=by
 refine ⟨λz hz=>(aa2.mp hz).elim (g.each z) (he z), ?_,λf=> ?_,λf hf=> ?_⟩
 ·have:=g.len;rw [aaf,aaf,List.length_singleton];omega
 ·rw [eF,eF,g.ch,hc,cJ]
 ·rw [eF,eF,g.mn f hf,hm f hf,cJ]
theorem je.fin(g:je s γ υ B pl t bR more)(b0:0 < B)(h:g8 γ B pl t y){e:Fr}(hr:γ[y.2.1]? =some (.fin e)):je s γ υ B pl t (bR++[y]) (more++[y]):=by
 refine g.step (λz hz=>by rw [List.mem_singleton.mp hz];exact h.up b0) (by simp) (λf=> ?_) λf hf=> ?_
 ·rw [cJ];unfold fP Pf;rw [hr]
 ·rw [cJ];unfold fM;rw [DH hr,hf _ e hr]
theorem uv(h:g8 γ B pl t y){d:dj}(hn:bF γ y.2.1 p=some (j,d)):c5 γ pl (y.1++[p])=d.1.toNat/\aZ γ pl (y.1++[p])=aZ γ pl y.1++[d.2.1]:=by obtain ⟨a,b⟩:=uw (γ:=γ) [p] y.1 pl;obtain ⟨_,e1,e2⟩:=d9 (ps:=[]) hn;rw [h.last] at a b;rw [a,b,e1,e2];exact ⟨rfl,rfl⟩
theorem je.hand(g:je s γ υ B pl t bR more)(b0:0 < B)(fl:Fl δ γ E B)(h:g8 γ B pl t y){k:Str}{ds:List dj}(hr:γ[y.2.1]? =some (.τ k ds))(hk:Ζ k=true)(hj:af υ y.2.1=some (j:Int))(jl:j < ds.length):je s γ υ B pl t (bR++[y]) (more++[(y.1++[(j:Int)],ds[j].1.toNat,y.2.2)]):=by
 have rm:=aag hr;have dr:=aq fl.pl rm;have dm:=aaz jl;have hf:fw k ds (j:Int)=j:=by unfold fw;rw [aaE hk,Int.emod_eq_of_lt (by omega) (by omega)];rfl
 have hn:bF γ y.2.1 (j:Int)=some (j,ds[j]):=by rw [gS dr hr];simp only [hf]
 obtain ⟨n1,n2⟩:=uv h hn;obtain ⟨t0,t1⟩:=dr.to _ dm;have hw:bj υ y.2.1 (.τ k ds)=[(ds[j].1,ds[j].2.1,[(1,1)])]:=by unfold bj;rw [hj];show [((ds.getD ((j:Int)).toNat d0).1,(ds.getD ((j:Int)).toNat d0).2.1,(ds.getD ((j:Int)).toNat d0).2.2++[(1,1)])]=_;rw [abo,aab,aaa jl];show [(ds[j].1,ds[j].2.1,ds[j].2.2++[(1,1)])]=_;rw [fl.Po k ds rm hk _ dm];rfl
 have hm:=h.up b0;have c1:cV (ds[j].1,ds[j].2.1,[((1,1):Fr)])=1:=v11;refine g.step (λz hz=> ?_) (by simp) (λf=> ?_) λf hf=> ?_
 ·rw [List.mem_singleton.mp hz];exact ⟨by show ds[j].1.toNat < _;omega,n1,by show (y.1++[(j:Int)]).length<=_;rw [aaf];exact abZ h.len,hm.pos,hm.sz,hm.he,hm.un⟩
 ·rw [cJ];unfold fP Pf;rw [hr];show val y.2.2 * f ds[j].1.toNat=val y.2.2 * bD (λd=>cV d * f d.1.toNat) (bj υ y.2.1 (.τ k ds));rw [hw];show _=val y.2.2 * (cV (ds[j].1,ds[j].2.1,[((1,1):Fr)]) * f ds[j].1.toNat+0);rw [c1];grind
 ·rw [cJ];unfold fM Mn;rw [hr];show val y.2.2 * cG s (aZ γ pl (y.1++[(j:Int)])) (f ds[j].1.toNat)=val y.2.2 * cG s (aZ γ pl y.1) (bD (λd=>cV d * (val d.2.1+s * f d.1.toNat)) (bj υ y.2.1 (.τ k ds)));rw [n2,oC,hw];show _=val y.2.2 * cG s (aZ γ pl y.1) (cV (ds[j].1,ds[j].2.1,[((1,1):Fr)]) * (val ds[j].2.1+s * f ds[j].1.toNat)+0);rw [c1]
  congr 2
  grind
def Ek(y:kY)(ds:List dj)(j:Nat):kY:=(y.1++[k4 (ds.map θ) j],(ds.getD j d0).1.toNat,(y.2.2.1 * (θ (ds.getD j d0)).1,y.2.2.2 * (θ (ds.getD j d0)).2))
theorem E8{cs:List Fr}(o:kZ cs)(hj:j < cs.length):0<=k4 cs j/\k4 cs j < ae cs/\nM cs (k4 cs j)=j:=by
 have up:k4 cs j < dz cs (ae cs) j:=by have e:=yh hj;have p:=o.pos _ (aaz hj);have e:dz cs (ae cs) j=_:=e;omega
 have nn:0<=k4 cs j:=by
  cases j with
  | zero=>exact Int.le_refl _
  | succ j=>
   have a:=j3 o (abK j);rw [lX (by omega)] at a;have p:=o.pos _ (aaz (show 0 < cs.length by omega));show 0<=dz cs (ae cs) j;omega
 have Q9:dz cs (ae cs) j<=ae cs:=by have:=j3 o (show j<=cs.length - 1 by omega);rwa [oo o (show cs.length - 1+1=cs.length by omega)] at this
 refine ⟨nn,by omega,l7 o ⟨hj,up,λi hi=> ?_⟩⟩;cases j with
 | zero=>omega
 | succ j=>exact j3 o (by omega)
theorem je.Il(g:je s γ υ B pl t bR more)(fl:Fl δ γ E B)(h:g8 γ B pl t y){ds:List dj}(hr:γ[y.2.1]? =some (.τ "chance" ds))(hj:af υ y.2.1=none):je s γ υ B pl t (bR++[y]) (more++(List.range ds.length).map (Ek y ds)):=by
 have rm:=aag hr;have dr:=aq fl.pl rm;have o:kZ (ds.map θ):=by
  rcases dr.kd with z | ⟨_,_,o⟩
  ·exact aaJ z (by decide)
  ·exact o
 have hw:bj υ y.2.1 (.τ "chance" ds)=ds:=by unfold bj;rw [hj];rfl
 have key:∀j,(hl:j < ds.length)->ds.getD j d0=ds[j]/\c5 γ pl (Ek y ds j).1=ds[j].1.toNat/\aZ γ pl (Ek y ds j).1=aZ γ pl y.1++[ds[j].2.1]:=λj hl=>by
  have gd:ds.getD j d0=ds[j]:=by rw [aab,aaa hl];rfl
  obtain ⟨a,b,c⟩:=E8 o (show j < (ds.map θ).length by rw [aac];exact hl);have hf:fw "chance" ds (k4 (ds.map θ) j)=j:=by unfold fw;rw [aaA (by decide),Int.emod_eq_of_lt a b,c]
  have hn:bF γ y.2.1 (k4 (ds.map θ) j)=some (j,ds[j]):=by rw [gS dr hr];simp only [hf]
  obtain ⟨n1,n2⟩:=uv h hn;exact ⟨gd,n1,n2⟩
 have cv:∀j,(hl:j < ds.length)->val (Ek y ds j).2.2=val y.2.2 * cV ds[j]:=λj hl=>by
  obtain ⟨c0,_,_,_⟩:=fl.ch ds rm _ (aaz hl);unfold Ek;rw [(key j hl).1];show ((y.2.2.1 * (θ ds[j]).1:Int):Rat) / ((y.2.2.2 * (θ ds[j]).2:Int):Rat)=val y.2.2 * val (θ ds[j]);have h1:=bJ (show y.2.2.2≠0 by have:=h.pos;omega);have h2:=bJ (show (θ ds[j]).2≠0 by omega);rw [aaY,aaY];unfold val;generalize (y.2.2.1:Rat)=a at *
  generalize (y.2.2.2:Rat)=b at *
  generalize ((θ ds[j]).1:Rat)=c at *
  generalize ((θ ds[j]).2:Rat)=d at *
  grind
 have Q9:∀F:dj->Rat,eE (λj=>F (ds.getD j d0)) ds.length=bD F ds:=λF=>by rw [<-qC F ds _ (aam _),List.take_length]
 have LY:∀(a:Rat) (F:dj->Rat) (ds:List dj),bD (λd=>a * F d) ds=a * bD F ds:=λa F ds=>by
  induction ds with
  | nil=>show (0:Rat)=a * 0;grind
  | cons d ds ih=>
   show a * F d+bD (λd=>a * F d) ds=a * (F d+bD F ds);rw [ih];grind
 refine g.step (λz hz=> ?_) (by rw [aac,ab8];exact dr.l6) (λf=> ?_) λf hf=> ?_
 ·obtain ⟨j,hm,rfl⟩:=aas.mp hz;have hl:=abU.mp hm;obtain ⟨gd,k1,_⟩:=key j hl;have dm:=aaz hl;obtain ⟨t0,t1⟩:=dr.to _ dm;obtain ⟨c0,ce,cu,_⟩:=fl.ch ds rm _ dm;have c6:(θ ds[j]).2<=1000000:=by have:=ab4 o.b0 (yK o (aas.mpr ⟨_,dm,rfl⟩)).2.1;have:=o.b1;omega
  have hp:=h.pos;have hz:=h.sz;have hu:=h.un;refine ⟨by show (ds.getD j d0).1.toNat < _;rw [gd];omega,by rw [k1];show _=(ds.getD j d0).1.toNat;rw [gd], ?_, ?_, ?_, ?_, ?_⟩
  ·show (y.1++[_]).length<=_;rw [aaf];exact abZ h.len
  ·show 0 < y.2.2.2 * (θ (ds.getD j d0)).2;rw [gd];exact aaC hp c0
  ·show y.2.2.2 * (θ (ds.getD j d0)).2<=_;rw [gd,aa0];exact aba hz c6 (aai c0) (aca (by decide))
  ·show fk (y.2.2.1 * (θ (ds.getD j d0)).1,y.2.2.2 * (θ (ds.getD j d0)).2) _;rw [gd,aa0];obtain ⟨N,e1⟩:=h.he;obtain ⟨N',e2⟩:=ce;refine ⟨N * N', ?_⟩;show y.2.2.1 * (θ ds[j]).1 * (B ^ t * B)=N * N' * (y.2.2.2 * (θ ds[j]).2);generalize B ^ t=X at *
   grind
  ·show dX (y.2.2.1 * (θ (ds.getD j d0)).1,y.2.2.2 * (θ (ds.getD j d0)).2);rw [gd];exact ⟨aa4 hu.1 cu.1,aba hu.2 cu.2 cu.1 (aai hp)⟩
 ·rw [nZ];unfold fP Pf;rw [hr];show _=val y.2.2 * bD (λd=>cV d * f d.1.toNat) (bj υ y.2.1 (.τ "chance" ds))
  rw [hw,d7 (g:=λj=>(λd=>val y.2.2 * (cV d * f d.1.toNat)) (ds.getD j d0)) λj hl=>by
   rw [cv j hl,(key j hl).1];show val y.2.2 * cV ds[j] * f (ds.getD j d0).1.toNat=_
   rw [(key j hl).1];grind]
  exact (Q9 λd=>val y.2.2 * (cV d * f d.1.toNat)).trans (LY _ _ _)
 ·rw [nZ];unfold fM Mn;rw [hr];show _=val y.2.2 * cG s (aZ γ pl y.1) (bD (λd=>cV d * (val d.2.1+s * f d.1.toNat)) (bj υ y.2.1 (.τ "chance" ds)))
  rw [hw,<-Ak _ _ (FN o).1,d7 (g:=λj=>(λd=>val y.2.2 * (cV d * cG s (aZ γ pl y.1) (val d.2.1+s * f d.1.toNat))) (ds.getD j d0)) λj hl=>by
   rw [cv j hl,(key j hl).2.2,oC];show val y.2.2 * cV ds[j] * cG s (aZ γ pl y.1) (val ds[j].2.1+s * f (ds.getD j d0).1.toNat)=_
   rw [(key j hl).1];grind]
  exact (Q9 λd=>val y.2.2 * (cV d * cG s (aZ γ pl y.1) (val d.2.1+s * f d.1.toNat))).trans (LY _ _ _)
end
theorem DG{γ:List Rw}{r:Rw}(h:γ[i]? =some r):jh (γ.map Χ) (i:Int)=some (Χ r):=Θ (by rw [aax,h];rfl)
theorem vM{γ:List Rw}{pl t:Nat}{y:kY}(h:g8 γ B pl t y)(ht:t<=3):y.2.2.1.natAbs < 2 ^ 61/\y.2.2.2.natAbs < 2 ^ 61:=by
 have a:=h.pos;have b:=h.sz;obtain ⟨c,d⟩:=h.un;have e:(1000000:Int) ^ t<=1000000 ^ 3:=by have h:=aa6 (show 0 < 1000000 by decide) ht;have:((1000000 ^ t:Nat):Int)<=((1000000 ^ 3:Nat):Int):=Int.ofNat_le.mpr h;rw [abN,abN] at this;exact this
 have e2:(1000000:Int) ^ 3=1000000000000000000:=by decide
 rw [e2] at e;constructor <;> omega
def Cq:DF:=λas M q _=>∃(δ:Fr) (γ:List Rw) (kp:Nat) (p1 p2 υ:Pl) (pl t:Nat) (E B:Int),as=[.lst (γ.map Χ), .loc kp, .int (pl:Nat), .int (t:Nat)]/\vO M kp p1 p2/\pl < γ.length/\t<=3/\Fl δ γ E B/\pM γ υ/\(∀(i:Nat) (r:Rw),γ[i]? =some r->Ζ (kindOf r)=true->∃p,Ω p1 p2 (kindOf r)=some p/\af p i=af υ i)/\
 ∀(L:List kY) (E':Ms) (kf:Nat),Ds (val δ) γ υ B pl t L->M.length<=kf->(M++E')[kf]? =some (.lst (L.map i9))->q (.loc kf) (M++E')
theorem aD:χ ["_law_rows_here","_law_plans_here","_law_place","_law_turns","_law_found","_law_turn","_law_more","_law_picks","_law_at","_law_part","_law_kind","_law_doors_here","_law_starts_here","_law_k","_law_chance","_law_less","_law_door"] ["_law_rows_here","_law_plans_here","_law_place","_law_turns"] (ο lj):= .of rfl
theorem wa   (F:dN K "_law_plays" "_law_plays" lj f fd) (E:Ev K mg Cn) {xy:Addr} {xr:FuncData} (ig:aE P w K mg base 2 "_law_starts" ["_law_row"] yH xy xr):ar P w K mg base (cR P w) 3 f fd ["_law_rows_here","_law_plans_here","_law_place","_law_turns"] (dE K Cq):=by
 refine F.eN aD (λds M q x h=> ?_) (λbu A outer s H E' hr=>⟨_,(ι (π 4 aD.nd (ic (η (aV (η (kO ζ) (Ο (jv 2) (η (aV (η ξ (η ξ ζ aL) aL)) ζ fT)))) ζ fT)))
   (ι (gj (bq E.bh (Ο (jv 3) ζ)) (Ι (i:=5) aD.nd rfl (Or.inl rfl)) aJ (ι (π 6 aD.nd (ic ζ))
   (ι (cC (bL (jv 4)) (h7 rfl (aM (Ι (i:=7) aD.nd rfl (Or.inl rfl)) (aM (Ι (i:=8) aD.nd rfl (Or.inl rfl)) (aM (Ι (i:=9) aD.nd rfl (Or.inl rfl)) fN)))) uJ (ι (GA (Α (jv 0) (jv 8)) (h7 rfl (aM (Ι (i:=10) aD.nd rfl (Or.inl rfl)) (aM (Ι (i:=11) aD.nd rfl (Or.inl rfl)) fN))))
   (μ (aI (cW hr (jv 10) dZ) (μ (c_ (cY (jv 6) (η (aV (Ο (jv 7) (Ο (jv 8) (Ο (jv 9) ζ)))) ζ fT)))) (μ (aI (cW hr (jv 10) dZ) (ι (π 12 aD.nd (eQ (aj ig hr ν (η (Α (jv 0) (jv 8)) ζ ax))))
   (μ (gj (bq E.bh (η (c7 E.cE (Ο (jv 11) ζ)) ζ aP)) (Ι (i:=13) aD.nd rfl (Or.inl rfl)) aJ (ι (π 14 aD.nd (Α (Α (jv 11) (jv 13)) ξ))
   (ι (π 15 aD.nd (aV (η (br (Α (jv 9) ξ) (Α (jv 14) ξ)) (η (br (Α (jv 9) ξ) (Α (jv 14) ξ)) ζ aX) aX)))
   (μ (c_ (cY (jv 6) (η (aV (η (Dp (jv 7) (kO (η (Α (jv 12) (jv 13)) ζ ax))) (η (Α (Α (jv 11) (jv 13)) ξ) (Ο (jv 15) ζ) ax) aX)) ζ fT))))))))) (ι (π 16 aD.nd (b8 hr (b8 hr (jv 1) (jv 10)) (jv 8)))
   (μ (c_ (cY (jv 6) (η (aV (η (Dp (jv 7) (kO (Ο (jv 16) ζ))) (η (Α (Α (jv 11) (jv 16)) ξ) (Ο (jv 9) ζ) ax) aX)) ζ fT)))))))))))
   (μ (π 4 aD.nd (jv 6))))))
   (μ (ψ (jv 4))))),λds M q x h=> ?_⟩)
 ·obtain ⟨δ,γ,kp,p1,p2,υ,pl,t,E,B,rfl,_⟩:=h;rfl
 ·obtain ⟨δ,γ,kp,p1,p2,υ,pl,t,Ep,B,rfl,tw,CV,t3,fl,dk,fo,h⟩:=h;have b0:=fl.b0;have Sa:(1:Nat)<=sizeLine:=by decide
  have ID:(2:Nat)<=sizeLine:=by decide
  have Ig:(3:Nat)<=sizeLine:=by decide
  walk_at "vc";refine ⟨by decide,ID,Ig,by show 1<=sizeLine;decide, ?_⟩;refine ⟨by omega, ?_⟩;rw [show ((t:Int)).toNat=t by omega];refine cK (λzs ρ' M'=>∃(i m kf:Nat) (L:List kY) (Ex:Ms) (o5 o6 o7 o8 o9 wF xR tM mT qX tZ Ef:Option Dt),zs=dY (i:Int) m/\i+m=t/\Ds (val δ) γ υ B pl i L/\M'=M++Ex/\M.length<=kf/\M'[kf]? =some (.lst (L.map i9))/\ρ'=[some (.lst (γ.map Χ)),some (.loc kp),some (.int (pl:Int)),some (.int (t:Int)),some (.loc kf),o5,o6,o7,o8,o9,wF,xR,tM,mT,qX,tZ,Ef]) (λx zs ρ' M' hj gO=> ?_) (λρ' M' hj=> ?_) _ _ _ ⟨0,t,M.length,[([],pl,(1,1))],[.lst [i9 ([],pl,(1,1))]],none,none,none,none,none,none,none,none,none,none,none,none,rfl,by omega,Kt CV,rfl,aam _,aO,rfl⟩
  ·obtain ⟨i,m,kf,L,Ex,o5,o6,o7,o8,o9,wF,xR,tM,mT,qX,tZ,Ef,ex,im,LA,rfl,L9,Hn,rfl⟩:=hj;obtain ⟨m',rfl,rfl,rfl⟩:=cy ex;have i2:i<=2:=by omega
   have ll:L.length<=36:=aaI LA.len (aa6 (show 0 < 6 by decide) i2);have PC:∀X:Ms,vO (M++Ex++X) kp p1 p2:=λX=>(tw.app (E:=Ex)).app;refine ⟨by decide, ?_⟩;walk_at "vc";show eG _ _ _ _ _;refine cx (i:=4) (d:= .loc kf) rfl (tH (ay Hn)) ?_;refine bK (λxs ρ' M'=>∃(bR Η mr:List kY) (o7 o8 o9 wF xR tM mT qX tZ Ef:Option Dt),xs=Η.map i9/\L=bR++Η/\je (val δ) γ υ B pl i bR mr/\M'=M++Ex++[.lst (mr.map i9)]/\ρ'=[some (.lst (γ.map Χ)),some (.loc kp),some (.int (pl:Int)),some (.int (t:Int)),some (.loc kf),some (.int (i:Int)),some (.loc (M++Ex).length),o7,o8,o9,wF,xR,tM,mT,qX,tZ,Ef]) (λxs ρ' M' hj=> ?_) (λx xs ρ' M' hj rA=> ?_) (λρ' M' hj=> ?_) _ _ _ ⟨[],L,[],o7,o8,o9,wF,xR,tM,mT,qX,tZ,Ef,rfl,rfl,Jc,rfl,rfl⟩
   ·obtain ⟨bR,Η,mr,o7,o8,o9,wF,xR,tM,mT,qX,tZ,Ef,_,_,_,rfl,_⟩:=hj;exact ay Hn
   ·obtain ⟨bR,Η,mr,o7,o8,o9,wF,xR,tM,mT,qX,tZ,Ef,ex,eL,gr,rfl,rfl⟩:=hj;cases Η with
    | nil=>cases ex
    | cons y Η=>
     cases ex;have ym:y∈L:=by rw [eL];simp
     have yo:=LA.each y ym;have ml:mr.length<=210:=by
      have:=gr.len;have:bR.length+(Η.length+1)<=36:=by rw [eL,aaf] at ll;exact ll
      omega
     have mz:∀{k:Nat},k<=6->mr.length+k < sizeLine:=λ{k} hk=>aaM (show mr.length+k<=216 by omega) (by decide);obtain ⟨Rf,Rh⟩:=vM yo (by omega);obtain ⟨r,AJ⟩:∃r,γ[y.2.1]? =some r:=⟨_,aaa yo.lt⟩;have rm:=aag AJ;dsimp only [g3,i9];walk_at "vc";dsimp only [G6];walk_at "vc";refine (ω (d:= .lst (γ.map Χ)) rfl (DG AJ) ?_:cB (.lst (γ.map Χ)) (.int (y.2.1:Int)) _ _);cases r with
     | fin e=>
      refine ⟨λ_=> ?_,λz=>(nomatch z)⟩;refine ⟨⟨_,_,rfl,aO⟩,Ig,_,_,_,rfl,rfl,aO,by rw [aac];exact mz (k:=0) (by decide), ?_⟩;rw [eu];exact rA _ _ ⟨bR++[y],Η,mr++[y],_,_,_,_,_,_,_,_,_,_,rfl,by rw [eL];simp,gr.fin b0 yo AJ,by rw [List.map_append];rfl,rfl⟩
     | τ k ds=>
      have dr:=aq fl.pl rm;have l6:=dr.l6;refine ⟨λz=>aaJ (aaH z) dr.ro.1,λ_=> ?_⟩;rcases dr.kd with hk | ⟨hk,rfl,o⟩
      ·have nc:k≠"chance":=λz=>by rw [z] at hk;exact aaJ hk (by decide)
       refine ⟨λz=>aaJ (aaH z) nc,λ_=> ?_⟩;obtain ⟨j,hj,jl⟩:=dk.hand y.2.1 _ AJ hk;have jl:j < ds.length:=jl;obtain ⟨p,vG,IX⟩:=fo y.2.1 _ AJ hk;obtain ⟨ks,vs,k',p',g1,g2,g3,g4⟩:=yN (PC [.lst (mr.map i9)]) hk;have:p'=p:=by have vG:Ω p1 p2 k=some p:=vG;rw [g3] at vG;cases vG;rfl
       subst this;have dg:av (kP p') (vP p') (Sum.inl (y.2.1:Int))=some (.int (j:Int)):=by rw [kF,IX,hj];rfl
       have gd:jh (ds.map a_) (j:Int)=some (a_ ds[j]):=Bt jl;refine ⟨kp,ks,vs,Sum.inr k,_,rfl,g1,rfl,g2,k',kP p',vP p',Sum.inl (y.2.1:Int),_,rfl,g4,rfl,dg, ?_⟩;walk_at "vc";refine ⟨⟨_,_,rfl,aO⟩, ?_⟩;walk_at "vc";refine ⟨Sa,_,_,rfl,rfl,by rw [aac];exact aaI (show _<=4 by have:=yo.len;show y.1.length+1<=4;omega) (by decide), ?_⟩;refine (ω (d:= .lst (ds.map a_)) rfl gd ?_:cB (.lst (ds.map a_)) (.int (j:Int)) _ _);refine (qE ?_:cB (a_ ds[j]) (.int 0) _ _);refine ⟨Ig,_,_,_,rfl,rfl,aO,by rw [aac];exact mz (k:=0) (by decide), ?_⟩;obtain ⟨t0,t1⟩:=dr.to _ (aaz jl);rw [eu];refine rA _ _ ⟨bR++[y],Η,mr++[(y.1++[(j:Int)],ds[j].1.toNat,y.2.2)],_,_,_,_,_,_,_,_,_,_,rfl,by rw [eL];simp,gr.hand b0 fl yo AJ hk hj jl, ?_,rfl⟩;rw [abd];show _=M++Ex++[MO.lst (mr.map i9++[.tup [.lst ((y.1++[(j:Int)]).map Dt.int), .int ((ds[j].1.toNat:Nat):Int),Δ y.2.2]])];rw [abd,abf t0];rfl
      ·refine ⟨λ_=> ?_,λz=>aaJ rfl (aaW z)⟩;have gn:=dk.wK y.2.1 _ AJ hk;have mG:=(dr.ro.2.2.1 rfl).1;have Uh:∀d∈ds,∀(M:Ms) (q:DQ),q (Δ (θ d)) M->cB (a_ d) (.int 2) M q:=λd hd M q hq=>ω (xs:= .int d.1::Δ d.2.1::d.2.2.map Δ) rfl (Θ (j:=2) (by rw [mG d hd];rfl)) hq;refine (ω (d:= .lst (γ.map Χ)) rfl (DG AJ) ?_:cB (.lst (γ.map Χ)) (.int (y.2.1:Int)) _ _);refine ⟨ds,rfl,l6,mG,o,fg (by rw [show ((List.range (ds.length+1)).map λj=>Dt.int (k4 (ds.map θ) j))=((List.range (ds.length+1)).map (k4 (ds.map θ))).map Dt.int by rw [aaO];rfl];exact yy _) ?_⟩;refine (az (d:= .lst (ds.map a_)) (xs:=ds.map a_) rfl ?_:gC [.lst (ds.map a_)] _ _);rw [aac];refine ⟨by omega, ?_⟩;rw [show ((ds.length:Int)).toNat=ds.length by omega];refine cK (λzs ρ' M'=>∃(j n:Nat) (mT qX tZ:Option Dt),zs=dY (j:Int) n/\j+n=ds.length/\M'=M++Ex++[.lst ((mr++(List.range j).map (Ek y ds)).map i9)]/\ρ'=[some (.lst (γ.map Χ)),some (.loc kp),some (.int (pl:Int)),some (.int (t:Int)),some (.loc kf),some (.int (i:Int)),some (.loc (M++Ex).length),some (.lst (y.1.map Dt.int)),some (.int (y.2.1:Int)),some (Δ y.2.2),some (.str "chance"),some (.lst (ds.map a_)),some (.lst ((List.range (ds.length+1)).map λj=> .int (k4 (ds.map θ) j))),mT,qX,tZ,Ef]) (λx zs ρ' M' hj Ib=> ?_) (λρ' M' hj=> ?_) _ _ _ ⟨0,ds.length,mT,qX,tZ,rfl,by omega,by rw [show (List.range 0).map (Ek y ds)=[] from rfl,aaG],rfl⟩
       ·obtain ⟨j,n,mT,qX,tZ,ex,jn,rfl,rfl⟩:=hj;obtain ⟨n',rfl,rfl,rfl⟩:=cy ex;have jl:j < ds.length:=by omega
        have dm:=aaz jl;have gd:jh (ds.map a_) (j:Int)=some (a_ ds[j]):=Bt jl;have gD:ds.getD j d0=ds[j]:=by rw [aab,aaa jl];rfl
        have sa:jh ((List.range (ds.length+1)).map λj=>Dt.int (k4 (ds.map θ) j)) (j:Int)=some (.int (k4 (ds.map θ) j)):=Θ (by rw [aax,abF (by omega)];rfl);obtain ⟨c0,c1,c2⟩:=o.wq.2 (θ ds[j]) (aas.mpr ⟨_,dm,rfl⟩);obtain ⟨⟨_,T7⟩,Ug,_⟩:=mP o (aas.mpr ⟨_,dm,rfl⟩);obtain ⟨t0,t1⟩:=dr.to _ dm;have lz:(mr++(List.range j).map (Ek y ds)).length < sizeLine:=by rw [aaf,aac,ab8];exact mz (by omega)
        walk_at "vc";refine (ω (d:= .lst (ds.map a_)) rfl gd ?_:cB (.lst (ds.map a_)) (.int (j:Int)) _ _);refine Uh _ dm _ _ ?_;refine (iB ?_:cB (Δ y.2.2) (.int 0) _ _);refine (iB ?_:cB (Δ (θ ds[j])) (.int 0) _ _);refine ⟨⟨bg (k:=61) Rf,Ug⟩, ?_⟩;refine (g9 ?_:cB (Δ y.2.2) (.int 1) _ _);refine (g9 ?_:cB (Δ (θ ds[j])) (.int 1) _ _);refine ⟨⟨bg (k:=61) Rh,T7⟩,ID, ?_⟩;refine ⟨⟨_,_,rfl,aO⟩, ?_⟩;walk_at "vc";refine (ω (d:= .lst ((List.range (ds.length+1)).map λj=> .int (k4 (ds.map θ) j))) rfl sa ?_:cB _ (.int (j:Int)) _ _);refine ⟨Sa,_,_,rfl,rfl,by rw [aac];exact aaI (show _<=4 by have:=yo.len;show y.1.length+1<=4;omega) (by decide), ?_⟩;refine (ω (d:= .lst (ds.map a_)) rfl gd ?_:cB (.lst (ds.map a_)) (.int (j:Int)) _ _);refine (qE ?_:cB (a_ ds[j]) (.int 0) _ _);refine ⟨Ig,_,_,_,rfl,rfl,aO,by rw [aac];exact lz, ?_⟩;rw [eu];refine Ib _ _ ⟨j+1,n',_,_,_,by rw [abc];rfl,by omega, ?_,rfl⟩;have ec:i9 (Ek y ds j)= .tup [.lst (y.1.map Dt.int++[.int (k4 (ds.map θ) j)]), .int ds[j].1,Δ (y.2.2.1 * (θ ds[j]).1,y.2.2.2 * (θ ds[j]).2)]:=by unfold Ek;rw [gD];show Dt.tup [.lst ((y.1++[k4 (ds.map θ) j]).map Dt.int), .int ((ds[j].1.toNat:Nat):Int),_]=_;rw [abd,abf t0];rfl
        rw [abM];simp only [List.map_append,List.map_cons,List.map_nil,List.append_assoc,ec];rfl
       ·obtain ⟨j,n,mT,qX,tZ,ex,jn,rfl,rfl⟩:=hj;have n0:n=0:=by have:=aa5 List.length ex;rw [cI] at this;exact this.symm
        have ej:j=ds.length:=by omega
        subst ej;exact rA _ _ ⟨bR++[y],Η,_,_,_,_,_,_,_,_,_,_,_,rfl,by rw [eL];simp,gr.Il fl yo AJ gn,rfl,rfl⟩
   ·obtain ⟨bR,Η,mr,o7,o8,o9,wF,xR,tM,mT,qX,tZ,Ef,ex,eL,gr,rfl,rfl⟩:=hj;cases Η with
    | cons y Η=>cases ex
    | nil=>
     rw [aaG] at eL;subst eL;exact gO _ _ ⟨i+1,m',(M++Ex).length,mr,Ex++[.lst (mr.map i9)],_,_,_,_,_,_,_,_,_,_,_,_,by rw [Int.natCast_add];rfl,by omega,gr.all LA,by simp,by simp,aO,rfl⟩
  ·obtain ⟨i,m,kf,L,Ex,o5,o6,o7,o8,o9,wF,xR,tM,mT,qX,tZ,Ef,ex,im,LA,rfl,L9,Hn,rfl⟩:=hj;have m0:m=0:=by have:=aa5 List.length ex;rw [cI] at this;exact this.symm
   have ei:i=t:=by omega
   subst ei;exact h L Ex kf LA L9 Hn
theorem rO{k:Nat}(h1:a.natAbs < 2 ^ j)(h2:b.natAbs < 2 ^ k):(a * b).natAbs < 2 ^ (j+k):=by rw [abh];exact dh h1 h2
theorem PB(p q:Fr):lS [.int p.1, .int p.2] [.int q.1, .int q.2]=decide (p=q):=by
 obtain ⟨a,b⟩:=p;obtain ⟨c,d⟩:=q;show ((a==c)&&((b==d)&&true))=_;rw [Bool.and_true];by_cases h1:a=c
 ·by_cases h2:b=d
  ·subst h1 h2;simp
  ·simp [h1,h2]
 ·simp [h1]
def CH:DF:=λas M q _=>∃(a p b:Fr),as=[Δ a,Δ p,Δ b]/\Sz 2600 a/\Sz 200 p/\Sz 2600 b/\∀r,Red r->val r=val a+val p * val b->q (Δ r) M
theorem qw:χ ["_law_one","_law_part","_law_other","_law_below"] ["_law_one","_law_part","_law_other"] (ο n4):= .of rfl
theorem xt(F:dN K "_law_plus" "_law_plus" n4 f fd)(E:Ev K mg Cn)(aa:aE P w K mg base 1 "_law_lowest" ["_law_top","_law_bottom"] An bU bT):ar P w K mg base (cR P w) 2 f fd ["_law_one","_law_part","_law_other"] (dE K CH):=by
 refine F.eN qw (λds M q x h=> ?_) (λbu A outer s H E' hr=>⟨_,(ι (π 3 qw.nd (br (Α (jv 1) ξ) (Α (jv 2) ξ)))
   (μ (ψ (aj aa hr ν (η (ck (br (Α (jv 0) ξ) (jv 3)) (br (br (Α (jv 1) ξ) (Α (jv 2) ξ)) (Α (jv 0) ξ))) (η (br (Α (jv 0) ξ) (jv 3)) ζ aX) aX))))),λds M q x h=> ?_⟩)
 ·obtain ⟨a,p,b,rfl,_⟩:=h;rfl
 ·obtain ⟨a,p,b,rfl,⟨a1,a0,a2⟩,⟨p1,p0,p2⟩,⟨b1,b0,b2⟩,h⟩:=h;have m1:=rO p2 b2;have m2:=rO p1 b1;have m3:=rO a2 m1;have g0:=aaC a0 (aaC p0 b0);walk_at "vc";refine (g9 ?_:cB (Δ p) (.int 1) _ _);refine (g9 ?_:cB (Δ b) (.int 1) _ _);refine ⟨⟨bg p2,bg b2⟩, ?_⟩;refine (iB ?_:cB (Δ a) (.int 0) _ _);refine ⟨⟨bg a1,bg m1⟩, ?_⟩;refine (iB ?_:cB (Δ p) (.int 0) _ _);refine (iB ?_:cB (Δ b) (.int 0) _ _);refine ⟨⟨bg p1,bg b1⟩, ?_⟩;refine (g9 ?_:cB (Δ a) (.int 1) _ _);refine ⟨⟨bg m2,bg a2⟩, ?_⟩;dsimp only [z0];refine (g9 ?_:cB (Δ a) (.int 1) _ _);refine ⟨⟨bg a2,bg m1⟩, ?_⟩;refine ⟨_,_,rfl,g0,bg m3,h _ (aF (aaR g0)) ?_⟩;rw [ph (aaR g0)];have h1:=bJ (show a.2≠0 by omega);have h2:=bJ (show p.2≠0 by omega);have h3:=bJ (show b.2≠0 by omega);simp only [Rat.intCast_add,Rat.intCast_mul];unfold val;generalize (a.1:Rat)=x1 at *
  generalize (a.2:Rat)=x2 at *
  generalize (p.1:Rat)=x3 at *
  generalize (p.2:Rat)=x4 at *
  generalize (b.1:Rat)=x5 at *
  generalize (b.2:Rat)=x6 at *
  grind
def GW:DF:=λas M q _=>∃p:Fr,as=[Δ p,Δ p]/\q (.bl true) M
theorem mF:χ ["_law_found","_law_due"] ["_law_found","_law_due"] (ο fB):= .of rfl
theorem lN(F:dN K "_law_fraction_is" "_law_fraction_is" fB f fd)(E:Ev K mg Cn):ar P w K mg base (cR P w) 1 f fd ["_law_found","_law_due"] (dE K GW):=by
 refine F.eN mF (λds M q x h=> ?_) (λbu A outer s H E' hr=>⟨_,(ι (aI (JW.jt (kJ (ie (da (jO K E.aS (Ο (jv 0) (Ο (xo E.kz my) ζ))))) (kJ (nB hr (c7 E.cE (Ο (jv 0) ζ)) ξ) (kJ (da (jO K E.aS (η (Α (jv 0) ξ) (Ο (xo E.nP nO) ζ) ax))) (nq (da (jO K E.aS (η (Α (jv 0) ξ) (Ο (xo E.nP nO) ζ) ax)))))))) (μ (ψ Hv)) Ξ)
   (μ (ψ (ee (jO K E.aS (η (Α (jv 0) ξ) (Ο (xo E.vd qm) ζ) ax)) (ee (jO K E.aS (η (Α (jv 0) ξ) (Ο (xo E.vd qm) ζ) ax)) (fZ (MW hr (jv 0) (jv 1)))))))),λds M q x h=> ?_⟩)
 ·obtain ⟨p,rfl,_⟩:=h;rfl
 ·obtain ⟨p,rfl,h⟩:=h;walk_at "vc";refine ⟨_,_,_,_,true,rfl,rfl,rfl,om,λz=>(nomatch z),λ_=> ?_⟩;refine (az (d:=Δ p) (xs:=[.int p.1, .int p.2]) rfl ?_:gC [Δ p] _ _);refine ⟨λz=>(nomatch z),λ_=> ?_⟩;refine (iB ?_:cB (Δ p) (.int 0) _ _);refine ⟨_,_,_,_,false,rfl,rfl,rfl,E.ib,λz=>(nomatch z),λ_=> ?_⟩;refine (g9 ?_:cB (Δ p) (.int 1) _ _);refine ⟨_,_,_,_,false,rfl,rfl,rfl,E.ib,λz=>(nomatch z),λ_=> ?_⟩;refine (iB ?_:cB (Δ p) (.int 0) _ _);refine ⟨_,_,_,_,true,rfl,rfl,rfl,om,λ_=> ?_,λz=>(nomatch z)⟩;refine (g9 ?_:cB (Δ p) (.int 1) _ _);refine ⟨_,_,_,_,true,rfl,rfl,rfl,om,λ_=> ?_,λz=>(nomatch z)⟩;show q (.bl (lS [.int p.1, .int p.2] [.int p.1, .int p.2])) M;rw [PB,aav rfl];exact h
section
variable{δ:Fr}{γ:List Rw}{υ:Pl}{pl t:Nat}{L bR:List kY}{y:kY}{mn:Fr}{th:List Fr}
theorem qP(fl:Fl δ γ E B):∀(ps:List Int) (i:Nat),∀p∈aZ γ i ps,Nb E (10 ^ 30) p
 | [],i,p,hp=>(nomatch hp)
 | x::ps,i,p,hp=>by
  cases hi:γ[i]? with
  | none=>
   have hn:bF γ i x=none:=by unfold bF;rw [hi]
   rw [(e9 hn (x::ps)).2] at hp;cases hp
  | some r=>
   cases r with
   | fin e=>rw [(e9 (uZ hi x) (x::ps)).2] at hp;cases hp
   | τ k ds=>
    have rm:=aag hi;have hn:=gS (aq fl.pl rm) hi x;rw [(d9 (ps:=ps) hn).2.2] at hp;rcases aaP.mp hp with e | e
    ·rw [e];exact fl.PF k ds rm _ (aaz _)
    ·exact qP fl ps _ p e
theorem yX(fl:Fl δ γ E B){l:Fr}(rl:Red l)(hl:Nb E (10 ^ 30) l):∀ps:List Fr,ps.length<=3->(∀p∈ps,Nb E (10 ^ 30) p)->∃R,Red R/\val R=cG (val δ) ps (val l)/\Nb (E * δ.2 ^ ps.length) (((ps.length+1:Nat):Int) * 10 ^ 30) R
 | [],_,_=>⟨l,rl,rfl,by show Nb (E * δ.2 ^ 0) (1 * 10 ^ 30) l;rw [Int.pow_zero,ab0,abO];exact hl⟩
 | p::ps,hz,hp=>by
  rw [aaw] at hz;obtain ⟨R,rR,vR,nR⟩:=yX fl rl hl ps (by omega) λx hx=>hp x (aad _ hx);obtain ⟨s0,s1,su⟩:=eD fl.pl.sh;have np:=hp p aae;have s2:δ.2 < 2 ^ 10:=by omega
  have sp:∀n,n<=3->0 < δ.2 ^ n/\δ.2 ^ n < 2 ^ 40:=λn hn=>by
   refine ⟨abr s0, ?_⟩;have a:=gx (show 1<=δ.2 by omega) hn;have b:δ.2 ^ 3<=1000 ^ 3:=by have h1:δ.2 * δ.2<=1000 * 1000:=aba s1 s1 (by omega) (by decide);have h2:δ.2 * δ.2 * δ.2<=1000 * 1000 * 1000:=aba h1 s1 (by omega) (by decide);rw [aa0,aa0,aa0,Int.pow_zero,abO];exact h2
   have c:(1000:Int) ^ 3 < 2 ^ 40:=by decide
   omega
  have bd:∀C:Int,0<=C->C<=4 * 10 ^ 30->Bd (E * δ.2 ^ (ps.length+1)) C:=λC c0 c1=>by obtain ⟨a,b⟩:=sp (ps.length+1) hz;obtain ⟨e0,e1⟩:=aN fl.e0 fl.e1 a b;exact ⟨e0,aa1 e1 (by decide),c0,aar c1 (by decide)⟩
  have cn:(((ps.length+1+1:Nat):Int)) * 10 ^ 30=10 ^ 30+((ps.length+1:Nat):Int) * 10 ^ 30:=by rw [abc (ps.length+1),Int.add_mul];show _+1 * 10 ^ 30=_;omega
  have c3:((ps.length+1:Nat):Int) * 10 ^ 30<=3 * 10 ^ 30:=aaj (by omega) (by decide);have c0:0<=((ps.length+1:Nat):Int) * 10 ^ 30:=aa4 (by omega) (by decide);have nt:Nb (E * δ.2 ^ (ps.length+1)) (((ps.length+1:Nat):Int) * 10 ^ 30) (Λ δ R):=by
   have e:E * δ.2 ^ (ps.length+1)=δ.2 * (E * δ.2 ^ ps.length):=by rw [Int.pow_succ];grind
   have b:=bd _ c0 (by omega);rw [e] at b⊢;exact fj s0 (iQ δ) su nR b
  refine ⟨bE p (Λ δ R),aF (aaR (aaC np.pos nt.pos)), ?_, ?_⟩
  ·rw [dF np.pos nt.pos,cP s0 rR.pos,vR];rfl
  ·rw [aaw,cn];have b:=bd (10 ^ 30+((ps.length+1:Nat):Int) * 10 ^ 30) (by omega) (by omega);exact iU (jr _ np) nt b
theorem Fo(fl:Fl δ γ E B)(rf:∀p,Rw.fin p∈γ->Red p)(i:Nat):Red (hX γ i)/\Nb E (10 ^ 30) (hX γ i):=by
 unfold hX;cases h:γ[i]? with
 | none=>exact ⟨(⟨by decide,by decide⟩:Red (0,1)),gK sy (by decide)⟩
 | some r=>
  cases r with
  | fin p=>exact ⟨rf p (aag h),fl.fin p (aag h)⟩
  | τ k ds=>exact ⟨(⟨by decide,by decide⟩:Red (0,1)),gK sy (by decide)⟩
structure Sm(δ:Fr)(γ:List Rw)(E B:Int)(pl t:Nat)(bR:List kY)(mn:Fr)(th:List Fr):Prop where
 rd:Red mn
 vm:val mn=fJ (fM (val δ) γ pl (EO γ)) bR
 nm:Nb (B ^ t * (E * δ.2 ^ 3)) ((bR.length:Int) * (4 * 10 ^ 30)) mn
 len:th.length=γ.length
 ts:∀k,k < γ.length->Red (th.getD k (0,1))/\val (th.getD k (0,1))=fJ (fP λi=>if i=k then 1 else 0) bR/\Nb (B ^ t * 1) ((bR.length:Int) * 1) (th.getD k (0,1))
theorem R6:val ((0,1):Fr)=0:=by show ((0:Int):Rat) / ((1:Int):Rat)=0;grind
theorem Qs:Sm δ γ E B pl t [] (0,1) (γ.map λ_=>(0,1)):=by
 have g:∀k,((γ.map λ_=>((0,1):Fr))).getD k (0,1)=(0,1):=λk=>by rw [aab,aax];cases γ[k]? <;> rfl
 refine ⟨⟨by decide,by decide⟩,R6,by show Nb _ (0 * _) _;rw [Int.zero_mul];exact sy,by simp,λk hk=> ?_⟩;rw [g];exact ⟨⟨by decide,by decide⟩,R6,by show Nb _ (0 * 1) _;rw [Int.zero_mul];exact sy⟩
theorem Sm.step(h:Sm δ γ E B pl t bR mn th)(fl:Fl δ γ E B)(rf:∀p,Rw.fin p∈γ->Red p)(sb:B ^ 3 < 2 ^ 800)(t3:t<=3)(dl:bR.length < 216)(yo:g8 γ B pl t y){R r1 r2:Fr}(rR:Red R)(vR:val R=nE δ γ pl y.1):
  Sz 2600 R/\(Red r1->val r1=val mn+val y.2.2 * val R->Red r2->val r2=val (th.getD y.2.1 (0,1))+val y.2.2 * val ((1,1):Fr)->Sm δ γ E B pl t (bR++[y]) r1 (th.set y.2.1 r2)):=by
 obtain ⟨s0,s1,su⟩:=eD fl.pl.sh;have b0:=fl.b0;have pn:(aZ γ pl y.1).length<=3:=by
  have:∀(ps:List Int) (i:Nat),(aZ γ i ps).length<=ps.length:=λps=>by
   induction ps with
   | nil=>intro i;exact aam _
   | cons p ps ih=>
    intro i;cases hn:bF γ i p with
    | none=>rw [(e9 hn (p::ps)).2];exact abK _
    | some jd=>
     obtain ⟨j,d⟩:=jd;rw [(d9 (ps:=ps) hn).2.2];exact abZ (ih _)
  have:=this y.1 pl;have:=yo.len;omega
 obtain ⟨rl,nl⟩:=Fo fl rf (c5 γ pl y.1);obtain ⟨R',WI,V6,XY⟩:=yX fl rl nl (aZ γ pl y.1) pn (qP fl y.1 pl);have eR:R'=R:=kX WI rR (by rw [V6,vR];rfl);subst eR;have nR:Nb (E * δ.2 ^ 3) (4 * 10 ^ 30) R':=by have:=jr (δ.2 ^ (3 - (aZ γ pl y.1).length)) XY;rw [abQ,<-ab9,show (aZ γ pl y.1).length+(3 - (aZ γ pl y.1).length)=3 by omega] at this;exact gK this (aaj (by omega) (by decide))
 refine ⟨nR.sz,λq1 v1 q2 v2=> ?_⟩;have RQ:0 < B ^ t:=abr b0;have Sf:B ^ t < 2 ^ 800:=aar (gx (show 1<=B by omega) t3) sb;have Ig:0 < δ.2 ^ 3/\δ.2 ^ 3 < 2 ^ 40:=by refine ⟨abr s0, ?_⟩;have h1:δ.2 * δ.2<=1000 * 1000:=aba s1 s1 (by omega) (by decide);have h2:δ.2 * δ.2 * δ.2<=1000 * 1000 * 1000:=aba h1 s1 (by omega) (by decide);rw [aa0,aa0,aa0,Int.pow_zero,abO];exact aar h2 (by decide)
 obtain ⟨e0,e1⟩:=aN fl.e0 fl.e1 Ig.1 Ig.2;obtain ⟨f0,f1⟩:=aN RQ Sf e0 e1;have bd:∀C:Int,0<=C->C<=216 * (4 * 10 ^ 30)->Bd (B ^ t * (E * δ.2 ^ 3)) C:=λC c0 c1=>⟨f0,aa1 f1 (by decide),c0,aar c1 (by decide)⟩;have RM:∀C:Int,0<=C->C<=216->Bd (B ^ t * 1) C:=λC c0 c1=>⟨by rw [ab0];exact RQ,by rw [ab0];exact acf Sf (by decide),c0,aar c1 (by decide)⟩;have nt:=fj yo.pos yo.he yo.un nR (bd _ (by decide) (by decide));have dn:((bR++[y]).length:Int)=(bR.length:Int)+1:=by rw [aaf];rfl
 have one:Nb 1 1 ((1,1):Fr):=⟨by decide,⟨1,by decide⟩,⟨by decide,by decide⟩,eT (k:=2) ⟨by decide,by decide,by decide⟩ (by decide)⟩;have n1:=fj yo.pos yo.he yo.un one (RM _ (by decide) (by decide));have at_:=yo.lt;have yl:=yo.last;obtain ⟨ta,tb,tc⟩:=h.ts y.2.1 at_;have m1:r1=bE mn (Λ y.2.2 R'):=kX q1 (aF (aaR (aaC h.rd.pos nt.pos))) (by rw [v1,dF h.rd.pos nt.pos,cP yo.pos rR.pos]);have m2:r2=bE (th.getD y.2.1 (0,1)) (Λ y.2.2 (1,1)):=kX q2 (aF (aaR (aaC ta.pos n1.pos))) (by rw [v2,dF ta.pos n1.pos,cP yo.pos (by decide)]);refine ⟨q1, ?_, ?_,by rw [abq];exact h.len,λk hk=> ?_⟩
 ·rw [v1,h.vm,eF,cJ,vR];show _=_+val y.2.2 * cG (val δ) (aZ γ pl y.1) (val ((bM γ).getD y.2.1 (0,1)));rw [xx,<-yl];rfl
 ·rw [dn,m1,Int.add_mul,abO];refine iU h.nm nt (bd _ ?_ ?_)
  ·have:0<=(bR.length:Int) * (4 * 10 ^ 30):=aa4 (by omega) (by decide);omega
  ·have:(bR.length:Int) * (4 * 10 ^ 30)<=215 * (4 * 10 ^ 30):=aaj (by omega) (by decide);omega
 ·rw [vg (by rw [h.len];exact at_),eF,cJ,dn,show ((bR.length:Int)+1) * 1=(bR.length:Int) * 1+1 by omega];obtain ⟨ka,kb,kc⟩:=h.ts k hk;by_cases e:k=y.2.1
  ·rw [aaE e,e];refine ⟨q2, ?_, ?_⟩
   ·rw [v2,tb,v11];show _=_+val y.2.2 * (if y.2.1=y.2.1 then 1 else 0);rw [aaE rfl]
   ·rw [m2];exact iU tc n1 (RM _ (by omega) (by omega))
  ·rw [aaA e];refine ⟨ka, ?_,gK kc (by omega)⟩;rw [kb];show _=_+val y.2.2 * (if y.2.1=k then 1 else 0);rw [if_neg (λz=>e z.symm)];grind
end
theorem EH{k:Nat}(h:M[k]? =some (MO.lst xs)):BO M (.loc k)=some (.type "list"):=by show (match M[k]? with | some (MO.lst _)=>some (Value.type "list") | _=>none)=_;rw [h]
theorem r_{Ex:Ms}{o:MO}:(M++[o]++Ex)[M.length]? =some o:=by simp
theorem Gy{Ex:Ms}{o c:MO}:(M++[o]++Ex).set M.length c=M++[c]++Ex:=by simp [List.set_append]
theorem ue{Ex:Ms}{o:MO}{e:Nat}:(M++[o]++Ex)[M.length+1+e]? =Ex[e]? :=by
 rw [List.getElem?_append_right (by simp)]
 congr 1
 simp
theorem CD{X:Ms}{k:Nat}{c:MO}(h:M.length<=k):(M++X).set k c=M++X.set (k - M.length) c:=List.set_append_right _ _ h
def D8(A:Addr):DF:=λas M q _=>∃(δ:Fr) (γ:List Rw) (kp kh:Nat) (p1 p2 h1 h2:Pl) (pl t:Nat) (E B:Int),as=[Κ A δ γ, .lst (γ.map Χ), .loc kp, .int (pl:Nat), .int (t:Nat), .loc kh]/\vO M kp p1 p2/\vO M kh h1 h2/\pl < γ.length/\t<=3/\Fl δ γ E B/\(δ.2 * B) ^ 3 < 2 ^ 850/\B ^ 3 < 2 ^ 800/\(∀p,Rw.fin p∈γ->Red p)/\(∀i,i < γ.length->bV γ h1 h2 i=true)/\(∀(i:Nat) (r:Rw),γ[i]? =some r->Ζ (kindOf r)=true->∃p,Ω p1 p2 (kindOf r)=some p/\af p i=af (dW γ h1 h2 γ.length) i)/\∀E',q (.bl true) (M++E')
theorem aQ:χ ["_law_floor","_law_rows_here","_law_plans_here","_law_place","_law_turns","_law_handed","_law_found","_law_mean","_law_there","_law_picks","_law_at","_law_part","_law_steps","_law_last","_law_gathered","_law_k"] ["_law_floor","_law_rows_here","_law_plans_here","_law_place","_law_turns","_law_handed"] (ο lZ):= .of rfl
theorem we(F:dN K "_law_holds" "_law_holds" lZ f fd)(E:Ev K mg Cn){Gn:Addr}{FH:FuncData}(ou:aE P w K mg base 8 "mean_of" ["floor","plan_one","plan_other","place","turns"] (GO Cn) Gn FH){AL:Addr}{zO:FuncData}(jF:aE P w K mg base 3 "_law_plays" ["_law_rows_here","_law_plans_here","_law_place","_law_turns"] Cq AL zO){EL:Addr}{E3:FuncData}(oI:aE P w K mg base 6 "played" ["floor","place","picks"] (yM Cn) EL E3){Bj:Addr}{CI:FuncData}(iK:aE P w K mg base 2 "_law_plus" ["_law_one","_law_part","_law_other"] CH Bj CI){ow:Addr}{pk:FuncData}(c9:aE P w K mg base 1 "_law_fraction_is" ["_law_found","_law_due"] GW ow pk):ar P w K mg base (cR P w) 9 f fd ["_law_floor","_law_rows_here","_law_plans_here","_law_place","_law_turns","_law_handed"] (dE K (D8 Cn)):=by
 refine F.eN aQ (λds M q x h=> ?_) (λbu A outer s H E' hr=>⟨_,(ι (π 6 aQ.nd (aj ou hr ν (Ο (jv 0) (η (b8 hr (jv 5) dZ) (η (b8 hr (jv 5) dZ) (Ο (jv 3) (Ο (jv 4) ζ)) ax) ax))))
   (ι (aI (JW.jt (kJ (ie (da (jO K E.aS (Ο (jv 6) (Ο (xo E.kz my) ζ))))) (kJ (nB hr (c7 E.cE (Ο (jv 6) ζ)) ξ) (kJ (ie (da (jO K E.aS (η (Α (jv 6) ξ) (Ο (xo E.iu oi) ζ) ax)))) (nq (nB hr (c7 E.cE (η (Α (jv 6) ξ) ζ ax)) (c7 E.cE (Ο (jv 1) ζ)))))))) (μ (ψ Hv)) Ξ)
   (ι (π 7 aQ.nd (aV (η ξ (η ξ ζ aL) aL)))
   (ι (kI (i:=8) aQ.nd rfl (Or.inl rfl) (ys:=[]) (Ψ:=[]) (.of aQ rfl rfl rfl) (bL (jv 1)) (λC s H fp=>(aV (η ξ (η ξ ζ aL) aL))))
   (ι (cC (bL (aj jF hr ν (Ο (jv 1) (Ο (jv 2) (Ο (jv 3) (Ο (jv 4) ζ)))))) (h7 rfl (aM (Ι (i:=9) aQ.nd rfl (Or.inl rfl)) (aM (Ι (i:=10) aQ.nd rfl (Or.inl rfl)) (aM (Ι (i:=11) aQ.nd rfl (Or.inl rfl)) fN)))) uJ (ι (FD (aj oI hr ν (Ο (jv 0) (Ο (jv 3) (Ο (jv 9) ζ)))) (h7 rfl (aM (Ι (i:=12) aQ.nd rfl (Or.inl rfl)) (aM (Ι (i:=13) aQ.nd rfl (Or.inl rfl)) (aM (Ι (i:=14) aQ.nd rfl (Or.inl rfl)) fN)))))
   (ι (aI (nB hr (jv 13) (jv 10)) (μ (ψ Hv)) Ξ)
   (ι (π 7 aQ.nd (aj iK hr ν (Ο (jv 7) (Ο (jv 11) (Ο (jv 14) ζ)))))
   (μ (oQ (jv 8) (jv 10) (aj iK hr ν (η (Α (jv 8) (jv 10)) (Ο (jv 11) (η (aV (η ξ (η ξ ζ aL) aL)) ζ fT)) ax))))))))
   (ι (gj (bq E.bh (η (c7 E.cE (Ο (jv 1) ζ)) ζ aP)) (Ι (i:=15) aQ.nd rfl (Or.inl rfl)) aJ (μ (aI (ie (da (aj c9 hr ν (η (Α (Α (jv 6) ξ) (jv 15)) (η (Α (jv 8) (jv 15)) ζ ax) ax)))) (μ (ψ Hv)) Ξ)))
   (ι (c_ (FY (Α (jv 6) ξ)))
   (μ (ψ (aj c9 hr ν (η (Α (jv 6) ξ) (Ο (jv 7) ζ) ax))))))))))),λds M q x h=> ?_⟩)
 ·obtain ⟨δ,γ,kp,kh,p1,p2,h1,h2,pl,t,E,B,rfl,_⟩:=h;rfl
 ·obtain ⟨δ,γ,kp,kh,p1,p2,h1,h2,pl,t,Ep,B,rfl,tw,th,CV,t3,fl,sb,Hk,rf,gd,fo,h⟩:=h;have GX:=fl.pl.len;have dk:=HP gd;obtain ⟨k1,k2,ka,kb,kc⟩:=th;generalize uA:dW γ h1 h2 γ.length=υ at *
  walk_at "vc";refine ⟨kh,_,_,Sum.inr "one",_,rfl,ka,rfl,rfl,kh,_,_,Sum.inr "other",_,rfl,ka,rfl,rfl, ?_⟩;refine ⟨δ,γ,k1,k2,h1,h2,pl,t,Ep,B,rfl,kb,kc,CV,t3,fl,sb,gd,λE1 kq cs Ft C Ec Cc ht f0 f1 c0 c1 ct V7 Wh LQ Lo U5 O_=> ?_⟩;rw [uA] at ht ct⊢;clear ht f0 f1 c0 c1 V7 Wh LQ Lo;obtain ⟨mf,mr⟩:=yQ fl dk rf t;have mv:val ((dU δ γ υ t).getD pl (0,1))=Js (val δ) γ υ t (EO γ) pl:=congrFun mf pl;have Rb:=mr pl CV;clear mf mr;generalize (dU δ γ υ t).getD pl (0,1)=mt at *
  have cl:(cs.map Δ).length=γ.length:=by rw [aac,ct.len]
  refine ⟨_,_,_,_,true,rfl,rfl,rfl,om,λz=>(nomatch z),λ_=> ?_⟩;refine (az (d:= .tup [Δ mt, .loc kq]) (xs:=[Δ mt, .loc kq]) rfl ?_:gC [.tup [Δ mt, .loc kq]] _ _);refine ⟨λz=>(nomatch z),λ_=> ?_⟩;refine (ω (d:= .tup [Δ mt, .loc kq]) rfl (Θ (j:=1) rfl) ?_:cB (.tup [Δ mt, .loc kq]) (.int 1) _ _);refine ⟨_,_,_,_,true,rfl,EH O_,rfl,om,λz=>(nomatch z),λ_=> ?_⟩;refine (ω (d:= .tup [Δ mt, .loc kq]) rfl (Θ (j:=1) rfl) ?_:cB (.tup [Δ mt, .loc kq]) (.int 1) _ _);refine (az (d:= .loc kq) (lL O_) ?_:gC [.loc kq] _ _);refine (az (d:= .lst (γ.map Χ)) (xs:=γ.map Χ) rfl ?_:gC [.lst (γ.map Χ)] _ _);rw [cl,aac];refine ⟨λz=> ?_,λ_=> ?_⟩
  ·have z:(!decide ((γ.length:Int)=(γ.length:Int)))=true:=z;rw [aav rfl] at z;exact nomatch z
  refine ⟨by decide, ?_⟩;dsimp only [sV];show eG _ _ _ _ _;refine cx (i:=1) (d:= .lst (γ.map Χ)) rfl rfl ⟨by rw [aac];exact aaI GX (by decide), ?_⟩;refine cQ (f:=λ_=>Δ (0,1)) trivial (λx hx q' hq=>⟨by decide,hq⟩) ?_;rw [aa3,show (γ.map Χ).map (λ_=>Δ (0,1))=(γ.map λ_=>((0,1):Fr)).map Δ by rw [aaO,aaO];rfl];dsimp only [qG,eG];walk_at "vc";have PC:∀X:Ms,vO (M++E1++X) kp p1 p2:=λX=>(tw.app (E:=E1)).app;refine ⟨δ,γ,kp,p1,p2,υ,pl,t,Ep,B,rfl,PC _,CV,t3,fl,dk,fo,λL E2 kf NJ L9 Hn=> ?_⟩;dsimp only;rw [show nH _ (.loc kf)=some (L.map i9,λM':Ms=>M'[kf]? =some (.lst (L.map i9))) from tH Hn];dsimp only;generalize WM:M++E1=MA at *
  obtain ⟨e,rfl⟩:∃e,kf=MA.length+1+e:=⟨kf - (MA.length+1),by rw [List.length_append] at L9;simp at L9;omega⟩;rw [ue] at Hn;refine bK (λxs ρ M'=>∃(bR Η:List kY) (mn:Fr) (th:List Fr) (Ex:Ms) (o9 wF xR tM mT qX:Option Dt),xs=Η.map i9/\L=bR++Η/\Sm δ γ Ep B pl t bR mn th/\M'=MA++[.lst (th.map Δ)]++Ex/\Ex[e]? =some (.lst (L.map i9))/\ρ=[some (Κ Cn δ γ),some (.lst (γ.map Χ)),some (.loc kp),some (.int (pl:Int)),some (.int (t:Int)),some (.loc kh),some (.tup [Δ mt, .loc kq]),some (Δ mn),some (.loc MA.length),o9,wF,xR,tM,mT,qX,none]) (λxs ρ M' hj=> ?_) (λx xs ρ M' hj gO=> ?_) (λρ M' hj=> ?_) _ _ _ ⟨[],L,(0,1),γ.map λ_=>(0,1),E2,none,none,none,none,none,none,rfl,rfl,Qs,rfl,Hn,rfl⟩
  ·obtain ⟨bR,Η,mn,th,Ex,o9,wF,xR,tM,mT,qX,_,_,_,rfl,hex,_⟩:=hj;rw [ue];exact hex
  ·obtain ⟨bR,Η,mn,th,Ex,o9,wF,xR,tM,mT,qX,ex,eL,sm,rfl,hex,rfl⟩:=hj;cases Η with
   | nil=>cases ex
   | cons y Η=>
    cases ex;have yo:=NJ.each y (by rw [eL];simp);have dl:bR.length < 216:=by have a:=NJ.len;have b:(6:Nat) ^ t<=6 ^ 3:=aa6 (by decide) t3;rw [eL,aaf,aaw] at a;omega
    obtain ⟨Rf,Rh⟩:=vM yo t3;have Hu:Sz 200 y.2.2:=⟨aaq Rf (by decide),yo.pos,aaq Rh (by decide)⟩;obtain ⟨ta,tb,tc⟩:=sm.ts y.2.1 yo.lt;have al:y.2.1 < th.length:=by rw [sm.len];exact yo.lt
    have eg:th.getD y.2.1 (0,1)=th[y.2.1]:=by rw [aab,aaa al];rfl
    dsimp only [g3,i9];walk_at "vc";dsimp only [HR];walk_at "vc";refine ⟨δ,γ,pl, .lst (y.1.map Dt.int),y.1,λ_=>True,rfl,rfl,λ_=>trivial,fl.pl,CV,aaI yo.len (by omega),λR rR vR=> ?_⟩;obtain ⟨Vm,VA⟩:=sm.step (r1:=(0,1)) (r2:=(0,1)) fl rf Hk t3 dl yo rR vR;clear VA;rw [yo.last];refine ⟨λz=> ?_,λ_=> ?_⟩
    ·have z:(!decide ((y.2.1:Int)=(y.2.1:Int)))=true:=z;rw [aav rfl] at z;exact nomatch z
    refine ⟨mn,y.2.2,R,rfl,sm.nm.sz,Hu,Vm,λr1 q1 v1=> ?_⟩;dsimp only [tI];walk_at "vc";have ea:MA++[.lst (th.map Δ)]++Ex++[.lst ((fR γ pl y.1).map dI)]=MA++[.lst (th.map Δ)]++(Ex++[.lst ((fR γ pl y.1).map dI)]):=abn _ _ _;rw [ea];refine (ω (d:= .loc MA.length) (lL r_) (kK al) ?_:cB (.loc MA.length) (.int (y.2.1:Int)) _ _);refine ⟨by decide,th[y.2.1],y.2.2,(1,1),rfl,by rw [<-eg];exact tc.sz,Hu,eT (k:=2) ⟨by decide,by decide,by decide⟩ (by decide),λr2 q2 v2=> ?_⟩;refine ⟨_,_,_,y.2.1,rfl,rfl,r_,by rw [aac];exact xk al, ?_⟩;rw [Gy];refine gO _ _ ⟨bR++[y],Η,r1,th.set y.2.1 r2,Ex++[.lst ((fR γ pl y.1).map dI)],_,_,_,_,_,_,rfl,by rw [eL];simp,(sm.step fl rf Hk t3 dl yo rR vR).2 q1 v1 q2 (by rw [eg];exact v2),by rw [List.map_set],ay hex,rfl⟩
  ·obtain ⟨bR,Η,mn,th,Ex,o9,wF,xR,tM,mT,qX,ex,eL,sm,rfl,hex,rfl⟩:=hj;cases Η with
   | cons y Η=>cases ex
   | nil=>
    rw [aaG] at eL;subst eL;have tl:=sm.len;have Wi:∀k,k < γ.length->cs.getD k (0,1)=th.getD k (0,1):=λk hk=>by
     obtain ⟨ta,tb,_⟩:=sm.ts k hk;have kl:k < cs.length:=by rw [ct.len];exact hk
     have cm:cs.getD k (0,1)∈cs:=by rw [aab,aaa kl];exact aaz kl
     refine kX (ct.nb _ cm).2.2 ta ?_;rw [tb,NJ.ch,<-ct.sum];unfold oy;rw [d7 (g:=λj=>(if j=k then 1 else 0) * val (cs.getD j (0,1))) λj _=>by grind,kr (λj=>val (cs.getD j (0,1))) hk]
    have XZ:mt=mn:=by refine kX Rb sm.rd ?_;rw [mv,sm.vm,NJ.mn _ λi e he=> ?_];show val ((bM γ).getD i (0,1))=_;rw [xx];unfold hX;rw [he]
    have K8:(MA++[MO.lst (th.map Δ)]++Ex)[kq]? =some (.lst (cs.map Δ)):=ay (ay O_);walk_at "vc";refine (az (d:= .lst (γ.map Χ)) (xs:=γ.map Χ) rfl ?_:gC [.lst (γ.map Χ)] _ _);rw [aac];refine ⟨by omega, ?_⟩;rw [show ((γ.length:Int)).toNat=γ.length by omega];refine cK (λzs ρ' M'=>∃(k n:Nat) (tZ:Option Dt),zs=dY (k:Int) n/\k+n=γ.length/\M'=MA++[.lst (th.map Δ)]++Ex/\ρ'=[some (Κ Cn δ γ),some (.lst (γ.map Χ)),some (.loc kp),some (.int (pl:Int)),some (.int (t:Int)),some (.loc kh),some (.tup [Δ mt, .loc kq]),some (Δ mn),some (.loc MA.length),o9,wF,xR,tM,mT,qX,tZ]) (λx zs ρ' M' hj Ib=> ?_) (λρ' M' hj=> ?_) _ _ _ ⟨0,γ.length,none,rfl,by omega,rfl,rfl⟩
    ·obtain ⟨k,n,tZ,ex,kn,rfl,rfl⟩:=hj;obtain ⟨n',rfl,rfl,rfl⟩:=cy ex;have hk:k < γ.length:=by omega
     have kc:k < cs.length:=by rw [ct.len];exact hk
     have kt:k < th.length:=by rw [tl];exact hk
     have eq:cs[k]=th[k]:=by have:=Wi k hk;rwa [aab,aab,aaa kc,aaa kt] at this
     walk_at "vc";refine (ω (d:= .tup [Δ mt, .loc kq]) rfl (Θ (j:=1) rfl) ?_:cB (.tup [Δ mt, .loc kq]) (.int 1) _ _);refine (ω (d:= .loc kq) (lL K8) (kK kc) ?_:cB (.loc kq) (.int (k:Int)) _ _);refine (ω (d:= .loc MA.length) (lL r_) (kK kt) ?_:cB (.loc MA.length) (.int (k:Int)) _ _);rw [eq];refine ⟨_,rfl,λz=>(nomatch z),λ_=> ?_⟩;exact Ib _ _ ⟨k+1,n',_,by rw [abc];rfl,by omega,rfl,rfl⟩
    ·obtain ⟨k,n,tZ,ex,kn,rfl,rfl⟩:=hj;walk_at "vc";dsimp only [Bm];walk_at "vc";refine (ω (d:= .tup [Δ mt, .loc kq]) rfl (Θ (j:=1) rfl) ?_:cB (.tup [Δ mt, .loc kq]) (.int 1) _ _);refine ⟨kq,_,rfl,K8, ?_⟩;refine (ω (d:= .tup [Δ mt, .loc kq]) rfl (Θ (j:=0) rfl) ?_:cB (.tup [Δ mt, .loc kq]) (.int 0) _ _);rw [XZ];refine ⟨mn,rfl, ?_⟩;rw [<-WM,abn,abn,CD U5];exact h _
theorem kR{M:Ms}:∀rs:List Rw,Paired (iI M) (rs.map Χ) rs
 | []=> .nil
 | r::rs=> .cons (Fp _ r) (kR rs)
theorem kB{q:DQ}{A:Addr}{δ:Fr}{γ:List Rw}(h:q (Κ A δ γ) M):oF M q (.loc M.length) ((M++[MO.ins A [] []]).set M.length (.ins A ["kept_share","kept_rows"] [Δ δ, .lst (γ.map Χ)])):=by rw [eu];exact xH (d':=Κ A δ γ) (.P6 (Nat.le_refl _) (by simp) (.cons (.old (oH δ)) (.cons (.old (gA γ)) .nil))) h
theorem Gg{ti:DK}{g:Dt->En->(En->Prop)->Prop}{tb u:DS}{Dn:ia}(h:ti ρ M (λxs ok M1=>kC g tb {Dn with nx:=u Dn} ok xs ρ M1) Dn.x):JU (qG ti g tb) u Dn ρ M:=h
theorem EZ{t:DA}{q:List Dt->(Ms->Prop)->Ms->Prop}{x:DX}(h:t ρ M (λds M1=>ds.length<=sizeLine/\q ds (λ_=>True) M1) x):eG (Jl t) ρ M q x:=h
def Ext(p h:Pl):Prop:=∀i v,af p i=some v->af h i=some v
theorem Li(h0:0 < a)(h1:a < 2 ^ m):a ^ 3 < 2 ^ (m+m+m):=by obtain ⟨b0,b1⟩:=aN h0 h1 h0 h1;obtain ⟨_,c1⟩:=aN b0 b1 h0 h1;rw [aa0,aa0,aa0,Int.pow_zero,abO];exact c1
theorem Nu{δ:Fr}{γ:List Rw}(fl:Fl δ γ E B):(δ.2 * B) ^ 3 < 2 ^ 850/\B ^ 3 < 2 ^ 800:=by obtain ⟨s0,s1,_⟩:=eD fl.pl.sh;obtain ⟨a,b⟩:=aN s0 (show δ.2 < 2 ^ 10 by omega) fl.b0 fl.b1;exact ⟨aa1 (Li a b) (by decide),aa1 (Li fl.b0 fl.b1) (by decide)⟩
theorem Dq{p1 p2 h1 h2:Pl}(e1:Ext p1 h1)(e2:Ext p2 h2){k:Str}{p:Pl}(hp:Ω p1 p2 k=some p):∃h,Ω h1 h2 k=some h/\Ext p h:=by
 unfold Ω at hp⊢;by_cases a:k="one"
 ·rw [aaE a] at hp⊢;cases hp;exact ⟨h1,rfl,e1⟩
 ·rw [aaA a] at hp⊢;by_cases b:k="other"
  ·rw [aaE b] at hp⊢;cases hp;exact ⟨h2,rfl,e2⟩
  ·rw [aaA b] at hp;cases hp
theorem CW{γ:List Rw}{p1 p2 h1 h2:Pl}(e1:Ext p1 h1)(e2:Ext p2 h2)(gd:∀i,i < γ.length->bV γ p1 p2 i=true):(∀i,i < γ.length->bV γ h1 h2 i=true)/\∀(i:Nat) (r:Rw),γ[i]? =some r->Ζ (kindOf r)=true->∃p,Ω p1 p2 (kindOf r)=some p/\af p i=af (dW γ h1 h2 γ.length) i:=by
 have key:∀(i:Nat) (r:Rw),γ[i]? =some r->Ζ (kindOf r)=true->∃p h v,Ω p1 p2 (kindOf r)=some p/\Ω h1 h2 (kindOf r)=some h/\af p i=some v/\af h i=some v/\bz p i (Ν r).length=bz h i (Ν r).length:=λi r hi hk=>by
  have il:=(aah.mp hi).1;have g:=gd i il;unfold bV at g;rw [hi] at g;have g:dG p1 p2 i r=true:=g;obtain ⟨p,hp⟩:∃p,Ω p1 p2 (kindOf r)=some p:=by
   unfold Ζ at hk;rw [ab7,abi,abi] at hk;unfold Ω;rcases hk with e | e
   ·exact ⟨p1,by rw [aaE e]⟩
   ·exact ⟨p2,by rw [aaA (by rw [e];decide),aaE e]⟩
  obtain ⟨h,hh,eh⟩:=Dq e1 e2 hp;unfold dG at g;rw [hp] at g;have g:bz p i (Ν r).length=true:=g;cases hv:af p i with
  | none=>unfold bz at g;rw [hv] at g;cases g
  | some v=>
   have NS:=eh _ _ hv;exact ⟨p,h,v,hp,hh,hv,NS,by unfold bz;rw [hv,NS]⟩
 refine ⟨λi il=> ?_,λi r hi hk=> ?_⟩
 ·have hi:=aaa il;have g:=gd i il;generalize γ[i]=r at hi;unfold bV at g⊢;rw [hi] at g⊢;have g:dG p1 p2 i r=true:=g;show dG h1 h2 i r=true;cases hk:Ζ (kindOf r) with
  | false=>
   unfold dG at g⊢;rw [iW hk]
  | true=>
   obtain ⟨p,h,v,a,b,_,_,e⟩:=key i r hi hk;unfold dG at g⊢;rw [a] at g;rw [b];have g:bz p i (Ν r).length=true:=g;show bz h i (Ν r).length=true;rw [<-e];exact g
 ·obtain ⟨p,h,v,a,b,c,d,_⟩:=key i r hi hk;have il:=(aah.mp hi).1;refine ⟨p,a, ?_⟩;rw [mQ,aaE il,hi];show af p i=(Ω h1 h2 (kindOf r)).map _;rw [b,c];show some v=some ((af h i).getD 0);rw [d];rfl
theorem yg{p:Pl}{i v:Int}:(eU p i v).length<=p.length+1:=by
 unfold eU;split
 ·rw [aac];omega
 ·rw [aaf];exact aam _
theorem fF:χ ["_law_script","_law_rows_here","_law_some","_law_floor","_law_plans_here","_law_handed","_law_number_here","_law_place","_law_kind","_law_kept","_law_other","_law_turns","_law_told_of","_law_many"] ["_law_script"] (ο Km):= .of rfl
theorem IZ   (F:dN K "law" "law" Km f fd) (E:Ev K mg Cn) {Cj:Addr} {Cm:FuncData} (lu:aE P w K mg base 5 "_law_rows" ["_law_script","_law_most","_law_wide"] BG Cj Cm) {zQ:Addr} {zu:FuncData} (ju:aE P w K mg base 2 "_law_share" ["_law_number_here"] zl zQ zu)   (Υ:aE P w K mg base 2 "_law_number" ["_law_script","_law_k"] vw b6 bY) {wV:Addr} {wJ:FuncData} (fK:Jy P w K mg base 5 "Floor" Cn ["self","share","rows"] (GS Cn) wV wJ) {Ab:Addr} {Al:FuncData} (jN:aE P w K mg base 3 "_law_plans" ["_law_script","_law_rows_here","_law_at"] BD Ab Al) {zV:Addr} {z_:FuncData} (jC:aE P w K mg base 9 "_law_holds" ["_law_floor","_law_rows_here","_law_plans_here","_law_place","_law_turns","_law_handed"] (D8 Cn) zV z_):ar P w K mg base (cR P w) 10 f fd ["_law_script"] (dE K Ih):=by
 refine F.eN fF (λds M q x h=> ?_) (λbu A outer s H E' hr=>⟨_,(ι (π 1 fF.nd (eQ (aj lu hr ν (Ο (jv 0) (η ξ (η ξ ζ aL) aL)))))
   (ι (π 2 fF.nd (aj ju hr ν (η (aj Υ hr ν (Ο (jv 0) (η ξ ζ aL))) ζ aP)))
   (ι (π 3 fF.nd (eQ (DR fK hr ν (Ο (jv 2) (η (eQ (tF E.iu (Ο (jv 1) ζ))) ζ aP)))))
   (ι (π 4 fF.nd (aj jN hr ν (Ο (jv 0) (Ο (jv 1) (η ξ ζ aL)))))
   (ι (π 5 fF.nd (sx (rW E.jQ (η (b8 hr (jv 4) dZ) ζ ax)) (rW E.jQ (η (b8 hr (jv 4) dZ) ζ ax))))
   (ι (π 6 fF.nd (aj Υ hr ν (Ο (jv 0) (η ξ ζ aL))))
   (ι (lQ (aI (cW hr (bo (jv 6) ξ) ξ) (μ (gj (bq E.bh (η (c7 E.cE (Ο (jv 1) ζ)) ζ aP)) (Ι (i:=7) fF.nd rfl (Or.inl rfl)) aJ (μ (cC (bL (iN 3 (d:= .lst [.str "one", .str "other"]) (by rfl))) (Ι (i:=8) fF.nd rfl (Or.inl rfl)) aJ (μ (c_ (Gi (b8 hr (jv 5) (jv 8)) (jv 7) (Α (kO (η ξ (η (CG ξ) ζ HH) aL)) (bo (cF (jv 6) ξ) ξ))))))))) Ξ))
   (ι (π 9 fF.nd (aV (η (rW E.jQ (η (b8 hr (jv 5) dZ) ζ ax)) (η (rW E.jQ (η (b8 hr (jv 5) dZ) ζ ax)) ζ aP) aP)))
   (ι (π 7 fF.nd (bo (cF (jv 6) ξ) (c7 E.cE (Ο (jv 1) ζ))))
   (ι (lQ (π 10 fF.nd (eQ (DR fK hr ν (η (u6 (nB hr (jv 2) (aV (η ξ (η ξ ζ aL) aL))) (aV (η ξ (η ξ ζ aL) aL)) (aV (η ξ (η ξ ζ aL) aL))) (η (eQ (tF E.iu (Ο (jv 1) ζ))) ζ aP))))))
   (ι (π 11 fF.nd (bo (cF (jv 6) ξ) ξ))
   (ι (cC (bL (kO (η (aV (Ο (jv 3) (Ο (jv 11) ζ))) (η (aV (Ο (jv 3) (η (bo (cF (jv 6) ξ) ξ) ζ aX))) (η (aV (Ο (jv 10) (Ο (jv 11) ζ))) (η (aV (Ο (jv 3) (Ο (jv 11) ζ))) ζ fT) fT) fT) fT))) (h7 rfl (aM (Ι (i:=12) fF.nd rfl (Or.inl rfl)) (aM (Ι (i:=13) fF.nd rfl (Or.inl rfl)) fN))) tO (μ (aI (ie (da (aj jC hr ν (Ο (jv 12) (Ο (jv 1) (Ο (jv 4) (Ο (jv 7) (Ο (jv 13) (Ο (jv 5) ζ))))))))) (μ (ψ Hv)) Ξ)))
   (μ (ψ (ee (HE 1 hr (b8 hr (jv 5) dZ) (Α (jv 9) ξ)) (fZ (HE 1 hr (b8 hr (jv 5) dZ) (Α (jv 9) ξ)))))))))))))))))),λds M q x h=> ?_⟩)
 ·obtain ⟨ns,rfl,_⟩:=h;rfl
 ·obtain ⟨ns,rfl,hl,hq⟩:=h;have ID:2<=sizeLine:=by decide
  have VO:4<=sizeLine:=by decide
  refine ⟨ns,rfl,λγ r1 r6 hg=>fg (gA γ) ?_⟩;have Od:∀r∈γ,eP r/\eV r γ.length=true:=λr hr=>(hg r hr).1;refine ⟨ns,1,rfl,by decide,by decide,λn1 Ym=>⟨n1,rfl,λδ hs=> ?_⟩⟩;have f:zA δ γ:=⟨hs,by omega,Od⟩;have rf:∀p,Rw.fin p∈γ->Red p:=λp hp=>(hg _ hp).2.2 p rfl;walk_at "vc";refine tP (gA γ) ?_;refine ⟨M.length, .lst (γ.map Χ),δ,γ.map Χ,γ,λ_=>True,rfl,aO,rfl,kR γ,hs,r1,by omega,Od,rfl,kB ?_⟩;refine ⟨ns,γ,rfl,by omega,λk ds hm=>(aq f hm).l1,λp1 p2 SV NK N9 NW gd=> ?_⟩;obtain ⟨kp,SI⟩:∃kp,kp=M.length+2:=⟨_,rfl⟩;have tw:vO (gY M p1 p2) kp p1 p2:=by rw [SI];exact yc M p1 p2
  rw [<-SI];generalize gY M p1 p2=M0 at *
  obtain ⟨k1,k2,ka,kb,kc⟩:=id tw;refine ⟨kp,_,_,Sum.inr "one",_,rfl,ka,rfl,rfl,k1,_,_,rfl,kb,kp,_,_,Sum.inr "other",_,rfl,ay ka,rfl,rfl,k2,_,_,rfl,ay kc, ?_⟩;have e3:M0++[dP p1]++[dP p2]++[MO.eK [Sum.inr "one",Sum.inr "other"] [.loc M0.length, .loc (M0++[dP p1]).length]]=gY M0 p1 p2:=by unfold gY;simp
  have e4:(M0++[dP p1]++[dP p2]).length=M0.length+2:=by simp
  dsimp only;rw [e4,show M0++[MO.eK (kP p1) (vP p1)]++[MO.eK (kP p2) (vP p2)]++[MO.eK [Sum.inr "one",Sum.inr "other"] [.loc M0.length, .loc (M0++[MO.eK (kP p1) (vP p1)]).length]]=gY M0 p1 p2 from e3];refine ⟨ns,33,rfl,by decide,by decide,λn hn=> ?_⟩;refine ⟨λρ M2=>∃(h1 h2:Pl) (o7 o8:Option Dt),Ext p1 h1/\Ext p2 h2/\m7 h1/\m7 h2/\M2=gY M0 h1 h2/\ρ=[some (.fc ns),some (.lst (γ.map Χ)),some (Δ δ),some (Κ Cn δ γ),some (.loc kp),some (.loc (M0.length+2)),some (.int n),o7,o8,none,none,none,none,none], ?_, ?_⟩
  ·have base:∃(h1 h2:Pl) (o7 o8:Option Dt),Ext p1 h1/\Ext p2 h2/\m7 h1/\m7 h2/\gY M0 p1 p2=gY M0 h1 h2/\[some (Dt.fc ns),some (.lst (γ.map Χ)),some (Δ δ),some (Κ Cn δ γ),some (.loc kp),some (.loc (M0.length+2)),some (.int n),none,none,none,none,none,none,none]=[some (Dt.fc ns),some (.lst (γ.map Χ)),some (Δ δ),some (Κ Cn δ γ),some (.loc kp),some (.loc (M0.length+2)),some (.int n),o7,o8,none,none,none,none,none]:=⟨p1,p2,none,none,λ_ _ h=>h,λ_ _ h=>h,SV,NK,rfl,rfl⟩;refine ⟨by decide,λ_=> ?_,λ_=>base⟩;walk_at "vc";refine (az (d:= .lst (γ.map Χ)) (xs:=γ.map Χ) rfl ?_:gC [.lst (γ.map Χ)] _ _);rw [aac];refine ⟨by omega, ?_⟩;rw [show ((γ.length:Int)).toNat=γ.length by omega];refine cK (λzs ρ' M'=>∃(i m:Nat) (h1 h2:Pl) (o7 o8:Option Dt),zs=dY (i:Int) m/\i+m=γ.length/\Ext p1 h1/\Ext p2 h2/\m7 h1/\m7 h2/\h1.length+h2.length<=24+2 * i/\M'=gY M0 h1 h2/\ρ'=[some (.fc ns),some (.lst (γ.map Χ)),some (Δ δ),some (Κ Cn δ γ),some (.loc kp),some (.loc (M0.length+2)),some (.int n),o7,o8,none,none,none,none,none]) (λx zs ρ' M' hj gO=> ?_) (λρ' M' hj=> ?_) _ _ _ ⟨0,γ.length,p1,p2,none,none,rfl,by omega,λ_ _ h=>h,λ_ _ h=>h,SV,NK,by omega,rfl,rfl⟩
   ·obtain ⟨i,m,h1,h2,o7,o8,ex,im,x1,x2,n1,n2,l1,rfl,rfl⟩:=hj;obtain ⟨m',rfl,rfl,rfl⟩:=cy ex;walk_at "vc";refine bK (λxs ρ' M'=>∃(zs:List Str) (h1 h2:Pl) (o8:Option Dt),xs=zs.map Dt.str/\(∀z∈zs,Ζ z=true)/\Ext p1 h1/\Ext p2 h2/\m7 h1/\m7 h2/\h1.length+h2.length+zs.length<=24+2 * i+2/\M'=gY M0 h1 h2/\ρ'=[some (.fc ns),some (.lst (γ.map Χ)),some (Δ δ),some (Κ Cn δ γ),some (.loc kp),some (.loc (M0.length+2)),some (.int n),some (.int (i:Int)),o8,none,none,none,none,none]) (λ_ _ _ _=>trivial) (λx xs ρ' M' hj rA=> ?_) (λρ' M' hj=> ?_) _ _ _ ⟨["one","other"],h1,h2,o8,rfl,by decide,x1,x2,n1,n2,by show _+2<=_;omega,rfl,rfl⟩
    ·obtain ⟨zs,h1,h2,o8,ex,hz,x1,x2,n1,n2,l1,rfl,rfl⟩:=hj;cases zs with
     | nil=>cases ex
     | cons z zs=>
      cases ex;have zh:=hz z aae;rw [aaw] at l1;obtain ⟨k',p,g1,g2,g3,g4⟩:=A_ M0 h1 h2 [] zh;rw [aaG] at g2;have g4:∀f:Pl->Pl,(gY M0 h1 h2).set k' (dP (f p))=gY M0 (zm z f h1) (AG z f h2):=λf=>by have:=g4 f;rwa [aaG,aaG] at this
      have R7:=HN M0 h1 h2 [];rw [aaG] at R7;dsimp only [B4,yz];walk_at "vc";refine ⟨M0.length+2,_,_,Sum.inr z,_,rfl,R7,rfl,g1, ?_⟩;refine ⟨⟨k',_,_,rfl,g2⟩, ?_⟩;obtain ⟨v,hv⟩:∃v:Int,jh [Dt.int 99,Dt.int (-1)] (n / 2 % 2)=some (.int v):=by
       have:n / 2 % 2=0\/n / 2 % 2=1:=by omega
       rcases this with e | e
       ·rw [e];exact ⟨99,dM⟩
       ·rw [e];exact ⟨-1,Θ (j:=1) rfl⟩
      dsimp only [Co];refine ⟨by decide,⟨by decide,bg (k:=4) (by decide)⟩,by decide, ?_⟩;refine (ω (d:= .lst [Dt.int 99,Dt.int (-1)]) rfl hv ?_:cB (.lst [Dt.int 99,Dt.int (-1)]) (.int (n / 2 % 2)) _ _);have X7:p.length<=h1.length+h2.length:=by
       unfold Ω at g3;by_cases a:z="one"
       ·rw [aaE a] at g3;cases g3;omega
       ·rw [aaA a] at g3;by_cases b:z="other"
        ·rw [aaE b] at g3;cases g3;omega
        ·rw [aaA b] at g3;cases g3
      refine ⟨k',kP p,vP p,Sum.inl (i:Int),rfl,g2,rfl,by unfold kP;rw [List.length_map];omega,λu hu=> ?_,λOx=> ?_⟩
      ·exact rA _ _ ⟨zs,h1,h2,_,rfl,λy hy=>hz y (aad _ hy),x1,x2,n1,n2,by omega,rfl,rfl⟩
      ·have gn:af p i=none:=by
        rw [kF] at Ox;cases h:af p i with
        | none=>rfl
        | some u=>rw [h] at Ox;cases Ox
       rw [Cs (v:=v),Cw];have:=g4 (λp=>eU p (i:Int) v);rw [show (gY M0 h1 h2).set k' (MO.eK (kP (eU p i v)) (vP (eU p i v)))=_ from this];clear this;have up:∀{a b:Pl},Ext a b->af b i=none->Ext a (eU b i v):=λ{a b} h hb j u hu=>by rw [mZ,aaA (λe=>by rw [e] at hu;rw [h _ _ hu] at hb;cases hb)];exact h _ _ hu
       unfold Ω at g3;by_cases a:z="one"
       ·rw [aaE a] at g3;cases g3;unfold zm AG;rw [aaE a,aaE a];exact rA _ _ ⟨zs,_,h2,_,rfl,λy hy=>hz y (aad _ hy),up x1 gn,x2,wB n1,n2,by have:=yg (p:=h1) (i:=(i:Int)) (v:=v);omega,rfl,rfl⟩
       ·rw [aaA a] at g3;by_cases b:z="other"
        ·rw [aaE b] at g3;cases g3;unfold zm AG;rw [aaA a,aaA a];exact rA _ _ ⟨zs,h1,_,_,rfl,λy hy=>hz y (aad _ hy),x1,up x2 gn,n1,wB n2,by have:=yg (p:=h2) (i:=(i:Int)) (v:=v);omega,rfl,rfl⟩
        ·rw [aaA b] at g3;cases g3
    ·obtain ⟨zs,h1,h2,o8,ex,hz,x1,x2,n1,n2,l1,rfl,rfl⟩:=hj;exact gO _ _ ⟨i+1,m',h1,h2,_,_,by rw [abc];rfl,by omega,x1,x2,n1,n2,by omega,rfl,rfl⟩
   ·obtain ⟨i,m,h1,h2,o7,o8,ex,im,x1,x2,n1,n2,l1,rfl,rfl⟩:=hj;exact ⟨h1,h2,o7,o8,x1,x2,n1,n2,rfl,rfl⟩
  rintro ρ2 M2 ⟨h1,h2,o7,o8,x1,x2,n1,n2,rfl,rfl⟩;obtain ⟨UP,fo⟩:=CW x1 x2 gd;have t0:vO (gY M0 h1 h2) (M0.length+2) h1 h2:=yc M0 h1 h2;have XO:vO (gY M0 h1 h2) kp p1 p2:=tw.app;generalize M0.length+2=kh at *
  generalize gY M0 h1 h2=M3 at *
  obtain ⟨q1,q2,qa,qb,qc⟩:=id t0;walk_at "vc";refine ⟨kh,_,_,Sum.inr "one",_,rfl,qa,rfl,rfl,q1,_,_,rfl,qb,kh,_,_,Sum.inr "other",_,rfl,ay qa,rfl,rfl,q2,_,_,rfl,ay qc,by decide, ?_⟩;refine ⟨⟨by decide,bg (k:=4) (by decide)⟩, ?_⟩;refine (az (d:= .lst (γ.map Χ)) (xs:=γ.map Χ) rfl ?_:gC [.lst (γ.map Χ)] _ _);rw [aac];refine ⟨by omega, ?_⟩;obtain ⟨pl,Xw,CV⟩:∃i:Nat,n / 4 % (γ.length:Int)=(i:Int)/\i < γ.length:=by have a:=aaU (n / 4) (show (γ.length:Int)≠0 by omega);have b:=aaN (n / 4) (show (0:Int) < γ.length by omega);exact ⟨(n / 4 % (γ.length:Int)).toNat,by omega,by omega⟩
  rw [Xw];have e5:M3++[MO.eK (kP h1) (vP h1)]++[MO.eK (kP h2) (vP h2)]=M3++[dP h1]++[dP h2]:=rfl;rw [e5];have S':(M3++[dP h1]++[dP h2])[M3.length]? =some (dP h1):=r_;have Wx:(M3++[dP h1]++[dP h2])[(M3++[dP h1]).length]? =some (dP h2):=aO;have W4:(M3++[dP h1]++[dP h2])[q1]? =some (dP h1):=ay (ay qb);have W6:(M3++[dP h1]++[dP h2])[q2]? =some (dP h2):=ay (ay qc);have RU:=ay (E:=[dP h2]) (ay (E:=[dP h1]) qa);have Up:vO (M3++[dP h1]++[dP h2]) kh h1 h2:=t0.app.app;have QU:vO (M3++[dP h1]++[dP h2]) kp p1 p2:=XO.app.app;generalize M3.length=m1 at *
  generalize (M3++[dP h1]).length=m2 at *
  generalize M3++[dP h1]++[dP h2]=M4 at *
  refine ⟨λρ M2=>M2=M4/\∃s2:Fr,ai s2=true/\ρ=[some (.fc ns),some (.lst (γ.map Χ)),some (Δ δ),some (Κ Cn δ γ),some (.loc kp),some (.loc kh),some (.int n),some (.int (pl:Int)),o8,some (.tup [.loc m1, .loc m2]),some (Κ Cn s2 γ),none,none,none], ?_, ?_⟩
  ·have go:∀s2:Fr,ai s2=true->M4=M4/\∃RL:Fr,ai RL=true/\[some (Dt.fc ns),some (.lst (γ.map Χ)),some (Δ δ),some (Κ Cn δ γ),some (.loc kp),some (.loc kh),some (.int n),some (.int (pl:Int)),o8,some (.tup [.loc m1, .loc m2]),some (Κ Cn s2 γ),none,none,none]=[some (Dt.fc ns),some (.lst (γ.map Χ)),some (Δ δ),some (Κ Cn δ γ),some (.loc kp),some (.loc kh),some (.int n),some (.int (pl:Int)),o8,some (.tup [.loc m1, .loc m2]),some (Κ Cn RL γ),none,none,none]:=λs2 h=>⟨rfl,s2,h,rfl⟩;have mk:∀s2:Fr,ai s2=true->∀q':DQ,q' (Κ Cn s2 γ) M4->oF M4 q' (.loc M4.length) ((M4++[MO.ins Cn [] []]).set M4.length (.ins Cn ["kept_share","kept_rows"] [Δ s2, .lst (γ.map Χ)])):=λs2 _ q' h=>kB h;walk_at "vc";refine ⟨by decide,λ_=> ?_,λ_=> ?_⟩
   ·refine ⟨by decide,tP (gA γ) ?_⟩;exact ⟨M4.length, .lst (γ.map Χ),(1,2),γ.map Χ,γ,λ_=>True,rfl,aO,rfl,kR γ,by decide,r1,by omega,Od,rfl,kB (go (1,2) (by decide))⟩
   ·refine ⟨by decide,tP (gA γ) ?_⟩;exact ⟨M4.length, .lst (γ.map Χ),(1,3),γ.map Χ,γ,λ_=>True,rfl,aO,rfl,kR γ,by decide,r1,by omega,Od,rfl,kB (go (1,3) (by decide))⟩
  rintro ρ2 M2 ⟨rfl,s2,Ow,rfl⟩;refine ⟨⟨by decide,bg (k:=8) (by decide)⟩,by decide, ?_⟩;obtain ⟨t1,Gs,Ln⟩:∃i:Nat,n / 24 % 4=(i:Int)/\i<=3:=⟨(n / 24 % 4).toNat,by omega,by omega⟩;obtain ⟨t2,QL,O3⟩:∃i:Nat,n / 96 % 4=(i:Int)/\i<=3:=⟨(n / 96 % 4).toNat,by omega,by omega⟩;rw [Gs];dsimp only;refine Gg (EZ ?_);refine ⟨ID,⟨by decide,bg (k:=8) (by decide)⟩,by decide,ID,ID,ID,VO, ?_⟩;rw [QL];refine bK (λxs ρ M'=>∃(Η:List (Fr×Nat)) (E0:Ms) (tM mT:Option Dt),xs=Η.map (λz=> .tup [Κ Cn z.1 γ, .int (z.2:Int)])/\(∀z∈Η,ai z.1=true/\z.2<=3)/\M'=M2++E0/\ρ=[some (.fc ns),some (.lst (γ.map Χ)),some (Δ δ),some (Κ Cn δ γ),some (.loc kp),some (.loc kh),some (.int n),some (.int (pl:Int)),o8,some (.tup [.loc m1, .loc m2]),some (Κ Cn s2 γ),some (.int (t1:Int)),tM,mT]) (λ_ _ _ _=>trivial) (λx xs ρ M' hj gO=> ?_) (λρ M' hj=> ?_) _ _ _ ⟨[(δ,t1),(δ,t2),(s2,t1),(δ,t1)],[],none,none,rfl,λz hz=> ?_,by rw [aaG],rfl⟩
  ·obtain ⟨Η,E0,tM,mT,ex,hz,rfl,rfl⟩:=hj;cases Η with
   | nil=>cases ex
   | cons z Η=>
    cases ex;obtain ⟨z1,z2⟩:=hz z aae;obtain ⟨Ep,B,fl⟩:=L8 z1 r6 hg;obtain ⟨sa,sb⟩:=Nu fl;dsimp only [g2];walk_at "vc";refine ⟨z.1,γ,kp,kh,p1,p2,h1,h2,pl,z.2,Ep,B,rfl,QU.app,Up.app,CV,z2,fl,sa,sb,rf,UP,fo,λE1=> ?_⟩;refine ⟨λy=>(nomatch y),λ_=> ?_⟩;exact gO _ _ ⟨Η,E0++E1,_,_,rfl,λy hy=>hz y (aad _ hy),by rw [abn],rfl⟩
  ·obtain ⟨Η,E0,tM,mT,ex,hz,rfl,rfl⟩:=hj;walk_at "vc";refine ⟨kh,_,_,Sum.inr "one",_,rfl,ay RU,rfl,rfl, ?_⟩;refine (ω (d:= .tup [.loc m1, .loc m2]) rfl (Θ (j:=0) rfl) ?_:cB (.tup [.loc m1, .loc m2]) (.int 0) _ _);refine ⟨q1,m1,true,rfl,rfl,by have:=Hm (n:=0) (ay (E:=E0) W4) (ay S');rwa [ur n1] at this,λ_=> ?_,λy=>(nomatch y)⟩;refine ⟨kh,_,_,Sum.inr "other",_,rfl,ay RU,rfl,rfl, ?_⟩;refine (ω (d:= .tup [.loc m1, .loc m2]) rfl (Θ (j:=1) rfl) ?_:cB (.tup [.loc m1, .loc m2]) (.int 1) _ _);exact ⟨q2,m2,true,rfl,rfl,by have:=Hm (n:=0) (ay (E:=E0) W6) (ay Wx);rwa [ur n2] at this,hq _⟩
  ·simp only [List.mem_cons,List.not_mem_nil,or_false] at hz;rcases hz with rfl | rfl | rfl | rfl
   ·exact ⟨hs,Ln⟩
   ·exact ⟨hs,O3⟩
   ·exact ⟨Ow,Ln⟩
   ·exact ⟨hs,Ln⟩
structure FT(K:fv)(f:Addr)(x:Str)(st:Stmt):Prop where
 a:PySem.W.nsIn K mainGlobals x=some (some (.ref f))
 e:∃fd,dN K x x st f fd
structure FM(K:fv)(C f:Addr)(m x:Str)(st:Stmt):Prop where
 a:PySem.W.findIn K (.ref C) m=some (some (.ref f))
 i:PySem.W.isFn K (.ref f)=true
 e:∃fd,dN K m x st f fd
section
variable{K:fv}{C:Addr}{m x:Str}{st:Stmt}{oc:Value}{od an:Option Addr}{DL:Array (Option Value)}{kV doc pm bu ct:Value}
theorem FT.of(a:PySem.W.nsIn K mainGlobals x=some (some (.ref f)))(l:K.lookup f=some ⟨oc,od, .func (PySem.W.fnOf x x (iP st) (fV st) (ο st) .none kV doc pm an bu ct),DL⟩)(c:PySem.W.codeIn K bu x=true)(k:PySem.W.keepIn K (.ref f)=true):FT K f x st:=⟨a,_,Cg l c k⟩
theorem FM.of(a:PySem.W.findIn K (.ref C) m=some (some (.ref f)))(i:PySem.W.isFn K (.ref f)=true)(l:K.lookup f=some ⟨oc,od, .func (PySem.W.fnOf m x (iP st) (fV st) (ο st) .none kV doc pm an bu ct),DL⟩)(c:PySem.W.codeIn K bu x=true)(k:PySem.W.keepIn K (.ref f)=true):FM K C f m x st:=⟨a,i,_,Cg l c k⟩
end
section
variable{P:List Value->Prop}
theorem Nw(h:P []):∀us:List Value,us.length=0->P us
 | [],_=>h
 | _::_,e=>nomatch e
theorem fQ(h:∀a0:Value,P [a0]):∀us:List Value,us.length=1->P us
 | [],e=>nomatch e
 | a::us,e=>Nw (P:=λus=>P (a::us)) (h a) us (acg e)
theorem dw(h:∀a0 a1:Value,P [a0,a1]):∀us:List Value,us.length=2->P us
 | [],e=>nomatch e
 | a::us,e=>fQ (P:=λus=>P (a::us)) (h a) us (acg e)
theorem gH(h:∀a0 a1 a2:Value,P [a0,a1,a2]):∀us:List Value,us.length=3->P us
 | [],e=>nomatch e
 | a::us,e=>dw (P:=λus=>P (a::us)) (h a) us (acg e)
theorem A9(h:∀a0 a1 a2 a3:Value,P [a0,a1,a2,a3]):∀us:List Value,us.length=4->P us
 | [],e=>nomatch e
 | a::us,e=>gH (P:=λus=>P (a::us)) (h a) us (acg e)
theorem BA(h:∀a0 a1 a2 a3 a4:Value,P [a0,a1,a2,a3,a4]):∀us:List Value,us.length=5->P us
 | [],e=>nomatch e
 | a::us,e=>A9 (P:=λus=>P (a::us)) (h a) us (acg e)
theorem LZ(h:∀a0 a1 a2 a3 a4 a5:Value,P [a0,a1,a2,a3,a4,a5]):∀us:List Value,us.length=6->P us
 | [],e=>nomatch e
 | a::us,e=>BA (P:=λus=>P (a::us)) (h a) us (acg e)
end
theorem sA{K:fv}(h:PySem.W.subIn K (.type "int") (.type "bool")=some false):PySem.W.kitOne K (.type "int") (.type "bool")=some false:=by unfold PySem.W.kitOne PySem.W.kitCls;rw [aaA (by decide+kernel)];show (if PySem.W.kitMeta "bool"=true then _ else _)=_;rw [aaE (by decide+kernel)];exact h
theorem uW{K:fv}(h:PySem.W.subIn K (.type "int") (.type "str")=some false):PySem.W.kitOne K (.type "int") (.type "str")=some false:=by unfold PySem.W.kitOne PySem.W.kitCls;rw [aaA (by decide+kernel)];show (if PySem.W.kitMeta "str"=true then _ else _)=_;rw [aaE (by decide+kernel)];exact h
theorem pS{K:fv}(h:PySem.W.subIn K (.type "tuple") (.type "str")=some false):PySem.W.kitOne K (.type "tuple") (.type "str")=some false:=by unfold PySem.W.kitOne PySem.W.kitCls;rw [aaA (by decide+kernel)];show (if PySem.W.kitMeta "str"=true then _ else _)=_;rw [aaE (by decide+kernel)];exact h
theorem pU{K:fv}(h:PySem.W.subIn K (.type "tuple") (.type "int")=some false):PySem.W.kitOne K (.type "tuple") (.type "int")=some false:=by unfold PySem.W.kitOne PySem.W.kitCls;rw [aaA (by decide+kernel)];show (if PySem.W.kitMeta "int"=true then _ else _)=_;rw [aaE (by decide+kernel)];exact h
theorem tW{K:fv}(h:PySem.W.subIn K (.type "list") (.type "str")=some false):PySem.W.kitOne K (.type "list") (.type "str")=some false:=by unfold PySem.W.kitOne PySem.W.kitCls;rw [aaA (by decide+kernel)];show (if PySem.W.kitMeta "str"=true then _ else _)=_;rw [aaE (by decide+kernel)];exact h
theorem tX{K:fv}(h:PySem.W.subIn K (.type "list") (.type "int")=some false):PySem.W.kitOne K (.type "list") (.type "int")=some false:=by unfold PySem.W.kitOne PySem.W.kitCls;rw [aaA (by decide+kernel)];show (if PySem.W.kitMeta "int"=true then _ else _)=_;rw [aaE (by decide+kernel)];exact h
theorem n8{K:fv}(h:PySem.W.subIn K (.type "tuple") (.type "list")=some false):PySem.W.kitOne K (.type "tuple") (.type "list")=some false:=by unfold PySem.W.kitOne PySem.W.kitCls;rw [aaA (by decide+kernel)];show (if PySem.W.kitMeta "list"=true then _ else _)=_;rw [aaE (by decide+kernel)];exact h
theorem nQ{K:fv}(h:PySem.W.subIn K (.type "list") (.type "tuple")=some false):PySem.W.kitOne K (.type "list") (.type "tuple")=some false:=by unfold PySem.W.kitOne PySem.W.kitCls;rw [aaA (by decide+kernel)];show (if PySem.W.kitMeta "tuple"=true then _ else _)=_;rw [aaE (by decide+kernel)];exact h
open PySem.W in
theorem all_mk{l:OpenLaw}{w:World}{K:Frag}{h:Heap}{fa Cn za f1 f2 f3 f4 f5 f6 f7 f8 f9 TJ Wk Td Vx T1 Uk Xm Wb Wd VI Vu Uq VE W_ Wm Wf VM Wq TX T8 Xx We X2 S6 WQ XN V3 UC U_ Vp Ta TY S4 W9 Ti Uc T' XE Vd WL XD:Addr}(X:K.In h)(G:h.Ns mainGlobals mg)(Vn:mg "law"=some (.ref fa))
  {tq pL pX i7:Tok}
  (rY:nsIn K mainGlobals "MOST_DOORS"=some (some (.int (6) tq)))
  (pG:nsIn K mainGlobals "MOST_BOTTOM"=some (some (.int (1000000) pL)))
  (pE:nsIn K mainGlobals "MOST_PLACES"=some (some (.int (12) pX)))
  (i5:nsIn K mainGlobals "MOST_SHARE_BOTTOM"=some (some (.int (1000) i7)))
  (Ge:nsIn K mainGlobals "Floor"=some (some (.ref Cn))) (eZ:plainGet K Cn Str.empty=true) (eY:hasDictIn K Cn=true) (eX:plainOver K Cn=true) (e6:findIn K (.ref Cn) "__setattr__"=some (some (.builtin "object.__setattr__"))) (Fn:makesIn K Cn=true) (EJ:keepIn K (.ref Cn)=true)
  (tT:findIn K (.ref Cn) "kept_rows"=some none)
  (pJ:findIn K (.ref Cn) "kept_share"=some none)
  {CZ B6:Tok} {Cf:Option Addr} {C7:Array (Option Value)} {BW:Nat} (BJ:nsIn K mainGlobals "HANDS"=some (some (.ref za))) (Bv:K.lookup za=some ⟨.type "tuple",Cf, .seq #[(.str "one" CZ),(.str "other" B6)] BW,C7⟩)
  (vc:subIn K (.type "int") (.type "bool")=some false)
  (xj:subIn K (.type "int") (.type "str")=some false)
  (sG:subIn K (.type "tuple") (.type "str")=some false)
  (rh:subIn K (.type "tuple") (.type "int")=some false)
  (vH:subIn K (.type "list") (.type "str")=some false)
  (vx:subIn K (.type "list") (.type "int")=some false)
  (pW:subIn K (.type "tuple") (.type "list")=some false)
  (pZ:subIn K (.type "list") (.type "tuple")=some false)
  (t1:FT K f1 "_law_far" sR)
  (t2:FT K f2 "_law_number" jZ)
  (t3:FT K f3 "_law_lowest" jP)
  (t4:FT K f4 "_law_pay" sQ)
  (t5:FT K f5 "_law_rest" nD)
  (t6:FT K f6 "_law_doors" lD)
  (t7:FT K f7 "_law_rows" oh)
  (t8:FT K f8 "_law_share" k_)
  (t9:FT K f9 "fits_share" jE)
  (Vb:FT K TJ "fits_pay" n_)
  (Wg:FT K Wk "fits_door" lH)
  (U2:FT K Td "fits_doors" jX)
  (Ln:FT K Vx "common_divisor" fq)
  (Tf:FT K T1 "common_bottom" gk)
  (UG:FT K Uk "fits_chances" gW)
  (UL:FT K Xm "fits_row" oY)
  (Xr:FT K Wb "copied_row" jD)
  (W':FM K Cn Wd "__init__" "Floor.__init__" jJ)
  (UZ:FT K VI "_law_plans" lP)
  (Xi:FM K Cn Vu "size" "Floor.size" jW)
  (TM:FM K Cn Uq "kind" "Floor.kind" jR)
  (Ve:FM K Cn VE "doors" "Floor.doors" ij)
  (O3:FT K W_ "has_door" oZ)
  (Ur:FT K Wm "doors_of" nW)
  (VN:FM K Cn Wf "pay" "Floor.pay" lI)
  (Wr:FT K VM "first_means" iG)
  (XH:FT K Wq "fraction" lr)
  (VD:FT K TX "plus" DU)
  (Xj:FT K T8 "times" xE)
  (UM:FM K Cn Xx "shown" "Floor.shown" iC)
  (Xn:FT K We "weighed" oO)
  (WC:FM K Cn X2 "all_shown" "Floor.all_shown" fA)
  (Uv:FT K S6 "under" xF)
  (Tp:FT K WQ "greatest" lF)
  (Vz:FT K XN "least" xV)
  (TV:FM K Cn V3 "look" "Floor.look" jw)
  (Vf:FT K UC "more_means" jI)
  (Tr:FT K U_ "ways_from" lA)
  (Wc:FT K Vp "chances_next" gU)
  (Vr:FT K Ta "mean_of" rS)
  (Xe:FT K TY "_law_starts" jH)
  (TZ:FT K S4 "_law_plays" lj)
  (Wn:FT K W9 "chance_door" iz)
  (Uo:FT K Ti "door_by" rJ)
  (W5:FM K Cn Uc "share" "Floor.share" hV)
  (XB:FT K T' "played" tR)
  (Wa:FT K XE "_law_plus" n4)
  (WH:FT K Vd "_law_fraction_is" fB)
  (VW:FT K WL "_law_holds" lZ)
  (U9:FT K XD "law" Km)
  (Lv:nsIn K mainGlobals "len"=some none)
  (Lz:nsIn K mainGlobals "abs"=some none)
  (r8:nsIn K mainGlobals "isinstance"=some none)
  (MN:nsIn K mainGlobals "int"=some none)
  (JQ:nsIn K mainGlobals "bool"=some none)
  (Mu:nsIn K mainGlobals "str"=some none)
  (Ez:nsIn K mainGlobals "tuple"=some none)
  (Kb:nsIn K mainGlobals "list"=some none)
  (Fh:nsIn K mainGlobals "range"=some none)
  (uj:nsIn K mainGlobals "enumerate"=some none)
  (Lj:nsIn K mainGlobals "any"=some none)
  (LB:nsIn K mainGlobals "all"=some none)
  (KR:nsIn K mainGlobals "sum"=some none)
  (Ld:nsIn K mainGlobals "zip"=some none)
  (Jj:nsIn K mainGlobals "dict"=some none)
  :∃fd:FuncData,(∀(s:Shared) (v:Value),BindsTo s fd ⟨[v],[]⟩ [("_law_script",v)])/\∀base:Heap,K.In base->base.Ns mainGlobals mg->ar l.prog w K mg base N8 10 fa fd ["_law_script"] (wc K):=by
 obtain ⟨a1,_,F1⟩:=t1;obtain ⟨a2,_,F2⟩:=t2;obtain ⟨a3,_,F3⟩:=t3;obtain ⟨a4,_,F4⟩:=t4;obtain ⟨a5,_,F5⟩:=t5;obtain ⟨a6,_,F6⟩:=t6;obtain ⟨a7,_,F7⟩:=t7;obtain ⟨a8,_,F8⟩:=t8;obtain ⟨a9,_,F9⟩:=t9;obtain ⟨Pr,_,QJ⟩:=Vb;obtain ⟨U',_,Rx⟩:=Wg;obtain ⟨Xf,_,QS⟩:=U2;obtain ⟨X1,_,RC⟩:=Ln;obtain ⟨VH,_,O9⟩:=Tf;obtain ⟨WR,_,P8⟩:=UG;obtain ⟨Tt,_,Pq⟩:=UL;obtain ⟨S_,_,PY⟩:=Xr;obtain ⟨U1,Tv,_,R5⟩:=W';obtain ⟨Wt,_,PM⟩:=UZ;obtain ⟨TN,VF,_,Qx⟩:=Xi;obtain ⟨US,XQ,_,Qh⟩:=TM;obtain ⟨UK,Ut,_,Qq⟩:=Ve;obtain ⟨V0,_,QK⟩:=O3;obtain ⟨Xb,_,Qr⟩:=Ur;obtain ⟨Tg,WT,_,RE⟩:=VN;obtain ⟨Tw,_,QI⟩:=Wr;obtain ⟨T5,_,QR⟩:=XH;obtain ⟨WD,_,OI⟩:=VD;obtain ⟨WZ,_,Pc⟩:=Xj;obtain ⟨UH,Xa,_,QV⟩:=UM;obtain ⟨WG,_,QG⟩:=Xn;obtain ⟨Xd,WV,_,Q_⟩:=WC;obtain ⟨U4,_,OE⟩:=Uv;obtain ⟨WN,_,Q7⟩:=Tp;obtain ⟨V9,_,QY⟩:=Vz;obtain ⟨XG,Vc,_,Q8⟩:=TV;obtain ⟨Xy,_,PV⟩:=Vf;obtain ⟨Xs,_,OC⟩:=Tr;obtain ⟨Xl,_,O0⟩:=Wc;obtain ⟨W0,_,P0⟩:=Vr;obtain ⟨UQ,_,OR⟩:=Xe;obtain ⟨T6,_,Qy⟩:=TZ;obtain ⟨Wj,_,OX⟩:=Wn;obtain ⟨Va,_,Qd⟩:=Uo;obtain ⟨TH,TF,_,P9⟩:=W5;obtain ⟨Um,_,Qw⟩:=XB;obtain ⟨Vy,_,Qo⟩:=Wa;obtain ⟨XT,_,PX⟩:=WH;obtain ⟨Vg,_,Qk⟩:=VW;obtain ⟨TQ,dL,RS⟩:=U9;have e:=Vn.symm.trans (mg_of X G TQ);cases e;have tQ:=mg_of X G rY;have pH:=mg_of X G pG;have pO:=mg_of X G pE;have i6:=mg_of X G i5;have cE:=mg_none_of X G Lv;have pe:=mg_none_of X G Lz;have aS:=mg_none_of X G r8;have vd:=mg_none_of X G MN;have nP:=mg_none_of X G JQ;have BM:=mg_none_of X G Mu;have kz:=mg_none_of X G Ez;have iu:=mg_none_of X G Kb;have bh:=mg_none_of X G Fh;have eC:=mg_none_of X G uj;have yv:=mg_none_of X G Lj;have yT:=mg_none_of X G LB;have uQ:=mg_none_of X G KR;have yw:=mg_none_of X G Ld;have jQ:=mg_none_of X G Jj;have E:Ev K mg Cn:={cE:=cE,pe:=pe,aS:=aS,vd:=vd,nP:=nP,BM:=BM,kz:=kz,iu:=iu,bh:=bh,eC:=eC,yv:=yv,yT:=yT,uQ:=uQ,yw:=yw,jQ:=jQ,ib:=sA vc,XU:=uW xj,Wv:=pS sG,U8:=pU rh,Wy:=tW vH,Uj:=tX vx,Vl:=n8 pW,klt:=nQ pZ,cU:=⟨eZ,eY,eX,e6⟩,b9:=tT,ez:=pJ,sD:=⟨_,_,_,_,mg_of X G BJ,Bv,rfl,rfl,fI, .cons ⟨_,rfl⟩ (.cons ⟨_,rfl⟩ .nil)⟩,mw:=⟨_,tQ⟩,gX:=⟨_,pH⟩,ki:=⟨_,pO⟩,ff:=⟨_,i6⟩};refine ⟨dL,λs v=>by obtain ⟨_,_,_,_,_,_,_,_,_,rfl,_⟩:=RS.ex;exact .of_eq rfl,λbase _ _=> ?_⟩;have mc:= @aE.mk l.prog w K mg base;have gy:=mc (AS F1 E) (F1.binds λ_ _ _ _ _ _=>dw λ_ _=>rfl) (mg_of X G a1) F1.kp;have Υ:=mc (sd F2 E gy) (F2.binds λ_ _ _ _ _ _=>dw λ_ _=>rfl) (mg_of X G a2) F2.kp;have aa:=mc (rT F3 E) (F3.binds λ_ _ _ _ _ _=>dw λ_ _=>rfl) (mg_of X G a3) F3.kp;have gB:=mc (zG F4 E aa) (F4.binds λ_ _ _ _ _ _=>fQ λ_=>rfl) (mg_of X G a4) F4.kp;have l3:=mc (wI F5 E Υ gy) (F5.binds λ_ _ _ _ _ _=>dw λ_ _=>rfl) (mg_of X G a5) F5.kp;have jM:=mc (ud F6 E Υ gB l3 aa) (F6.binds λ_ _ _ _ _ _=>BA λ_ _ _ _ _=>rfl) (mg_of X G a6) F6.kp;have lu:=mc (xM F7 E Υ gB jM) (F7.binds λ_ _ _ _ _ _=>gH λ_ _ _=>rfl) (mg_of X G a7) F7.kp;have ju:=mc (uF F8 E aa) (F8.binds λ_ _ _ _ _ _=>fQ λ_=>rfl) (mg_of X G a8) F8.kp;have iA:=mc (sH F9 E) (F9.binds λ_ _ _ _ _ _=>fQ λ_=>rfl) (mg_of X G a9) F9.kp;have e_:=mc (xc QJ E) (QJ.binds λ_ _ _ _ _ _=>fQ λ_=>rfl) (mg_of X G Pr) QJ.kp;have jT:=mc (vA Rx E e_) (Rx.binds λ_ _ _ _ _ _=>dw λ_ _=>rfl) (mg_of X G U') Rx.kp;have fU:=mc (sZ QS E jT) (QS.binds λ_ _ _ _ _ _=>dw λ_ _=>rfl) (mg_of X G Xf) QS.kp;have bc:=mc (lq RC E) (RC.binds λ_ _ _ _ _ _=>dw λ_ _=>rfl) (mg_of X G X1) RC.kp;have bN:=mc (mI O9 E bc) (O9.binds λ_ _ _ _ _ _=>fQ λ_=>rfl) (mg_of X G VH) O9.kp;have gs:=mc (nL P8 E bN) (P8.binds λ_ _ _ _ _ _=>fQ λ_=>rfl) (mg_of X G WR) P8.kp;have lU:=mc (wZ Pq E e_ fU gs) (Pq.binds λ_ _ _ _ _ _=>dw λ_ _=>rfl) (mg_of X G Tt) Pq.kp;have ip:=mc (se PY E) (PY.binds λ_ _ _ _ _ _=>fQ λ_=>rfl) (mg_of X G S_) PY.kp;have fK:Jy l.prog w K mg base _ "Floor" Cn _ _ _ _:=⟨tm R5 E iA lU ip,(R5.binds λ_ _ _ _ _ _=>gH λ_ _ _=>rfl),⟨Fn,U1,Tv,EJ⟩,mg_of X G Ge⟩;have jN:=mc (uO PM E Υ) (PM.binds λ_ _ _ _ _ _=>gH λ_ _ _=>rfl) (mg_of X G Wt) PM.kp;have ao:cz l.prog w K mg base _ Cn "size" _ _ _ _:=⟨sI Qx E,(Qx.binds λ_ _ _ _ _ _=>fQ λ_=>rfl),⟨eZ,eY,eX,e6⟩,⟨TN,VF,Qx.kp⟩⟩;have Ε:cz l.prog w K mg base _ Cn "kind" _ _ _ _:=⟨sN Qh E,(Qh.binds λ_ _ _ _ _ _=>dw λ_ _=>rfl),⟨eZ,eY,eX,e6⟩,⟨US,XQ,Qh.kp⟩⟩;have Μ:cz l.prog w K mg base _ Cn "doors" _ _ _ _:=⟨pN Qq E Ε,(Qq.binds λ_ _ _ _ _ _=>dw λ_ _=>rfl),⟨eZ,eY,eX,e6⟩,⟨UK,Ut,Qq.kp⟩⟩;have ly:=mc (xB QK E Μ) (QK.binds λ_ _ _ _ _ _=>gH λ_ _ _=>rfl) (mg_of X G V0) QK.kp;have lB:=mc (xI Qr E ao Ε ly) (Qr.binds λ_ _ _ _ _ _=>dw λ_ _=>rfl) (mg_of X G Xb) Qr.kp;have bx:cz l.prog w K mg base _ Cn "pay" _ _ _ _:=⟨uY RE E Ε,(RE.binds λ_ _ _ _ _ _=>dw λ_ _=>rfl),⟨eZ,eY,eX,e6⟩,⟨Tg,WT,RE.kp⟩⟩;have gZ:=mc (pT QI E ao bx) (QI.binds λ_ _ _ _ _ _=>fQ λ_=>rfl) (mg_of X G Tw) QI.kp;have d_:=mc (uP QR E bc) (QR.binds λ_ _ _ _ _ _=>dw λ_ _=>rfl) (mg_of X G T5) QR.kp;have dQ:=mc (FR OI E d_) (OI.binds λ_ _ _ _ _ _=>dw λ_ _=>rfl) (mg_of X G WD) OI.kp;have cD:=mc (CJ Pc E d_) (Pc.binds λ_ _ _ _ _ _=>dw λ_ _=>rfl) (mg_of X G WZ) Pc.kp;have cN:cz l.prog w K mg base _ Cn "shown" _ _ _ _:=⟨pI QV E dQ cD,(QV.binds λ_ _ _ _ _ _=>A9 λ_ _ _ _=>rfl),⟨eZ,eY,eX,e6⟩,⟨UH,Xa,QV.kp⟩⟩;have lO:=mc (xm QG E dQ cD) (QG.binds λ_ _ _ _ _ _=>dw λ_ _=>rfl) (mg_of X G WG) QG.kp;have cw:cz l.prog w K mg base _ Cn "all_shown" _ _ _ _:=⟨lV Q_ E Μ cN,(Q_.binds λ_ _ _ _ _ _=>gH λ_ _ _=>rfl),⟨eZ,eY,eX,e6⟩,⟨Xd,WV,Q_.kp⟩⟩;have i4:=mc (C5 OE E) (OE.binds λ_ _ _ _ _ _=>dw λ_ _=>rfl) (mg_of X G U4) OE.kp;have jU:=mc (uV Q7 E i4) (Q7.binds λ_ _ _ _ _ _=>fQ λ_=>rfl) (mg_of X G WN) Q7.kp;have rK:=mc (C2 QY E i4) (QY.binds λ_ _ _ _ _ _=>fQ λ_=>rfl) (mg_of X G V9) QY.kp;have ir:cz l.prog w K mg base _ Cn "look" _ _ _ _:=⟨tD Q8 E Ε bx lO cw Μ jU rK,(Q8.binds λ_ _ _ _ _ _=>gH λ_ _ _=>rfl),⟨eZ,eY,eX,e6⟩,⟨XG,Vc,Q8.kp⟩⟩;have iE:=mc (sL PV E ao cN ir) (PV.binds λ_ _ _ _ _ _=>gH λ_ _ _=>rfl) (mg_of X G Xy) PV.kp;have jy:=mc (uS OC E Μ Ε) (OC.binds λ_ _ _ _ _ _=>gH λ_ _ _=>rfl) (mg_of X G Xs) OC.kp;have gf:=mc (pj O0 E ao Ε dQ jy cD) (O0.binds λ_ _ _ _ _ _=>gH λ_ _ _=>rfl) (mg_of X G Xl) O0.kp;have ou:=mc (zq P0 E lB gZ ao iE gf) (P0.binds λ_ _ _ _ _ _=>BA λ_ _ _ _ _=>rfl) (mg_of X G W0) P0.kp;have ig:=mc (rn OR E aa) (OR.binds λ_ _ _ _ _ _=>fQ λ_=>rfl) (mg_of X G UQ) OR.kp;have jF:=mc (wa Qy E ig) (Qy.binds λ_ _ _ _ _ _=>A9 λ_ _ _ _=>rfl) (mg_of X G T6) Qy.kp;have gQ:=mc (pR OX E bN) (OX.binds λ_ _ _ _ _ _=>dw λ_ _=>rfl) (mg_of X G Wj) OX.kp;have nU:=mc (zt Qd E Μ Ε gQ) (Qd.binds λ_ _ _ _ _ _=>gH λ_ _ _=>rfl) (mg_of X G Va) Qd.kp;have gP:cz l.prog w K mg base _ Cn "share" _ _ _ _:=⟨pY P9 E,(P9.binds λ_ _ _ _ _ _=>fQ λ_=>rfl),⟨eZ,eY,eX,e6⟩,⟨TH,TF,P9.kp⟩⟩;have oI:=mc (zI Qw E Ε nU Μ dQ cD gP bx) (Qw.binds λ_ _ _ _ _ _=>gH λ_ _ _=>rfl) (mg_of X G Um) Qw.kp;have iK:=mc (xt Qo E aa) (Qo.binds λ_ _ _ _ _ _=>gH λ_ _ _=>rfl) (mg_of X G Vy) Qo.kp;have c9:=mc (lN PX E) (PX.binds λ_ _ _ _ _ _=>dw λ_ _=>rfl) (mg_of X G XT) PX.kp;have jC:=mc (we Qk E ou jF oI iK c9) (Qk.binds λ_ _ _ _ _ _=>LZ λ_ _ _ _ _ _=>rfl) (mg_of X G Vg) Qk.kp;exact J7 (IZ RS E lu ju Υ fK jN jC)
theorem walk{l:PySem.W.OpenLaw}{q:Program}{loose:List Str}{XP:(Str->Option Value)->Heap->Prop}{YP:World->Heap->Prop}{d:DefRec}{K:Params->fv}(hn:l.most=some 63)(LN:d.params.defaults=[])
  (hY:∀(w:World) (h:Heap),YP w h->(K w.params).In h)
  (F:∀(w:World) (mg:Str->Option Value) (fa:Addr) (h:Heap),(K w.params).In h->h.Ns mainGlobals mg->mg d.name=some (.ref fa)->
   ∃fd:FuncData,(∀(s:Shared) (u:Value),BindsTo s fd ⟨[u],[]⟩ [("_law_script",u)])/\∀base:Heap,(K w.params).In base->base.Ns mainGlobals mg->ar l.prog w (K w.params) mg base N8 10 fa fd ["_law_script"] (wc (K w.params))):
  PySem.W.WalkO q loose XP YP l.row.toRowW d [] (λf vs=>PySem.call f vs):=
 L2.rM (n:=63) (k:=10) (x:="_law_script") (CX:=λ_=>N8) (sp:=λw=>wc (K w.params)) hn (by decide) LN ⟨rfl,by decide,by decide⟩ hY F (λ_ _ a ns hl _ hS=>⟨a,ns,rfl,hS,hl,λ_=>rfl⟩) λ_ _ _ _ _ z=>z
end
end Pg
open PySem PySem.W PyProof.Rows
set_option maxRecDepth 100000 in
set_option maxHeartbeats 0 in
theorem PySem.Challenge.cw_chanceduel_k64_a_mean_by_all_plays_holds : PySem.Challenge.rw_chanceduel_k64_a_mean_by_all_plays.Holds := by
 w_on;o_law
 refine holds_open (q:=Hd.q) (loose:=[]) (Xt:=Hd.Xt) (XP:=XL Hd.q [])
  (Yf:=Hd.H.obs) (Ya:=Hd.H.val) (YP:=Hd.H.says) Hd.left Hd.H.of Hd.H.keeps
  (λs e=>xl_of s (Bool.and_eq_true_iff.mp e).1) XL.keeps (by rfl) (by rfl) (by rfl)
  (λs e=>recFacts_of (Bool.and_eq_true_iff.mp e).2) (by rfl) (by assumption) (by decide+kernel)
  ⟨rfl,rfl,rfl,rfl,rfl,by decide+kernel⟩ ?hw ?hc
 (case hw=>w_witness2)
 refine Pg.walk (l:=PySem.Challenge.rw_chanceduel_k64_a_mean_by_all_plays) rfl rfl (fun w h Y=>PySem.W.kIn_of Y) ?F
 case F=>
  k_fill
  intro w mg fa h KX G Gd
  refine' Pg.all_mk KX G Gd ?_ ?_ ?_ ?_ ?_ ?_ ?_ ?_ ?_ ?_ ?_ ?_ ?_ ?_ ?_ ?_ ?_ ?_ ?_ ?_ ?_ ?_ ?_ ?_ ?_ ?_ ?_ ?_ ?_ ?_ ?_ ?_ ?_ ?_ ?_ ?_ ?_ ?_ ?_ ?_ ?_ ?_ ?_ ?_ ?_ ?_ ?_ ?_ ?_ ?_ ?_ ?_ ?_ ?_ ?_ ?_ ?_ ?_ ?_ ?_ ?_ ?_ ?_ ?_ ?_ ?_ ?_ ?_ ?_ ?_ ?_ ?_ ?_ ?_ ?_ ?_ ?_ ?_ ?_ ?_ ?_ ?_ ?_ ?_ ?_ ?_ ?_ ?_
  all_goals try first | (refine' Pg.FT.of ?_ ?_ ?_ ?_ <;> try k_is) | (refine' Pg.FM.of ?_ ?_ ?_ ?_ ?_ <;> try k_is) | k_is | k_exc | kernel_rfl
