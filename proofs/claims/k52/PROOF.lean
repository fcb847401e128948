import PyProof.Rows.All
import Wide.All
import OpenK.AllK
import Wide.FinOn
import Lean
import PyProof.EqAt
import PyProof.EqKinds
import PyProof.TupleCall
import PyProof.NeKinds
import PyProof.ZipIter
import PyProof.DictUpdate
import PyProof.FactsAll.dict_1
import PyProof.DictIter
import PyProof.DictWalks
import PyProof.TupleKey
import PyProof.ListRange
import PyProof.SetNew
import PyProof.SetKind
import PyProof.DictKinds
import PyProof.ListNew
import PyProof.CollectWalk
import PyProof.FactsAll.set
import PyProof.Rows.SortWalk
import PySem.Challenge.RW_chanceduel_k52_put_together
set_option Elab.async false
set_option linter.all false
set_option maxRecDepth 100000
set_option maxHeartbeats 4000000
set_option compiler.extract_closed false
def aaa:=@List.getElem?_eq_getElem
def aab:=@PySem.wpAny_bind
def aac:=@List.length_map
def aad:=@List.getElem?_eq_some_iff
def aae:=@PySem.wpAny_pure
def aaf:=@PySem.Heap.get?_push_of_some
def aag:=@List.length_append
def aah:=@List.getElem?_map
def aai:=@List.mem_cons_of_mem
def aaj:=@List.mem_map
def aak:=@List.mem_cons_self
def aal:=@Nat.le_refl
def aam:=@Nat.le_trans
def aan:=@Bool.and_eq_true
def aao:=@List.getD_eq_getElem?_getD
def aap:=@PySem.Heap.lt_size
def aaq:=@decide_eq_true
def aar:=@Bool.false_ne_true
def aas:=@List.size_toArray
def aat:=@List.mem_of_getElem?
def aau:=@PySem.Heap.get?_push_size
def aav:=@List.map_append
def aaw:=@List.getElem?_append_right
def aax:=@List.mem_append_right
def aay:=@List.map_map
def aaz:=@List.mem_cons
def aaA:=@Option.some.inj
def aaB:=@of_decide_eq_true
def aaC:=@Nat.lt_of_lt_of_le
def aaD:=@List.map_cons
def aaE:=@List.getElem?_append_left
def aaF:=@if_neg
def aaG:=@Nat.ne_of_lt
def aaH:=@absurd
def aaI:=@if_pos
def aaJ:=@Int.emod_lt_of_pos
def aaK:=@decide_eq_false
def aaL:=@List.mem_range
def aaM:=@Int.emod_nonneg
def aaN:=@List.length_cons
def aaO:=@Option.map_eq_some_iff
def aaP:=@Nat.lt_of_le_of_lt
def aaQ:=@List.mem_append
def aaR:=@List.map_congr_left
def aaS:=@List.nil_append
def aaT:=@Int.le_of_lt
def aaU:=@List.append_nil
def aaV:=@List.getElem?_range
def aaW:=@List.mem_append_left
def aaX:=@List.all_eq_true
def aaY:=@List.getElem_mem
def aaZ:=@List.length_replicate
def aa0:=@List.getElem?_zip_eq_some
def aa1:=@List.dropLast_concat_getLast
def aa2:=@List.getElem?_set_ne
def aa3:=@congrArg
def aa4:=@List.zip_cons_cons
def aa5:=@Array.length_toList
def aa6:=@Int.toNat_natCast
def aa7:=@List.getElem?_set_self
def aa8:=@List.append_assoc
def aa9:=@Array.getElem?_toList
def aba:=@List.mem_iff_getElem?
def abb:=@List.set_append_right
def abc:=@Bool.eq_iff_iff
def abd:=@List.mem_singleton
def abe:=@Nat.lt_or_ge
def abf:=@List.replicate_succ
def abg:=@List.drop_eq_getElem_cons
def abh:=@Array.getElem?_eq_getElem
def abi:=@List.sum_cons
def abj:=@List.length_set
def abk:=@List.length_take
def abl:=@Nat.lt_irrefl
def abm:=@List.length_eq_zero_iff
def abn:=@Nat.sub_self
def abo:=@Int.zero_add
def abp:=@List.nodup_cons
def abq:=@List.range_succ_eq_map
def abr:=@Int.fmod_eq_emod_of_nonneg
def abt:=@PySem.wpAny_mono
def abu:=@List.length_drop
def abv:=@List.lookup_cons
def abw:=@List.getElem?_eq_none
def abx:=@Int.eq_of_mul_eq_mul_left
def aby:=@Nat.add_le_add_right
def abz:=@List.flatten_cons
def abA:=@List.length_zip
def abB:=@List.ext_getElem?
def abC:=@Int.mul_ediv_cancel_left
def abD:=@Nat.zero_le
def abE:=@List.all_cons
def abF:=@Nat.add_sub_cancel_left
def abG:=@PySem.F.plainAttrs_list
def abH:=@Array.getElem?_eq_none
def abI:=@List.length_pos_of_mem
def abJ:=@of_decide_eq_false
def abK:=@Int.mul_assoc
def abL:=@Array.getElem?_eq_some_iff
def abM:=@Int.fdiv_eq_ediv_of_nonneg
def abN:=@Int.natAbs_of_nonneg
def abO:=@Int.natAbs_mul
def abP:=@beq_self_eq_true
def abQ:=@List.any_eq_true
def abR:=@Nat.le_of_lt
def abS:=@Option.isSome_iff_exists
def abT:=@Int.mul_comm
def abU:=@List.mem_filterMap
def abV:=@List.range_succ
def abW:=@List.sum_append
def abX:=@List.pairwise_cons
def abY:=@List.length_range
def abZ:=@Nat.min_self
namespace Hd
open PySem PySem.W PyProof.Rows
def at_(i:Nat):Stmt:=PySem.Challenge.pw_chanceduel_k52_put_together.main.body.getD i (.Pass ⟨0,0,0,0⟩)
def Ko:Stmt->Nat->Stmt
  | .ClassDef _ _ _ b _ _ _ _ _ _ _,j=>b.getD j (.Pass ⟨0,0,0,0⟩)
  | s,_=>s
def dA:Stmt->Arguments
  | .FunctionDef _ a _ _ _ _ _ _ _ _=>a
  | _=>⟨[],[],none,[],[],none,[]⟩
def dB:Stmt->List Stmt
  | .FunctionDef _ _ b _ _ _ _ _ _ _=>b
  | _=>[]
def dS:Stmt->Scope
  | .FunctionDef _ _ _ _ _ _ c _ _ _=>c
  | _=>{kind:= .function,names:=[],isGenerator:=false,isCoroutine:=false}
abbrev row:=PySem.Challenge.rw_chanceduel_k52_put_together.row
abbrev en(P:Params)(x:Str)(t:Tok)(v:Value):DictEntry:=⟨PyData.keyHash P x, .str x t,v⟩
def q:Program:={PySem.Challenge.pw_chanceduel_k52_put_together with main:={PySem.Challenge.pw_chanceduel_k52_put_together.main with body:=[at_ 0,at_ 2,at_ 3,at_ 4,at_ 5,at_ 7,at_ 8,at_ 9,at_ 11,at_ 12,at_ 13,at_ 14,at_ 15,at_ 16,at_ 17,at_ 18,at_ 19,at_ 20,at_ 22,at_ 23,at_ 24,at_ 25,at_ 27,at_ 28,at_ 29,at_ 30,at_ 31,at_ 32,at_ 33,at_ 35,at_ 36,at_ 37,at_ 38,at_ 39,at_ 40,at_ 41,at_ 42,at_ 43,at_ 44,at_ 45,at_ 46,at_ 47,at_ 48,at_ 49]}}
abbrev cO(x q:Str)(t l n f a m:Nat):Obj:=⟨.type "code",none, .fields #[.str x t, .str q (t+1), .str "/claim/cut.py" (t+2), .int l 0, .int n 0, .int 0 0, .int 0 0, .int f 0, .ref a, .bool true, .int 181 0, .ref (a+1), .none, .ref (a+2), .ref (a+3), .ref (a+4), .int m 0, .int l 0, .str "/claim/cut.py" (m+1)], #[]⟩
abbrev dO(x q:Str)(t l n f a m:Nat):Obj:=⟨.type "code",none, .fields #[.str x t, .str q (t+1), .str "/claim/cut.py" (t+2), .int l 0, .int n 0, .int 0 0, .int 0 0, .int f 0, .ref a, .bool true, .int 181 0, .ref (a+1), .none, .none, .none, .ref (a+2), .int m 0, .int l 0, .str "/claim/cut.py" (m+1)], #[]⟩
abbrev eO(x:Str)(a d b t u:Nat):Obj:=⟨.type "type",none, .cls ⟨x,[.ref 31],[.ref a, .ref 31, .type "ValueError", .type "Exception", .type "BaseException", .type "object"],d,x,true,[],[],false,none,false⟩, #[some (.ref b),none,some (.str x t),some (.str x u),some (.builtin "ValueError.__new__"),some (.bool true)]⟩
abbrev fO(x q:Str)(s:Stmt)(m:Value)(c:Nat):Obj:=⟨.type "function",none, .func ⟨x,q,(dA s), .stmts (dB s),(dS s),3,[], .none, .none, .none,m,none, .ref c, .none,0⟩, #[]⟩
abbrev m0:Value:= .str "chanceduel.parts" 271
abbrev m1:Value:= .str "chanceduel.places" 301
abbrev m2:Value:= .str "chanceduel.floors" 359
abbrev m3:Value:= .str "chanceduel.alikes" 481
abbrev m4:Value:= .str "law_chanceduel_k52_put_together" 534
noncomputable def K:Params->Frag:=λP=>
(nat_lit 2,⟨.none,none,(.dict #[] 0), #[]⟩)::
(nat_lit 3,⟨(.type "dict"),none,(.dict #[(en P "__name__" 165 m4),(en P "__doc__" 166 .none),(en P "__package__" 167 .none),(en P "__loader__" 168 (.builtin "__main__.__loader__#opaque")),(en P "__spec__" 169 .none),(en P "__annotations__" 170 (.ref 6)),(en P "__builtins__" 171 (.ref 4)),(en P "__file__" 173 (.str "/claim/cut.py" 172)),(en P "__cached__" 174 .none),(en P "_wall" 193 (.ref 21)),(en P "DuelError" 213 (.ref 31)),(en P "NoNumber" 229 (.ref 44)),(en P "NoFloor" 245 (.ref 56)),(en P "NoPlace" 270 (.ref 75)),(en P "common_divisor" 283 (.ref 84)),(en P "fraction" 292 (.ref 91)),(en P "plus" 300 (.ref 98)),(en P "HANDS" 305 (.ref 99)),(en P "MOST_DOORS" 307 (.int 6 306)),(en P "MOST_BOTTOM" 309 (.int 1000000 308)),(en P "fits_pay" 316 (.ref 106)),(en P "fits_door" 324 (.ref 113)),(en P "common_bottom" 333 (.ref 120)),(en P "fits_chances" 339 (.ref 125)),(en P "fits_doors" 345 (.ref 130)),(en P "fits_row" 351 (.ref 135)),(en P "copied_row" 358 (.ref 142)),(en P "MOST_PLACES" 362 (.int 12 361)),(en P "MOST_SHARE_BOTTOM" 364 (.int 1000 363)),(en P "fits_share" 371 (.ref 149)),(en P "Floor" 480 (.ref 232)),(en P "classes_by" 488 (.ref 241)),(en P "first_classes" 494 (.ref 246)),(en P "pairs_of" 506 (.ref 253)),(en P "next_classes" 512 (.ref 258)),(en P "parted" 521 (.ref 265)),(en P "joined_row" 527 (.ref 270)),(en P "together" 533 (.ref 275)),(en P "_law_far" 543 (.ref 282)),(en P "_law_number" 553 (.ref 289)),(en P "_law_rest" 562 (.ref 296)),(en P "_law_lowest" 572 (.ref 303)),(en P "_law_pay" 580 (.ref 310)),(en P "_law_row_of_places" 586 (.ref 315)),(en P "_law_base" 604 (.ref 322)),(en P "_law_origin" 610 (.ref 327)),(en P "_law_piece" 621 (.ref 334)),(en P "_law_copy" 627 (.ref 339)),(en P "_law_spoilt" 643 (.ref 346)),(en P "_law_part_of" 655 (.ref 353)),(en P "_law_share" 663 (.ref 360)),(en P "_law_put" 669 (.ref 365)),(en P "law" 675 (.ref 370))] 53), #[]⟩)::
(nat_lit 30,⟨(.type "dict"),none,(.dict #[(en P "__module__" 203 (.str "chanceduel.errors" 194)),(en P "__firstlineno__" 207 (.int 5 206)),(en P "__static_attributes__" 208 (.ref 29)),(en P "__weakref__" 210 (.ref 32)),(en P "__doc__" 211 .none)] 3), #[]⟩)::
(nat_lit 31,⟨(.type "type"),none,(.cls ⟨"DuelError",[(.type "ValueError")],[(.ref 31),(.type "ValueError"),(.type "Exception"),(.type "BaseException"),(.type "object")],30,"DuelError",true,[],[(.ref 44),(.ref 56),(.ref 75)],false,none,false⟩), #[(some (.ref 22)),none,(some (.str "DuelError" 196)),(some (.str "DuelError" 204)),(some (.builtin "ValueError.__new__")),(some (.bool true))]⟩)::
(nat_lit 44,eO "NoNumber" 44 43 35 214 222)::
(nat_lit 56,eO "NoFloor" 56 55 47 230 238)::
(nat_lit 75,eO "NoPlace" 75 74 59 246 254)::
(nat_lit 83,cO "common_divisor" "common_divisor" 273 17 2 3 78 281)::
(nat_lit 84,fO "common_divisor" "common_divisor" (at_ 7) m0 83)::
(nat_lit 90,cO "fraction" "fraction" 284 25 2 3 85 290)::
(nat_lit 91,fO "fraction" "fraction" (at_ 8) m0 90)::
(nat_lit 97,cO "plus" "plus" 293 32 2 3 92 298)::
(nat_lit 98,fO "plus" "plus" (at_ 9) m0 97)::
(nat_lit 99,⟨(.type "tuple"),none,(.seq #[(.str "one" 303),(.str "other" 304)] 0), #[]⟩)::
(nat_lit 105,cO "fits_pay" "fits_pay" 310 38 1 3 100 314)::
(nat_lit 106,fO "fits_pay" "fits_pay" (at_ 14) m1 105)::
(nat_lit 112,cO "fits_door" "fits_door" 317 40 2 3 107 322)::
(nat_lit 113,fO "fits_door" "fits_door" (at_ 15) m1 112)::
(nat_lit 119,cO "common_bottom" "common_bottom" 325 42 1 3 114 331)::
(nat_lit 120,fO "common_bottom" "common_bottom" (at_ 16) m1 119)::
(nat_lit 124,dO "fits_chances" "fits_chances" 334 47 1 3 121 337)::
(nat_lit 125,fO "fits_chances" "fits_chances" (at_ 17) m1 124)::
(nat_lit 129,dO "fits_doors" "fits_doors" 340 53 2 3 126 343)::
(nat_lit 130,fO "fits_doors" "fits_doors" (at_ 18) m1 129)::
(nat_lit 134,dO "fits_row" "fits_row" 346 57 2 3 131 349)::
(nat_lit 135,fO "fits_row" "fits_row" (at_ 19) m1 134)::
(nat_lit 141,cO "copied_row" "copied_row" 352 66 1 3 136 356)::
(nat_lit 142,fO "copied_row" "copied_row" (at_ 20) m1 141)::
(nat_lit 148,cO "fits_share" "fits_share" 365 73 1 3 143 369)::
(nat_lit 149,fO "fits_share" "fits_share" (at_ 24) m2 148)::
(nat_lit 160,dO "__init__" "Floor.__init__" 384 77 3 3 157 387)::
(nat_lit 161,fO "__init__" "Floor.__init__" (Ko (at_ 25) 0) m2 160)::
(nat_lit 167,cO "size" "Floor.size" 390 88 1 3 162 394)::
(nat_lit 168,fO "size" "Floor.size" (Ko (at_ 25) 1) m2 167)::
(nat_lit 174,cO "share" "Floor.share" 397 91 1 3 169 401)::
(nat_lit 175,fO "share" "Floor.share" (Ko (at_ 25) 2) m2 174)::
(nat_lit 181,cO "kind" "Floor.kind" 404 94 2 3 176 409)::
(nat_lit 182,fO "kind" "Floor.kind" (Ko (at_ 25) 3) m2 181)::
(nat_lit 188,cO "doors" "Floor.doors" 412 97 2 3 183 417)::
(nat_lit 189,fO "doors" "Floor.doors" (Ko (at_ 25) 4) m2 188)::
(nat_lit 195,cO "pay" "Floor.pay" 420 102 2 3 190 425)::
(nat_lit 196,fO "pay" "Floor.pay" (Ko (at_ 25) 5) m2 195)::
(nat_lit 200,dO "rows" "Floor.rows" 428 107 1 3 197 431)::
(nat_lit 201,fO "rows" "Floor.rows" (Ko (at_ 25) 6) m2 200)::
(nat_lit 231,⟨(.type "dict"),none,(.dict #[(en P "__module__" 379 m2),(en P "__firstlineno__" 383 (.int 75 382)),(en P "__init__" 389 (.ref 161)),(en P "size" 396 (.ref 168)),(en P "share" 403 (.ref 175)),(en P "kind" 411 (.ref 182)),(en P "doors" 419 (.ref 189)),(en P "pay" 427 (.ref 196)),(en P "rows" 433 (.ref 201)),(en P "shown" 443 (.ref 208)),(en P "all_shown" 452 (.ref 215)),(en P "look" 461 (.ref 222)),(en P "best" 470 (.ref 229)),(en P "__static_attributes__" 473 (.ref 230)),(en P "__dict__" 475 (.ref 233)),(en P "__weakref__" 477 (.ref 234)),(en P "__doc__" 478 .none)] 4), #[]⟩)::
(nat_lit 232,⟨(.type "type"),none,(.cls ⟨"Floor",[(.type "object")],[(.ref 232),(.type "object")],231,"Floor",true,[],[],false,none,false⟩), #[none,none,(some (.str "Floor" 372)),(some (.str "Floor" 380)),(some (.builtin "object.__new__")),(some (.bool true))]⟩)::
(nat_lit 240,dO "classes_by" "classes_by" 483 122 1 3 237 486)::
(nat_lit 241,fO "classes_by" "classes_by" (at_ 27) m3 240)::
(nat_lit 245,dO "first_classes" "first_classes" 489 124 1 3 242 492)::
(nat_lit 246,fO "first_classes" "first_classes" (at_ 28) m3 245)::
(nat_lit 252,cO "pairs_of" "pairs_of" 495 126 3 3 247 504)::
(nat_lit 253,fO "pairs_of" "pairs_of" (at_ 29) m3 252)::
(nat_lit 257,dO "next_classes" "next_classes" 507 135 2 3 254 510)::
(nat_lit 258,fO "next_classes" "next_classes" (at_ 30) m3 257)::
(nat_lit 264,cO "parted" "parted" 513 137 1 3 259 519)::
(nat_lit 265,fO "parted" "parted" (at_ 31) m3 264)::
(nat_lit 269,dO "joined_row" "joined_row" 522 144 4 3 266 525)::
(nat_lit 270,fO "joined_row" "joined_row" (at_ 32) m3 269)::
(nat_lit 274,dO "together" "together" 528 152 1 3 271 531)::
(nat_lit 275,fO "together" "together" (at_ 33) m3 274)::
(nat_lit 281,cO "_law_far" "_law_far" 536 158 2 3 276 541)::
(nat_lit 282,fO "_law_far" "_law_far" (at_ 35) m4 281)::
(nat_lit 288,cO "_law_number" "_law_number" 544 160 2 3 283 551)::
(nat_lit 289,fO "_law_number" "_law_number" (at_ 36) m4 288)::
(nat_lit 295,cO "_law_rest" "_law_rest" 554 166 2 3 290 560)::
(nat_lit 296,fO "_law_rest" "_law_rest" (at_ 37) m4 295)::
(nat_lit 302,cO "_law_lowest" "_law_lowest" 563 171 2 3 297 570)::
(nat_lit 303,fO "_law_lowest" "_law_lowest" (at_ 38) m4 302)::
(nat_lit 309,cO "_law_pay" "_law_pay" 573 177 1 3 304 578)::
(nat_lit 310,fO "_law_pay" "_law_pay" (at_ 39) m4 309)::
(nat_lit 314,dO "_law_row_of_places" "_law_row_of_places" 581 182 1 3 311 584)::
(nat_lit 315,fO "_law_row_of_places" "_law_row_of_places" (at_ 40) m4 314)::
(nat_lit 321,cO "_law_base" "_law_base" 587 186 1 3 316 602)::
(nat_lit 322,fO "_law_base" "_law_base" (at_ 41) m4 321)::
(nat_lit 326,dO "_law_origin" "_law_origin" 605 207 2 3 323 608)::
(nat_lit 327,fO "_law_origin" "_law_origin" (at_ 42) m4 326)::
(nat_lit 333,cO "_law_piece" "_law_piece" 611 212 3 3 328 619)::
(nat_lit 334,fO "_law_piece" "_law_piece" (at_ 43) m4 333)::
(nat_lit 338,dO "_law_copy" "_law_copy" 622 219 4 3 335 625)::
(nat_lit 339,fO "_law_copy" "_law_copy" (at_ 44) m4 338)::
(nat_lit 345,cO "_law_spoilt" "_law_spoilt" 628 241 2 3 340 641)::
(nat_lit 346,fO "_law_spoilt" "_law_spoilt" (at_ 45) m4 345)::
(nat_lit 352,cO "_law_part_of" "_law_part_of" 644 257 3 3 347 653)::
(nat_lit 353,fO "_law_part_of" "_law_part_of" (at_ 46) m4 352)::
(nat_lit 359,cO "_law_share" "_law_share" 656 266 1 3 354 661)::
(nat_lit 360,fO "_law_share" "_law_share" (at_ 47) m4 359)::
(nat_lit 364,dO "_law_put" "_law_put" 664 269 2 3 361 667)::
(nat_lit 365,fO "_law_put" "_law_put" (at_ 48) m4 364)::
(nat_lit 369,dO "law" "law" 670 279 1 3 366 673)::
(nat_lit 370,fO "law" "law" (at_ 49) m4 369)::[]
noncomputable abbrev H:Hook:=kHook K [2,3,30,31,44,56,75,83,84,90,91,97,98,99,105,106,112,113,119,120,124,125,129,130,134,135,141,142,148,149,160,161,167,168,174,175,181,182,188,189,195,196,200,201,231,232,240,241,245,246,252,253,257,258,264,265,269,270,274,275,281,282,288,289,295,296,302,303,309,310,314,315,321,322,326,327,333,334,338,339,345,346,352,353,359,360,364,365,369,370] (λ_=>by kernel_rfl)
abbrev Xt:Shared->Bool:=λs=>xlAt q [] s&&recOk (RowW.records row.toRowW) s
theorem SA{A B C:Type}{o:Option C}{f:C->A}{g:C->B}{a:A}{b:B}(h:o.map f=some a)(k:o.map g=some b):o.map (λs=>(f s,g s))=some (a,b):=by
  cases o with
  | none=>exact nomatch h
  | some c=>injection h with h;injection k with k;subst h;subst k;rfl
section
variable{A B C D E F G X:Type}{o:Option X}{f:X->A×B×C×D×E×F×G}{t:A×B×C×D×E×F×G}
def p1:A×B×C×D×E×F×G->A
  | (a,_,_,_,_,_,_)=>a
def p2:A×B×C×D×E×F×G->B×C
  | (_,b,c,_,_,_,_)=>(b,c)
def p3:A×B×C×D×E×F×G->D
  | (_,_,_,d,_,_,_)=>d
def p5:A×B×C×D×E×F×G->E
  | (_,_,_,_,e,_,_)=>e
def p6:A×B×C×D×E×F×G->F
  | (_,_,_,_,_,f,_)=>f
def p4:A×B×C×D×E×F×G->G
  | (_,_,_,_,_,_,g)=>g
theorem pr(h:o.map (λx=>p1 (f x))=some t.1)(g:o.map (λx=>p2 (f x))=some (t.2.1,t.2.2.1))(k:o.map (λx=>p3 (f x))=some t.2.2.2.1)(k1:o.map (λx=>p5 (f x))=some t.2.2.2.2.1)(k2:o.map (λx=>p6 (f x))=some t.2.2.2.2.2.1)(l:o.map (λx=>p4 (f x))=some t.2.2.2.2.2.2):o.map f=some t:=by
  cases o with
  | none=>exact nomatch h
  | some x=>
    replace h:p1 (f x)=t.1:=aaA h;replace g:p2 (f x)=(t.2.1,t.2.2.1):=aaA g;replace k:p3 (f x)=t.2.2.2.1:=aaA k;replace k1:p5 (f x)=t.2.2.2.2.1:=aaA k1;replace k2:p6 (f x)=t.2.2.2.2.2.1:=aaA k2;replace l:p4 (f x)=t.2.2.2.2.2.2:=aaA l;show some (f x)=some t;revert h g k k1 k2 l;generalize f x=u;obtain ⟨a,b,c,d,e,f',y⟩:=u;obtain ⟨a',b',c',d',e',WL,y'⟩:=t;intro h g k k1 k2 l;cases (h:a=a');cases (g:(b,c)=(b',c'));cases (k:d=d');cases (k1:e=e');cases (k2:f'=WL);cases (l:y=y');rfl
end
def OV{A B:Type}(o:Option A)(c:A->Bool)(T:A->Option B):Option (A×B):=o.bind λa=>match c a with
  | true=>(T a).map λb=>(a,b)
  | false=>none
def ON {A B:Type} (o:Option A) (c:A->Bool) (T:A->Option B) (k:A->B->Bool):Option B:=o.bind λa=>match c a with
  | true=>(T a).bind λb=>match k a b with
    | true=>some b
    | false=>none
  | false=>none
theorem Tg {A B C:Type} {o:Option A} {c:A->Bool} {T:A->Option B} {k:A->B->Bool} {g:B->C} {v:C} (h:(OV o c T).map (λx=>k x.1 x.2)=some true) (l:(OV o c T).map (λx=>g x.2)=some v):(ON o c T k).map g=some v:=by
  unfold OV at h l;unfold ON;cases o with
  | none=>exact nomatch h
  | some a=>
    dsimp only [Option.bind] at h l⊢;cases hc:c a with
    | false=>rw [hc] at h;exact nomatch h
    | true=>
      rw [hc] at h l;dsimp only at h l⊢;cases hT:T a with
      | none=>rw [hT] at h;exact nomatch h
      | some b=>
        rw [hT] at h l;injection h with h;injection l with l
        dsimp only [Option.bind];rw [show k a b=true from h];exact aa3 some l
noncomputable abbrev oA(p:Program)(w:World)(N:Nat):Option Shared:=(Fast.tw10274390034422433532 Fast.tw14364793385576792824 (opening p) w N (Fast.tw1435165496053646825 (opening p)).1 (Fast.tw1435165496053646825 (opening p)).2).bind (fenceModules? p)
abbrev cA(s:Shared):Bool:=s.heap.isNs mainGlobals&&s.gens.size==0
noncomputable abbrev tA(p:Program)(w:World)(N:Nat)(s₀:Shared):Option Shared:=Fast.tw14082659384304107361 Fast.tw14364793385576792824 p w s₀.heap.objs.size (s₀.heap.nsMap mainGlobals "__annotations__") N s₀ (topStub p)
abbrev kA(p:Program)(s₀ s₁:Shared):Bool:=staticsOk (importedModules p.main.body) s₀.heap s₁.heap&&namesBound p s₁.heap&&gensDone s₁&&laidKept s₀.heap s₁.heap
theorem oe(p:Program)(w:World)(N:Nat):openEnds treeTable p w N=ON (oA p w N) cA (tA p w N) (kA p):=by unfold openEnds fencedOpening topFrom ON oA tA;rewrite [Fast.te14082659384304107361,Fast.te14364793385576792824,Fast.te10274390034422433532,Fast.te1435165496053646825];rfl
noncomputable abbrev go(w:World):=OV (oA row.prog w 5128) cA (tA row.prog w 5128)
abbrev gd:=openGood q []
noncomputable abbrev sn(x:Shared×Shared):=Fast.tw4187177175401517315 q [] (importedModules row.prog.main.body) Xt true x.2
theorem la(w:World):(go w).map (λx=>p1 (sn x))=some gd.1:=by kernel_rfl
theorem lb(w:World):(go w).map (λx=>p2 (sn x))=some (gd.2.1,gd.2.2.1):=by kernel_rfl
theorem lc(w:World):(go w).map (λx=>p3 (sn x))=some gd.2.2.2.1:=by kernel_rfl
theorem le(w:World):(go w).map (λx=>p5 (sn x))=some gd.2.2.2.2.1:=by kernel_rfl
theorem lg(w:World):(go w).map (λx=>p6 (sn x))=some gd.2.2.2.2.2.1:=by kernel_rfl
theorem ld(w:World):(go w).map (λx=>p4 (sn x))=some gd.2.2.2.2.2.2:=by kernel_rfl
theorem lk(w:World):(go w).map (λx=>kA row.prog x.1 x.2)=some true:=by kernel_rfl
theorem lo(w:World):(go w).map (λx=>H.obs x.2)=some (H.val w):=by kernel_rfl
theorem Oq(w:World):(openEnds treeTable row.prog w 5128).map (openSeen q [] (importedModules row.prog.main.body) Xt true)=some gd:=by rewrite [oe,Fast.te4187177175401517315];exact Tg (lk w) (pr (la w) (lb w) (lc w) (le w) (lg w) (ld w))
theorem Np(w:World):(openEnds treeTable row.prog w 5128).map H.obs=some (H.val w):=by rewrite [oe];exact Tg (lk w) (lo w)
theorem left:LeftO row.prog q [] Xt H.obs H.val 5128:=λw=>SA (Oq w) (Np w)
end Hd
theorem fI:2<=PySem.sizeLine:=by decide
abbrev fv:=PySem.W.Frag
namespace L2
open PySem PySem.Spec PyProof.Rows
variable{us:List Value}{a b dx C:Addr}{P prog:Program}{w:World}{h h' base:Heap}{δ:List (Addr×Obj)}{s:Shared}{g':Array GenState}{ch fp:List Addr}{i k:Nat}{x:Str}{M:Model}{A:Around}{E Q:Value->Shared->Prop}{u:Value}{pos:Pos}{e c tg:Expr}{es:List Expr}{body:List Stmt}{f:Value->Value->Sem Value}{op:CmpOp}{mA mg:Str->Option Value}{kw:List (Str×Value)}{outer:List Env}{ps:List Str}
abbrev Key:=Sum Int Str
def rD:Key->Value->Bool
 | .inl k,v=>Value.isInt k v
 | .inr x,v=>Value.isStrOf x v
def Q5(w:World):Key->Int
 | .inl k=>hashInt k
 | .inr x=>hashStr w x
theorem bc:∀{k:Key} {v:Value},rD k v=true->(∃i t,k=Sum.inl i/\v=Value.int i t)\/(∃x t,k=Sum.inr x/\v=Value.str x t)
 | .inl i,v,h=>by obtain ⟨t,e⟩:=Value.isInt_shape (k:=i) (v:=v) h;exact .inl ⟨i,t,rfl,e⟩
 | .inr x,v,h=>by obtain ⟨t,e⟩:=Value.isStrOf_shape (x:=x) (v:=v) h;exact .inr ⟨x,t,rfl,e⟩
theorem Az(i:Int)(t:Tok):rD (.inl i) (.int i t)=true:=by simp [rD,Value.isInt]
theorem Ah(x:Str)(t:Tok):rD (.inr x) (.str x t)=true:=by simp [rD,Value.isStrOf]
theorem Jt(a b:Int):decide ((Sum.inl a:Key)=Sum.inl b)=(a==b):=by
 by_cases e:a=b
 ·subst e;simp
 ·have h:¬(Sum.inl a:Key)=Sum.inl b:=λq=>e (Sum.inl.inj q);rw [aaK h];exact (beq_eq_false_iff_ne.mpr e).symm
theorem Jd(a b:Str):decide ((Sum.inr a:Key)=Sum.inr b)=decide (a=b):=by
 by_cases e:a=b
 ·subst e;simp
 ·have h:¬(Sum.inr a:Key)=Sum.inr b:=λq=>e (Sum.inr.inj q);rw [aaK h,aaK e]
theorem KH(a:Int)(b:Str):decide ((Sum.inl a:Key)=Sum.inr b)=false:=aaK (λq=>nomatch q)
theorem JD(a:Str)(b:Int):decide ((Sum.inr a:Key)=Sum.inl b)=false:=aaK (λq=>nomatch q)
def aY(prog:Program)(w:World):PySem.KeyKind prog w Key where
 is:=rD
 hash:=Q5 w
 inj:=λv a b ha hb=>by
  rcases bc ha with ⟨i,t,rfl,rfl⟩ | ⟨x,t,rfl,rfl⟩
  ·rcases bc hb with ⟨j,u,rfl,e⟩ | ⟨y,u,rfl,e⟩
   ·injection e with e1 _;rw [e1]
   ·exact nomatch e
  ·rcases bc hb with ⟨j,u,rfl,e⟩ | ⟨y,u,rfl,e⟩
   ·exact nomatch e
   ·injection e with e1 _;rw [e1]
 byValue:=λk v h=>by rcases bc h with ⟨i,t,rfl,rfl⟩ | ⟨x,t,rfl,rfl⟩ <;> rfl
 pyHash:=λhv h=>by
  rcases bc hv with ⟨i,t,rfl,rfl⟩ | ⟨x,t,rfl,rfl⟩
  ·exact wpAny_pyHash_int h
  ·exact wpAny_pyHash_str h
 eqBool:=λhu hv h=>by
  rcases bc hu with ⟨i,t,rfl,rfl⟩ | ⟨x,t,rfl,rfl⟩
  ·rcases bc hv with ⟨j,u,rfl,rfl⟩ | ⟨y,u,rfl,rfl⟩
   ·rw [Jt] at h;exact wpAny_eqBool_int h
   ·rw [KH] at h;exact SeqAt.EqAt.int_str i t y u _ _ _ _ h
  ·rcases bc hv with ⟨j,u,rfl,rfl⟩ | ⟨y,u,rfl,rfl⟩
   ·rw [JD] at h;exact SeqAt.EqAt.str_int x t j u _ _ _ _ h
   ·rw [Jd] at h;exact wpAny_eqBool_str h
 «strs»:=λk x t v h=>by
  rcases bc h with ⟨i,u,rfl,e⟩ | ⟨y,u,rfl,e⟩
  ·exact nomatch e
  ·injection e with e1 _
   subst e1;cases v <;> rfl
theorem u6(prog:Program)(w:World)(i:Int)(t:Tok):(aY prog w).is (.inl i) (.int i t)=true:=Az i t
theorem vx(prog:Program)(w:World)(x:Str)(t:Tok):(aY prog w).is (.inr x) (.str x t)=true:=Ah x t
inductive V where
 | bf | bl (b:Bool) | int (i:Int) | str (x:Str) | A' (b:Array UInt8) | JH (b:UInt64) | ref (a:Addr) | ty (n:String)
 deriving DecidableEq
variable{v:V}
def Ω:V->Value->Prop
 | .bf,u=>u=Value.none
 | .bl b,u=>u=Value.bool b
 | .int i,u=>∃t,u=Value.int i t
 | .str x,u=>∃t,u=Value.str x t
 | .A' b,u=>∃t,u=Value.bytes b t
 | .JH b,u=>∃t,u=Value.float b t
 | .ref a,u=>u=Value.ref a
 | .ty n,u=>u=Value.type n
abbrev Ψ:List V->List Value->Prop:=Paired Ω
theorem Ψ.length{xs:List V}(r:Ψ xs us):xs.length=us.length:=Paired.length r
theorem Ψ.get:∀{xs:List V} {us:List Value} {i:Nat} {x:V},Ψ xs us->xs[i]? =some x->∃u,us[i]? =some u/\Ω x u
 | _,_,_,_, .nil,e=>by simp at e
 | _,_,0,_, .cons r _,e=>by simp at e;subst e;exact ⟨_,rfl,r⟩
 | _,_,i+1,x, .cons _ t,e=>by obtain ⟨u,h1,h2⟩:=Ψ.get (i:=i) (x:=x) t (by simpa using e);exact ⟨u,by simpa using h1,h2⟩
theorem Ψ.append:∀{xs ys:List V} {us ws:List Value},Ψ xs us->Ψ ys ws->Ψ (xs++ys) (us++ws)
 | _,_,_,_, .nil,s=>s
 | _,_,_,_, .cons r t,s=> .cons r (Ψ.append t s)
theorem Ψ.take:∀{xs:List V} {us:List Value} (n:Nat),Ψ xs us->Ψ (xs.take n) (us.take n)
 | _,_,0,_=> .nil
 | _,_,_+1, .nil=> .nil
 | _,_,n+1, .cons r t=> .cons r (Ψ.take n t)
theorem Ψ.drop:∀{xs:List V} {us:List Value} (n:Nat),Ψ xs us->Ψ (xs.drop n) (us.drop n)
 | _,_,0,r=>r
 | _,_,_+1, .nil=> .nil
 | _,_,n+1, .cons _ t=>Ψ.drop n t
def iY:Option V->Option Value->Prop
 | some v,some u=>Ω v u
 | none,none=>True
 | _,_=>False
def KV{κ:Type}:List (κ×V)->List (κ×Value)->Prop:=Paired λ(p:κ×V) (q:κ×Value)=>p.1=q.1/\Ω p.2 q.2
def kV:Key->V
 | .inl i=> .int i
 | .inr x=> .str x
inductive HO where
 | lst (xs:List V)
 | tup (xs:List V)
 | dK (Κ:List (Key×V)) | dT (Κ:List (List Key×V))
 | set (S:Int->Bool) (n:Nat)
 | ins (C dx:Addr) (fs:List (Str×V))
 | own (x:Addr)
 | xd (fs:List (Str×V))
 | met (f x:Addr)
 | Hf (lo hi:Int)
 | uH (o:Obj) (u:HO)
 | EW (ps:Array Value)
 | ext (φ:Heap->Prop)
variable{o:HO}
abbrev Hp:=Addr->Option HO
def upd(H:Hp)(a:Addr)(o:HO):Hp:=λb=>if b=a then some o else H b
theorem Ο{H:Hp}:upd H a o a=some o:=by unfold upd;rw [if_pos rfl]
theorem Β{H:Hp}(h:b≠a):upd H a o b=H b:=by unfold upd;rw [if_neg h]
theorem bt{H:Hp}(h:H a=some o)(h':H b=none):a≠b:=by intro e;subst e;rw [h] at h';cases h'
section
variable(P:Program)(w:World)
def aO(H:Hp)(h:Heap)(a:Addr):HO->Prop
 | .lst xs=>xs.length<=sizeLine/\∃(its:List Value) (n:Nat),Ψ xs its/\h.get? a=some {cls:= .type "list",data:= .seq its.toArray n}
 | .tup xs=>xs.length<=sizeLine/\∃its:List Value,Ψ xs its/\IsTup h a its.toArray
 | .dK Κ=>Κ.length<=sizeLine/\(a==sysModules)=false/\∃vs,KV Κ vs/\h.DictOf (aY P w) a vs
 | .dT Κ=>Κ.length<=sizeLine/\(a==sysModules)=false/\∃xs:List (List Key×Addr×Value),
   Paired (λ(p:List Key×V) (q:List Key×Addr×Value)=>p.1=q.1/\H q.2.1=some (.tup (p.1.map kV))/\Ω p.2 q.2.2) Κ xs/\
   ∃o es ep,h.get? a=some o/\o.ExactDict/\o.data= .dict es ep/\es.toList=xs.map (entryOfKey (tupleKind (aY P w)))/\(xs.map (·.1)).Nodup
 | .set S n=>h.SetOf (intKind P w) a S n
 | .ins C dx fs=>H dx=some (.own a)/\fs.length<=1000/\dx≠a/\h.get? a=some (PySem.W.instObj C dx)/\
   ∃mA,h.Ns1 dx mA/\(∀f,iY (fs.lookup f) (mA f))/\PySem.Within mA (fs.map (·.1))
 | .own _=>∃o,h.get? a=some o
 | .xd fs=>∃mA,h.Ns1 a mA/\∀f,iY (fs.lookup f) (mA f)
 | .Hf lo hi=>∃t u v,h.get? a=some {cls:= .type "range",data:= .fields #[.int lo t, .int hi u, .int 1 v]}
 | .uH o u=>h.get? a=some o/\aO H h a u
 | .EW ps=>h.get? a=some {cls:= .none,data:= .fields ps}
 | .met f x=>h.get? a=some (PySem.W.methodObj (.ref f) (.ref x))
 | .ext φ=>φ h/\(∃o,h.get? a=some o)/\∀h1 h2:Heap,φ h1->(∀o,h1.get? a=some o->h2.get? a=some o)->φ h2
def iW(H:Hp)(h:Heap):Prop:=∀a o,H a=some o->aO P w H h a o
end
section
variable{H H':Hp}
theorem aO.lt(x:aO P w H h a o):a < h.objs.size:=by
 cases o with
 | lst xs=>obtain ⟨_,_,_,_,e⟩:=x;exact aap e
 | tup xs=>obtain ⟨_,_,_,p⟩:=x;exact p.lt
 | dK Κ=>obtain ⟨_,_,_,_,o,_,_,e,_⟩:=x;exact aap e
 | dT Κ=>obtain ⟨_,_,_,_,o,_,_,e,_⟩:=x;exact aap e
 | set S n=>obtain ⟨o,_,_,_,e,_⟩:=x;exact aap e
 | ins C dx fs=>obtain ⟨_,_,_,e,_⟩:=x;exact aap e
 | own y=>obtain ⟨_,e⟩:=x;exact aap e
 | xd fs=>obtain ⟨_,⟨_,_,_,e,_⟩,_⟩:=x;exact aap e
 | Hf lo hi=>obtain ⟨_,_,_,e⟩:=x;exact aap e
 | uH ob u=>obtain ⟨e,_⟩:=x;exact aap e
 | EW ps=>exact aap (show h.get? a=some _ from x)
 | met f y=>exact aap (show h.get? a=some _ from x)
 | ext φ=>obtain ⟨_,⟨_,e⟩,_⟩:=x;exact aap e
theorem Paired.MK{α β:Type}{F G:α->β->Prop}:∀{l₁:List α} {l₂:List β},Paired F l₁ l₂->(∀a b,F a b->G a b)->Paired G l₁ l₂
 | _,_, .nil,_=> .nil
 | _,_, .cons r t,f=> .cons (f _ _ r) (Paired.MK t f)
theorem aO.zU(x:aO P w H h a o)(k:∀b u,(b=a\/H b=some (.own a))->h.get? b=some u->h'.get? b=some u)
  (ho:∀b,H b=some (.own a)->H' b=some (.own a)) (ht:∀b xs,H b=some (.tup xs)->H' b=some (.tup xs)):aO P w H' h' a o:=by
 induction o with
 | lst xs=>obtain ⟨z,its,n,r,e⟩:=x;exact ⟨z,its,n,r,k _ _ (.inl rfl) e⟩
 | tup xs=>obtain ⟨z,its,r,ob,e,c⟩:=x;exact ⟨z,its,r,ob,k _ _ (.inl rfl) e,c⟩
 | dK Κ=>obtain ⟨z,y,vs,r,ob,es,ep,e,c⟩:=x;exact ⟨z,y,vs,r,ob,es,ep,k _ _ (.inl rfl) e,c⟩
 | dT Κ=>
  obtain ⟨z,y,xs,r,ob,es,ep,e,c⟩:=x;exact ⟨z,y,xs,Paired.MK r λp q z=>⟨z.1,ht _ _ z.2.1,z.2.2⟩,ob,es,ep,k _ _ (.inl rfl) e,c⟩
 | set S n=>obtain ⟨ob,es,ep,t,e,c⟩:=x;exact ⟨ob,es,ep,t,k _ _ (.inl rfl) e,c⟩
 | ins C dx fs=>
  obtain ⟨d,z,ne,e,mA,⟨od,es,ep,e2,c⟩,r⟩:=x;exact ⟨ho _ d,z,ne,k _ _ (.inl rfl) e,mA,⟨od,es,ep,k _ _ (.inr d) e2,c⟩,r⟩
 | own y=>obtain ⟨ob,e⟩:=x;exact ⟨ob,k _ _ (.inl rfl) e⟩
 | xd fs=>obtain ⟨mA,⟨od,es,ep,e,c⟩,r⟩:=x;exact ⟨mA,⟨od,es,ep,k _ _ (.inl rfl) e,c⟩,r⟩
 | Hf lo hi=>obtain ⟨t,u,v,e⟩:=x;exact ⟨t,u,v,k _ _ (.inl rfl) e⟩
 | uH ob u ih=>obtain ⟨e,q⟩:=x;exact ⟨k _ _ (.inl rfl) e,ih q⟩
 | EW ps=>
  have e:h.get? a=some {cls:= .none,data:= .fields ps}:=x;show h'.get? a=some {cls:= .none,data:= .fields ps};exact k a _ (.inl rfl) e
 | met f y=>
  have e:h.get? a=some (PySem.W.methodObj (.ref f) (.ref y)):=x;show h'.get? a=some (PySem.W.methodObj (.ref f) (.ref y));exact k a _ (.inl rfl) e
 | ext φ=>obtain ⟨p,⟨o,e⟩,st⟩:=x;exact ⟨st _ _ p λo q=>k _ _ (.inl rfl) q,⟨o,k _ _ (.inl rfl) e⟩,st⟩
theorem iW.lt(x:iW P w H h)(e:H a=some o):a < h.objs.size:=(x a o e).lt
theorem iW.fresh(x:iW P w H h)(e:h.objs.size<=a):H a=none:=by
 cases q:H a with
 | none=>rfl
 | some u=>exact aaH (aaC (x.lt q) e) (abl _)
theorem iW.kept(x:iW P w H h)(k:∀b u,h.get? b=some u->h'.get? b=some u):iW P w H h':=λa o e=>
 (x a o e).zU (λb u _ q=>k b u q) (λ_ q=>q) λ_ _ q=>q
theorem iW.laid(x:iW P w H h)(k:∀b u,h.get? b=some u->h'.get? b=some u)(hp:h.objs.size<=a)(new:aO P w (upd H a o) h' a o):iW P w (upd H a o) h':=λb u e=>by
 have hn:=x.fresh hp;by_cases hb:b=a
 ·subst hb;rw [Ο] at e;cases e;exact new
 ·rw [Β hb] at e;exact (x b u e).zU (λc v _ q=>k c v q) (λc q=>by rw [Β (bt q hn)];exact q) λc xs q=>by rw [Β (bt q hn)];exact q
end
def Rd(H:Hp)(a:Addr)(u:HO):Prop:=H a=some u\/∃o,H a=some (.uH o u)
theorem Rd.of{H:Hp}{u:HO}(h:H a=some u):Rd H a u:= .inl h
theorem Rd.ok{H:Hp}{u:HO}(r:Rd H a u)(x:iW P w H h):aO P w H h a u:=by
 rcases r with r | ⟨o,r⟩
 ·exact x a u r
 ·obtain ⟨_,q⟩:=x a _ r;exact q
def Ls:Option HO->Prop
 | some (.lst _)=>True
 | some (.dK _)=>True
 | some (.dT _)=>True
 | some (.set _ _)=>True
 | some (.ins _ _ _)=>True
 | some (.ext _)=>True
 | _=>False
section
variable{H:Hp}{x e:Addr}{o':HO}
theorem iW.write(ok:iW P w H h)(mu:Ls (H x))(he:e=x\/H e=some (.own x))(k:∀b u,b≠e->h.get? b=some u->h'.get? b=some u)(Lq:∃u,h'.get? e=some u)
  (new:aO P w (upd H x o') h' x o'):iW P w (upd H x o') h':=λb u q=>by
 have Mn:∀c y,H c=some (.own y)->c≠x:=λc y r z=>by subst z;rw [r] at mu;exact mu
 have QA:∀c xs,H c=some (.tup xs)->c≠x:=λc xs r z=>by subst z;rw [r] at mu;exact mu
 by_cases hb:b=x
 ·subst hb;rw [Ο] at q;cases q;exact new
 ·rw [Β hb] at q;by_cases Fu:b=e
  ·have q':H b=some (.own x):=by
    rcases he with z | z
    ·exact aaH (Fu.trans z) hb
    ·rw [Fu];exact z
   rw [q] at q';cases q';obtain ⟨v,hv⟩:=Lq;exact ⟨v,by rw [Fu];exact hv⟩
  ·refine (ok b u q).zU (λc v hc r=>k c v ?_ r) (λc r=>by rw [Β (Mn c b r)];exact r) λc xs r=>by rw [Β (QA c xs r)];exact r
   rcases hc with rfl | hc
   ·exact Fu
   ·rintro rfl;rcases he with z | z
    ·exact Mn c b hc z
    ·rw [hc] at z;cases z;exact hb rfl
end
structure Un(fs ex:List Addr)(H H':Hp)(h h':Heap):Prop where
 keep:∀b o,h.get? b=some o->H b=none->b∉fs->b∉ex->h'.get? b=some o
 slot:∀b o,h.get? b=some o->H b=none->b∈fs->b∉ex->∃sl,h'.get? b=some {o with slots:=sl}
 free:∀b o,h.get? b=some o->H b=none->b∉ex->H' b=none
 there:∀b o,h.get? b=some o->b∉ex->∃o',h'.get? b=some o'
 mQ:∀b xs,H b=some (.tup xs)->H' b=some (.tup xs)
 lB:∀b o u,H b=some (.uH o u)->H' b=some (.uH o u)
 mR:∀b ps,H b=some (.EW ps)->∃more,H' b=some (.EW (ps++more))
section
variable{fs Su ex Fc:List Addr}{H H1 H2:Hp}{h1 h2:Heap}{x e:Addr}
theorem Un.any(u:Un fs ex H H1 h h1){ob:Obj}(q:h.get? b=some ob)(n:H b=none)(hx:b∉ex):∃sl,h1.get? b=some {ob with slots:=sl}:=by
 by_cases hb:b∈fs
 ·exact u.slot b ob q n hb hx
 ·exact ⟨ob.slots,u.keep b ob q n hb hx⟩
theorem Un.kept(k:∀b u,h.get? b=some u->h'.get? b=some u):Un fs ex H H h h':=
 ⟨λb ob q _ _ _=>k b ob q,λb ob q _ _ _=>⟨ob.slots,k b ob q⟩,λ_ _ _ n _=>n,λb ob q _=>⟨ob,k b ob q⟩,λ_ _ q=>q,λ_ _ _ q=>q,λ_ ps q=>⟨#[],by rw [q];simp⟩⟩
theorem Un.refl:Un fs ex H H h h:=Un.kept λ_ _ q=>q
theorem Un.laid(k:∀b u,h.get? b=some u->h'.get? b=some u)(hp:h.objs.size<=a)(hn:H a=none):Un fs ex H (upd H a o) h h' where
 keep:=λb u q _ _ _=>k b u q
 slot:=λb u q _ _ _=>⟨u.slots,k b u q⟩
 free:=λb u q n _=>by rw [Β (aaG (aaC (aap q) hp))];exact n
 there:=λb u q _=>⟨u,k b u q⟩
 mQ:=λb xs q=>by rw [Β (bt q hn)];exact q
 lB:=λb u xs q=>by rw [Β (bt q hn)];exact q
 mR:=λb ps q=>⟨#[],by rw [Β (bt q hn),q];simp⟩
theorem Un.write(mu:Ls (H x))(he:e=x\/H e=some (.own x))(k:∀b u,b≠e->h.get? b=some u->h'.get? b=some u)(Lq:∃u,h'.get? e=some u):Un fs ex H (upd H x o) h h':=by
 have hx:∀b,H b=none->b≠x:=λb n z=>by subst z;rw [n] at mu;exact mu
 have hb:∀b,H b=none->b≠e:=λb n z=>by
  subst z;rcases he with r | r
  ·exact hx b n r
  ·rw [n] at r;cases r
 have hm:∀b u,H b=some u->¬Ls (some u)->b≠x:=λb u q nm z=>by subst z;rw [q] at mu;exact nm mu
 refine ⟨λb u q n _ _=>k b u (hb b n) q,λb u q n _ _=>⟨u.slots,k b u (hb b n) q⟩,λb u q n _=>by rw [Β (hx b n)];exact n,λb u q _=> ?_,
  λb xs q=>by rw [Β (hm b _ q λz=>z)];exact q,λb u xs q=>by rw [Β (hm b _ q λz=>z)];exact q,λb ps q=>⟨#[],by rw [Β (hm b _ q λz=>z),q];simp⟩⟩
 by_cases Fu:b=e
 ·subst Fu;exact Lq
 ·exact ⟨u,k b u Fu q⟩
end
def O6(h:Heap)(H:Hp):List Addr:=(List.range h.objs.size).filter λa=>(H a).isSome
def rX(h:Heap)(H:Hp):Heap:=PySem.W.hideAll h (O6 h H)
theorem zC(h:Heap)(H:Hp):(rX h H).objs.size=h.objs.size:=PySem.W.hideAll_size _ _
theorem Dg{H:Hp}{o:Obj}(e:h.get? b=some o)(n:H b=none):(rX h H).get? b=some o:=
 PySem.W.hideAll_get _ e λhm=>by have q:(H b).isSome=true:=(List.mem_filter.mp hm).2;rw [n] at q;simp at q
theorem Fb{H:Hp}{o:Obj}(e:(rX h H).get? b=some o):h.get? b=some o/\H b=none:=by
 have e':h.get? b=some o:=PySem.W.of_hideAll (O6 h H) e;refine ⟨e', ?_⟩;cases q:H b with
 | none=>rfl
 | some x=>
  have hm:b∈O6 h H:=List.mem_filter.mpr ⟨List.mem_range.mpr (Heap.lt_size e'),by simp [q]⟩;have z:(rX h H).get? b=none:=PySem.W.hideAll_none (O6 h H) hm;rw [z] at e;cases e
structure Mod(K:fv)(mg:Str->Option Value)(base:Heap):Prop where
 Nu:K.In base
 glob:base.Ns mainGlobals mg
 blt:∃mb,base.Ns builtinsNs mb/\∀x:Str,x≠"__name__"->mb x=bootBuiltins x
 nolimit:base.NoLimit
structure Cx where
 prog:Program
 w:World
 K:fv
 mg:Str->Option Value
 base:Heap
 A:Around
 N:List Str
 s₀:Shared
 H₀:Hp
 env:Env
 outer:List Env
 stack:List Env
 ex:List Addr
 fn:Str->Bool
 calm:Bool
 pn:List (Addr×Obj)
 xe:Value->Shared->Prop
variable{X:Cx}
def m5(l:List Env):List Addr:=l.filterMap (·.frame)
abbrev Cx.fs(X:Cx):List Addr:=m5 X.outer
def PU(sc:Scope)(x:Str):Prop:=sc.names.lookup x=some .local\/sc.names.lookup x=some .cell\/sc.names.lookup x=some .free
def Loc(sc:Scope)(x:Str):Prop:=sc.names.lookup x=some .local\/sc.names.lookup x=some .cell
def SD(env:Env)(h:Heap)(m:Str->Option Value)(x:Str)(u:Value):Prop:=
 (env.kindOf x=some .local/\m x=some u)\/((env.kindOf x=some .cell\/env.kindOf x=some .free)/\∃c,env.cells.lookup x=some c/\h.IsCell c (some u))
structure Cx.Ok(X:Cx):Prop where
 mod:Mod X.K X.mg X.base
 kind:X.env.scope.kind= .function
 glob:X.env.globals=mainGlobals
 blt:X.env.builtins=builtinsNs
 above:X.s₀.heap.objs.size<=X.env.locals
 inj:∀x y c,X.env.cells.lookup x=some c->X.env.cells.lookup y=some c->x=y
 has:∀x,(X.env.kindOf x=some .cell\/X.env.kindOf x=some .free)->∃c,X.env.cells.lookup x=some c
 RO:∀x c,X.fn x=true->X.env.cells.lookup x=some c->X.s₀.heap.objs.size<=c
 hd:X.calm=true->X.A.handled=none
 frames:X.A.frames=some X.stack
 SQ:X.stack=X.outer\/(X.stack=X.env::X.outer/\X.env.frame=some X.env.locals)
 S5:∀b∈X.ex,b≠X.env.locals/\∀x c,X.env.cells.lookup x=some c->c≠b
 bs:∀b o,X.base.get? b=some o->X.s₀.heap.get? b=some o/\X.H₀ b=none
 Lj:X.base.objs.size<=X.s₀.heap.objs.size
 Js:∀b o,X.base.get? b=some o->b∉X.ex
 Jl:∀b∈X.ex,b∉X.fs
 pX:X.s₀.heap.FunFrames X.base X.outer
 L_:∀b∈X.fs,X.H₀ b=none
structure Inv(X:Cx)(δ:List (Addr×Obj))(σ:List (Option V))(H:Hp)(s:Shared):Prop where
 ok:X.Ok
 os:s.os=X.s₀.os
 bare:AllBare s.gens
 base:Un X.fs X.ex X.H₀ H X.s₀.heap s.heap
 loc:∃m,s.heap.Ns X.env.locals m/\∀(i:Nat) (x:Str) (v:V),X.N[i]? =some x->σ[i]? =some (some v)->PU X.env.scope x->∃u,Ω v u/\SD X.env s.heap m x u
 cell:∀x c,X.env.cells.lookup x=some c->∃v,s.heap.IsCell c v
 free:H X.env.locals=none
 mz:∀x c,X.env.cells.lookup x=some c->H c=none
 pin:∀p∈X.pn++δ,s.heap.get? p.1=some p.2/\H p.1=none/\p.1≠X.env.locals/\p.1∉X.fs/\∀v,p.2.data≠ .cell v
 aJ:iW X.prog X.w H s.heap
 len:σ.length=X.N.length
section
variable{σ:List (Option V)}{H H':Hp}
theorem Cx.Ok.Qh(ok:X.Ok){o:Obj}(e:X.base.get? b=some o):b∉X.fs:=λhb=>by have:=(ok.pX.mem hb).1;rw [e] at this;cases this
theorem Inv.bs(I:Inv X δ σ H s):∀b o,X.base.get? b=some o->s.heap.get? b=some o/\H b=none:=λb o e=>
 ⟨I.base.keep b o (I.ok.bs b o e).1 (I.ok.bs b o e).2 (I.ok.Qh e) (I.ok.Js b o e),I.base.free b o (I.ok.bs b o e).1 (I.ok.bs b o e).2 (I.ok.Js b o e)⟩
theorem Inv.bk(I:Inv X δ σ H s):∀b o,X.base.get? b=some o->s.heap.get? b=some o:=λb o e=>(I.bs b o e).1
theorem Inv.mod(I:Inv X δ σ H s):Mod X.K X.mg X.base:=I.ok.mod
theorem Inv.mV(I:Inv X δ σ H s):X.K.In s.heap:=I.ok.mod.Nu.keeps I.bk
theorem Inv.lt(I:Inv X δ σ H s):X.env.locals < s.heap.objs.size:=let ⟨_,hn,_⟩:=I.loc;hn.lt
theorem Inv.sz(I:Inv X δ σ H s):X.s₀.heap.objs.size<=s.heap.objs.size:=aam I.ok.above (abR I.lt)
theorem Inv.Sd(I:Inv X δ σ H s)(h:s.heap.objs.size<=a):a∉X.fs:=λhb=>by obtain ⟨_,o,ho,_⟩:=I.ok.pX.mem hb;exact aaH (aaC (aap ho) (aam I.sz h)) (abl _)
theorem Inv.EZ(I:Inv X δ σ H s):∀x c,X.env.cells.lookup x=some c->c≠X.env.locals:=λx c e z=>by obtain ⟨v,o,ho,hd⟩:=I.cell x c e;obtain ⟨m,⟨o',es,ep,m_,eJ,_⟩,_⟩:=I.loc;rw [z,m_] at ho;cases ho;rw [eJ] at hd;cases hd
theorem Inv.pX(I:Inv X δ σ H s):s.heap.FunFrames X.base X.outer:=by
 have all:∀(l:List Env),(∀b∈m5 l,b∈X.fs)->X.s₀.heap.FunFrames X.base l->s.heap.FunFrames X.base l:=by
  intro l
  induction l with
  | nil=>intro _ _;trivial
  | cons env r ih=>
   intro hs hl;obtain ⟨hk,⟨L,o,hf,hn,ho,hd⟩,hr⟩:=hl;have hL:L∈X.fs:=hs L (by unfold m5;rw [List.filterMap_cons,hf];exact List.mem_cons_self);obtain ⟨sl,e⟩:=I.base.slot L o ho (I.ok.L_ L hL) hL λz=>I.ok.Jl L z hL;exact ⟨hk,⟨L,_,hf,hn,e,hd⟩,ih (λb hb=>hs b (by unfold m5;rw [List.filterMap_cons,hf];exact List.mem_cons_of_mem _ hb)) hr⟩
 exact all X.outer (λ_ hb=>hb) I.ok.pX
theorem Inv.stack(I:Inv X δ σ H s):s.heap.FunFrames X.base X.stack:=by
 rcases I.ok.SQ with e | ⟨e,hf⟩
 ·rw [e];exact I.pX
 ·rw [e];obtain ⟨m,hn,_⟩:=I.loc;refine .cons (by rw [I.ok.kind];decide) hf hn ?_ I.pX;exact Heap.get?_none_of_le (aam I.ok.Lj I.ok.above)
theorem Inv.sO(I:Inv X δ σ H s):∀b∈m5 X.stack,b∈X.env.locals::X.fs:=λb hb=>by
 rcases I.ok.SQ with e | ⟨e,hf⟩
 ·rw [e] at hb;exact aai _ hb
 ·rw [e] at hb;unfold m5 at hb;rw [List.filterMap_cons,hf] at hb;exact hb
theorem Inv.sC(I:Inv X δ σ H s):∀b∈m5 X.stack,H b=none:=λb hb=>by
 rcases aaz.mp (I.sO b hb) with e | hb
 ·rw [e];exact I.free
 ·obtain ⟨_,o,ho,_⟩:=I.ok.pX.mem hb;exact I.base.free b o ho (I.ok.L_ b hb) λz=>I.ok.Jl b z hb
theorem Inv.step{t':Nat}{d':Drawn}(I:Inv X δ σ H s)
  (yt:∀b∈ch,(b∈X.ex\/X.s₀.heap.objs.size<=b)/\b≠X.env.locals/\(∀x c,X.env.cells.lookup x=some c->c≠b)/\∀p∈X.pn++δ,p.1≠b)
  (keep:∀b o,b≠X.env.locals->b∉X.fs->b∉ch->s.heap.get? b=some o->H b=none->h'.get? b=some o)
  (slot:∀b o,b≠X.env.locals->b∈X.fs->b∉ch->s.heap.get? b=some o->H b=none->∃sl,h'.get? b=some {o with slots:=sl}) (free:∀b o,b∉ch->s.heap.get? b=some o->H b=none->H' b=none)
  (there:∀b o,b∉ch->s.heap.get? b=some o->∃o',h'.get? b=some o')
  (mQ:∀b xs,H b=some (.tup xs)->H' b=some (.tup xs)) (lB:∀b o u,H b=some (.uH o u)->H' b=some (.uH o u)) (mR:∀b ps,H b=some (.EW ps)->∃more,H' b=some (.EW (ps++more)))
  (ns:∀m,s.heap.Ns X.env.locals m->h'.Ns X.env.locals m) (aJ:iW X.prog X.w H' h') (hg:AllBare g'):
  Inv X δ σ H' {s with heap:=h',gens:=g',drawn:=d',toks:=t'}:=by
 have Tb:∀b o,X.s₀.heap.get? b=some o->b≠X.env.locals:=λb o e=>aaG (aaC (aap e) I.ok.above);have OZ:∀b o,X.s₀.heap.get? b=some o->b∉X.ex->b∉ch:=λb o e hx hb=>by
  rcases (yt b hb).1 with z | z
  ·exact hx z
  ·exact aaH (aaC (aap e) z) (abl _)
 have cellK:∀x c,X.env.cells.lookup x=some c->∀v,s.heap.IsCell c v->h'.IsCell c v:=λx c e v ⟨o,ho,hd⟩=>by
  have Nq:c∉ch:=λz=>(yt c z).2.2.1 x c e rfl;by_cases hc:c∈X.fs
  ·obtain ⟨sl,q⟩:=slot c o (I.EZ x c e) hc Nq ho (I.mz x c e);exact ⟨_,q,hd⟩
  ·exact ⟨o,keep c o (I.EZ x c e) hc Nq ho (I.mz x c e),hd⟩
 refine ⟨I.ok,I.os,hg,⟨λb o e n hb hx=> ?_,λb o e n hb hx=> ?_,λb o e n hx=> ?_,λb o e hx=> ?_,λb xs e=>mQ b xs (I.base.mQ b xs e),λb o xs e=>lB b o xs (I.base.lB b o xs e),λb ps e=> ?_⟩, ?_,λx c e=> ?_, ?_,λx c e=> ?_,λp hp=> ?_,aJ,I.len⟩
 ·exact keep b o (Tb b o e) hb (OZ b o e hx) (I.base.keep b o e n hb hx) (I.base.free b o e n hx)
 ·obtain ⟨sl,e1⟩:=I.base.slot b o e n hb hx;obtain ⟨T1,e2⟩:=slot b _ (Tb b o e) hb (OZ b o e hx) e1 (I.base.free b o e n hx);exact ⟨T1,e2⟩
 ·obtain ⟨o',e1⟩:=I.base.there b o e hx;exact free b o' (OZ b o e hx) e1 (I.base.free b o e n hx)
 ·obtain ⟨o',e1⟩:=I.base.there b o e hx;exact there b o' (OZ b o e hx) e1
 ·obtain ⟨m1,e1⟩:=I.base.mR b ps e;obtain ⟨m2,e2⟩:=mR b _ e1;exact ⟨m1++m2,by rw [e2,Array.append_assoc]⟩
 ·obtain ⟨m,hn,hl⟩:=I.loc;refine ⟨m,ns m hn,λi x v e1 e2 e3=> ?_⟩;obtain ⟨u,r,l⟩:=hl i x v e1 e2 e3;refine ⟨u,r, ?_⟩;rcases l with l | ⟨k,c,e,z⟩
  ·exact .inl l
  ·exact .inr ⟨k,c,e,cellK x c e _ z⟩
 ·obtain ⟨v,z⟩:=I.cell x c e;exact ⟨v,cellK x c e v z⟩
 ·obtain ⟨m,⟨o,_,_,ho,_⟩,_⟩:=I.loc;exact free _ o (λz=>(yt _ z).2.1 rfl) ho I.free
 ·obtain ⟨v,o,ho,hd⟩:=I.cell x c e;exact free c o (λz=>(yt c z).2.2.1 x c e rfl) ho (I.mz x c e)
 ·obtain ⟨e,n,ne,nf,d⟩:=I.pin p hp;have Nq:p.1∉ch:=λz=>(yt p.1 z).2.2.2 p hp rfl;exact ⟨keep p.1 p.2 ne nf Nq e n,free p.1 p.2 Nq e n,ne,nf,d⟩
theorem Inv.un{t':Nat}(I:Inv X δ σ H s)(u:Un X.fs [] H H' s.heap h')(aJ:iW X.prog X.w H' h'):Inv X δ σ H' {s with heap:=h',toks:=t'}:=by
 obtain ⟨m,⟨o,es,ep,ho,r⟩,_⟩:=id I.loc;obtain ⟨sl,hL⟩:=u.any ho I.free (by simp)
 exact I.step (g':=s.gens) (d':=s.drawn) (ch:=[]) (λ_ z=>nomatch z) (λb o _ hb _ e n=>u.keep b o e n hb (by simp)) (λb o _ hb _ e n=>u.slot b o e n hb (by simp)) (λb o _ e n=>u.free b o e n (by simp)) (λb o _ e=>u.there b o e (by simp)) u.mQ u.lB u.mR (λm' hm=>by
  obtain ⟨o',es',QL,m_,r'⟩:=hm;rw [ho] at m_;cases m_
  exact ⟨_,es',QL,hL,r'⟩) aJ I.bare
theorem Inv.call{t':Nat}{d':Drawn}(I:Inv X δ σ H s)(u:Un (m5 X.stack) ch H H' s.heap h')(aJ:iW X.prog X.w H' h')(hg:AllBare g')
  (yt:∀b∈ch,(b∈X.ex\/X.s₀.heap.objs.size<=b)/\b≠X.env.locals/\(∀x c,X.env.cells.lookup x=some c->c≠b)/\∀p∈X.pn++δ,p.1≠b):
  Inv X δ σ H' {s with heap:=h',gens:=g',drawn:=d',toks:=t'}:=by
 obtain ⟨m,⟨o,es,ep,ho,r⟩,_⟩:=id I.loc;obtain ⟨sl,hL⟩:=u.any ho I.free λz=>(yt _ z).2.1 rfl
 exact I.step (ch:=ch) yt (λb o hL hb hc e n=>u.keep b o e n (λz=>(aaz.mp (I.sO b z)).elim hL hb) hc) (λb o _ _ hc e n=>u.any e n hc) (λb o hc e n=>u.free b o e n hc) (λb o hc e=>u.there b o e hc) u.mQ u.lB u.mR (λm' hm=>by
  obtain ⟨o',es',QL,m_,r'⟩:=hm;rw [ho] at m_;cases m_
  exact ⟨_,es',QL,hL,r'⟩) aJ hg
theorem Inv.turned{t':Nat}{it:Addr}(I:Inv X δ σ H s)(k:∀b o,b≠it->s.heap.get? b=some o->h'.get? b=some o)(hn:H it=none)(hL:it≠X.env.locals)
  (h1:it∈X.ex\/X.s₀.heap.objs.size<=it) (h2:∀x c,X.env.cells.lookup x=some c->c≠it) (h3:∀p∈X.pn++δ,p.1≠it):Inv X δ σ H {s with heap:=h',toks:=t'}:=by
 have Tu:∀b u,H b=some u->b≠it:=λb u e z=>by rw [z,hn] at e;cases e
 refine I.step (g':=s.gens) (d':=s.drawn) (ch:=[it]) (λb hb=> ?_) (λb o _ _ hc e _=>k b o (λz=>hc (by simp [z])) e) (λb o _ _ hc e _=>⟨o.slots,k b o (λz=>hc (by simp [z])) e⟩) (λ_ _ _ _ n=>n)
  (λb o hc e=>⟨o,k b o (λz=>hc (by simp [z])) e⟩) (λ_ _ e=>e) (λ_ _ _ e=>e) (λb ps e=>⟨#[],by rw [e];simp⟩) (λm hm=> ?_) (λb u e=> ?_) I.bare
 ·have e:b=it:=by simpa using hb
  subst e;exact ⟨h1,hL,h2,h3⟩
 ·obtain ⟨o,es,ep,ho,r⟩:=hm;exact ⟨o,es,ep,k _ o (Ne.symm hL) ho,r⟩
 ·refine (I.aJ b u e).zU (λc v hc q=>k c v ?_ q) (λ_ q=>q) λ_ _ q=>q;rcases hc with z | z
  ·rw [z];exact Tu b u e
  ·exact Tu c _ z
theorem Inv.tok(I:Inv X δ σ H s)(t:Nat):Inv X δ σ H {s with toks:=t}:=I.un (h':=s.heap) (t':=t) Un.refl I.aJ
theorem Inv.kept{t':Nat}(I:Inv X δ σ H s)(k:∀b u,s.heap.get? b=some u->h'.get? b=some u):Inv X δ σ H {s with heap:=h',toks:=t'}:=I.un (Un.kept k) (I.aJ.kept k)
theorem Inv.laid{t':Nat}(I:Inv X δ σ H s)(k:∀b u,s.heap.get? b=some u->h'.get? b=some u)(hp:s.heap.objs.size<=a)(new:aO X.prog X.w (upd H a o) h' a o):
  Inv X δ σ (upd H a o) {s with heap:=h',toks:=t'}:=I.un (Un.laid k hp (I.aJ.fresh hp)) (I.aJ.laid k hp new)
theorem Inv.write{x e:Addr}{t':Nat}(I:Inv X δ σ H s)(mu:Ls (H x))(he:e=x\/H e=some (.own x))(k:∀b u,b≠e->s.heap.get? b=some u->h'.get? b=some u)(Lq:∃u,h'.get? e=some u)
  (new:aO X.prog X.w (upd H x o) h' x o):Inv X δ σ (upd H x o) {s with heap:=h',toks:=t'}:=I.un (Un.write mu he k Lq) (I.aJ.write mu he k Lq new)
theorem Inv.yL{Hv:List (Addr×Obj)}(I:Inv X δ σ H s)(h:∀p∈Hv,s.heap.get? p.1=some p.2/\H p.1=none/\p.1≠X.env.locals/\p.1∉X.fs/\∀v,p.2.data≠ .cell v):Inv X Hv σ H s:=
 ⟨I.ok,I.os,I.bare,I.base,I.loc,I.cell,I.free,I.mz,λp hp=>(aaQ.mp hp).elim (λz=>I.pin p (aaW _ z)) (h p),I.aJ,I.len⟩
theorem vJ{N:List Str}(hN:N.Nodup){j:Nat}(a:N[i]? =some x)(b:N[j]? =some x):i=j:=by obtain ⟨h1,e1⟩:=aad.mp a;obtain ⟨h2,e2⟩:=aad.mp b;exact (List.getElem_inj hN).mp (e1.trans e2.symm)
theorem qQ{Q:Unit->Shared->Prop}(I:Inv X δ σ H s)(hN:X.N.Nodup)(hi:X.N[i]? =some x)(hx:Loc X.env.scope x)(r:Ω v u)
  (h:∀s',Inv X δ (σ.set i (some v)) H s'->(∃a,Heap.SameBut a s.heap s'.heap/\(a=X.env.locals\/X.env.cells.lookup x=some a))->Q () s') (hf:X.fn x=true\/X.env.scope.names.lookup x=some .local:=by first | exact .inl rfl | exact .inr rfl | assumption):wpAny M A (storeName X.env x u) Q E s:=by
 obtain ⟨m,hn,hl⟩:=id I.loc;have PH:(X.env.scope.kind== .class || (X.env.scope.kind== .module&&X.env.locals != X.env.globals))=false:=by rw [I.ok.kind];rfl
 have LX:i < σ.length:=by rw [I.len];exact (aad.mp hi).1
 have EZ:=I.EZ;have tracked:∀{a:Addr} {h':Heap},(∃o,s.heap.get? a=some o/\H a=none)->Heap.SameBut a s.heap h'->iW X.prog X.w H h':=λ{a h'} ha hs b ob e=>by
  obtain ⟨_,_,Hb⟩:=ha;refine (I.aJ b ob e).zU (λc w' hc q=>(hs.2 c ?_).trans q) (λ_ q=>q) λ_ _ q=>q;rintro rfl;rcases hc with rfl | hc
  ·rw [Hb] at e;cases e
  ·rw [Hb] at hc;cases hc
 rcases hx with hk | hk
 ·refine wpAny_storeName_local hk hn (λh' JY hs=> ?_) PH;obtain ⟨oL,_,_,Nz,_⟩:=id hn;refine h _ ⟨I.ok,I.os,I.bare,⟨λb o e n hb hx=> ?_,λb o e n hb hx=> ?_,I.base.free,λb o e hx=> ?_,I.base.mQ,I.base.lB,I.base.mR⟩,⟨_,JY,λj y v' e1 e2 e3=> ?_⟩,λy c e=> ?_,I.free,I.mz,λp hp=> ?_,tracked ⟨oL,Nz,I.free⟩ hs,by simpa using I.len⟩ ⟨_,hs, .inl rfl⟩
  ·exact (hs.2 b (aaG (aaC (aap e) I.ok.above))).trans (I.base.keep b o e n hb hx)
  ·obtain ⟨sl,e1⟩:=I.base.slot b o e n hb hx;exact ⟨sl,(hs.2 b (aaG (aaC (aap e) I.ok.above))).trans e1⟩
  ·obtain ⟨o',e1⟩:=I.base.there b o e hx;exact ⟨o',(hs.2 b (aaG (aaC (aap e) I.ok.above))).trans e1⟩
  ·by_cases hj:j=i
   ·subst hj;rw [hi] at e1;cases e1;rw [aa7 LX] at e2;cases e2;exact ⟨u,r, .inl ⟨hk,by simp⟩⟩
   ·rw [aa2 (Ne.symm hj)] at e2;obtain ⟨u',r',q⟩:=hl j y v' e1 e2 e3;refine ⟨u',r', ?_⟩;rcases q with ⟨k,e⟩ | ⟨k,c,e,z⟩
    ·refine .inl ⟨k, ?_⟩;have:y≠x:=λe=>hj (vJ hN e1 (e▸hi));simp [this,e]
    ·exact .inr ⟨k,c,e,z.sameBut hs (EZ y c e)⟩
  ·obtain ⟨w',z⟩:=I.cell y c e;exact ⟨w',z.sameBut hs (EZ y c e)⟩
  ·obtain ⟨e,n,ne,nf,d⟩:=I.pin p hp;exact ⟨(hs.2 p.1 ne).trans e,n,ne,nf,d⟩
 ·have Sq:X.fn x=true:=by
   rcases hf with z | z
   ·exact z
   ·rw [z] at hk;cases hk
  obtain ⟨c,hc⟩:=I.ok.has x (.inl hk);obtain ⟨w',z⟩:=I.cell x c hc;refine wpAny_storeName_cell I.ok.kind hk hc z (λh' O7 hs=> ?_);obtain ⟨oc,Th,Rn⟩:=id z;refine h {s with heap:=h'} ⟨I.ok,I.os,I.bare,⟨λb o e n hb hx=> ?_,λb o e n hb hx=> ?_,I.base.free,λb o e hx=> ?_,I.base.mQ,I.base.lB,I.base.mR⟩,⟨m,hn.sameBut hs (Ne.symm (EZ x c hc)),λj y v' e1 e2 e3=> ?_⟩,λy c' e=> ?_,I.free,I.mz,λp hp=> ?_,tracked ⟨oc,Th,I.mz x c hc⟩ hs,by simpa using I.len⟩ ⟨c,hs, .inr hc⟩
  ·exact (hs.2 b (aaG (aaC (aap e) (I.ok.RO x c Sq hc)))).trans (I.base.keep b o e n hb hx)
  ·obtain ⟨sl,e1⟩:=I.base.slot b o e n hb hx;exact ⟨sl,(hs.2 b (aaG (aaC (aap e) (I.ok.RO x c Sq hc)))).trans e1⟩
  ·obtain ⟨o',e1⟩:=I.base.there b o e hx;exact ⟨o',(hs.2 b (aaG (aaC (aap e) (I.ok.RO x c Sq hc)))).trans e1⟩
  ·by_cases hj:j=i
   ·subst hj;rw [hi] at e1;cases e1;rw [aa7 LX] at e2;cases e2;exact ⟨u,r, .inr ⟨.inl hk,c,hc,O7⟩⟩
   ·rw [aa2 (Ne.symm hj)] at e2;obtain ⟨u',r',q⟩:=hl j y v' e1 e2 e3;refine ⟨u',r', ?_⟩;rcases q with q | ⟨k,c',e,z'⟩
    ·exact .inl q
    ·refine .inr ⟨k,c',e,z'.sameBut hs ?_⟩;rintro rfl;exact hj (vJ hN e1 (I.ok.inj _ _ _ e hc▸hi))
  ·by_cases K4:c'=c
   ·subst K4;exact ⟨_,O7⟩
   ·obtain ⟨w2,z2⟩:=I.cell y c' e;exact ⟨w2,z2.sameBut hs K4⟩
  ·obtain ⟨e,n,ne,nf,d⟩:=I.pin p hp;refine ⟨(hs.2 p.1 ?_).trans e,n,ne,nf,d⟩;intro q;rw [q,Th] at e;have q':oc=p.2:=aaA e;exact d w' (by rw [<-q'];exact Rn)
theorem kQ{Q:Unit->Shared->Prop}(I:Inv X δ σ H s)(hN:X.N.Nodup)(hi:X.N[i]? =some x)(hx:Loc X.env.scope x)(r:Ω v u)
  (h:∀s',Inv X δ (σ.set i (some v)) H s'->Q () s') (hf:X.fn x=true\/X.env.scope.names.lookup x=some .local:=by first | exact .inl rfl | exact .inr rfl | assumption):wpAny M A (storeName X.env x u) Q E s:=
 qQ I hN hi hx r (λs' I' _=>h s' I') hf
theorem Inv.Od{s':Shared}(I:Inv X δ σ H s)(ho:s'.os=s.os)(u:Un (m5 X.stack) ch H H' s.heap s'.heap)(aJ:iW X.prog X.w H' s'.heap)(hg:AllBare s'.gens)
  (yt:∀b∈ch,(b∈X.ex\/X.s₀.heap.objs.size<=b)/\b≠X.env.locals/\(∀x c,X.env.cells.lookup x=some c->c≠b)/\∀p∈X.pn++δ,p.1≠b):Inv X δ σ H' s':=by
 obtain ⟨h',g',d',t',o'⟩:=s';have e:o'=s.os:=ho;subst e;exact I.call (g':=g') (t':=t') (d':=d') u aJ hg yt
end
abbrev XK:=Value->Option Addr->Hp->Prop
abbrev St:=List (Option V)
variable{σ:St}
abbrev VK:=V->Hp->Prop
abbrev TE:=St->Hp->VK->Prop
variable{ta te:TE}
abbrev TT:=St->Hp->(Bool->Hp->Prop)->Prop
abbrev TA:=St->Hp->(List V->Hp->Prop)->Prop
structure uE where
 nx:St->Hp->Prop
 rt:VK
 bk:St->Hp->Prop:=λ_ _=>False
 ct:St->Hp->Prop:=λ_ _=>False
abbrev TS:=uE->St->Hp->Prop
def EP(X:Cx)(δ:List (Addr×Obj))(σ:St)(Q:VK)(u:Value)(s':Shared):Prop:=∃v H',Inv X δ σ H' s'/\Ω v u/\Q v H'
def TP(X:Cx)(δ:List (Addr×Obj))(σ:St)(Q:Bool->Hp->Prop)(b:Bool)(s':Shared):Prop:=∃H',Inv X δ σ H' s'/\Q b H'
def AP(X:Cx)(δ:List (Addr×Obj))(σ:St)(Q:List V->Hp->Prop)(us:List Value)(s':Shared):Prop:=∃vs H',Inv X δ σ H' s'/\Ψ vs us/\Q vs H'
def SP(X:Cx)(δ:List (Addr×Obj))(D:uE)(f:Flow)(s':Shared):Prop:=
 match f with
 | .next=>∃σ' H',Inv X δ σ' H' s'/\D.nx σ' H'
 | .brk=>∃σ' H',Inv X δ σ' H' s'/\D.bk σ' H'
 | .cont=>∃σ' H',Inv X δ σ' H' s'/\D.ct σ' H'
 | .ret u=>∃v σ' H',Inv X δ σ' H' s'/\Ω v u/\D.rt v H'
def PE(X:Cx)(e:Expr)(t:TE):Prop:=
 ∀(δ:List (Addr×Obj)) (s:Shared) (σ:St) (H:Hp) (Q:VK),Inv X δ σ H s->t σ H Q->wpAny (model X.prog X.w) X.A (eval e X.env) (EP X δ σ Q) X.xe s
def PT(X:Cx)(e:Expr)(t:TT):Prop:=
 ∀(δ:List (Addr×Obj)) (s:Shared) (σ:St) (H:Hp) (Q:Bool->Hp->Prop),Inv X δ σ H s->t σ H Q->wpAny (model X.prog X.w) X.A (isTrue e X.env (eval e X.env)) (TP X δ σ Q) X.xe s
def PW(X:Cx)(e:Expr)(t:TT):Prop:=
 ∀(whole:Sem Value) (δ:List (Addr×Obj)) (s:Shared) (σ:St) (H:Hp) (Q:Bool->Hp->Prop),Inv X δ σ H s->t σ H Q->wpAny (model X.prog X.w) X.A (isTrue e X.env whole) (TP X δ σ Q) X.xe s
def PA(X:Cx)(es:List Expr)(t:TA):Prop:=
 ∀(pos:Pos) (δ:List (Addr×Obj)) (s:Shared) (σ:St) (H:Hp) (Q:List V->Hp->Prop),Inv X δ σ H s->t σ H Q->wpAny (model X.prog X.w) X.A (spliced (backTo pos (starEach es X.env))) (AP X δ σ Q) X.xe s
def PS(X:Cx)(st:Stmt)(t:TS):Prop:=
 ∀(δ:List (Addr×Obj)) (s:Shared) (σ:St) (H:Hp) (D:uE),Inv X δ σ H s->t D σ H->wpAny (model X.prog X.w) X.A (exec st X.env) (SP X δ D) X.xe s
def A7(X:Cx)(st:List Stmt)(t:TS):Prop:=
 ∀(δ:List (Addr×Obj)) (s:Shared) (σ:St) (H:Hp) (D:uE),Inv X δ σ H s->t D σ H->wpAny (model X.prog X.w) X.A (execs st X.env) (SP X δ D) X.xe s
theorem bD{α:Type}{t:Sem α}{Q Q':α->Shared->Prop}(h:wpAny M A t Q E s)(hQ:∀a s,Q a s->Q' a s):wpAny M A t Q' E s:=abt h hQ λ_ _ x=>x
section
def Sv(i:Nat):TE:=λσ H Q=>∃v,σ[i]? =some (some v)/\Q v H
def tC(v:V):TE:=λ_ H Q=>Q v H
theorem Ku(hN:X.N[i]? =some x)(hv:PU X.env.scope x)(hd:(x==("__debug__":Str))=false:=by decide)(BL:(x==("__classdict__":Str))=false:=by decide):PE X (.Name x pos) (Sv i):=by
 intro δ s σ H Q I h;obtain ⟨v,e,h⟩:=h;obtain ⟨m,hn,hl⟩:=I.loc;obtain ⟨u,r,l⟩:=hl i x v hN e hv;have fin:EP X δ σ Q u s:=⟨v,H,I,r,h⟩;rcases l with ⟨hk,hm⟩ | ⟨hk,c,hc,HG⟩
 ·exact wpAny_Name (wpAny_loadName_local I.ok.kind hk hn hm fin) hd
 ·rcases hk with hk | hk
  ·exact wpAny_Name (wpAny_loadName_cell I.ok.kind hk hc HG fin) hd
  ·exact wpAny_Name (wpAny_loadName_free I.ok.kind hk hc HG fin BL) hd
theorem IB{i j pos}:PE X (.Constant (.int i) j pos) (tC (.int i)):=λ_ _ _ H _ I h=>wpAny_Constant_int ⟨.int i,H,I.tok _,⟨_,rfl⟩,h⟩
theorem NG{b j pos}:PE X (.Constant (.bool b) j pos) (tC (.bl b)):=λ_ _ _ H _ I h=>Constant_bool ⟨.bl b,H,I,rfl,h⟩
theorem Jx{j pos}:PE X (.Constant .none j pos) (tC .bf):=λ_ _ _ H _ I h=>Constant_none ⟨.bf,H,I,rfl,h⟩
theorem J7{x j pos}:PE X (.Constant (.str x) j pos) (tC (.str x)):=λ_ _ _ H _ I h=>Calls.Constant_str ⟨.str x,H,I.tok _,⟨_,rfl⟩,h⟩
def Gl(X:Cx)(x:Str):Prop:=X.env.kindOf x=some .globalImplicit
theorem ub{H:Hp}(I:Inv X δ σ H s)(hg:Gl X x)(hm:X.mg x=some u)(h:Q u s)
  (hd:(x==("__debug__":Str))=false:=by decide):wpAny (model X.prog X.w) X.A (eval (.Name x pos) X.env) Q E s:=
 Calls.Name_function_global I.ok.kind hg (Calls.loadGlobal_global (by rw [I.ok.glob];exact I.mod.glob.keeps I.bk) hm h) hd
theorem nL{H:Hp}(I:Inv X δ σ H s)(hg:Gl X x)(hm:X.mg x=none)(hv:bootBuiltins x=some u)(h:Q u s)
  (hn:x≠"__name__":=by decide) (hd:(x==("__debug__":Str))=false:=by decide):wpAny (model X.prog X.w) X.A (eval (.Name x pos) X.env) Q E s:=by
 obtain ⟨mb,h1,h2⟩:=I.mod.blt;exact Calls.Name_function_global I.ok.kind hg (Calls.loadGlobal_builtin (by rw [I.ok.glob];exact I.mod.glob.keeps I.bk) hm (by rw [I.ok.blt];exact h1.keeps I.bk) ((h2 x hn).trans hv) h) hd
theorem tH(hg:Gl X x)(hm:X.mg x=some u)(r:Ω v u)(hd:(x==("__debug__":Str))=false:=by decide):PE X (.Name x pos) (tC v):=
 λ_ _ _ H _ I h=>ub I hg hm ⟨v,H,I,r,h⟩ hd
theorem Gu(hg:Gl X x)(hm:X.mg x=none)(hv:bootBuiltins x=some u)(r:Ω v u)(hn:x≠"__name__":=by decide)(hd:(x==("__debug__":Str))=false:=by decide):PE X (.Name x pos) (tC v):=
 λ_ _ _ H _ I h=>nL I hg hm hv ⟨v,H,I,r,h⟩ hn hd
variable{a b:Expr}{tb:TE}
def tB(t:TE):TT:=λσ H Q=>t σ H λx H1=>∃c,x= .bl c/\Q c H1
theorem Iq{t:TE}(h:PE X e t)(he:∀whole,isTrue e X.env whole=(do let v<-whole;standAt e.pos;holding [v] (truthy v)):=by intro _;rfl):PT X e (tB t):=by intro δ s σ H Q I hw;refine isTrue_plain (bD (h δ s σ H _ I hw) λv s1 ⟨x,H1,I1,r1,q1⟩=> ?_) (he _);obtain ⟨d,rfl,q⟩:=q1;cases r1;exact wpAny_truthy_bool ⟨H1,I1,q⟩
variable{tA OG:TT}{Ι:List Expr}
def Qs(t u:TT):TT:=λσ H Q=>t σ H λc H1=>if c=true then u σ H1 Q else Q false H1
def UO(t u:TT):TT:=λσ H Q=>t σ H λc H1=>if c=true then Q true H1 else u σ H1 Q
def Qw(t:TT):TT:=λσ H Q=>t σ H λc H1=>Q (!c) H1
theorem pw_and1(ha:PT X a tA):PW X (.BoolOp .And [a] pos) tA:=by
 intro wh δ s σ H Q I h;refine isTrue_and (bD (ha δ s σ H Q I h) λc s1 e=> ?_);cases c with
 | true=>exact isTrue_and_nil e
 | false=>exact e
theorem pw_or1(ha:PT X a tA):PW X (.BoolOp .Or [a] pos) tA:=by
 intro wh δ s σ H Q I h;refine isTrue_or (bD (ha δ s σ H Q I h) λc s1 e=> ?_);cases c with
 | false=>exact isTrue_or_nil e
 | true=>exact e
theorem pw_and(ha:PT X a tA)(hb:PW X (.BoolOp .And (b::Ι) pos) OG):PW X (.BoolOp .And (a::b::Ι) pos) (Qs tA OG):=by
 intro wh δ s σ H Q I h;refine isTrue_and (bD (ha δ s σ H _ I h) λc s1 ⟨H1,I1,q1⟩=> ?_);cases c with
 | true=>exact hb wh δ s1 σ H1 Q I1 q1
 | false=>exact ⟨H1,I1,q1⟩
theorem pw_or(ha:PT X a tA)(hb:PW X (.BoolOp .Or (b::Ι) pos) OG):PW X (.BoolOp .Or (a::b::Ι) pos) (UO tA OG):=by
 intro wh δ s σ H Q I h;refine isTrue_or (bD (ha δ s σ H _ I h) λc s1 ⟨H1,I1,q1⟩=> ?_);cases c with
 | true=>exact ⟨H1,I1,q1⟩
 | false=>exact hb wh δ s1 σ H1 Q I1 q1
theorem Jq(ha:PT X a tA):PT X (.UnaryOp .Not a pos) (Qw tA):=by intro δ s σ H Q I h;exact isTrue_not (ha δ s σ H (λc H1=>Q (!c) H1) I h)
def NS(ta tb:TE):TE:=λσ H Q=>ta σ H λx H1=>∃c,x= .bl c/\if c=true then tb σ H1 Q else Q (.bl false) H1
def P9(ta tb:TE):TE:=λσ H Q=>ta σ H λx H1=>∃c,x= .bl c/\if c=true then Q (.bl true) H1 else tb σ H1 Q
theorem Ji{op}{t:TE}(h:PE X a t):PE X (.BoolOp op [a] pos) t:=λδ s σ H Q I hw=>BoolOp_one (h δ s σ H Q I hw)
theorem Iu(ha:PE X a ta)(hb:PE X (.BoolOp .And (b::Ι) pos) tb):PE X (.BoolOp .And (a::b::Ι) pos) (NS ta tb):=by
 intro δ s σ H Q I h;refine BoolOp_and (bD (ha δ s σ H _ I h) λv s1 ⟨x,H1,I1,r1,q1⟩=> ?_);obtain ⟨c,rfl,q1⟩:=q1;cases r1;refine wpAny_truthy_bool ?_;cases c with
 | true=>exact hb δ s1 σ H1 Q I1 q1
 | false=>exact ⟨.bl false,H1,I1,rfl,q1⟩
theorem Mm(ha:PE X a ta)(hb:PE X (.BoolOp .Or (b::Ι) pos) tb):PE X (.BoolOp .Or (a::b::Ι) pos) (P9 ta tb):=by
 intro δ s σ H Q I h;refine BoolOp_or (bD (ha δ s σ H _ I h) λv s1 ⟨x,H1,I1,r1,q1⟩=> ?_);obtain ⟨c,rfl,q1⟩:=q1;cases r1;refine wpAny_truthy_bool ?_;cases c with
 | false=>exact hb δ s1 σ H1 Q I1 q1
 | true=>exact ⟨.bl true,H1,I1,rfl,q1⟩
def Uh(t:TT)(ta tb:TE):TE:=λσ H Q=>t σ H λc H1=>if c=true then ta σ H1 Q else tb σ H1 Q
theorem Eb(hc:PT X c tA)(ha:PE X a ta)(hb:PE X b tb):PE X (.IfExp c a b pos) (Uh tA ta tb):=by
 intro δ s σ H Q I h;refine wpAny_IfExp (bD (hc δ s σ H _ I h) λd s1 ⟨H1,I1,q1⟩=> ?_);cases d with
 | true=>exact ha δ s1 σ H1 Q I1 q1
 | false=>exact hb δ s1 σ H1 Q I1 q1
end
def eQ(K:fv)(H:Hp)(a:Addr)(xs:List V):Prop:=
 Rd H a (.lst xs)\/
  ∃(o:Obj) (its:Array Value) (n:Nat),K.lookup a=some o/\o.cls= .type "list"/\o.dict=none/\o.data= .seq its n/\its.size<=sizeLine/\Ψ xs its.toList
def iZ(K:fv)(H:Hp)(a:Addr)(xs:List V):Prop:=
 Rd H a (.tup xs)\/
  ∃(o:Obj) (its:Array Value) (n:Nat),K.lookup a=some o/\o.cls= .type "tuple"/\o.data= .seq its n/\its.size<=sizeLine/\Ψ xs its.toList
def RF:Value->Option V
 | .none=>some .bf
 | .bool b=>some (.bl b)
 | .int i _=>some (.int i)
 | .str x _=>some (.str x)
 | .bytes b _=>some (.A' b)
 | .float b _=>some (.JH b)
 | .ref a=>some (.ref a)
 | .type n=>some (.ty n)
 | _=>none
theorem Ω.abs{x:V}(r:Ω x u):RF u=some x:=by
 cases x with
 | bf=>cases r;rfl
 | bl _=>cases r;rfl
 | int _=>obtain ⟨t,rfl⟩:=r;rfl
 | str _=>obtain ⟨t,rfl⟩:=r;rfl
 | A' _=>obtain ⟨t,rfl⟩:=r;rfl
 | JH _=>obtain ⟨t,rfl⟩:=r;rfl
 | ref _=>cases r;rfl
 | ty _=>cases r;rfl
theorem Ω.inj{x y:V}{u:Value}(r:Ω x u)(q:Ω y u):x=y:=aaA (r.abs.symm.trans q.abs)
theorem Ψ.inj:∀{xs ys:List V} {us:List Value},Ψ xs us->Ψ ys us->xs=ys
 | _,_,_, .nil, .nil=>rfl
 | _,_,_, .cons r t, .cons r' t'=>by rw [r.inj r',Ψ.inj t t']
section
variable{H:Hp}{xs ys:List V}
theorem eQ.of{K:fv}(h:H a=some (.lst xs)):eQ K H a xs:= .inl (.inl h)
theorem iZ.of{K:fv}(h:H a=some (.tup xs)):iZ K H a xs:= .inl (.inl h)
theorem Inv.list(I:Inv X δ σ H s)(h:eQ X.K H a xs):∃its:List Value,Ψ xs its/\PlainL s.heap a its.toArray/\xs.length<=sizeLine:=by
 rcases h with h | ⟨o,its,n,hk,hc,hd,hs,hz,r⟩
 ·obtain ⟨z,its,n,r,e⟩:=h.ok I.aJ;exact ⟨its,r,⟨_,n,e,rfl,rfl,rfl⟩,z⟩
 ·refine ⟨its.toList,r,⟨o,n,I.mV a o hk,hc,hd,by simpa using hs⟩, ?_⟩;have e:=r.length;simp only [Array.length_toList] at e;omega
theorem Inv.tuple(I:Inv X δ σ H s)(h:iZ X.K H a xs):∃its:List Value,Ψ xs its/\IsTup s.heap a its.toArray/\xs.length<=sizeLine:=by
 rcases h with h | ⟨o,its,n,hk,hc,hs,hz,r⟩
 ·obtain ⟨z,its,r,p⟩:=h.ok I.aJ;exact ⟨its,r,p,z⟩
 ·refine ⟨its.toList,r,⟨o,I.mV a o hk,hc,n,by simpa using hs⟩, ?_⟩;have e:=r.length;simp only [Array.length_toList] at e;omega
theorem Inv.bP(I:Inv X δ σ H s)(h:eQ X.K H a xs)(h':eQ X.K H a ys):xs=ys:=by
 obtain ⟨its,r,⟨o,n,e,_,_,d⟩,_⟩:=I.list h;obtain ⟨its',r',⟨o',n',e',_,_,d'⟩,_⟩:=I.list h';rw [e] at e';cases e';rw [d] at d';injection d' with d1 _
 have:its=its':=by simpa using congrArg Array.toList d1
 subst this;exact r.inj r'
theorem Inv.fQ(I:Inv X δ σ H s)(h:iZ X.K H a xs)(h':iZ X.K H a ys):xs=ys:=by
 obtain ⟨its,r,⟨o,e,_,n,d⟩,_⟩:=I.tuple h;obtain ⟨its',r',⟨o',e',_,n',d'⟩,_⟩:=I.tuple h';rw [e] at e';cases e';rw [d] at d';injection d' with d1 _
 have:its=its':=by simpa using congrArg Array.toList d1
 subst this;exact r.inj r'
end
section
variable{st:Stmt}{Ι:List Stmt}{t u:TS}
def M7:TS:=λD σ H=>D.nx σ H
def Ry(t u:TS):TS:=λD σ H=>t {D with nx:=u D} σ H
theorem FY:A7 X [] M7:=λ_ _ σ H _ I h=>wpAny_execs_nil ⟨σ,H,I,h⟩
theorem BB(h1:PS X st t)(h2:A7 X Ι u):A7 X (st::Ι) (Ry t u):=by
 intro δ s σ H D I h;refine wpAny_execs_cons (bD (h1 δ s σ H {D with nx:=u D} I h) λf s1 q=> ?_);cases f with
 | next=>
  obtain ⟨σ',H',I',q⟩:=q;exact h2 δ s1 σ' H' D I' q
 | ret v=>exact q
 | brk=>exact q
 | cont=>exact q
theorem GP(h1:PS X st t):A7 X [st] t:=by
 intro δ s σ H D I h;refine wpAny_execs_cons (bD (h1 δ s σ H D I h) λf s1 q=> ?_);cases f with
 | next=>exact wpAny_execs_nil q
 | ret v=>exact q
 | brk=>exact q
 | cont=>exact q
theorem Inv.quiet{H:Hp}(I:Inv X δ σ H s):interactive X.env=false:=by simp [interactive,I.ok.kind]
def LC(te:TE):TS:=λD σ H=>te σ H λ_ H1=>D.nx σ H1
theorem E6(he:PE X e te)(hs:swapsWith e none pos.line X.env=pure false:=by rfl):PS X (.Expr e pos) (LC te):=by intro δ s σ H D I h;exact wpAny_Expr_any (bD (he δ s σ H _ I h) λv s1 ⟨x,H1,I1,r1,q1⟩=>⟨σ,H1,I1,q1⟩) I.quiet hs
def R9(te:TE):TS:=λD σ H=>te σ H D.rt
theorem KL(he:PE X e te):PS X (.Return (some e) pos) (R9 te):=by intro δ s σ H D I h;exact wpAny_Return_some (bD (he δ s σ H _ I h) λv s1 ⟨x,H1,I1,r1,q1⟩=>⟨x,σ,H1,I1,r1,q1⟩)
def PY(c:TT)(t u:TS):TS:=λD σ H=>c σ H λb H1=>if b=true then t D σ H1 else u D σ H1
theorem M8{a b:List Stmt}{tc:TT}(hc:PT X c tc)(ha:A7 X a t)(hb:A7 X b u):PS X (.If c a b pos) (PY tc t u):=by
 intro δ s σ H D I h;refine wpAny_If (bD (hc δ s σ H _ I h) λd s1 ⟨H1,I1,q1⟩=> ?_);cases d with
 | true=>exact ha δ s1 σ H1 D I1 q1
 | false=>exact hb δ s1 σ H1 D I1 q1
end
abbrev TG:=V->St->Hp->(St->Hp->Prop)->Prop
abbrev IT:=List V->St->Hp->(St->Hp->Prop)->Prop
def PG(X:Cx)(target:Expr)(t:TG):Prop:=
 ∀(δ:List (Addr×Obj)) (s:Shared) (σ:St) (H:Hp) (v:V) (u:Value) (Q:St->Hp->Prop),Inv X δ σ H s->Ω v u->t v σ H Q->
  wpAny (model X.prog X.w) X.A (assign target X.env u) (λ_ s'=>∃σ' H',Inv X δ σ' H' s'/\Q σ' H') X.xe s
def Px(X:Cx)(ts:List Expr)(t:IT):Prop:=
 ∀(δ:List (Addr×Obj)) (s:Shared) (σ:St) (H:Hp) (vs:List V) (us:List Value) (Q:St->Hp->Prop),Inv X δ σ H s->Ψ vs us->t vs σ H Q->
  wpAny (model X.prog X.w) X.A (assignInOrder ((assignEach ts X.env).map (·.2)) us) (λ_ s'=>∃σ' H',Inv X δ σ' H' s'/\Q σ' H') X.xe s
section
def gH(i:Nat):TG:=λv σ H Q=>Q (σ.set i (some v)) H
theorem au(hN:X.N.Nodup)(hi:X.N[i]? =some x)(hx:Loc X.env.scope x)(hf:X.fn x=true\/X.env.scope.names.lookup x=some .local:=by first | exact .inl rfl | exact .inr rfl | assumption):PG X (.Name x pos) (gH i):=by intro δ s σ H v u Q I r h;exact wpAny_assign_Name (kQ I hN hi hx r (λs' I'=>⟨_,H,I',h⟩) hf)
def EN:IT:=λvs σ H Q=>vs=[]/\Q σ H
def mK(t:TG)(u:IT):IT:=λvs σ H Q=>∃v r,vs=v::r/\t v σ H λσ' H'=>u r σ' H' Q
theorem iK:Px X [] EN:=by intro δ s σ H vs us Q I r h;obtain ⟨e,h⟩:=h;subst e;cases r;exact assignInOrder_nil ⟨σ,H,I,h⟩
theorem bB{t:TG}{u:IT}(h1:PG X e t)(h2:Px X es u)
  (hs:(assignEach (e::es) X.env).map (·.2)=assign e X.env::(assignEach es X.env).map (·.2):=by rfl):Px X (e::es) (mK t u):=by
 intro δ s σ H vs us Q I r h;obtain ⟨v,vr,e1,h⟩:=h;subst e1;cases r with
 | cons r rr=>
  rw [hs];refine assignInOrder_cons (bD (h1 δ s σ H _ _ _ I r h) λ_ s1 ⟨σ1,H1,I1,q1⟩=> ?_);exact h2 δ s1 σ1 H1 _ _ Q I1 rr q1
def FN(K:fv)(n:Nat)(t:IT):TG:=λv σ H Q=>∃a xs,v= .ref a/\iZ K H a xs/\xs.length=n/\t xs σ H Q
theorem lN{t:IT}{n:Nat}(hc:X.calm=true)(h:Px X es t)
  (hn:(assignEach es X.env).length=n:=by rfl) (zF:(assignEach es X.env).findIdx? (·.1)=none:=by rfl):PG X (.Tuple es k pos) (FN X.K n t):=by
 intro δ s σ H v u Q I r hw;obtain ⟨a,xs,e1,hq,hl,hw⟩:=hw;subst e1;cases r;obtain ⟨its,rv,ht,hz⟩:=I.tuple hq;refine assign_Tuple_tuple (I.ok.hd hc) ht (by simp [hn,<-hl,rv.length]) zF λh' hx=> ?_;have I1:Inv X δ σ H {s with heap:=h'}:=I.kept (t':=s.toks) λb o e=>hx b o (aaG (aap e)) e;exact h δ _ σ H xs _ Q I1 (by simpa using rv) hw
def LG(te:TE)(g:TG):TS:=λD σ H=>te σ H λx H1=>g x σ H1 D.nx
theorem CJ{g:TG}(he:PE X e te)(hg:PG X tg g)(hs:swapsWithSole [tg] e pos.line X.env=pure false:=by rfl)(hw:swappedStores [tg] e X.env=pure none:=by rfl)
  (h1:(assignEach [tg] X.env).map (·.2)=[assign tg X.env]:=by rfl):PS X (.Assign [tg] e pos) (LG te g):=by
 intro δ s σ H D I h;refine wpAny_Assign_stores (bD (he δ s σ H _ I h) λv s1 ⟨x,H1,I1,r1,q1⟩=> ?_) hs hw;rw [h1];exact bD (hg δ s1 σ H1 x v _ I1 r1 q1) λ_ s2 q=>q
theorem H_{pos':Pos}(hN:X.N.Nodup)(hi:X.N[i]? =some x)(hx:Loc X.env.scope x)(he:PE X e te)(hs:swapsWith e (some (.Name x pos')) pos.line X.env=pure false:=by rfl)(hf:X.fn x=true\/X.env.scope.names.lookup x=some .local:=by first | exact .inl rfl | exact .inr rfl | assumption):
  PS X (.Assign [.Name x pos'] e pos) (LG te (gH i)):=by
 intro δ s σ H D I h;refine wpAny_Assign_Name (bD (he δ s σ H _ I h) λv s1 ⟨y,H1,I1,r1,q1⟩=> ?_) hs;exact kQ I1 hN hi hx r1 (λs2 I2=>⟨_,H1,I2,q1⟩) hf
def P5(i j:Nat)(ta:TA):TS:=λD σ H=>ta σ H λvs H1=>∃v w,vs=[v,w]/\D.nx ((σ.set i (some v)).set j (some w)) H1
theorem Ky{j:Nat}{y:Str}{a b:Expr}{ta:TA}{px py pt:Pos}{kt k2 Kw}(hc:X.calm=true)(hN:X.N.Nodup)(hi:X.N[i]? =some x)(hj:X.N[j]? =some y)(Lz:i≠j)
  (hx:X.env.scope.names.lookup x=some .local) (hy:X.env.scope.names.lookup y=some .local) (ha:PA X [a,b] ta)
  (hw:swappedStores [.Tuple [.Name x px, .Name y py] kt pt] (.Tuple [a,b] k2 Kw) X.env=pure (some [x,y]))
  (hs:swapsWithSole [.Tuple [.Name x px, .Name y py] kt pt] (.Tuple [a,b] k2 Kw) pos.line X.env=pure false:=by rfl):
  PS X (.Assign [.Tuple [.Name x px, .Name y py] kt pt] (.Tuple [a,b] k2 Kw) pos) (P5 i j ta):=by
 intro δ s σ H D I h;rw [exec_Assign_arm];refine aab (wpAny_standAt ?_);rw [hs];refine aab (aae ?_);rw [aaF (by decide)];refine aab (Tuple_ (bD (ha _ δ s σ H _ I h) λus s1 ⟨vs,H1,I1,r1,q1⟩=> ?_));obtain ⟨v,w,e1,q1⟩:=q1;subst e1;obtain ⟨u1,u2,rfl,rv,E9⟩:∃u1 u2,us=[u1,u2]/\Ω v u1/\Ω w u2:=by
  cases r1 with
  | cons p q=>
   cases q with
   | cons p' q'=>
    cases q';exact ⟨_,_,rfl,p,p'⟩
 refine wpAny_newObj_type ?_ fI;have I2:Inv X δ σ H1 {s1 with heap:=s1.heap.push {cls:= .type "tuple",data:= .seq [u1,u2].toArray}}:=I1.kept (t':=s1.toks) λb o e=>aaf _ e;rw [hw];refine aab (aae ?_);show wpAny (model X.prog X.w) X.A (do rule "assign.swapped-stores";let items<-unpackItems (.ref s1.heap.objs.size) 2 none;assignInOrder [λv=>bindName X.env y v,λv=>bindName X.env x v] items.reverse;pure Flow.next) _ _ _;refine aab (wpAny_rule (aab (unpackItems_tuple (items:= #[u1,u2]) (I.ok.hd hc) (IsTup.new s1.heap _) λh' JR=> ?_)));have I3:=I2.kept (h':=h') (t':=s1.toks) λb o e=>JR b o (aaG (aap e)) e;show wpAny _ _ (assignInOrder [λv=>bindName X.env y v,λv=>bindName X.env x v] [u2,u1] >>= λ_=>pure Flow.next) _ _ _;refine aab (assignInOrder_cons (wpAny_bindName (kQ I3 hN hj (.inl hy) E9 (λs2 I4=> ?_) (.inr hy))));refine assignInOrder_cons (wpAny_bindName (kQ I4 hN hi (.inl hx) rv (λs3 I5=>assignInOrder_nil (aae ?_)) (.inr hx)));rw [List.set_comm _ _ (Ne.symm Lz)] at I5;exact ⟨_,H1,I5,q1⟩
end
section
def KA(c:TT)(tb:TS):TS:=λD σ H=>∃W:Nat->St->Hp->Prop,(∃m,W m σ H)/\∀m σ H,W m σ H->
 c σ H λb H1=>if b=true then∃N:St->Hp->Prop,(∀σ' H',N σ' H'->∃m',m' < m/\W m' σ' H')/\tb {D with nx:=N,ct:=N,bk:=D.nx} σ H1 else D.nx σ H1
theorem BH{tc:TT}{tb:TS}(hp:PassesOwn (model X.prog X.w) X.A X.env X.xe)(hc:PT X c tc)(hb:A7 X body tb):PS X (.While c body [] pos) (KA tc tb):=by
 intro δ s σ H D I h;obtain ⟨W,⟨m0,w0⟩,turn⟩:=h;refine wpAny_While (codeAny_whileLoop (λn s'=>∃σ' H',Inv X δ σ' H' s'/\W n σ' H') ?_ m0 ⟨σ,H,I,w0⟩);rintro n s1 ⟨σ1,H1,I1,w1⟩;refine wpAny_passesOwn hp (bD (hc δ s1 σ1 H1 _ I1 (turn n σ1 H1 w1)) λb s2 ⟨H2,I2,q2⟩=> ?_);cases b with
 | true=>
  obtain ⟨N,hN,q2⟩:=q2;rw [aaI rfl];refine wpAny_passesOwn hp (bD (hb δ s2 σ1 H2 _ I2 q2) λf s3 q3=> ?_);cases f with
  | next=>
   obtain ⟨σ3,H3,I3,n3⟩:=q3;obtain ⟨m',hm,w3⟩:=hN σ3 H3 n3;exact ⟨m',hm,σ3,H3,I3,w3⟩
  | cont=>
   obtain ⟨σ3,H3,I3,n3⟩:=q3;obtain ⟨m',hm,w3⟩:=hN σ3 H3 n3;exact ⟨m',hm,σ3,H3,I3,w3⟩
  | brk=>exact q3
  | ret v=>exact q3
 | false=>
  rw [aaF aar];exact wpAny_execs_nil ⟨σ1,H2,I2,q2⟩
end
structure It where
 go:Nat->Hp->Prop
 ME:Nat->Hp->V->Hp->Prop
 stop:Nat->Hp->Prop
def qu(X:Cx)(δ:List (Addr×Obj))(H:Hp)(b:Addr):Prop:=
 H b=none/\b≠X.env.locals/\b∉X.fs/\(b∈X.ex\/X.s₀.heap.objs.size<=b)/\(∀x c,X.env.cells.lookup x=some c->c≠b)/\∀p∈X.pn++δ,p.1≠b
theorem Inv.zE{H H':Hp}(I:Inv X δ σ H s)(hb:s.heap.objs.size<=b)(hn:H' b=none):qu X δ H' b:=by
 refine ⟨hn,Nat.ne_of_gt (aaC I.lt hb),I.Sd hb, .inr (aam I.sz hb),λx c e z=> ?_,λp hp z=> ?_⟩
 ·obtain ⟨v,q⟩:=I.cell x c e;exact aaH (aaC q.lt (by rw [z];exact hb)) (abl _)
 ·exact aaH (aaC (aap (I.pin p hp).1) (by rw [z];exact hb)) (abl _)
structure uF(P:Program)(w:World)(K:fv)(tg:Expr)(J:It)(fp:List Addr)(it:Addr)(tn:Nat->Heap->Prop):Prop where
 mem:it∈fp
 obj:∀i h,tn i h->∀b∈fp,∃o,h.get? b=some o/\∀v,o.data≠ .cell v
 keep:∀i h h',tn i h->(∀b∈fp,∀o,h.get? b=some o->h'.get? b=some o)->tn i h'
 item:∀(X:Cx),X.prog=P->X.w=w->X.K=K->X.calm=true->∀(i:Nat) (δ:List (Addr×Obj)) (s:Shared) (σ:St) (H:Hp) (E:Value->Shared->Prop),Inv X δ σ H s->(∀b∈fp,qu X δ H b)->tn i s.heap->J.go i H->
  wpAny (model P w) X.A (pyNext (.ref it)) (λr s1=>∃u,r=some u/\
   wpAny (model P w) X.A (letOwnedTupleGo tg (.ref it) u) (λ_ s2=>∃x H',Inv X δ σ H' s2/\Ω x u/\J.ME i H x H'/\tn (i+1) s2.heap/\∀b∈fp,H' b=none) E s1) E s
 done:∀(X:Cx),X.prog=P->X.w=w->X.K=K->X.calm=true->∀(i:Nat) (δ:List (Addr×Obj)) (s:Shared) (σ:St) (H:Hp) (E:Value->Shared->Prop),Inv X δ σ H s->(∀b∈fp,qu X δ H b)->tn i s.heap->J.stop i H->
  wpAny (model P w) X.A (pyNext (.ref it)) (λr s1=>r=none/\Inv X δ σ H s1) E s
 self:∀(A:Around) (i:Nat) (s:Shared) (Q:Value->Shared->Prop) (E:Value->Shared->Prop),tn i s.heap->Q (.ref it) s->wpAny (model P w) A (pyIter (.ref it)) Q E s
abbrev TI:=St->Hp->(It->Hp->Prop)->Prop
def EA(X:Cx)(δ:List (Addr×Obj))(σ:St)(tg:Expr)(R:It->Hp->Prop)(Pt:Value)(s2:Shared):Prop:=
 ∃(it:Addr) (fp:List Addr) (tn:Nat->Heap->Prop) (J:It) (H':Hp),Pt= .ref it/\Inv X δ σ H' s2/\uF X.prog X.w X.K tg J fp it tn/\tn 0 s2.heap/\(∀b∈fp,qu X δ H' b)/\R J H'
def PI(X:Cx)(tg iter:Expr)(wi:TI):Prop:=
 ∀(δ:List (Addr×Obj)) (s:Shared) (σ:St) (H:Hp) (R:It->Hp->Prop),Inv X δ σ H s->wi σ H R->
  wpAny (model X.prog X.w) X.A (eval iter X.env) (λv s1=>wpAny (model X.prog X.w) X.A (pyIter v) (EA X δ σ tg R) X.xe s1) X.xe s
theorem qT   {E : Value -> Shared -> Prop}   {it : Addr}  {o : Obj} {n : String} {vs : Array Value} {Q : Unit -> Shared -> Prop} (ho : s.heap.get? it = some o) (hc : o.cls = .type n) (hd : o.data = .fields vs)
    (hn : ["enumerate", "zip", "dict_itemiterator", "dict_reverseitemiterator", "odict_iterator", "itertools.zip_longest", "itertools.pairwise"].contains n = false) (hQ : Q () s) : wpAny M A (letOwnedTupleGo tg (.ref it) u) Q E s := by
  unfold letOwnedTupleGo
  cases tg <;> first
    | exact aae hQ
    | (cases u <;> first
        | exact aae hQ
        | (refine aab (wpAny_load ho ?_)
           rw [hc, hd];show wpAny M A (if (["enumerate", "zip", "dict_itemiterator", "dict_reverseitemiterator", "odict_iterator", "itertools.zip_longest", "itertools.pairwise"].contains n && vs[0]? == some (rawInt _)) = true then _ else _) Q E s;rw [aaF (by intro h; rw [hn, Bool.false_and] at h; cases h)]
           exact aae hQ))
def OU(K:fv)(a:Addr):It:=
 ⟨λi H=>∃xs x,eQ K H a xs/\xs[i]? =some x,λi H x H'=>H'=H/\∀xs,eQ K H a xs->xs[i]? =some x,λi H=>∃xs,eQ K H a xs/\xs.length<=i⟩
def QP(K:fv)(a:Addr):It:=
 ⟨λi H=>∃xs x,iZ K H a xs/\xs[i]? =some x,λi H x H'=>H'=H/\∀xs,iZ K H a xs->xs[i]? =some x,λi H=>∃xs,iZ K H a xs/\xs.length<=i⟩
def O2(lo:Int)(n:Nat):It:=⟨λi _=>i < n,λi H x H'=>H'=H/\x= .int (lo+i),λi _=>n<=i⟩
theorem zZ{K:fv}(a it:Addr):uF P w K tg (OU K a) [it] it (λi h=>h.IsListIter it a i) where
 mem:=by simp
 obj:=λi h st b hb=>by
  have e:b=it:=by simpa using hb
  subst e;obtain ⟨o,e,c,d⟩:=st;exact ⟨o,e,λv z=>by rw [d] at z;cases z⟩
 keep:=λi h h' st k=>st.at λo e=>k it (by simp) o e
 item:=by intro X hP hw hK hc i δ s σ H E I hf st hg;subst hP hw hK;obtain ⟨xs,x,hq,hx⟩:=hg;obtain ⟨its,rv,p,hz⟩:=I.list hq;obtain ⟨u,hu,ru⟩:=rv.get hx;obtain ⟨f0,f1,f2,f3,f4,f5⟩:=hf it (by simp);refine wpAny_pyNext_list_item st p.isList (x:=u) (by simpa using hu) λh' sZ sb=> ?_;have I1:Inv X δ σ H {s with heap:=h'}:=I.turned (t':=s.toks) (λb o hb e=>(sb.2 b hb).trans e) f0 f1 f3 f4 f5;obtain ⟨o,e,c,d⟩:=id sZ;exact ⟨u,rfl,qT (s:={s with heap:=h'}) e c d (by decide) ⟨x,H,I1,ru,⟨rfl,λys hy=>by rw [I.bP hy hq];exact hx⟩,sZ,λb hb=>(hf b hb).1⟩⟩
 done:=by intro X hP hw hK hc i δ s σ H E I hf st hg;subst hP hw hK;obtain ⟨xs,hq,hx⟩:=hg;obtain ⟨its,rv,p,hz⟩:=I.list hq;obtain ⟨f0,f1,f2,f3,f4,f5⟩:=hf it (by simp);have hl:=rv.length;exact wpAny_pyNext_list_end (I.ok.hd hc) st p.isList (by simp;omega) λh' eb=>⟨rfl,I.turned (t':=s.toks) (λb o hb e=>eb b o hb e) f0 f1 f3 f4 f5⟩
 self:=λ_ _ _ _ _ st h=>wpAny_pyIter_listiter st h
theorem xN{K:fv}(a it:Addr):uF P w K tg (QP K a) [it] it (λi h=>h.IsTupleIter it a i) where
 mem:=by simp
 obj:=λi h st b hb=>by
  have e:b=it:=by simpa using hb
  subst e;obtain ⟨o,e,c,d⟩:=st;exact ⟨o,e,λv z=>by rw [d] at z;cases z⟩
 keep:=λi h h' st k=>st.at λo e=>k it (by simp) o e
 item:=by intro X hP hw hK hc i δ s σ H E I hf st hg;subst hP hw hK;obtain ⟨xs,x,hq,hx⟩:=hg;obtain ⟨its,rv,p,hz⟩:=I.tuple hq;obtain ⟨u,hu,ru⟩:=rv.get hx;obtain ⟨f0,f1,f2,f3,f4,f5⟩:=hf it (by simp);refine wpAny_pyNext_tuple_item st (show s.heap.IsTuple a its.toArray from p) (x:=u) (by simpa using hu) λh' sZ sb=> ?_;have I1:Inv X δ σ H {s with heap:=h'}:=I.turned (t':=s.toks) (λb o hb e=>(sb.2 b hb).trans e) f0 f1 f3 f4 f5;obtain ⟨o,e,c,d⟩:=id sZ;exact ⟨u,rfl,qT (s:={s with heap:=h'}) e c d (by decide) ⟨x,H,I1,ru,⟨rfl,λys hy=>by rw [I.fQ hy hq];exact hx⟩,sZ,λb hb=>(hf b hb).1⟩⟩
 done:=by intro X hP hw hK hc i δ s σ H E I hf st hg;subst hP hw hK;obtain ⟨xs,hq,hx⟩:=hg;obtain ⟨its,rv,p,hz⟩:=I.tuple hq;obtain ⟨f0,f1,f2,f3,f4,f5⟩:=hf it (by simp);have hl:=rv.length;exact wpAny_pyNext_tuple_end (I.ok.hd hc) st (show s.heap.IsTuple a its.toArray from p) (by simp;omega) λh' eb=>⟨rfl,I.turned (t':=s.toks) (λb o hb e=>eb b o hb e) f0 f1 f3 f4 f5⟩
 self:=λ_ _ _ _ _ st h=>wpAny_pyIter_tupleiter st h
theorem xM{K:fv}(it:Addr)(lo:Int)(n:Nat):uF P w K tg (O2 lo n) [it] it (λi h=>IsRangeIter h it (lo+(i:Nat) * 1) ((n:Int) - (i:Nat)) 1) where
 mem:=by simp
 obj:=λi h st b hb=>by
  have e:b=it:=by simpa using hb
  subst e
  exact ⟨_,st,λv z=>by
   have z':Data.fields _=Data.cell v:=z
   cases z'⟩
 keep:=λi h h' st k=>k it (by simp) _ st
 item:=by intro X hP hw hK hc i δ s σ H E I hf st hg;subst hP hw hK;obtain ⟨f0,f1,f2,f3,f4,f5⟩:=hf it (by simp);have W:=Walks.range (prog:=X.prog) (w:=X.w) (I.ok.hd hc) it lo 1 n;refine W.item i s _ _ hg st λv h' tk hv sZ kk=> ?_;obtain ⟨t,rfl⟩:=hv;have I1:Inv X δ σ H {s with heap:=h',toks:=tk}:=I.turned (λb o hb e=>kk b o (by simpa using hb) e) f0 f1 f3 f4 f5;refine ⟨_,rfl,qT (s:={s with heap:=h',toks:=tk}) (n:="range_iterator") sZ rfl rfl (by decide) ⟨.int (lo+i),H,I1,⟨t, ?_⟩,⟨rfl,rfl⟩,sZ,λb hb=>(hf b hb).1⟩⟩;rw [Int.mul_one]
 done:=by intro X hP hw hK hc i δ s σ H E I hf st hg;subst hP hw hK;obtain ⟨f0,f1,f2,f3,f4,f5⟩:=hf it (by simp);exact wpAny_pyNext_range_end (I.ok.hd hc) st (by have:n<=i:=hg;omega) λh' eb=>⟨rfl,I.turned (t':=s.toks) (λb o hb e=>eb b o hb e) f0 f1 f3 f4 f5⟩
 self:=λ_ _ _ _ _ st h=>wpAny_pyIter_rangeiter st h
section
theorem CL{H:Hp}{R:It->Hp->Prop}{lo hi:Int}{t u v:Tok}{tk:Nat}(I:Inv X δ σ H s)(h1: -(2 ^ 62)<=lo)(h2:lo < 2 ^ 62)(h3: -(2 ^ 62)<=hi)(h4:hi < 2 ^ 62)
  (q:R (O2 lo (hi - lo).toNat) H):wpAny (model X.prog X.w) X.A (pyIter (.ref s.heap.objs.size)) (EA X δ σ tg R) E {s with heap:=s.heap.push {cls:= .type "range",data:= .fields #[.int lo t, .int hi u, .int 1 v]},toks:=tk}:=by
 refine wpAny_pyIter_range (IsRange.new ..) (small_one h1 h2 h3 h4) ?_;have I1:Inv X δ σ H {s with heap:=s.heap.push {cls:= .type "range",data:= .fields #[.int lo t, .int hi u, .int 1 v]},toks:=tk}:=I.kept λb o e=>aaf _ e
 refine ⟨(s.heap.push {cls:= .type "range",data:= .fields #[.int lo t, .int hi u, .int 1 v]}).objs.size,[(s.heap.push {cls:= .type "range",data:= .fields #[.int lo t, .int hi u, .int 1 v]}).objs.size],_,_,H,rfl,
  I1.kept (t':=tk) λb o e=>aaf _ e,xM _ lo (hi - lo).toNat, ?_,λb hb=> ?_,q⟩
 ·have e1:lo+((0:Nat):Int) * 1=lo:=by simp
  have e2:(((hi - lo).toNat:Nat):Int) - ((0:Nat):Int)=Builtin.Range.rangeSize lo hi 1:=by rw [rangeSize_one];split <;> omega
  show IsRangeIter _ _ (lo+((0:Nat):Int) * 1) ((((hi - lo).toNat:Nat):Int) - ((0:Nat):Int)) 1;rw [e1,e2];exact aau _ rfl
 ·have e:b=(s.heap.push {cls:= .type "range",data:= .fields #[.int lo t, .int hi u, .int 1 v]}).objs.size:=by simpa using hb
  subst e;exact I1.zE (aal _) (I1.aJ.fresh (aal _))
def LW(ta:TA):TI:=λσ H R=>ta σ H λvs H1=>∃j:Int,vs=[.int j]/\ -(2 ^ 62)<=j/\j < 2 ^ 62/\R (O2 0 j.toNat) H1
theorem zW{a:Expr}{ta:TA}{p:Pos}(hg:Gl X "range")(hm:X.mg "range"=none)(ha:PA X [a] ta)(hs:starEach [a] X.env=[(false,eval a X.env)]:=by rfl):PI X tg (.Call (.Name "range" p) [a] [] pos) (LW ta):=by
 intro δ s σ H R I h;refine Call_ (nL I hg hm boot_range (PyProof.Rows.callWith_type1 (bD (ha pos δ s σ H _ I h) λus s1 ⟨vs,H1,I1,r1,q1⟩=> ?_) hs rfl));obtain ⟨j,e,q1,q2,q⟩:=q1;subst e;cases r1 with
 | cons r rr=>
  cases rr;obtain ⟨t,rfl⟩:=r;exact call_range_1 (CL I1 (by omega) (by omega) q1 q2 (by simpa using q))
def P8(wi:TI)(g:TG)(tb:TS):TS:=λD σ H=>wi σ H λJ H1=>∃W:Nat->Nat->St->Hp->Prop,(∃m,W 0 m σ H1)/\∀i m σ H,W i m σ H->
 (J.stop i H/\D.nx σ H)\/(J.go i H/\∃N:St->Hp->Prop,(∀σ' H',N σ' H'->∃m',m' < m/\W (i+1) m' σ' H')/\∀x H',J.ME i H x H'->g x σ H' λσ2 H2=>tb {D with nx:=N,ct:=N,bk:=D.nx} σ2 H2)
def sF(fp:List Addr)(h:Heap):List (Addr×Obj):=fp.filterMap λb=>(h.get? b).map λo=>(b,o)
theorem cR{o:Obj}(hb:b∈fp)(e:h.get? b=some o):(b,o)∈sF fp h:=abU.mpr ⟨b,hb,by rw [e];rfl⟩
theorem zO{p:Addr×Obj}(hp:p∈sF fp h):p.1∈fp/\h.get? p.1=some p.2:=by
 obtain ⟨b,hb,e⟩:=abU.mp hp;cases q:h.get? b with
 | none=>rw [q] at e;cases e
 | some o=>
  rw [q] at e;have e':(b,o)=p:=aaA e;subst e';exact ⟨hb,q⟩
theorem Inv.pinned{H:Hp}(I:Inv X δ σ H s)(hf:∀b∈fp,qu X δ H b)(ho:∀b∈fp,∃o,s.heap.get? b=some o/\∀v,o.data≠ .cell v):Inv X (δ++sF fp s.heap) σ H s:=
 I.yL λp hp=>(aaQ.mp hp).elim (λz=>I.pin p (aax _ z)) λz=>by obtain ⟨hb,e⟩:=zO z;obtain ⟨f0,f1,f2,_⟩:=hf p.1 hb;obtain ⟨o,e',d⟩:=ho p.1 hb;rw [e] at e';cases e';exact ⟨e,f0,f1,f2,d⟩
theorem Inv.gT{pl:List (Addr×Obj)}{H:Hp}(I:Inv X (δ++pl) σ H s):Inv X δ σ H s:=I.yL λp hp=>I.pin p (aax _ (aaW _ hp))
theorem CK{iter:Expr}{wi:TI}{g:TG}{tb:TS}(hp:PassesOwn (model X.prog X.w) X.A X.env X.xe)(hc:X.calm=true)(hi:PI X tg iter wi)(hg:PG X tg g)(hb:A7 X body tb)
  (hs:∀x,foldedSetIterable iter X.env x=pure x:=by intro _;rfl):PS X (.For tg iter body [] pos) (P8 wi g tb):=by
 intro δ s σ H D I h;refine wpAny_For (bD (hi δ s σ H _ I h) λv s1 h1=>bD h1 λPt s2 h2=> ?_) hs;obtain ⟨it,fp,tn,J,H2,e,I2,T,So,f2,W,⟨m0,w0⟩,turn⟩:=h2;subst e;have Ip:∀{H':Hp},(∀b∈fp,H' b=none)->∀b∈fp,qu X δ H' b:=λhn b hb=>⟨hn b hb,(f2 b hb).2⟩;refine codeAny_forLoop_any (λn s'=>∃i σ' H',Inv X δ σ' H' s'/\tn i s'.heap/\(∀b∈fp,H' b=none)/\W i n σ' H') ?_ m0 ⟨0,σ,H2,I2,So,λb hb=>(f2 b hb).1,w0⟩;rintro n s3 ⟨i,σ3,H3,I3,Py,Tc,w3⟩;rcases turn i n σ3 H3 w3 with ⟨stop,qn⟩ | ⟨go,N,hN,step⟩
 ·refine wpAny_passesOwn hp (bD (T.done X rfl rfl rfl hc i δ s3 σ3 H3 X.xe I3 (Ip Tc) Py stop) λr s4 ⟨hr,I4⟩=> ?_);subst hr;exact wpAny_execs_nil ⟨σ3,H3,I4,qn⟩
 ·refine wpAny_passesOwn hp (bD (T.item X rfl rfl rfl hc i δ s3 σ3 H3 X.xe I3 (Ip Tc) Py go) λr s4 ⟨u,hr,h4⟩=> ?_);subst hr;refine wpAny_passesOwn hp (bD h4 λ_ s5 ⟨x,H5,I5,r5,y5,Qx,Pw⟩=> ?_);have VO:=I5.pinned (Ip Pw) (T.obj _ _ Qx);refine wpAny_passesOwn hp (bD (hg _ s5 σ3 H5 x u _ VO r5 (step x H5 y5)) λ_ s6 ⟨σ6,H6,I6,q6⟩=> ?_);refine wpAny_passesOwn hp (bD (hb _ s6 σ6 H6 _ I6 q6) λf s7 q7=> ?_);have again:∀{σ7:St} {H7:Hp},Inv X (δ++sF fp s5.heap) σ7 H7 s7->N σ7 H7->∃m,m < n/\∃i σ' H',Inv X δ σ' H' s7/\tn i s7.heap/\(∀b∈fp,H' b=none)/\W i m σ' H':=λ{σ7 H7} I7 n7=>by obtain ⟨m',hm,w7⟩:=hN σ7 H7 n7;refine ⟨m',hm,i+1,σ7,H7,I7.gT,T.keep _ _ _ Qx λb hb o e=>(I7.pin (b,o) (aax _ (aax _ (cR hb e)))).1,λb hb=> ?_,w7⟩;obtain ⟨o,e,d⟩:=T.obj _ _ Qx b hb;exact (I7.pin (b,o) (aax _ (aax _ (cR hb e)))).2.1
  cases f with
  | next=>obtain ⟨σ7,H7,I7,n7⟩:=q7;exact again I7 n7
  | cont=>obtain ⟨σ7,H7,I7,n7⟩:=q7;exact again I7 n7
  | brk=>obtain ⟨σ7,H7,I7,q7⟩:=q7;exact ⟨σ7,H7,I7.gT,q7⟩
  | ret v=>obtain ⟨x7,σ7,H7,I7,r7,q7⟩:=q7;exact ⟨x7,σ7,H7,I7.gT,r7,q7⟩
end
abbrev R2:=V->V->Hp->VK->Prop
def ij(X:Cx)(f:Value->Value->Sem Value)(r:R2):Prop:=
 ∀(δ:List (Addr×Obj)) (s:Shared) (σ:St) (H:Hp) (x y:V) (v u:Value) (Q:VK),Inv X δ σ H s->Ω x v->Ω y u->r x y H Q->
  wpAny (model X.prog X.w) X.A (f v u) (EP X δ σ Q) X.xe s
def Po(X:Cx)(f:Value->Sem Value)(r:V->Hp->VK->Prop):Prop:=
 ∀(δ:List (Addr×Obj)) (s:Shared) (σ:St) (H:Hp) (x:V) (v:Value) (Q:VK),Inv X δ σ H s->Ω x v->r x H Q->
  wpAny (model X.prog X.w) X.A (f v) (EP X δ σ Q) X.xe s
def cw(X:Cx)(f:Value)(r:List V->Hp->VK->Prop):Prop:=
 ∀(δ:List (Addr×Obj)) (s:Shared) (σ:St) (H:Hp) (xs:List V) (us:List Value) (Q:VK),Inv X δ σ H s->Ψ xs us->r xs H Q->
  wpAny (model X.prog X.w) X.A (call f us) (EP X δ σ Q) X.xe s
def Mp(r:R2)(ta tb:TE):TE:=λσ H Q=>ta σ H λx H1=>tb σ H1 λy H2=>r x y H2 Q
def TX(r:V->Hp->VK->Prop)(ta:TE):TE:=λσ H Q=>ta σ H λx H1=>r x H1 Q
def rI(C:Int->Int->Prop)(g:Int->Int->V):R2:=λx y H Q=>∃i j,x= .int i/\y= .int j/\C i j/\Q (g i j) H
def Am(g:Int->Int->V):R2:=λx y H Q=>∃i j,x= .int i/\y= .int j/\Q (g i j) H
def rU(g:Int->V):V->Hp->VK->Prop:=λx H Q=>∃i,x= .int i/\Q (g i) H
section
variable{a b:Expr}{tb tc:TE}
theorem Kx(ha:PE X a ta)(hb:PE X b tb){H:Hp}{R:V->V->Hp->Prop}(I:Inv X δ σ H s)
  (h:ta σ H λx H1=>tb σ H1 λy H2=>R x y H2)
  (hf:∀v u s2 x y H2,Inv X δ σ H2 s2->Ω x v->Ω y u->R x y H2->wpAny (model X.prog X.w) X.A (f v u) Q X.xe s2):
  wpAny (model X.prog X.w) X.A (eval a X.env) (λv s₁=>wpAny (model X.prog X.w) X.A (eval b X.env) (λu s₂=>wpAny (model X.prog X.w) X.A (f v u) Q X.xe s₂) X.xe s₁) X.xe s:=by
 refine bD (ha δ s σ H _ I h) λv s1 ⟨x,H1,I1,r1,q1⟩=> ?_;refine bD (hb δ s1 σ H1 _ I1 q1) λu s2 ⟨y,H2,I2,r2,q2⟩=> ?_;exact hf v u s2 x y H2 I2 r1 r2 q2
theorem OC{op:Operator}{r:R2}(ho:ij X (binaryOp op) r)(ha:PE X a ta)(hb:PE X b tb):PE X (.BinOp a op b pos) (Mp r ta tb):=by intro δ s σ H Q I h;exact wpAny_BinOp (Kx ha hb I h λv u s2 x y H2 I2 rx ry q=>ho δ s2 σ H2 x y v u Q I2 rx ry q)
theorem MX{op:UnaryOp}{r:V->Hp->VK->Prop}(ho:Po X (unaryOp op) r)(ha:PE X a ta):PE X (.UnaryOp op a pos) (TX r ta):=by intro δ s σ H Q I h;exact UnaryOp_ (bD (ha δ s σ H _ I h) λv s1 ⟨x,H1,I1,r1,q1⟩=>ho δ s1 σ H1 x v Q I1 r1 q1)
theorem OL{C:Int->Int->Prop}{g:Int->Int->Int}
  (rule:∀(i j:Int) (t u:Tok) (s:Shared) (Q:Value->Shared->Prop) (E:Value->Shared->Prop),C i j->Q (.int (g i j) s.toks) {s with toks:=s.toks+1}->wpAny (model X.prog X.w) X.A (f (.int i t) (.int j u)) Q E s):
  ij X f (rI C λi j=> .int (g i j)):=by
 intro δ s σ H x y v u Q I rx ry h;obtain ⟨i,j,rfl,rfl,hc,q⟩:=h;obtain ⟨t,rfl⟩:=rx;obtain ⟨t',rfl⟩:=ry;exact rule i j t t' s _ _ hc ⟨.int (g i j),H,I.tok _,⟨_,rfl⟩,q⟩
theorem N'{g:Int->Int->Int}
  (rule:∀(i j:Int) (t u:Tok) (s:Shared) (Q:Value->Shared->Prop) (E:Value->Shared->Prop),Q (.int (g i j) s.toks) {s with toks:=s.toks+1}->wpAny (model X.prog X.w) X.A (f (.int i t) (.int j u)) Q E s):
  ij X f (Am λi j=> .int (g i j)):=by
 intro δ s σ H x y v u Q I rx ry h;obtain ⟨i,j,rfl,rfl,q⟩:=h;obtain ⟨t,rfl⟩:=rx;obtain ⟨t',rfl⟩:=ry;exact rule i j t t' s _ _ ⟨.int (g i j),H,I.tok _,⟨_,rfl⟩,q⟩
theorem GI{g:Int->Int->Bool}
  (rule:∀(i j:Int) (t u:Tok) (s:Shared) (Q:Value->Shared->Prop) (E:Value->Shared->Prop),Q (.bool (g i j)) s->wpAny (model X.prog X.w) X.A (f (.int i t) (.int j u)) Q E s):
  ij X f (Am λi j=> .bl (g i j)):=by
 intro δ s σ H x y v u Q I rx ry h;obtain ⟨i,j,rfl,rfl,q⟩:=h;obtain ⟨t,rfl⟩:=rx;obtain ⟨t',rfl⟩:=ry;exact rule i j t t' s _ _ ⟨.bl (g i j),H,I,rfl,q⟩
def oB(i j:Int):Prop:=0<=j/\j<=1000000/\i.natAbs < 2 ^ 64
theorem Jo:ij X (binaryOp .Add) (Am λi j=> .int (i+j)):=N' λ_ _ _ _ _ _ _ q=>add_int q
theorem K5:ij X (binaryOp .Sub) (Am λi j=> .int (i - j)):=N' λ_ _ _ _ _ _ _ q=>sub_int q
theorem KC:ij X (binaryOp .Mod) (rI (λ_ j=>0 < j) λi j=> .int (i % j)):=OL λi j _ _ _ _ _ hc q=>by have h1:(0:Int) < j:=hc;exact mod_int' (by omega) (by rw [abr i (by omega)];exact q)
theorem Jh:ij X (binaryOp .Pow) (rI oB λi j=> .int (i ^ j.toNat)):=OL λ_ _ _ _ _ _ _ hc q=>pow_int_small hc.1 hc.2.1 hc.2.2 q
theorem UG{f:Value->Sem Value}{g:Int->Int}
  (rule:∀(i:Int) (t:Tok) (s:Shared) (Q:Value->Shared->Prop) (E:Value->Shared->Prop),Q (.int (g i) s.toks) {s with toks:=s.toks+1}->wpAny (model X.prog X.w) X.A (f (.int i t)) Q E s):
  Po X f (rU λi=> .int (g i)):=by
 intro δ s σ H x v Q I rx h;obtain ⟨i,rfl,q⟩:=h;obtain ⟨t,rfl⟩:=rx;exact rule i t s _ _ ⟨.int (g i),H,I.tok _,⟨_,rfl⟩,q⟩
theorem J_:Po X (unaryOp .USub) (rU λi=> .int (-i)):=UG λ_ _ _ _ _ q=>neg_int q
end
def MQ:V->V->Bool
 | .bf, .bf=>true | .bf, .int _=>true | .int _, .bf=>true | .bf, .bl _=>true | .bl _, .bf=>true | .bf, .str _=>true | .str _, .bf=>true
 | .int _, .int _=>true | .bl _, .bl _=>true | .str _, .str _=>true | .A' _, .A' _=>true
 | .int _, .str _=>true | .str _, .int _=>true | .bl _, .str _=>true | .str _, .bl _=>true
 | _,_=>false
def Tf:R2:=λx y H Q=>MQ x y=true/\Q (.bl (decide (x=y))) H
def Ta:R2:=λx y H Q=>MQ x y=true/\Q (.bl (!decide (x=y))) H
theorem yh{i j:Int}:decide (V.int i=V.int j)=(i==j):=by rw [abc];simp
theorem Co{i j:Bool}:decide (V.bl i=V.bl j)=(i==j):=by rw [abc];simp
theorem yj{i j:Str}:decide (V.str i=V.str j)=(i==j):=by rw [abc];simp
theorem yq{i j:Array UInt8}:decide (V.A' i=V.A' j)=(i.toList==j.toList):=by rw [abc];cases i;cases j;simp
section
variable{a b:Expr}{tb tc:TE}
theorem ay{H:Hp}{Q:VK}{k k':Bool}(I:Inv X δ σ H s)(q:Q (.bl k) H)(e:k=k'):EP X δ σ Q (.bool k') s:=by subst e;exact ⟨.bl k,H,I,rfl,q⟩
theorem HB:ij X (compareOp .Eq) Tf:=by
 intro δ s σ H x y v u Q I rx ry h;obtain ⟨hs,q⟩:=h;cases x with
 | bf=>
  cases rx;cases y with
  | bf=>cases ry;exact PySem.EqNone.eq_none_none (ay I q (by simp))
  | bl j=>cases ry;exact PySem.EqNone.eq_none_bool (ay I q (by simp))
  | int j=>obtain ⟨t',rfl⟩:=ry;exact PySem.EqNone.eq_none_int (ay I q (by simp))
  | str j=>obtain ⟨t',rfl⟩:=ry;exact PySem.EqNone.eq_none_str (ay I q (by simp))
  | _=>exact aaH (show false=true from hs) aar
 | bl i=>
  cases rx;cases y with
  | bf=>cases ry;exact PySem.EqNone.eq_bool_none (ay I q (by simp))
  | bl j=>cases ry;exact eq_bool (ay I q Co)
  | str j=>obtain ⟨t',rfl⟩:=ry;exact PySem.EqMixed.eq_bool_str (ay I q (by simp))
  | _=>exact aaH (show false=true from hs) aar
 | int i=>
  obtain ⟨t,rfl⟩:=rx;cases y with
  | bf=>cases ry;exact PySem.EqNone.eq_int_none (ay I q (by simp))
  | int j=>obtain ⟨t',rfl⟩:=ry;exact eq_int (ay I q yh)
  | str j=>obtain ⟨t',rfl⟩:=ry;exact PySem.EqMixed.eq_int_str (ay I q (by simp))
  | _=>exact aaH (show false=true from hs) aar
 | str i=>
  obtain ⟨t,rfl⟩:=rx;cases y with
  | bf=>cases ry;exact PySem.EqNone.eq_str_none (ay I q (by simp))
  | bl j=>cases ry;exact PySem.EqMixed.eq_str_bool (ay I q (by simp))
  | int j=>obtain ⟨t',rfl⟩:=ry;exact PySem.EqMixed.eq_str_int (ay I q (by simp))
  | str j=>obtain ⟨t',rfl⟩:=ry;exact eq_str (ay I q yj)
  | _=>exact aaH (show false=true from hs) aar
 | A' i=>
  obtain ⟨t,rfl⟩:=rx;cases y with
  | A' j=>obtain ⟨t',rfl⟩:=ry;exact PySem.W.eq_bytes (ay I q yq)
  | _=>exact aaH (show false=true from hs) aar
 | _=>cases y <;> exact aaH (show false=true from hs) aar
theorem MP:ij X (compareOp .NotEq) Ta:=by
 intro δ s σ H x y v u Q I rx ry h;obtain ⟨hs,q⟩:=h;cases x with
 | bf=>
  cases rx;cases y with
  | bf=>cases ry;exact PySem.EqNone.ne_none_none (ay I q (by simp))
  | bl j=>cases ry;exact PySem.EqNone.ne_none_bool (ay I q (by simp))
  | int j=>obtain ⟨t',rfl⟩:=ry;exact PySem.EqNone.ne_none_int (ay I q (by simp))
  | str j=>obtain ⟨t',rfl⟩:=ry;exact PySem.EqNone.ne_none_str (ay I q (by simp))
  | _=>exact aaH (show false=true from hs) aar
 | bl i=>
  cases rx;cases y with
  | bf=>cases ry;exact PySem.EqNone.ne_bool_none (ay I q (by simp))
  | bl j=>cases ry;exact ne_bool (ay I q (aa3 not Co))
  | str j=>obtain ⟨t',rfl⟩:=ry;exact PySem.EqMixed.ne_bool_str (ay I q (by simp))
  | _=>exact aaH (show false=true from hs) aar
 | int i=>
  obtain ⟨t,rfl⟩:=rx;cases y with
  | bf=>cases ry;exact PySem.EqNone.ne_int_none (ay I q (by simp))
  | int j=>obtain ⟨t',rfl⟩:=ry;exact ne_int (ay I q (aa3 not yh))
  | str j=>obtain ⟨t',rfl⟩:=ry;exact PySem.EqMixed.ne_int_str (ay I q (by simp))
  | _=>exact aaH (show false=true from hs) aar
 | str i=>
  obtain ⟨t,rfl⟩:=rx;cases y with
  | bf=>cases ry;exact PySem.EqNone.ne_str_none (ay I q (by simp))
  | bl j=>cases ry;exact PySem.EqMixed.ne_str_bool (ay I q (by simp))
  | int j=>obtain ⟨t',rfl⟩:=ry;exact PySem.EqMixed.ne_str_int (ay I q (by simp))
  | str j=>obtain ⟨t',rfl⟩:=ry;exact ne_str (ay I q (aa3 not yj))
  | _=>exact aaH (show false=true from hs) aar
 | A' i=>
  obtain ⟨t,rfl⟩:=rx;cases y with
  | A' j=>obtain ⟨t',rfl⟩:=ry;exact PySem.W.ne_bytes (ay I q (aa3 not yq))
  | _=>exact aaH (show false=true from hs) aar
 | _=>cases y <;> exact aaH (show false=true from hs) aar
theorem Hc:ij X (compareOp .Lt) (Am λi j=> .bl (decide (i < j))):=GI λ_ _ _ _ _ _ _ q=>lt_int q
theorem LI:ij X (compareOp .LtE) (Am λi j=> .bl (decide (i<=j))):=GI λ_ _ _ _ _ _ _ q=>le_int q
theorem MG:ij X (compareOp .Gt) (Am λi j=> .bl (decide (j < i))):=GI λ_ _ _ _ _ _ _ q=>gt_int q
theorem Oc:ij X (compareOp .GtE) (Am λi j=> .bl (decide (j<=i))):=GI λ_ _ _ _ _ _ _ q=>ge_int q
theorem ij.or{r r':R2}(h:ij X f r)(h':ij X f r'):ij X f (λx y H Q=>r x y H Q\/r' x y H Q):=by
 intro δ s σ H x y v u Q I rx ry q;rcases q with q | q
 ·exact h δ s σ H x y v u Q I rx ry q
 ·exact h' δ s σ H x y v u Q I rx ry q
theorem iC(b:Expr)(h:op≠ .In:=by decide)(h2:op≠ .NotIn:=by decide):behindInMarks op b=false:=by
 have e1:(op==CmpOp.In)=false:=by cases op <;> first | rfl | exact aaH rfl h
 have e2:(op==CmpOp.NotIn)=false:=by cases op <;> first | rfl | exact aaH rfl h2
 cases b <;> simp [behindInMarks,e1,e2]
theorem EO{r:R2}(ho:ij X (compareOp op) r)(ha:PE X a ta)(hb:PE X b tb)(hm:behindInMarks op b=false):PE X (.Compare a [op] [b] pos) (Mp r ta tb):=by intro δ s σ H Q I h;exact wpAny_Compare1 (Kx ha hb I h λv u s2 x y H2 I2 rx ry q=>ho δ s2 σ H2 x y v u Q I2 rx ry q) hm
def LS(t:TE):TT:=λσ H Q=>t σ H λx H'=>∃k,x= .bl k/\Q k H'
theorem ER{r:R2}(ho:ij X (compareOp op) r)(ha:PE X a ta)(hb:PE X b tb)(hm:behindInMarks op b=false):PT X (.Compare a [op] [b] pos) (LS (Mp r ta tb)):=by
 intro δ s σ H Q I h
 refine wpAny_isTrue_Compare1 (bD (ha δ s σ H _ I h) λv s1 ⟨x,H1,I1,r1,q1⟩=>bD (hb δ s1 σ H1 _ I1 q1) λu s2 ⟨y,H2,I2,r2,q2⟩=>
  bD (ho δ s2 σ H2 x y v u _ I2 r1 r2 q2) λc s3 ⟨z,H3,I3,r3,k,e,q3⟩=> ?_) hm
 subst e;cases r3;exact wpAny_truthy_bool ⟨H3,I3,q3⟩
theorem nN:(sizeLine:Nat) < 2 ^ 63:=by rw [sizeLine_eq];decide
theorem xT:ij X (binaryOp .Add) (λx y H Q=>∃i j,x= .str i/\y= .str j/\i.length+j.length<=sizeLine/\Q (.str (i++j)) H):=by intro δ s σ H x y v u Q I rx ry h;obtain ⟨i,j,rfl,rfl,hz,q⟩:=h;obtain ⟨t,rfl⟩:=rx;obtain ⟨t',rfl⟩:=ry;exact add_str (λt' tk=>⟨.str (i++j),H,I.tok _,⟨_,rfl⟩,q⟩) hz
theorem iE{x:V}(r:Ψ [x] us):∃u,us=[u]/\Ω x u:=by
 cases r with
 | cons r1 r2=>cases r2;exact ⟨_,rfl,r1⟩
theorem OI{x y:V}(r:Ψ [x,y] us):∃u w',us=[u,w']/\Ω x u/\Ω y w':=by
 cases r with
 | cons r1 r2=>
  cases r2 with
  | cons r3 r4=>cases r4;exact ⟨_,_,rfl,r1,r3⟩
theorem D5:cw X (.builtin "abs") (λxs H Q=>∃i,xs=[.int i]/\Q (.int (if i < 0 then -i else i)) H):=by intro δ s σ H xs us Q I r h;obtain ⟨i,rfl,q⟩:=h;obtain ⟨u,rfl,t,rfl⟩:=iE r;exact call_abs_int λu tk=>⟨.int (if i < 0 then -i else i),H,I.tok _,⟨_,rfl⟩,q⟩
end
structure wC(h:Heap)(x dx C:Addr)(mA:Str->Option Value):Prop where
 obj:h.get? x=some (PySem.W.instObj C dx)
 ns:h.Ns1 dx mA
 ne:dx≠x
theorem AW(n:h.Ns1 dx mA):∃od,h.get? dx=some od/\∀name,PySem.W.lookIn name od=some (mA name):=by
 obtain ⟨o,es,ep,ho,hd,hk,_,hm⟩:=n;refine ⟨o,ho,λname=> ?_⟩;have e:=hm name;unfold nsFind findBy at e;rw [<-Array.find?_toList] at e;unfold PySem.W.lookIn;rw [hd];dsimp only;split
 ·rename_i y q;rw [q] at e;exact aa3 some e
 ·rename_i q;rw [q] at e;have a:es.toList.any (·.refKey)=false:=by rw [List.any_eq_false];intro y hy;obtain ⟨z,t,pU⟩:=hk y (Array.mem_toList_iff.mp hy);simp [DictEntry.refKey,pU]
  have a':¬es.toList.any (·.refKey)=true:=by rw [a];exact aar
  rw [aaF a'];exact aa3 some e
theorem wC.look{x:Addr}(I:wC h x dx C mA):∃od,PySem.W.InstAt h x (PySem.W.instObj C dx) C (some od)/\∀name,PySem.W.lookIn name od=some (mA name):=
 let ⟨od,ho,hl⟩:=AW I.ns
 ⟨od,⟨I.obj,rfl,rfl,ho⟩,hl⟩
section
variable{K:fv}{x f:Addr}{name:Str}{v:Value}
theorem GU{expr:Bool}(X:K.In s.heap)(I:wC s.heap x dx C mA)(hg:PySem.W.plainGet K C name=true)(hh:PySem.W.hasDictIn K C=true)
  (ha:PySem.W.findIn K (.ref C) name=some none) (hv:mA name=some v) (yn:PySem.W.handedIn v=true) (h:Q v {s with toks:=s.toks+1}):
  wpAny (model prog w) A (getAttr (.ref x) name expr) Q E s:=by
 obtain ⟨od,J,hl⟩:=I.look;exact PySem.W.get_value X J (PySem.W.plainGet_of hg).1 (PySem.W.findObj_own hh ha rfl (by rw [hl,hv])) yn h
theorem BR{pl:Sem Bool}{Q:Value×List Value->Shared->Prop}(X:K.In s.heap)(I:wC s.heap x dx C mA)(hg:PySem.W.plainGet K C name=true)
  (hf:PySem.W.findIn K (.ref C) name=some (some (.ref f))) (ht:PySem.W.isFn K (.ref f)=true) (hv:mA name=none) (h:Q (.ref f,[.ref x]) s):
  wpAny (model prog w) A (getMethod (.ref x) name pl) Q E s:=by
 obtain ⟨od,J,hl⟩:=I.look;exact PySem.W.method_fn X J (PySem.W.plainGet_of hg).1 (PySem.W.plainGet_of hg).2 hf (beq_iff_eq.mp ht) (by show (PySem.W.lookIn name od).map (·.isSome)=some false;rw [hl,hv];rfl) h
theorem FL{ns:List Str}{Q:Unit->Shared->Prop}(X:K.In s.heap)(I:wC s.heap x dx C mA)
  (hs:PySem.W.findIn K (.ref C) "__setattr__"=some (some (.builtin "object.__setattr__"))) (hp:PySem.W.plainOver K C=true) (ht:PySem.W.takerIn K C name=some none) (hh:PySem.W.hasDictIn K C=true)
  (hw:PySem.Within mA ns) (hsz:ns.length<=sizeLine)
  (h:∀h',wC h' x dx C (λy=>if y=name then some v else mA y)->Heap.SameBut dx s.heap h'->Q () {s with heap:=h',toks:=s.toks+2}):
  wpAny (model prog w) A (setAttr (.ref x) name v) Q E s:=by
 obtain ⟨od,J,hl⟩:=I.look;refine PySem.W.set_plain X J hs (PySem.W.osa_open (s:={s with toks:=s.toks+1}) (r:=none) X J hp ht λb=> ?_);obtain ⟨cd,hc,eJ⟩:=PySem.W.any_some hh;have hx:s.heap.get? x=some ⟨.ref C,some dx, .plain, #[]⟩:=I.obj;refine aab (aae (aab (aab (wpAny_loadPart hx (aab (PySem.W.Looks.here (s:={s with toks:=s.toks+1}) (PySem.W.looks_clsIn X hc) ?_))))));rw [eJ];refine aae (a:=some dx) (aab (aae (aab ?_)));refine wpAny_nsSet1 (s:={s with toks:=s.toks+1}) I.ns λh' Ly SO=> ?_;obtain ⟨oD,Yj,X2,U',Vy,WM⟩:=Ly.count (PySem.Within.cons name v hw);refine aab (wpAny_lookBehind U' (by rw [Vy];exact pastItsLine_dict (aam WM (by rw [aaN];omega))) ?_);exact aae (h _ ⟨(SO.2 _ (Ne.symm I.ne)).trans I.obj,Ly,I.ne⟩ SO)
theorem Bi{R:Result->Shared->Prop}{vs:List Value}(X:K.In s.heap)(hm:PySem.W.makesIn K C=true)
  (hi:PySem.W.findIn K (.ref C) "__init__"=some (some (.ref f))) (hf:PySem.W.typeIn K (.ref f)=some (.type "function"))
  (h:codeAny (model prog w) (A.under (.builtin "type.__call__" ⟨.ref C::vs,kw⟩)) (.call (.ref f) ⟨.ref (s.heap.objs.size+1)::vs,kw⟩) (PySem.W.InitBack (s.heap.objs.size+1) R)
   {s with heap:=(s.heap.push PySem.W.emptyDict).push (PySem.W.instObj C s.heap.objs.size)}):
  codeAny (model prog w) A (.call (.ref C) ⟨vs,kw⟩) R s:=by
 obtain ⟨hh,g,d,t,os⟩:=s;exact PySem.W.make_core (PySem.W.makes_of X hm) (PySem.W.looks_findIn X hi) (λself=>PySem.W.bind_fn X self hf) (.inl rfl) h
end
def gO(f:Str)(v:V):List (Str×V)->List (Str×V)
 | []=>[(f,v)]
 | (g,x)::r=>if g=f then (g,v)::r else (g,x)::gO f v r
theorem mB(f g:Str)(v:V):∀fs:List (Str×V),(gO f v fs).lookup g=if g=f then some v else fs.lookup g
 | []=>by
  show List.lookup g [(f,v)]=_;by_cases h:g=f
  ·have hb:(g==f)=true:=beq_iff_eq.mpr h;simp only [List.lookup,hb,if_pos h]
  ·have hb:(g==f)=false:=beq_eq_false_iff_ne.mpr h;simp only [List.lookup,hb,if_neg h]
 | (k,x)::r=>by
  have ih:=mB f g v r;rw [show gO f v ((k,x)::r)=(if k=f then (k,v)::r else (k,x)::gO f v r) from rfl];by_cases hk:k=f
  ·rw [aaI hk];by_cases h:g=k
   ·have hb:(g==k)=true:=beq_iff_eq.mpr h;simp only [List.lookup,hb,if_pos (h.trans hk)]
   ·have hb:(g==k)=false:=beq_eq_false_iff_ne.mpr h;simp only [List.lookup,hb,if_neg (λe:g=f=>h (e.trans hk.symm))]
  ·rw [aaF hk];by_cases h:g=k
   ·have hb:(g==k)=true:=beq_iff_eq.mpr h;simp only [List.lookup,hb,if_neg (λe:g=f=>hk (h.symm.trans e))]
   ·have hb:(g==k)=false:=beq_eq_false_iff_ne.mpr h;simp only [List.lookup,hb];exact ih
theorem l7(f:Str)(v:V):∀fs:List (Str×V),f∈(gO f v fs).map (·.1)/\∀g,g∈fs.map (·.1)->g∈(gO f v fs).map (·.1)
 | []=>⟨by simp [gO],λg h=>by simp at h⟩
 | (k,x)::r=>by
  obtain ⟨i1,i2⟩:=l7 f v r;rw [show gO f v ((k,x)::r)=(if k=f then (k,v)::r else (k,x)::gO f v r) from rfl];by_cases hk:k=f
  ·rw [aaI hk];subst hk;exact ⟨by simp,λg h=>by simpa using h⟩
  ·rw [aaF hk];refine ⟨?_,λg h=> ?_⟩
   ·rw [aaD];exact aai _ i1
   ·rw [aaD] at h⊢;rcases aaz.mp h with e | e
    ·exact aaz.mpr (.inl e)
    ·exact aai _ (i2 g e)
theorem mH(f:Str)(v:V):∀fs:List (Str×V),(gO f v fs).length<=fs.length+1
 | []=>by simp [gO]
 | (k,x)::r=>by
  have ih:=mH f v r;rw [show gO f v ((k,x)::r)=(if k=f then (k,v)::r else (k,x)::gO f v r) from rfl];by_cases hk:k=f
  ·rw [aaI hk,aaN,aaN];omega
  ·rw [aaF hk,aaN,aaN];omega
theorem iY.some_of{o:Option Value}(r:iY (some v) o):∃u,o=some u/\Ω v u:=by
 cases o with
 | none=>exact (show False from r).elim
 | some u=>exact ⟨u,rfl,r⟩
theorem iY.none_of{o:Option Value}(r:iY none o):o=none:=by
 cases o with
 | none=>rfl
 | some u=>exact (show False from r).elim
theorem zK(r:Ω v u):PySem.W.handedIn u=true:=by
 cases v with
 | bf=>cases (show u=Value.none from r);rfl
 | bl b=>cases (show u=Value.bool b from r);rfl
 | int i=>obtain ⟨t,e⟩:=(show∃t,u=Value.int i t from r);cases e;rfl
 | str x=>obtain ⟨t,e⟩:=(show∃t,u=Value.str x t from r);cases e;rfl
 | A' b=>obtain ⟨t,e⟩:=(show∃t,u=Value.bytes b t from r);cases e;rfl
 | JH b=>obtain ⟨t,e⟩:=(show∃t,u=Value.float b t from r);cases e;rfl
 | ref a=>cases (show u=Value.ref a from r);rfl
 | ty n=>cases (show u=Value.type n from r);rfl
section
variable{H H':Hp}{fs Su:List (Str×V)}
theorem nH(aJ:iW P w H h)(e:H a=some (.ins C dx fs)):∃mA,wC h a dx C mA/\(∀f,iY (fs.lookup f) (mA f))/\PySem.Within mA (fs.map (·.1))/\fs.length<=1000/\H dx=some (.own a):=by obtain ⟨d,z,ne,ob,mA,n,r,q⟩:=(show aO P w H h a (.ins C dx fs) from aJ a _ e);exact ⟨mA,⟨ob,n,ne⟩,r,q,z,d⟩
end
structure xa(K:fv)(C:Addr):Prop where
 pg:PySem.W.plainGet K C Str.empty=true
 hd:PySem.W.hasDictIn K C=true
 po:PySem.W.plainOver K C=true
 sa:PySem.W.findIn K (.ref C) "__setattr__"=some (some (.builtin "object.__setattr__"))
theorem xa.get{K:fv}{C:Addr}(c:xa K C)(f:Str):PySem.W.plainGet K C f=true:=c.pg
def fh(K:fv)(C:Addr)(f:Str):Prop:=PySem.W.findIn K (.ref C) f=some none
theorem fh.MJ{K:fv}{f:Str}(n:fh K C f):PySem.W.takerIn K C f=some none:=by unfold PySem.W.takerIn;rw [show PySem.W.findIn K (.ref C) f=some none from n];rfl
structure GV(K:fv)(C:Addr)(m:Str)(f:Addr):Prop where
 at_:PySem.W.findIn K (.ref C) m=some (some (.ref f))
 fn:PySem.W.isFn K (.ref f)=true
 kp:PySem.W.keepIn K (.ref f)=true
section
variable{H:Hp}{fs:List (Str×V)}{f:Str}
theorem wF{b:Bool}(I:Inv X δ σ H s)(e:H a=some (.ins C dx fs))(c:xa X.K C)(n:fh X.K C f)(l:fs.lookup f=some v)
  (h:∀u s',Inv X δ σ H s'->Ω v u->Q u s'):wpAny (model X.prog X.w) A (getAttr (.ref a) f b) Q E s:=by
 obtain ⟨mA,O,r,_,_,_⟩:=nH I.aJ e;obtain ⟨u,hu,ru⟩:=iY.some_of (v:=v) (o:=mA f) (by rw [<-l];exact r f);exact GU I.mV O (c.get f) c.hd n hu (zK ru) (h u _ (I.tok _) ru)
theorem oQ{m:Str}{g:Addr}{pl:Sem Bool}{Q:Value×List Value->Shared->Prop}(I:Inv X δ σ H s)(e:H a=some (.ins C dx fs))(c:xa X.K C)(k:GV X.K C m g)(l:fs.lookup m=none)
  (h:Q (.ref g,[.ref a]) s):wpAny (model X.prog X.w) A (getMethod (.ref a) m pl) Q E s:=by
 obtain ⟨mA,O,r,_,_,_⟩:=nH I.aJ e;have hn:mA m=none:=iY.none_of (by rw [<-l];exact r m);exact BR I.mV O (c.get m) k.at_ k.fn hn h
theorem wI{y:V}{Q:Unit->Shared->Prop}(I:Inv X δ σ H s)(e:H a=some (.ins C dx fs))(c:xa X.K C)(n:fh X.K C f)(hl:fs.length < 1000)(ry:Ω y u)
  (h:∀s',Inv X δ σ (upd H a (.ins C dx (gO f y fs))) s'->Q () s'):wpAny (model X.prog X.w) A (setAttr (.ref a) f u) Q E s:=by
 obtain ⟨mA,O,r,wi,_,ho⟩:=nH I.aJ e;have hz:(fs.map (·.1)).length<=sizeLine:=by rw [aac,sizeLine_eq];omega
 refine FL I.mV O c.sa c.po n.MJ c.hd wi hz λh' O' sb=>h _ ?_;have hd:∃o,h'.get? dx=some o:=let ⟨o,_,_,e',_⟩:=O'.ns;⟨o,e'⟩
 refine I.write (x:=a) (e:=dx) (by rw [e];exact True.intro) (.inr ho) (λb q hb z=>(sb.2 b hb).trans z) hd ?_;refine ⟨by rw [Β O.ne];exact ho, ?_,O.ne,O'.obj,_,O'.ns,λg=> ?_,λg hg=> ?_⟩
 ·have:=mH f y fs;omega
 ·show iY ((gO f y fs).lookup g) (if g=f then some u else mA g);rw [mB];by_cases q:g=f
  ·rw [aaI q,aaI q];exact ry
  ·rw [aaF q,aaF q];exact r g
 ·by_cases q:g=f
  ·rw [q];exact (l7 f y fs).1
  ·refine (l7 f y fs).2 g (wi g λz=>hg ?_);show (if g=f then some u else mA g)=none;rw [aaF q];exact z
theorem Inv.made(I:Inv X δ σ H s):Inv X δ σ (upd (upd H s.heap.objs.size (.own (s.heap.objs.size+1))) (s.heap.objs.size+1) (.ins C s.heap.objs.size []))
  {s with heap:=(s.heap.push PySem.W.emptyDict).push (PySem.W.instObj C s.heap.objs.size)}:=by
 have e1:(s.heap.push PySem.W.emptyDict).get? s.heap.objs.size=some PySem.W.emptyDict:=aau s.heap rfl;have e2:((s.heap.push PySem.W.emptyDict).push (PySem.W.instObj C s.heap.objs.size)).get? (s.heap.objs.size+1)=some (PySem.W.instObj C s.heap.objs.size):=by have:=aau (s.heap.push PySem.W.emptyDict) (o:=PySem.W.instObj C s.heap.objs.size) rfl;rwa [Heap.size_push] at this
 have e3:(s.heap.push PySem.W.emptyDict).Ns s.heap.objs.size (λ_=>none):=⟨PySem.W.emptyDict, #[],_,e1,rfl,(λe he=>absurd he (by simp)),λ_=>rfl⟩;have I1:=I.laid (a:=s.heap.objs.size) (o:= .own (s.heap.objs.size+1)) (h':=s.heap.push PySem.W.emptyDict) (t':=s.toks) (λb u q=>aaf _ q) (aal _) ⟨_,e1⟩;refine I1.laid (a:=s.heap.objs.size+1) (o:= .ins C s.heap.objs.size []) (t':=s.toks) (λb u q=>aaf _ q) (Nat.le_of_eq (Heap.size_push _ _)) ?_;have ne:s.heap.objs.size≠s.heap.objs.size+1:=aaG (Nat.lt_succ_self _);refine ⟨by rw [Β ne,Ο],abD _,ne,e2,λ_=>none,(Heap.Ns1.of_empty e3).at λo q=>aaf _ q,λ_=>True.intro,λy hy=>aaH rfl hy⟩
theorem Ga{env:Env}{f:Str}(hb:attributeBase e f env (eval e env)=eval e env)
  (h:wpAny (model prog w) A (eval e env) (λo s₁=>wpAny (model prog w) A (getAttr o f true) Q E s₁) E s):wpAny (model prog w) A (eval (.Attribute e f pos) env) Q E s:=
 Attribute_any_ h (by rw [arm_eval_Attribute,hb])
end
def Q1(K:fv)(ta:TE)(f:Str):TE:=λσ H Q=>ta σ H λx H1=>∃a C dx fs v,x= .ref a/\H1 a=some (.ins C dx fs)/\xa K C/\fh K C f/\fs.lookup f=some v/\Q v H1
def Qy(K:fv)(ta tv:TE)(f:Str):TS:=λD σ H=>tv σ H λy H1=>ta σ H1 λx H2=>∃a C dx fs,x= .ref a/\H2 a=some (.ins C dx fs)/\xa K C/\fh K C f/\fs.length < 1000/\
 D.nx σ (upd H2 a (.ins C dx (gO f y fs)))
section
variable{o value:Expr}{f:Str}{pos' IU:Pos}{tv:TE}
theorem Kg(he:PE X e ta)(hb:attributeBase e f X.env (eval e X.env)=eval e X.env):PE X (.Attribute e f pos) (Q1 X.K ta f):=by intro δ s σ H Q I h;refine Ga hb (bD (he δ s σ H _ I h) λu s1 ⟨x,H1,I1,rx,a,C,dx,fs,v,ex,ea,c,n,l,q⟩=> ?_);subst ex;obtain rfl:u=Value.ref a:=rx;exact wF I1 ea c n l λu' s2 I2 ru=>⟨v,H1,I2,ru,q⟩
theorem JV(ha:PE X o ta)(hv:PE X value tv)(hs:swapsWith value (some (.Attribute o f pos')) pos.line X.env=pure false):PS X (.Assign [.Attribute o f pos'] value pos) (Qy X.K ta tv f):=by intro δ s σ H D I h;refine plainObj_wpAny_Assign_Attribute (bD (hv δ s σ H _ I h) λu s1 ⟨y,H1,I1,ry,q⟩=>bD (ha δ s1 σ H1 _ I1 q) λov s2 ⟨x,H2,I2,rx,a,C,dx,fs,ex,ea,c,n,l,q2⟩=> ?_) hs;subst ex;obtain rfl:ov=Value.ref a:=rx;exact wI I2 ea c n l ry λs3 I3=>⟨σ,_,I3,q2⟩
end
section
variable{H:Hp}{c:Value}{b:Bool}
inductive iA(K:fv)(H:Hp):V->Value->Prop where
 | bf:iA K H .bf (.type "NoneType")
 | bl (x:Bool):iA K H (.bl x) (.type "bool")
 | int (i:Int):iA K H (.int i) (.type "int")
 | str (x:Str):iA K H (.str x) (.type "str")
 | JH (x:UInt64):iA K H (.JH x) (.type "float")
 | lst {a:Addr} {xs:List V} (e:H a=some (.lst xs)):iA K H (.ref a) (.type "list")
 | uH {a:Addr} {o:Obj} {xs:List V} (e:H a=some (.uH o (.lst xs))):iA K H (.ref a) (.type "list")
 | tup {a:Addr} {xs:List V} (e:H a=some (.tup xs)):iA K H (.ref a) (.type "tuple")
 | dK {a:Addr} {Κ:List (Key×V)} (e:H a=some (.dK Κ)):iA K H (.ref a) (.type "dict")
 | dT {a:Addr} {Κ:List (List Key×V)} (e:H a=some (.dT Κ)):iA K H (.ref a) (.type "dict")
 | ins {a C dx:Addr} {fs:List (Str×V)} (e:H a=some (.ins C dx fs)) (cl:xa K C) (ha:PySem.W.findIn K (.ref C) "__class__"=some (some (.builtin "object.__class__")))
   (hn:PySem.W.specialIn K (.builtin "object.__class__") "__get__"=some (some (.builtin "getset_descriptor.__get__"))) (Gr:PySem.W.takesIn K (.builtin "object.__class__")=some true)
   (hm:PySem.W.mroIn K C (.type "object")=some true):iA K H (.ref a) (.ref C)
theorem AX{x:V}{t:Value}(I:Inv X δ σ H s)(rx:Ω x u)(ty:iA X.K H x t)(e:PySem.W.kitOne X.K t c=some b)(h:∀tk,Q (.bool b) {s with toks:=tk}):
  wpAny (model X.prog X.w) A (call (.builtin "isinstance") [u,c]) Q E s:=by
 cases ty with
 | bf=>cases (show u=Value.none from rx);exact PySem.W.kia_one PySem.W.kitx_none I.mV True.intro e (λz=>nomatch z) h
 | bl y=>cases (show u=Value.bool y from rx);exact PySem.W.kia_one PySem.W.kitx_bool I.mV True.intro e (λz=>nomatch z) h
 | int i=>obtain ⟨t,q⟩:=(show∃t,u=Value.int i t from rx);cases q;exact PySem.W.kia_one PySem.W.kitx_int I.mV True.intro e (λz=>nomatch z) h
 | str y=>obtain ⟨t,q⟩:=(show∃t,u=Value.str y t from rx);cases q;exact PySem.W.kia_one PySem.W.kitx_str I.mV True.intro e (λz=>nomatch z) h
 | JH y=>obtain ⟨t,q⟩:=(show∃t,u=Value.float y t from rx);cases q;exact PySem.W.kia_one PySem.W.kitx_float I.mV True.intro e (λz=>nomatch z) h
 | @lst a xs ea=>
  cases (show u=Value.ref a from rx);obtain ⟨_,_,n,_,h1⟩:=(show aO X.prog X.w H s.heap a (.lst xs) from I.aJ a _ ea);exact PySem.W.kia_one PySem.W.kitx_list I.mV ⟨_,h1,rfl⟩ e (λz=>nomatch z) h
 | @uH a ob xs ea=>
  cases (show u=Value.ref a from rx);obtain ⟨_,_,_,n,_,h1⟩:=(show aO X.prog X.w H s.heap a (.uH ob (.lst xs)) from I.aJ a _ ea);exact PySem.W.kia_one PySem.W.kitx_list I.mV ⟨_,h1,rfl⟩ e (λz=>nomatch z) h
 | @tup a xs ea=>
  cases (show u=Value.ref a from rx);obtain ⟨_,_,_,p⟩:=(show aO X.prog X.w H s.heap a (.tup xs) from I.aJ a _ ea);obtain ⟨o,h1,h2,_⟩:=p;exact PySem.W.kia_one PySem.W.kitx_tuple I.mV ⟨o,h1,h2⟩ e (λz=>nomatch z) h
 | @dK a Κ ea=>
  cases (show u=Value.ref a from rx);obtain ⟨_,_,vs,_,p⟩:=(show aO X.prog X.w H s.heap a (.dK Κ) from I.aJ a _ ea);obtain ⟨o,es,ep,h1,h2,_⟩:=p;exact PySem.W.kia_one PySem.W.kitx_dict I.mV ⟨o,h1,h2.1⟩ e (λz=>nomatch z) h
 | @dT a Κ ea=>
  cases (show u=Value.ref a from rx);obtain ⟨_,_,xs,_,o,es,ep,h1,h2,_⟩:=(show aO X.prog X.w H s.heap a (.dT Κ) from I.aJ a _ ea);exact PySem.W.kia_one PySem.W.kitx_dict I.mV ⟨o,h1,h2.1⟩ e (λz=>nomatch z) h
 | @ins a C dx fs ea cl ha hn Gr hm=>
  cases (show u=Value.ref a from rx);obtain ⟨mA,O,_⟩:=nH I.aJ ea;obtain ⟨od,J,_⟩:=O.look;exact PySem.W.kia_one (PySem.W.kitx_own (cl.get _) cl.hd ha hn Gr hm) I.mV J e (λz=>nomatch z) h
end
structure bq(k:Nat)(A:Around):Prop where
 hd:A.handled=none
 dp:A.depth+3 * k+5 < recursionLimit
 un:A.units+16 * k+200 < cLine
theorem bq.mono{j:Nat}(r:bq k A)(h:j<=k):bq j A:=⟨r.hd,by have:=r.dp;omega,by have:=r.un;omega⟩
theorem bq.deeper(r:bq (k+1) A)(env:Env):bq k (A.deeper env):=
 ⟨r.hd,by have:=r.dp;show A.depth+1+3 * k+5 < _;omega,by have:=r.un;show A.units+3+16 * k+200 < _;omega⟩
theorem wz:(A.under (.builtin "type.__call__" ⟨.ref C::us,kw⟩)).depth=A.depth+1:=by
 first | rfl | simp [Around.under,Code.weight,Code.isCreation,Code.isGuard,Code.isCaller,Code.frames,Code.isFrame,guardIds]
theorem x8:(A.under (.builtin "type.__call__" ⟨.ref C::us,kw⟩)).units=A.units+1:=by
 first | rfl | simp [Around.under,Code.cUnits,Code.frames,Code.isFrame]
theorem bq.make(r:bq (k+1) A)(C:Addr)(us:List Value)(kw:List (Str×Value)):bq k (A.under (.builtin "type.__call__" ⟨.ref C::us,kw⟩)):=
 ⟨r.hd,by have:=r.dp;rw [wz];omega,by have:=r.un;rw [x8];omega⟩
theorem bq.depth(r:bq k A):A.depth < recursionLimit:=by have:=r.dp;omega
theorem bq.units(r:bq k A):A.units+64 < cLine:=by have:=r.un;omega
theorem bq.xv(r:bq k A):A.units < cLine:=by have:=r.un;omega
def NZ:TA:=λ_ H Q=>Q [] H
def L9(ta:TE)(tr:TA):TA:=λσ H Q=>ta σ H λx H1=>tr σ H1 λxs H2=>Q (x::xs) H2
section
variable{t:TA}
theorem wL:PA X [] NZ:=λ_ _ _ _ H Q I h=>Calls.spliced_nil ⟨[],H,I, .nil,h⟩
theorem sE(ha:PE X e te)(hr:PA X es t)(hs:starEach (e::es) X.env=(false,eval e X.env)::starEach es X.env:=by rfl):PA X (e::es) (L9 te t):=by intro pos δ s σ H Q I h;rw [hs];show wpAny _ _ (spliced ((false,eval e X.env)::backTo pos (starEach es X.env))) _ _ s;refine Calls.spliced_cons (bD (ha δ s σ H _ I h) λu s1 ⟨x,H1,I1,r1,q1⟩=> ?_);exact bD (hr pos δ s1 σ H1 _ I1 q1) λus s2 ⟨xs,H2,I2,r2,q2⟩=>⟨x::xs,H2,I2, .cons r1 r2,q2⟩
def QQ(t:TA):TE:=λσ H Q=>t σ H λxs H1=>xs.length<=sizeLine/\∀p,H1 p=none->Q (.ref p) (upd H1 p (.tup xs))
def RG(t:TA):TE:=λσ H Q=>t σ H λxs H1=>xs.length<=sizeLine/\∀p,H1 p=none->Q (.ref p) (upd H1 p (.lst xs))
theorem JX{x1}(h:PA X es t):PE X (.Tuple es x1 pos) (QQ t):=by intro δ s σ H Q I hq;refine wpAny_Tuple_spliced (bD (h pos δ s σ H _ I hq) λus s1 ⟨xs,H1,I1,r,z,q⟩=>⟨by rw [<-r.length];exact z, ?_⟩);have hf:H1 s1.heap.objs.size=none:=I1.aJ.fresh (aal _);refine ⟨.ref s1.heap.objs.size,upd H1 s1.heap.objs.size (.tup xs),I1.laid (t':=s1.toks) (λb u e=>aaf _ e) (aal _) ?_,rfl,q _ hf⟩;exact ⟨z,us,r,⟨_,aau _ rfl,rfl,_,rfl⟩⟩
theorem Er(h:PA X es t):PE X (.List es pos) (RG t):=by intro δ s σ H Q I hq;refine wpAny_List_spliced (bD (h pos δ s σ H _ I hq) λus s1 ⟨xs,H1,I1,r,z,q⟩=>⟨by rw [<-r.length];exact z, ?_⟩);have hf:H1 s1.heap.objs.size=none:=I1.aJ.fresh (aal _);refine ⟨.ref s1.heap.objs.size,upd H1 s1.heap.objs.size (.lst xs),I1.laid (t':=s1.toks) (λb u e=>aaf _ e) (aal _) ?_,rfl,q _ hf⟩;exact ⟨z,us,0,r,aau _ rfl⟩
end
abbrev Sp:=List V->Hp->VK->XK->Prop
abbrev we:=List Env->Hp->Shared->XK->Value->Shared->Prop
structure xq(P:Program)(w:World)(K:fv)(mg:Str->Option Value)(base:Heap)(A:Around)(outer:List Env)(s:Shared)(H:Hp):Prop where
 frames:A.frames=some outer
 mod:Mod K mg base
 bs:∀b o,base.get? b=some o->s.heap.get? b=some o/\H b=none
 Lj:base.objs.size<=s.heap.objs.size
 pX:s.heap.FunFrames base outer
 L_:∀b∈m5 outer,H b=none
 aJ:iW P w H s.heap
 bare:AllBare s.gens
def CE(outer:List Env)(P:Program)(w:World)(H:Hp)(s:Shared)(Q:VK)(u:Value)(s':Shared):Prop:=
 ∃v H',s'.os=s.os/\AllBare s'.gens/\Un (m5 outer) [] H H' s.heap s'.heap/\iW P w H' s'.heap/\Ω v u/\Q v H'
def CR(CX:we)(outer:List Env)(P:Program)(w:World)(H:Hp)(s:Shared)(Q:VK)(E:XK)(r:Result)(s':Shared):Prop:=
 match r with
 | .ok (.ret u)=>CE outer P w H s Q u s'
 | .ok _=>False
 | .error e=>CX outer H s E e s'
structure aB(P:Program)(w:World)(K:fv)(mg:Str->Option Value)(base:Heap)(CX:we)(k:Nat)(f:Addr)(fd:FuncData)(ps:List Str)(sp:Sp):Prop where
 len:∀vs H Q E,sp vs H Q E->vs.length=ps.length
 run:∀(A:Around) (outer:List Env) (s:Shared) (H:Hp) (args:Args) (us:List Value) (vs:List V) (Q:VK) (E:XK),bq k A->xq P w K mg base A outer s H->BindsTo s fd args (ps.zip us)->Ψ vs us->sp vs H Q E->
  codeAny (model P w) A (.call (.ref f) args) (CR CX outer P w H s Q E) s
theorem xq.make{K:fv}{H:Hp}(e:xq P w K mg base A outer s H)(C:Addr)(us:List Value)(kw:List (Str×Value)):
  xq P w K mg base (A.under (.builtin "type.__call__" ⟨.ref C::us,kw⟩)) outer s H:=⟨by first | exact e.frames | (simpa [Around.under,Code.envs,Code.isFrame,pushEnvs] using e.frames),e.mod,e.bs,e.Lj,e.pX,e.L_,e.aJ,e.bare⟩
section
variable{H:Hp}{s':Shared}
theorem Inv.Oa(I:Inv X δ σ H s):xq X.prog X.w X.K X.mg X.base X.A X.stack s H:=
 ⟨I.ok.frames,I.ok.mod,I.bs,aam I.ok.Lj I.sz,I.stack,I.sC,I.aJ,I.bare⟩
theorem Inv.after{Q:VK}(I:Inv X δ σ H s)(h:CE X.stack X.prog X.w H s Q u s'):EP X δ σ Q u s':=by obtain ⟨v,H',os,bare,un,aJ,r,q⟩:=h;obtain ⟨hh,g,d,t,OT⟩:=s';obtain rfl:OT=s.os:=os;exact ⟨v,H',I.call (h':=hh) (g':=g) (d':=d) (t':=t) (ch:=[]) un aJ bare (λb z=>absurd z (by simp)),r,q⟩
end
def gL(K:fv)(fd:FuncData)(ps:List Str)(ds:List Value):Prop:=
 ∀(s:Shared) (us:List Value),K.In s.heap->(us++ds).length=ps.length->BindsTo s fd ⟨us,[]⟩ (ps.zip (us++ds))
theorem gL.all{K:fv}{fd:FuncData}(h:∀us:List Value,us.length=ps.length->bindArgs fd ⟨us,[]⟩=pure (ps.zip us)):gL K fd ps []:=λs us _ hl=>by rw [aaU] at hl⊢;exact .of_eq (h us hl)
section
variable{CX:we}{f:Addr}{fd:FuncData}{sp:Sp}{nq:List V}{ds:List Value}{E:XK}{m:Str}{p apos:Pos}{o:Expr}{t:TA}
structure Mk(K:fv)(C f:Addr):Prop where
 makes:PySem.W.makesIn K C=true
 init:PySem.W.findIn K (.ref C) "__init__"=some (some (.ref f))
 fn:PySem.W.isFn K (.ref f)=true
 kp:PySem.W.keepIn K (.ref C)=true
end
structure ψ(N P:List Str)(sc:Scope):Prop where
 kind:sc.kind= .function
 co:sc.isCoroutine=false
 gen:sc.isGenerator=false
 nd:N.Nodup
 pre:N.take P.length=P
 par:∀x∈P,sc.names.lookup x=some .local\/sc.names.lookup x=some .cell
 Kc:∀y∈sc.names,y.2≠ .free
theorem rj{kindOf:Str->Option NameKind}{x:Str}:∀{binds:List (Str×Value)} {m:Str->Option Value},(∀v,(x,v)∉binds)->bindL kindOf binds m x=m x
 | [],_,_=>rfl
 | (n,v)::r,m,h=>by
  unfold bindL;rw [rj λw hw=>h w (aai _ hw)];split
  ·have:x≠n:=by rintro rfl;exact h v aak
   simp [this]
  ·rfl
theorem qA{kindOf:Str->Option NameKind}{x:Str}:∀{binds:List (Str×Value)} {m:Str->Option Value},(∀v,(x,v)∉binds)->bindC kindOf binds m x=m x
 | [],_,_=>rfl
 | (n,v)::r,m,h=>by
  unfold bindC;rw [qA λw hw=>h w (aai _ hw)];split
  ·rfl
  ·have:x≠n:=by rintro rfl;exact h v aak
   simp [this]
theorem qV{kindOf:Str->Option NameKind}{x:Str}{v:Value}:∀{P:List Str} {vs:List Value} {i:Nat} {m:Str->Option Value},P.Nodup->P[i]? =some x->vs[i]? =some v->kindOf x=some .local->
  bindL kindOf (P.zip vs) m x=some v
 | [],_,_,_,_,h,_,_=>by simp at h
 | _::_,[],_,_,_,_,h,_=>by simp at h
 | p::P,w::vs,0,m,nd,h1,h2,hk=>by simp at h1 h2;subst h1;subst h2;show bindL kindOf ((p,w)::P.zip vs) m p=_;unfold bindL;rw [rj λv hv=>(abp.mp nd).1 (List.of_mem_zip hv).1,aaI hk];simp
 | p::P,w::vs,i+1,m,nd,h1,h2,hk=>by show bindL kindOf ((p,w)::P.zip vs) m x=_;unfold bindL;exact qV (i:=i) (List.nodup_cons.mp nd).2 (by simpa using h1) (by simpa using h2) hk
theorem qC{kindOf:Str->Option NameKind}{x:Str}{v:Value}:∀{P:List Str} {vs:List Value} {i:Nat} {m:Str->Option Value},P.Nodup->P[i]? =some x->vs[i]? =some v->kindOf x≠some .local->
  bindC kindOf (P.zip vs) m x=some v
 | [],_,_,_,_,h,_,_=>by simp at h
 | _::_,[],_,_,_,_,h,_=>by simp at h
 | p::P,w::vs,0,m,nd,h1,h2,hk=>by simp at h1 h2;subst h1;subst h2;show bindC kindOf ((p,w)::P.zip vs) m p=_;unfold bindC;rw [qA λv hv=>(abp.mp nd).1 (List.of_mem_zip hv).1,aaF hk];simp
 | p::P,w::vs,i+1,m,nd,h1,h2,hk=>by show bindC kindOf ((p,w)::P.zip vs) m x=_;unfold bindC;exact qC (i:=i) (List.nodup_cons.mp nd).2 (by simpa using h1) (by simpa using h2) hk
def iF(N:List Str)(vs:List V):St:=vs.map some++List.replicate (N.length - vs.length) none
def r9(CX:we)(P:Program)(w:World)(K:fv)(mg:Str->Option Value)(base:Heap)(N:List Str)(qual:Str)(scope:Scope)(f:Addr)(cd:Value)(A:Around)(outer:List Env)(s:Shared)(H:Hp)(E:XK):Cx where
 prog:=P
 w:=w
 K:=K
 mg:=mg
 base:=base
 A:=A.deeper (envOfC qual scope s.heap.objs.size f cd)
 N:=N
 s₀:=s
 H₀:=H
 env:=envOfC qual scope s.heap.objs.size f cd
 outer:=outer
 stack:=envOfC qual scope s.heap.objs.size f cd::outer
 ex:=[]
 calm:=true
 fn:=λ_=>true
 pn:=[]
 xe:=λe s'=>wpAny (model P w) (A.deeper (envOfC qual scope s.heap.objs.size f cd)) (leaving (envOfC qual scope s.heap.objs.size f cd) e) (λ_ Hw=>CX outer H s E e Hw) (λe' Hw=>CX outer H s E e' Hw) s'
theorem u_{sc:Scope}{n:Nat}(h:sc.names.lookup x=some .cell):∃c,(cellsFrom n sc.names []).lookup x=some c:=by have q:=PySem.W.cellsFrom_some sc.names n [] (.inl h);exact abS.mp q
theorem z0{CX:we}{K:fv}{N:List Str}{qual:Str}{scope:Scope}{f:Addr}{cd:Value}{s1:Shared}{H:Hp}{E:XK}{vs:List V}
  (S:ψ N ps scope) (hd:A.handled=none) (e0:xq P w K mg base A outer s H) (hl:vs.length=ps.length) (r:Ψ vs us)
  (x:InCallC s s.heap.objs.size (bindL (envOfC qual scope s.heap.objs.size f cd).kindOf (ps.zip us) λ_=>none) (cellsFrom (s.heap.objs.size+1) scope.names []) (bindC (envOfC qual scope s.heap.objs.size f cd).kindOf (ps.zip us) λ_=>none) s1):
  Inv (r9 CX P w K mg base N qual scope f cd A outer s H E) [] (iF N vs) H s1:=by
 have eI:ps.length<=N.length:=by have:=aa3 List.length S.pre;rw [abk] at this;omega
 obtain ⟨h1,tk,rfl,hk⟩:=x.done;have Om:∀b:Addr,b∉(r9 CX P w K mg base N qual scope f cd A outer s H E).ex:=λb z=>absurd (show b∈([]:List Addr) from z) (by simp)
 refine ⟨⟨e0.mod,S.kind,rfl,rfl,aal _,λy z c h1 h2=> ?_,λy hy=> ?_,λy c _ h=> ?_,λ_=>hd,Around.frames_deeper e0.frames, .inr ⟨rfl,rfl⟩,λb z=>aaH z (Om b),e0.bs,e0.Lj,λb _ _=>Om b,λb z=>aaH z (Om b),e0.pX,e0.L_⟩,
  rfl,e0.bare,Un.kept hk,⟨_,x.toInCall.ns,λi y v h1 h2 h3=> ?_⟩,λy c h=>⟨_,x.cell y c h⟩,e0.aJ.fresh (Nat.le_refl _),λy c h=> ?_,λp hp=>absurd (show p∈([]:List (Addr×Obj)) from hp) (by simp),e0.aJ.kept hk, ?_⟩
 ·exact name_of_addr x.apart (PySem.mem_of_lookup h1) (PySem.mem_of_lookup h2)
 ·have hy:scope.names.lookup y=some .cell\/scope.names.lookup y=some .free:=hy;rcases hy with hy | hy
  ·exact u_ hy
  ·exact aaH rfl (S.Kc _ (PySem.mem_of_lookup hy))
 ·exact abR (x.above y c (PySem.mem_of_lookup h))
 ·have hi:i < vs.length:=by
   unfold iF at h2;by_cases hi:i < vs.length
   ·exact hi
   ·rw [List.getElem?_append_right (by simpa using hi)] at h2;rw [List.getElem?_replicate] at h2;split at h2 <;> cases h2
  have ha:vs[i]? =some v:=by
   unfold iF at h2;rw [List.getElem?_append_left (by simpa using hi),List.getElem?_map] at h2;cases e:vs[i]? with
   | none=>rw [e] at h2;cases h2
   | some a=>rw [e] at h2;cases h2;rfl
  obtain ⟨u,hu,rv⟩:=r.get ha;have hp:ps[i]? =some y:=by rw [<-S.pre,List.getElem?_take_of_lt (by omega)];exact h1
  have Ti:ps.Nodup:=by rw [<-S.pre];exact S.nd.sublist (List.take_sublist _ _)
  refine ⟨u,rv, ?_⟩;rcases S.par y (aat hp) with k | k
  ·exact .inl ⟨k,qV Ti hp hu k⟩
  ·obtain ⟨c,e⟩:=u_ (n:=s.heap.objs.size+1) k;refine .inr ⟨.inl k,c,e, ?_⟩;have q:=x.cell y c e;rw [qC Ti hp hu (by show scope.names.lookup y≠_;rw [k];decide)] at q;exact q
 ·exact e0.aJ.fresh (abR (x.above y c (PySem.mem_of_lookup h)))
 ·unfold iF;show _=N.length;rw [aag,aac,aaZ];omega
theorem MC{CX:we}{K:fv}{f:Addr}{name qual:Str}{params:Arguments}{scope:Scope}{dV kV doc pm bK ct oc:Value}{an od:Option Addr}
  {C_:Array (Option Value)} {N:List Str} {sp:Sp} (lk:K.lookup f=some ⟨oc,od, .func (PySem.W.fnOf name qual params body scope dV kV doc pm an bK ct),C_⟩) (BL:PySem.W.codeIn K bK qual=true) (S:ψ N ps scope)
  (len:∀vs H Q E,sp vs H Q E->vs.length=ps.length)
  (uU:∀(A:Around) (outer:List Env) (s:Shared) (H:Hp) (vs:List V) (Q:VK) (E:XK),bq k (A.deeper (envOfC qual scope s.heap.objs.size f bK))->sp vs H Q E->
   ∃t,A7 (r9 CX P w K mg base N qual scope f bK A outer s H E) body t/\t {nx:=λ_ H'=>Q .bf H',rt:=Q} (iF N vs) H):
  aB P w K mg base CX (k+1) f (PySem.W.fnOf name qual params body scope dV kV doc pm an bK ct) ps sp:=by
 refine ⟨len,λA outer s H args us vs Q E hr e0 hb r HD=> ?_⟩;have hl:=len _ _ _ _ HD;have KX:K.In s.heap:=e0.mod.Nu.keeps λb o e=>(e0.bs b o e).1;have lim:s.heap.NoLimit:=e0.mod.nolimit.keeps λb o e=>(e0.bs b o e).1;have NP:∀y∈ps.zip us,scope.names.lookup y.1=some .local\/(scope.names.lookup y.1=some .cell/\((cellsFrom (s.heap.objs.size+1) scope.names []).lookup y.1).isSome=true):=λ⟨n,v⟩ hy=>by
  rcases S.par n (List.of_mem_zip hy).1 with q | q
  ·exact .inl q
  ·exact .inr ⟨q,PySem.W.cellsFrom_some _ _ _ (.inl q)⟩
 refine codeAny_call_function hr.depth (KX _ _ lk) rfl S.co S.gen rfl (PySem.W.codeRec_of KX BL) (hb _ _ _ _ ?_);refine wpAny_newFunctionEnv_cells S.kind NP λenv he s1 x=> ?_;subst he;refine ⟨lim.keeps x.toInCall.keep,codeAny_func ?_⟩;obtain ⟨t,ht,hq⟩:=uU A outer s H vs Q E (hr.deeper _) HD;have I:Inv (r9 CX P w K mg base N qual scope f bK A outer s H E) [] (iF N vs) H s1:=z0 S hr.hd e0 hl r x;refine abt (ht [] s1 (iF N vs) H _ I hq) (λfl s' hs=> ?_) λe s' hs=>hs
 have fin:∀{σ':St} {H':Hp} {v:V} {u:Value},Inv (r9 CX P w K mg base N qual scope f bK A outer s H E) [] σ' H' s'->Ω v u->Q v H'->CE outer P w H s Q u s':=
  λ{σ' H' v u} J rv q=>⟨v,H',J.os,J.bare,J.base,J.aJ,rv,q⟩
 cases fl with
 | ret u=>
  obtain ⟨v,σ',H',J,rv,q⟩:=hs;exact fin J rv q
 | next=>
  obtain ⟨σ',H',J,q⟩:=hs;exact fin (v:=V.bf) (u:=Value.none) J rfl q
 | brk=>
  obtain ⟨_,_,_,q⟩:=hs;exact False.elim q
 | cont=>
  obtain ⟨_,_,_,q⟩:=hs;exact False.elim q
section
variable{p:Pos}{t:TA}{id T:String}{r:List V->Hp->VK->Prop}
def Qm(r:List V->Hp->VK->Prop)(t:TA):TE:=λσ H Q=>t σ H λvs H1=>r vs H1 Q
theorem vE(hc:cw X (.builtin id) r)(hg:Gl X x)(hm:X.mg x=none)(hv:bootBuiltins x=some (.builtin id))(ha:PA X (e::es) t)(hn:x≠"__name__":=by decide)(p_:(x==("__debug__":Str))=false:=by decide)
  (he:starEach (e::es) X.env=(false,eval e X.env)::starEach es X.env:=by rfl) (eI:(backTo pos (starEach es X.env)).any (·.1)=false:=by rfl):PE X (.Call (.Name x p) (e::es) [] pos) (Qm r t):=by
 intro δ s σ H Q I h;refine wpAny_Call_Name_kw (nL I hg hm hv ?_ hn p_);exact PyProof.Rows.callWith_builtin1 (bD (ha pos δ s σ H _ I h) λus s1 ⟨vs,H1,I1,r1,q1⟩=>hc δ s1 σ H1 vs us Q I1 r1 q1) he eI
theorem iM(hc:cw X (.type T) r)(hg:Gl X x)(hm:X.mg x=none)(hv:bootBuiltins x=some (.type T))(ha:PA X (e::es) t)(hn:x≠"__name__":=by decide)(p_:(x==("__debug__":Str))=false:=by decide)
  (he:starEach (e::es) X.env=(false,eval e X.env)::starEach es X.env:=by rfl) (eI:(backTo pos (starEach es X.env)).any (·.1)=false:=by rfl):PE X (.Call (.Name x p) (e::es) [] pos) (Qm r t):=by
 intro δ s σ H Q I h;refine wpAny_Call_Name_kw (nL I hg hm hv ?_ hn p_);exact PyProof.Rows.callWith_type1 (bD (ha pos δ s σ H _ I h) λus s1 ⟨vs,H1,I1,r1,q1⟩=>hc δ s1 σ H1 vs us Q I1 r1 q1) he eI
end
end L2
namespace HT
open PySem PyProof.Rows
section
variable{prog:Program}{w:World}{A:Around}{E:Value->Shared->Prop}{s:Shared}
theorem Ff{t b:Addr}{vs ws:List Value}{Q:Value->Shared->Prop}(ht:IsTup s.heap t vs.toArray)(hb:IsTup s.heap b ws.toArray)(hv:vs≠[])
  (h1:ws=[]->Q (.ref t) s) (h2:ws≠[]->Q (.ref s.heap.objs.size) {s with heap:=s.heap.push {cls:= .type "tuple",data:= .seq (vs++ws).toArray}})
  (hsz:vs.length+ws.length<=sizeLine):wpAny (model prog w) A (binaryOp .Add (.ref t) (.ref b)) Q E s:=by
 obtain ⟨⟨cls,dd,data,sl⟩,ho,hc,n,hd⟩:=id ht;obtain ⟨⟨UX,LK,data2,iV⟩,Lu,Tw,n2,hd2⟩:=id hb;simp only at hc hd Tw hd2;subst hc hd Tw hd2;have e:vs.toArray++ws.toArray=(vs++ws).toArray:=by simp
 by_cases hw:ws=[]
 ·exact concat_meets ⟨_,ho,rfl⟩ ⟨_,Lu,rfl⟩ noFill_tuple_add seq_tuple_add PySem.F.slot_tuple_add PySem.F.entry_tuple_add (PySem.F.args_tuple_add_2 _ _)
   (tuple_addW1 t b vs.toArray ws.toArray n n2 dd LK sl iV (by simpa using hv) (by simp [hw])) ⟨ho,Lu,h1 hw⟩
 ·refine concat_meets ⟨_,ho,rfl⟩ ⟨_,Lu,rfl⟩ noFill_tuple_add seq_tuple_add PySem.F.slot_tuple_add PySem.F.entry_tuple_add (PySem.F.args_tuple_add_2 _ _)
   (tuple_addW2 t b vs.toArray ws.toArray n n2 dd LK sl iV (by simpa using hv) (by simpa using hw) (by rw [List.size_toArray,List.size_toArray];exact hsz)) ⟨ho,Lu, ?_⟩
  rw [e];exact h2 hw
def dg(n d:Nat):Option Int->Nat
 | none=>d
 | some v=>if v < 0 then (v+(n:Int)).toNat else min v.toNat n
theorem vc(n d:Nat):dg n d none=d:=rfl
theorem nD(n d k:Nat):dg n d (some (k:Int))=min k n:=by show (if (k:Int) < 0 then ((k:Int)+(n:Int)).toNat else min (k:Int).toNat n)=min k n;rw [aaF (by omega),aa6]
theorem Jc(n d:Nat)(hd:d<=n)(o:Option Int):dg n d o<=n:=by
 cases o with
 | none=>exact hd
 | some v=>
  show (if v < 0 then (v+(n:Int)).toNat else min v.toNat n)<=n;by_cases hv:v < 0
  ·rw [aaI hv];omega
  ·rw [aaF hv];exact Nat.min_le_right _ _
theorem yA(v:Int)(n d:Nat):(if v < 0 then max (v+(n:Int)) 0 else min v (n:Int))=((dg n d (some v):Nat):Int):=by
 show (if v < 0 then max (v+(n:Int)) 0 else min v (n:Int))=(((if v < 0 then (v+(n:Int)).toNat else min v.toNat n):Nat):Int);by_cases hv:v < 0
 ·simp only [if_pos hv];omega
 ·simp only [if_neg hv];omega
theorem xC(lo hi:Option Int)(n:Nat):Builtin.Slice.sliceAdjust lo hi 1 (n:Int)=(((dg n 0 lo:Nat):Int),((dg n n hi:Nat):Int)):=by
 have h1:¬((1:Int) < 0):=by omega
 unfold Builtin.Slice.sliceAdjust;simp only [h1,if_false];refine Prod.ext ?_ ?_
 ·cases lo with
  | none=>rfl
  | some v=>exact yA v n 0
 ·cases hi with
  | none=>rfl
  | some v=>exact yA v n n
theorem wy(i j:Nat):Builtin.Slice.slicePlaces (i:Int) (j:Int) 1=j - i:=by
 unfold Builtin.Slice.slicePlaces;have h1:(1:Int) > 0:=by omega
 simp only [h1,if_true,Int.ediv_one];split <;> omega
theorem pd{v:Value}{o:Option Int}{Q:Option Int->Shared->Prop}(p:IsPart v o)(h:Q o s):wpAny (model prog w) A (Builtin.Slice.slicePartIndex v) Q E s:=by
 cases p with
 | none=>exact slicePart_none h
 | int i t=>exact slicePart_int h
theorem ly{sl:Addr}{vl vu:Value}{lo hi:Option Int}{n:Nat}{Q:Int×Int×Nat->Shared->Prop}(hs:s.heap.IsSliceOf sl vl vu .none)(pl:IsPart vl lo)(pu:IsPart vu hi)
  (h:Q (((dg n 0 lo:Nat):Int),1,dg n n hi - dg n 0 lo) s):wpAny (model prog w) A (Builtin.Slice.sliceApplied (.ref sl) (pure (n:Int))) Q E s:=by
 obtain ⟨os,IW,Tr,K_⟩:=id hs;unfold Builtin.Slice.sliceApplied Builtin.Slice.sliceFields;refine aab (aab (wpAny_field IW K_ (x:=vl) rfl (aab (wpAny_field IW K_ (x:=vu) rfl (aab (wpAny_field IW K_ (x:= .none) rfl (aae ?_)))))));refine aab (slicePart_none ?_);show wpAny _ _ (if ((1:Int)==0)=true then _ else _) _ _ s;rw [aaF (by decide)];refine aab (pd pl (aab (pd pu (aab (aae ?_)))));show wpAny _ _ (match Builtin.Slice.sliceAdjust lo hi 1 (n:Int) with | (lo,hi)=>pure (lo,(1:Int),Builtin.Slice.slicePlaces lo hi 1)) _ _ s;rw [xC lo hi n];show wpAny _ _ (pure (((dg n 0 lo:Nat):Int),(1:Int),Builtin.Slice.slicePlaces ((dg n 0 lo:Nat):Int) ((dg n n hi:Nat):Int) 1)) _ _ s;rw [wy];exact aae h
theorem C7(xs:Array Value)(i k:Nat):((List.range k).filterMap λ(m:Nat)=>xs[((i:Int)+(m:Int) * 1).toNat]?).toArray=((xs.toList.drop i).take k).toArray:=by
 have e:(λ(m:Nat)=>xs[((i:Int)+(m:Int) * 1).toNat]?)=λm=>xs[i+m]? :=by
  funext m
  have:((i:Int)+(m:Int) * 1).toNat=i+m:=by omega
  rw [this]
 rw [e];have:=pick_run xs i k;rw [List.filterMap_map] at this;have e2:((λx=>xs[x]?) ∘ λx=>i+x)=λm=>xs[i+m]? :=rfl;rw [e2] at this;rw [this]
theorem kh{t sl:Addr}{items:Array Value}{vl vu:Value}{lo hi:Option Int}{Q:Value->Shared->Prop}(ht:IsTup s.heap t items)(hs:s.heap.IsSliceOf sl vl vu .none)(pl:IsPart vl lo)(pu:IsPart vu hi)
  (hw:¬(dg items.size 0 lo=0/\dg items.size items.size hi=items.size))
  (h:Q (.ref s.heap.objs.size) {s with heap:=s.heap.push {cls:= .type "tuple",data:= .seq ((items.toList.drop (dg items.size 0 lo)).take (dg items.size items.size hi - dg items.size 0 lo)).toArray}})
  (hsz:items.size<=sizeLine):wpAny (model prog w) A (getItem (.ref t) (.ref sl)) Q E s:=by
 have yN:sizeOk (.seq ((items.toList.drop (dg items.size 0 lo)).take (dg items.size items.size hi - dg items.size 0 lo)).toArray):=by show ((items.toList.drop (dg items.size 0 lo)).take (dg items.size items.size hi - dg items.size 0 lo)).toArray.size<=sizeLine;rw [aas,abk,abu,aa5];omega
 have hj:dg items.size items.size hi<=items.size:=Jc _ _ (aal _) hi;obtain ⟨os,IW,Tr,K_⟩:=id hs;have Wk:s.TypeIs (.ref sl) "slice":=⟨os,IW,Tr⟩;unfold getItem
 try with_reducible refine wpAny_holding ?_
 first | refine aab (aae ?_) | skip
 refine aab (wpAny_sequenceKey ht.typeIs (by decide) ?_)
 refine aab (wpAny_callSpecial?_slot (name:=Str.ofString "__getitem__") ht.typeIs PyProof.Rows.slot_tuple_getitem
  (wpAny_call_entry PyProof.Rows.slot_tuple_getitem ht.typeIs entry_tuple_getitem ?_ (args_tuple_getitem _ _)))
 show wpAny _ _ (Builtin.Tuple.tupleItemsOf (.ref t) >>= _) _ _ s;refine aab (tupleItemsOf_ ht ?_);refine aab (wpAny_typeOf Wk ?_);rw [aaI (by decide)];refine aab (ly hs pl pu ?_);have Lx:¬((((dg items.size 0 lo:Nat):Int)==0&&(1:Int)==1&&(dg items.size items.size hi - dg items.size 0 lo)==items.size)=true):=by intro q;rw [aan,aan] at q;have q1:((dg items.size 0 lo:Nat):Int)=0:=eq_of_beq q.1.1;have q2:dg items.size items.size hi - dg items.size 0 lo=items.size:=eq_of_beq q.2;exact hw ⟨by omega,by omega⟩
 show wpAny _ _ (if (((dg items.size 0 lo:Nat):Int)==0&&(1:Int)==1&&(dg items.size items.size hi - dg items.size 0 lo)==items.size)=true then _ else _) _ _ s;rw [aaF Lx,C7]
 first
  | exact aab (m:=Builtin.Tuple.tupleExact _) (wpAny_newObj_type (aae ⟨_,rfl,aae h⟩) yN)
  | exact aab (m:=Builtin.Tuple.tupleExact _) (wpAny_newObj_type (aab (aae (aae ⟨_,rfl,aae h⟩))) yN)
  | exact aab (aab (m:=Builtin.Tuple.tupleExact _) (wpAny_newObj_type (aae (aae ⟨_,rfl,aae h⟩)) yN))
  | exact aab (aab (m:=Builtin.Tuple.tupleExact _) (wpAny_newObj_type (aae ⟨_,rfl,aae h⟩) yN))
end
end HT
namespace L2
open PySem PySem.Spec PyProof.Rows
variable{X:Cx}{s:Shared}{δ:List (Addr×Obj)}
abbrev TO:=St->Hp->(Option Int->Hp->Prop)->Prop
def PO(X:Cx)(e:Option Expr)(t:TO):Prop:=
 ∀(δ:List (Addr×Obj)) (s:Shared) (σ:St) (H:Hp) (Q:Option Int->Hp->Prop),Inv X δ σ H s->t σ H Q->
  wpAny (model X.prog X.w) X.A (evalPart e X.env) (λu s'=>∃o H',Inv X δ σ H' s'/\IsPart u o/\Q o H') X.xe s
def Gw:TO:=λ_ H Q=>Q none H
def ND(t:TE):TO:=λσ H Q=>t σ H λx H1=>∃i,x= .int i/\Q (some i) H1
section
variable{e:Expr}{te:TE}{lo hi:Option Expr}{tl th:TO}{pos p2:Pos}
theorem nB:PO X none Gw:=by intro δ s σ H Q I h;rw [evalPart_none];exact aae ⟨none,H,I, .none,h⟩
theorem nh(h:PE X e te):PO X (some e) (ND te):=by intro δ s σ H Q I hw;rw [evalPart_some];refine bD (h δ s σ H _ I hw) λu s1 ⟨x,H1,I1,r1,q1⟩=> ?_;obtain ⟨i,rfl,q⟩:=q1;obtain ⟨t,rfl⟩:=r1;exact ⟨some i,H1,I1, .int i t,q⟩
def Qt(X:Cx)(r:V->Option Int->Option Int->Hp->VK->Prop):Prop:=
 ∀(δ:List (Addr×Obj)) (s:Shared) (σ:St) (H:Hp) (x:V) (v vl vu:Value) (lo hi:Option Int) (sl:Addr) (Q:VK),Inv X δ σ H s->Ω x v->s.heap.IsSliceOf sl vl vu .none->IsPart vl lo->IsPart vu hi->r x lo hi H Q->
  ∃T id,typeLookup (.type T) "__getitem__"=pure (some (.builtin id))/\s.TypeIs v T/\wpAny (model X.prog X.w) X.A (getItem v (.ref sl)) (EP X δ σ Q) X.xe s
def UB(r:V->Option Int->Option Int->Hp->VK->Prop)(te:TE)(tl th:TO):TE:=λσ H Q=>te σ H λx H1=>tl σ H1 λl H2=>th σ H2 λu H3=>r x l u H3 Q
theorem kN{r:V->Option Int->Option Int->Hp->VK->Prop}(hr:Qt X r)(he:PE X e te)(hl:PO X lo tl)(hu:PO X hi th):PE X (.Subscript e (.Slice lo hi none p2) pos) (UB r te tl th):=by intro δ s σ H Q I h;refine Subscript_ (bD (he δ s σ H _ I h) λv s1 ⟨x,H1,I1,r1,q1⟩=> ?_);refine wpAny_Slice (bD (hl δ s1 σ H1 _ I1 q1) λvl s2 ⟨l,H2,I2,pl,q2⟩=>bD (hu δ s2 σ H2 _ I2 q2) λvu s3 ⟨u,H3,I3,pu,q3⟩=> ?_);rw [evalPart_none];refine aae ?_;have I4:Inv X δ σ H3 {s3 with heap:=s3.heap.push {cls:= .type "slice",data:= .fields #[vl,vu, .none]}}:=I3.kept (t':=s3.toks) λb ob q=>aaf _ q;obtain ⟨T,id,hT,ht,hg⟩:=hr δ {s3 with heap:=s3.heap.push {cls:= .type "slice",data:= .fields #[vl,vu, .none]}} σ H3 x v vl vu l u s3.heap.objs.size Q I4 r1 (Heap.IsSliceOf.new ..) pl pu q3;show wpAny (model X.prog X.w) X.A (subscriptTail e (.Slice lo hi none p2) v (.ref s3.heap.objs.size)) (EP X δ σ Q) X.xe {s3 with heap:=s3.heap.push {cls:= .type "slice",data:= .fields #[vl,vu, .none]}};exact tail_any (ops:=[.ref s3.heap.objs.size,v]) ht hT hg (by with_unfolding_all rfl)
def qt(xs:List V)(lo hi:Option Int):List V:=(xs.drop (HT.dg xs.length 0 lo)).take (HT.dg xs.length xs.length hi - HT.dg xs.length 0 lo)
theorem mI(xs:List V)(lo hi:Option Int):(qt xs lo hi).length<=xs.length:=by unfold qt;rw [abk,abu];omega
def Rt(K:fv):V->Option Int->Option Int->Hp->VK->Prop:=λx lo hi H Q=>∃a xs,x= .ref a/\iZ K H a xs/\
 ¬(HT.dg xs.length 0 lo=0/\HT.dg xs.length xs.length hi=xs.length)/\∀p,H p=none->Q (.ref p) (upd H p (.tup (qt xs lo hi)))
theorem Bq:Qt X (Rt X.K):=by
 intro δ s σ H x v vl vu lo hi sl Q I rx hs pl pu h;obtain ⟨a,xs,rfl,hx,hw,q⟩:=h;cases rx;obtain ⟨its,r,ht,hz⟩:=I.tuple hx;have hlen:its.toArray.size=xs.length:=by rw [aas];exact r.length.symm
 refine ⟨"tuple",_,PyProof.Rows.slot_tuple_getitem.lookup,ht.typeIs, ?_⟩;refine HT.kh ht hs pl pu (by rw [hlen];exact hw) ?_ (by rw [hlen];exact hz);rw [hlen];refine ⟨.ref s.heap.objs.size,_,I.laid (t':=s.toks) (o:= .tup (qt xs lo hi)) (λb ob q=>aaf _ q) (aal _) ?_,rfl,q _ (I.aJ.fresh (aal _))⟩;exact ⟨aam (mI xs lo hi) hz,_,(r.drop (HT.dg xs.length 0 lo)).take (HT.dg xs.length xs.length hi - HT.dg xs.length 0 lo),IsTup.new _ _⟩
def Hy(K:fv):R2:=λx y H Q=>∃a b xs ys,x= .ref a/\y= .ref b/\iZ K H a xs/\iZ K H b ys/\xs≠[]/\xs.length+ys.length<=sizeLine/\
 (ys=[]->Q (.ref a) H)/\(ys≠[]->∀p,H p=none->Q (.ref p) (upd H p (.tup (xs++ys))))
theorem Ψ.uj{xs:List V}{us:List Value}(r:Ψ xs us):us=[]↔xs=[]:=by
 cases r with
 | nil=>simp
 | cons _ _=>simp
theorem EI:ij X (binaryOp .Add) (Hy X.K):=by intro δ s σ H x y v u Q I rx ry h;obtain ⟨a,b,xs,ys,rfl,rfl,ha,hb,hx,hz,q1,q2⟩:=h;cases rx;cases ry;obtain ⟨its,r1,p1,_⟩:=I.tuple ha;obtain ⟨Io,r2,p2,_⟩:=I.tuple hb;refine HT.Ff p1 p2 (λz=>hx (r1.uj.mp z)) (λz=>⟨.ref a,H,I,rfl,q1 (r2.uj.mp z)⟩) (λz=> ?_) (by rw [<-r1.length,<-r2.length];exact hz);refine ⟨.ref s.heap.objs.size,_,I.laid (t':=s.toks) (o:= .tup (xs++ys)) (λb ob q=>aaf _ q) (aal _) ?_,rfl,q2 (λw=>z (r2.uj.mpr w)) _ (I.aJ.fresh (aal _))⟩;exact ⟨by rw [aag];exact hz,_,r1.append r2,IsTup.new _ _⟩
end
def EG(n:Nat)(i:Int):Option Nat:=if 0<=i then (if i < n then some i.toNat else none) else if -(n:Int)<=i then some (i+n).toNat else none
def gS{α:Type}(xs:List α)(i:Int):Option α:=(EG xs.length i).bind λj=>xs[j]?
theorem Fv{n:Nat}{i:Int}{j:Nat}(h:EG n i=some j):seqIndex? i n=some j/\j < n/\ -(n:Int)<=i/\i < n:=by
 unfold EG at h;by_cases h0:0<=i
 ·rw [aaI h0] at h;by_cases h1:i < n
  ·rw [aaI h1] at h;have e:i.toNat=j:=aaA h;exact ⟨by rw [seqIndex_of h0 h1,e],by omega,by omega,h1⟩
  ·rw [aaF h1] at h;cases h
 ·rw [aaF h0] at h;by_cases h1: -(n:Int)<=i
  ·rw [aaI h1] at h;have e:(i+n).toNat=j:=aaA h;exact ⟨by rw [seqIndex_neg (by omega) h1,e],by omega,h1,by omega⟩
  ·rw [aaF h1] at h;cases h
theorem tK{α:Type}{xs:List α}{i:Int}{v:α}(h:gS xs i=some v):∃j,seqIndex? i xs.length=some j/\xs[j]? =some v/\j < xs.length/\ -(xs.length:Int)<=i/\i < xs.length:=by
 unfold gS at h;cases e:EG xs.length i with
 | none=>rw [e] at h;cases h
 | some j=>
  rw [e] at h;obtain ⟨h1,h2,h3,h4⟩:=Fv e;exact ⟨j,h1,h,h2,h3,h4⟩
theorem Ζ{α:Type}{xs:List α}{j:Nat}{v:α}(h:xs[j]? =some v):gS xs (j:Int)=some v:=by
 have hj:j < xs.length:=(aad.mp h).1;have e:EG xs.length (j:Int)=some j:=by unfold EG;rw [if_pos (by omega),if_pos (by omega)];simp
 unfold gS;rw [e];exact h
def uw(b:Expr):Prop:=∀o i,subscripted b false o i=operate [o,i] (getItem o i)
def ED(X:Cx)(r:R2):Prop:=
 ∀(value slice:Expr) (δ:List (Addr×Obj)) (s:Shared) (σ:St) (H:Hp) (x y:V) (v u:Value) (Q:VK),Inv X δ σ H s->Ω x v->Ω y u->r x y H Q->
  subscripted slice false v u=operate [v,u] (getItem v u)->wpAny (model X.prog X.w) X.A (subscriptTail value slice v u) (EP X δ σ Q) X.xe s
def RH(X:Cx)(id:String)(r:V->List V->Hp->VK->Prop):Prop:=
 ∀(δ:List (Addr×Obj)) (s:Shared) (σ:St) (H:Hp) (x:V) (xs:List V) (v:Value) (us:List Value) (Q:VK),Inv X δ σ H s->Ω x v->Ψ xs us->r x xs H Q->
  wpAny (model X.prog X.w) X.A (call (.builtin id) (v::us)) (EP X δ σ Q) X.xe s
section
variable{a b:Expr}{ta tb:TE}{pos:Pos}
theorem ED.or{r r':R2}(h:ED X r)(h':ED X r'):ED X (λx y H Q=>r x y H Q\/r' x y H Q):=by
 intro value slice δ s σ H x y v u Q I rx ry q hs;rcases q with q | q
 ·exact h value slice δ s σ H x y v u Q I rx ry q hs
 ·exact h' value slice δ s σ H x y v u Q I rx ry q hs
theorem LY{r:R2}(hr:ED X r)(ha:PE X a ta)(hb:PE X b tb)(hs:uw b):PE X (.Subscript a b pos) (Mp r ta tb):=by intro δ s σ H Q I h;exact Subscript_ (Kx ha hb I h λv u s2 x y H2 I2 rx ry q=>hr a b δ s2 σ H2 x y v u Q I2 rx ry q (hs _ _))
def NU(K:fv):R2:=λx y H Q=>∃p xs i v,x= .ref p/\y= .int i/\eQ K H p xs/\gS xs i=some v/\Q v H
def NO(K:fv):R2:=λx y H Q=>∃p xs i v,x= .ref p/\y= .int i/\iZ K H p xs/\gS xs i=some v/\Q v H
def MH:R2:=λx y H Q=>∃z i c,x= .str z/\y= .int i/\z.length<=sizeLine/\gS z.cps.toList i=some c/\Q (.str ⟨#[c]⟩) H
theorem Gk:ED X (NU X.K):=by
 intro value slice δ s σ H x y v u Q I rx ry h hs;obtain ⟨p,xs,i,z,rfl,rfl,hq,he,q⟩:=h;cases rx;obtain ⟨t,rfl⟩:=ry;obtain ⟨its,r,pl,hz⟩:=I.list hq;obtain ⟨j,h1,h2,h3,h4,h5⟩:=tK he;obtain ⟨w,ew,E9⟩:=r.get h2;have hl:=r.length;have hn:=nN;have fin:EP X δ σ Q w s:=⟨z,H,I,E9,q⟩;by_cases h0:0<=i
 ·have hj:i.toNat=j:=by rw [seqIndex_of h0 h5] at h1;exact aaA h1
  exact item_listR pl.isList h0 (by omega) (by rw [hj];simpa using ew) fin hs
 ·have hj:(i+(its.toArray.size:Int)).toNat=j:=by rw [seqIndex_neg (by omega) h4] at h1;rw [aas,<-hl];exact aaA h1
  exact subscriptTail_builtinR (x:=w) pl.isList.typeIs slot_list_getitem.lookup
   (wpAny_getItem_list_neg (Q:=λr s'=>r=w/\EP X δ σ Q r s') pl.isList (by omega) (by rw [List.size_toArray] <;> omega) (by omega) (by rw [hj];simpa using ew) ⟨rfl,fin⟩) hs
theorem Kd:ED X (NO X.K):=by
 intro value slice δ s σ H x y v u Q I rx ry h hs;obtain ⟨p,xs,i,z,rfl,rfl,hq,he,q⟩:=h;cases rx;obtain ⟨t,rfl⟩:=ry;obtain ⟨its,r,pl,hz⟩:=I.tuple hq;obtain ⟨j,h1,h2,h3,h4,h5⟩:=tK he;obtain ⟨w,ew,E9⟩:=r.get h2;have hl:=r.length;have hn:=nN;have fin:EP X δ σ Q w s:=⟨z,H,I,E9,q⟩
 exact subscriptTail_builtinR (x:=w) pl.typeIs slot_tuple_getitem.lookup
  (getItem_tuple (j:=j) (Q:=λr s'=>r=w/\EP X δ σ Q r s') pl (by omega) (by omega) (by rw [List.size_toArray,<-hl];exact h1) (by simpa using ew) ⟨rfl,fin⟩) hs
theorem Jw:ED X MH:=by
 intro value slice δ s σ H x y v u Q I rx ry h hs;obtain ⟨z,i,c,rfl,rfl,hz,he,q⟩:=h;obtain ⟨t,rfl⟩:=rx;obtain ⟨t',rfl⟩:=ry;obtain ⟨j,h1,h2,h3,h4,h5⟩:=tK he;have hl:z.cps.toList.length=z.length:=by simp [Str.length]
 rw [hl] at h1 h4 h5;have hn:=nN
 exact tail_any (typeIs_str s z t) slot_str_getitem.lookup (getItem_str (c:=c) (by
  have e1:decide (i < -(2 ^ 63:Int))=false:=aaK (by omega);have e2:decide (i ≥ 2 ^ 63)=false:=aaK (by omega)
  rw [e1,e2,Bool.or_false]) (by rw [h1];simpa using h2) ⟨.str ⟨#[c]⟩,H,I.tok _,⟨_,rfl⟩,q⟩) hs
def S_(K:fv):R2:=λx y H Q=>NU K x y H Q\/NO K x y H Q\/MH x y H Q
theorem IY:ED X (S_ X.K):=Gk.or (Kd.or Jw)
theorem uv(lo hi:Option Int)(n:Nat):(sliceBounds lo hi none n).1=((HT.dg n 0 lo:Nat):Int)/\(sliceBounds lo hi none n).2.1=((HT.dg n n hi:Nat):Int)/\(sliceBounds lo hi none n).2.2=1:=by
 refine ⟨?_, ?_,rfl⟩
 ·cases lo with
  | none=>simp [sliceBounds,HT.dg]
  | some i=>
   simp only [sliceBounds,HT.dg,Option.getD_none,show (1:Int) > 0 by decide,if_true];by_cases h:i < 0
   ·simp only [h,if_true] <;> omega
   ·simp only [h,if_false] <;> omega
 ·cases hi with
  | none=>simp [sliceBounds,HT.dg]
  | some i=>
   simp only [sliceBounds,HT.dg,Option.getD_none,show (1:Int) > 0 by decide,if_true];by_cases h:i < 0
   ·simp only [h,if_true] <;> omega
   ·simp only [h,if_false] <;> omega
theorem pP(its:List Value)(lo hi:Option Int):slicePick its.toArray lo hi none=((its.drop (HT.dg its.length 0 lo)).take (HT.dg its.length its.length hi - HT.dg its.length 0 lo)).toArray:=by obtain ⟨h1,h2,h3⟩:=uv lo hi its.toArray.size;unfold slicePick;rw [h1,h2,h3];simp only [sliceRange_one,pick_run,List.size_toArray] <;> rfl
def Ra(K:fv):V->Option Int->Option Int->Hp->VK->Prop:=λx lo hi H Q=>∃a xs,x= .ref a/\eQ K H a xs/\∀p,H p=none->Q (.ref p) (upd H p (.lst (qt xs lo hi)))
theorem zq:Qt X (Ra X.K):=by intro δ s σ H x v vl vu lo hi sl Q I rx hs pl pu h;obtain ⟨a,xs,rfl,hx,q⟩:=h;cases rx;obtain ⟨its,r,ht,hz⟩:=I.list hx;have hlen:=r.length;refine ⟨"list",_,slot_list_getitem.lookup,ht.isList.typeIs, ?_⟩;refine wpAny_getItem_list_slice ht.isList hs pl pu .none (by simp) ?_ (by rw [List.size_toArray] <;> omega);rw [pP,<-hlen];refine ⟨.ref s.heap.objs.size,_,I.laid (t':=s.toks) (o:= .lst (qt xs lo hi)) (λb ob q=>aaf _ q) (aal _) ?_,rfl,q _ (I.aJ.fresh (aal _))⟩;exact ⟨aam (mI xs lo hi) hz,_,0,(r.drop (HT.dg xs.length 0 lo)).take (HT.dg xs.length xs.length hi - HT.dg xs.length 0 lo),aau _ rfl⟩
def cE:V->Bool
 | .bf=>true
 | .bl _=>true
 | .int _=>true
 | .str _=>true
 | _=>false
def eT:V->V->Bool
 | .bf, .bf=>true
 | .bl a, .bl b=>a==b
 | .bl a, .int b=>(if a then 1 else 0)==b
 | .int a, .bl b=>a==(if b then 1 else 0)
 | .int a, .int b=>a==b
 | .str a, .str b=>a==b
 | _,_=>false
theorem sT{A:Around}{y x:V}{u v:Value}(ry:Ω y u)(rx:Ω x v)(fy:cE y=true)(fx:cE x=true):SeqAt.EqAt A s u v (eT y x):=by
 cases y with
 | bf=>
  cases ry;cases x with
  | bf=>cases rx;exact SeqAt.EqAt.same _
  | bl b=>cases rx;exact SeqAt.EqAt.none_bool b
  | int b=>obtain ⟨t,rfl⟩:=rx;exact SeqAt.EqAt.none_int b t
  | str b=>obtain ⟨t,rfl⟩:=rx;exact SeqAt.EqAt.none_str b t
  | _=>exact aaH (show false=true from fx) aar
 | bl a=>
  cases ry;cases x with
  | bf=>cases rx;exact SeqAt.EqAt.bool_none a
  | bl b=>cases rx;exact SeqAt.EqAt.bool_bool a b
  | int b=>obtain ⟨t,rfl⟩:=rx;exact SeqAt.EqAt.bool_int a b t
  | str b=>obtain ⟨t,rfl⟩:=rx;exact SeqAt.EqAt.bool_str a b t
  | _=>exact aaH (show false=true from fx) aar
 | int a=>
  obtain ⟨t',rfl⟩:=ry;cases x with
  | bf=>cases rx;exact SeqAt.EqAt.int_none a t'
  | bl b=>cases rx;exact SeqAt.EqAt.int_bool a t' b
  | int b=>obtain ⟨t,rfl⟩:=rx;exact SeqAt.EqAt.int_int a t' b t
  | str b=>obtain ⟨t,rfl⟩:=rx;exact SeqAt.EqAt.int_str a t' b t
  | _=>exact aaH (show false=true from fx) aar
 | str a=>
  obtain ⟨t',rfl⟩:=ry;cases x with
  | bf=>cases rx;exact SeqAt.EqAt.str_none a t'
  | bl b=>cases rx;exact SeqAt.EqAt.str_bool a t' b
  | int b=>obtain ⟨t,rfl⟩:=rx;exact SeqAt.EqAt.str_int a t' b t
  | str b=>obtain ⟨t,rfl⟩:=rx;exact SeqAt.EqAt.str_str a t' b t
  | _=>exact aaH (show false=true from fx) aar
 | _=>exact aaH (show false=true from fy) aar
def Gs(x:V)(u:Value):Bool:=match u with
 | .none=>eT .bf x
 | .bool b=>eT (.bl b) x
 | .int i _=>eT (.int i) x
 | .str z _=>eT (.str z) x
 | _=>false
theorem Dk{x y:V}{u:Value}(r:Ω y u)(f:cE y=true):Gs x u=eT y x:=by
 cases y with
 | bf=>cases r;rfl
 | bl b=>cases r;rfl
 | int i=>obtain ⟨t,rfl⟩:=r;rfl
 | str z=>obtain ⟨t,rfl⟩:=r;rfl
 | _=>exact aaH (show false=true from f) aar
theorem sQ{x:V}:∀{xs:List V} {us:List Value},Ψ xs us->xs.all cE=true->us.any (Gs x)=xs.any λy=>eT y x
 | _,_, .nil,_=>rfl
 | y::xs,u::us, .cons r t,f=>by rw [abE,aan] at f;rw [List.any_cons,List.any_cons,Dk r f.1,sQ t f.2]
theorem oC{A:Around}{s:Shared}{x:V}{v:Value}(rx:Ω x v)(fx:cE x=true):∀{xs:List V} {us:List Value},Ψ xs us->xs.all cE=true->∀u∈us,SeqAt.EqAt A s u v (Gs x u)
 | _,_, .nil,_=>λu hu=>by cases hu
 | y::xs,u::us, .cons r t,f=>λu' hu=>by
  rw [abE,aan] at f;rcases aaz.mp hu with rfl | hu
  ·rw [Dk r f.1];exact sT r rx f.1 fx
  ·exact oC rx fx t f.2 u' hu
def OO(x:V)(xs:List V):Bool:=xs.any λy=>eT y x
def Te(K:fv)(neg:Bool):R2:=λx y H Q=>∃p xs,y= .ref p/\(eQ K H p xs\/iZ K H p xs)/\cE x=true/\xs.all cE=true/\Q (.bl (if neg then !OO x xs else OO x xs)) H
theorem AU:ij X (compareOp .In) (Te X.K false):=by
 intro δ s σ H x y v u Q I rx ry h;obtain ⟨p,xs,rfl,hq,fx,fs,q⟩:=h;cases ry;rcases hq with hq | hq
 ·obtain ⟨its,r,pl,hz⟩:=I.list hq;refine SeqAt.in_listAt (Gs x) pl.isList (λw hw=>oC rx fx r fs w (by simpa using hw)) ⟨.bl _,H,I,rfl, ?_⟩;rw [show its.toArray.any (Gs x)=its.any (Gs x) by simp,sQ r fs];exact q
 ·obtain ⟨its,r,pl,hz⟩:=I.tuple hq;refine SeqAt.in_tupleAt (Gs x) pl (λw hw=>oC rx fx r fs w (by simpa using hw)) ⟨.bl _,H,I,rfl, ?_⟩;rw [show its.toArray.any (Gs x)=its.any (Gs x) by simp,sQ r fs];exact q
theorem sW:cw X (.builtin "len") (λxs H Q=>∃p ys,xs=[.ref p]/\(eQ X.K H p ys\/iZ X.K H p ys)/\Q (.int ys.length) H):=by
 intro δ s σ H xs us Q I r h;obtain ⟨p,ys,rfl,hq,q⟩:=h;obtain ⟨u,rfl,rx⟩:=iE r;cases rx;have hn:=nN;rcases hq with hq | hq
 ·obtain ⟨its,r',pl,hz⟩:=I.list hq;have hlen:=r'.length;exact Calls.call_len_list pl.isList (by simp only [List.size_toArray] <;> omega) ⟨.int ys.length,H,I.tok _,⟨s.toks+1,by rw [List.size_toArray,hlen]⟩,q⟩
 ·obtain ⟨its,r',pl,hz⟩:=I.tuple hq;have hlen:=r'.length;exact len_tuple pl (by simp only [List.size_toArray] <;> omega) ⟨.int ys.length,H,I.tok _,⟨s.toks+1,by rw [List.size_toArray,hlen]⟩,q⟩
theorem tJ:cw X (.builtin "len") (λxs H Q=>∃z,xs=[.str z]/\z.length<=sizeLine/\Q (.int z.length) H):=by intro δ s σ H xs us Q I r h;obtain ⟨z,rfl,hz,q⟩:=h;obtain ⟨u,rfl,t,rfl⟩:=iE r;have hn:=nN;exact len_str (by omega) ⟨.int z.length,H,I.tok _,⟨_,rfl⟩,q⟩
theorem cw.or{f:Value}{r r':List V->Hp->VK->Prop}(h:cw X f r)(h':cw X f r'):cw X f (λxs H Q=>r xs H Q\/r' xs H Q):=by
 intro δ s σ H xs us Q I rs q;rcases q with q | q
 ·exact h δ s σ H xs us Q I rs q
 ·exact h' δ s σ H xs us Q I rs q
theorem sg:cw X (.type "list") (λxs H Q=>∃p ys,xs=[.ref p]/\(eQ X.K H p ys\/iZ X.K H p ys)/\∀l,H l=none->Q (.ref l) (upd H l (.lst ys))):=by
 intro δ s σ H xs us Q I r h;obtain ⟨p,ys,rfl,hq,q⟩:=h;obtain ⟨u,rfl,rx⟩:=iE r;cases rx
 have fin:∀(its:List Value),Ψ ys its->ys.length<=sizeLine->∀(h':Heap) (c':Nat),(∀b o',s.heap.get? b=some o'->h'.get? b=some o')->
   h'.get? s.heap.objs.size=some {cls:= .type "list",dict:=none,data:= .seq its.toArray c',slots:= #[]}->EP X δ σ Q (.ref s.heap.objs.size) {s with heap:=h'}:=λits r' hz h' c' kp e=>
  ⟨.ref s.heap.objs.size,_,I.laid (t':=s.toks) kp (aal _) (show aO X.prog X.w _ h' _ (.lst ys) from ⟨hz,its,c',r',e⟩),rfl,q _ (I.aJ.fresh (aal _))⟩
 rcases hq with hq | hq
 ·obtain ⟨its,r',pl,hz⟩:=I.list hq;have hlen:=r'.length;obtain ⟨o,ho,hc,n,hd⟩:=pl.isList;exact call_list_seq p (.inl rfl) ho hc hd (λh' c' kp e=>fin its r' hz h' c' kp e) (by simp only [List.size_toArray] <;> omega)
 ·obtain ⟨its,r',pl,hz⟩:=I.tuple hq;have hlen:=r'.length;obtain ⟨o,ho,hc,n,hd⟩:=pl;exact call_list_seq p (.inr rfl) ho hc hd (λh' c' kp e=>fin its r' hz h' c' kp e) (by simp only [List.size_toArray] <;> omega)
def Rj(K:fv)(T:String)(x:V)(H:Hp):Prop:=match x with
 | .str _=>T="str"
 | .int _=>T="int"
 | .ref p=>(T="list"/\∃xs,eQ K H p xs)\/(T="tuple"/\∃o,K.lookup p=some o/\o.cls= .type "tuple"/\o.dict=none)\/
   (T="dict"/\((∃Κ,H p=some (.dK Κ))\/∃Κ,H p=some (.dT Κ)))\/(T="set"/\∃S n,H p=some (.set S n))
 | _=>False
theorem DB{σ:St}{H:Hp}{T:String}{x:V}{v:Value}(I:Inv X δ σ H s)(r:Ω x v)(ty:Rj X.K T x H):
  s.TypeIs v T/\∀a,v= .ref a->∃ob,s.heap.get? a=some ob/\ob.dict=none:=by
 cases x with
 | str z=>
  obtain ⟨t,rfl⟩:=r;cases (show T="str" from ty);exact ⟨typeIs_str s z t,λ_ e=>nomatch e⟩
 | int i=>
  obtain ⟨t,rfl⟩:=r;cases (show T="int" from ty);exact ⟨typeIs_int s i t,λ_ e=>nomatch e⟩
 | ref p=>
  cases r;rcases ty with ⟨rfl,xs,hq⟩ | ⟨rfl,o,hk,hc,hd⟩ | ⟨rfl,hk⟩ | ⟨rfl,S,n,hk⟩
  ·obtain ⟨its,_,pl,_⟩:=I.list hq;refine ⟨pl.isList.typeIs,λa e=> ?_⟩;cases e;obtain ⟨o,n,e,c,hd,_⟩:=pl;exact ⟨o,e,hd⟩
  ·refine ⟨⟨o,I.mV p o hk,hc⟩,λa e=> ?_⟩;cases e;exact ⟨o,I.mV _ o hk,hd⟩
  ·have z:∃o,s.heap.get? p=some o/\o.ExactDict:=by
    rcases hk with ⟨Κ,hk⟩ | ⟨Κ,hk⟩
    ·obtain ⟨_,_,_,_,o,_,_,e,ex,_⟩:=I.aJ p _ hk;exact ⟨o,e,ex⟩
    ·obtain ⟨_,_,_,_,o,_,_,e,ex,_⟩:=I.aJ p _ hk;exact ⟨o,e,ex⟩
   obtain ⟨o,e,ex⟩:=z;refine ⟨⟨o,e,ex.1⟩,λa e2=> ?_⟩;cases e2;exact ⟨o,e,ex.2.1⟩
  ·obtain ⟨o,_,_,_,e,ex,_⟩:=I.aJ p _ hk;refine ⟨⟨o,e,ex.1⟩,λa e2=> ?_⟩;cases e2;exact ⟨o,e,ex.2.1⟩
 | _=>exact False.elim ty
def Rf(K:fv)(T:String)(r:V->List V->Hp->VK->Prop)(to:TE):TE:=λσ H Q=>to σ H λx H1=>Rj K T x H1/\r x [] H1 Q
def VT(K:fv)(T:String)(r:V->List V->Hp->VK->Prop)(to:TE)(t:TA):TE:=λσ H Q=>to σ H λx H1=>Rj K T x H1/\t σ H1 λxs H2=>r x xs H2 Q
variable{o e:Expr}{es:List Expr}{to:TE}{t:TA}{name:Str}{apos aF:Pos}{T id:String}{r:V->List V->Hp->VK->Prop}
theorem Jm(pa:PlainAttrs T)(slot:Slot T name id)(QW:typeOf (.builtin id)=pure (.type "method_descriptor"))(hm:RH X id r)(ho:PE X o to)
  (ia:attributeBase o name X.env (eval o X.env)=eval o X.env:=by rfl) (g7:(apos.endLine==aF.line)=true:=by rfl):PE X (.Call (.Attribute o name apos) [] [] aF) (Rf X.K T r to):=by
 intro δ s σ H Q I h;refine wpAny_Call_method0_late ia g7 (bD (ho δ s σ H _ I h) λv s1 ⟨x,H1,I1,r1,ty,q1⟩=> ?_);obtain ⟨h1,h2⟩:=DB I1 r1 ty;exact ⟨T,id,pa,slot,QW,h1,h2,Calls.callWith_builtin rfl (PySem.evalArgs_none (hm δ s1 σ H1 x [] v [] Q I1 r1 .nil q1))⟩
theorem BO(pa:PlainAttrs T)(slot:Slot T name id)(QW:typeOf (.builtin id)=pure (.type "method_descriptor"))(hm:RH X id r)(ho:PE X o to)(ha:PA X (e::es) t)
  (ia:attributeBase o name X.env (eval o X.env)=eval o X.env:=by rfl)
  (w_:((backTo aF (starEach (e::es) X.env)).all (λx=> !x.1)&&(backToKw aF (keywordEach [] X.env)).all (λx=>x.1.isSome)
   &&decide ((e::es).length+([]:List Keyword).length+(if ([]:List Keyword).isEmpty then 0 else 1) < 30))=true:=by rfl)
  (g7:(apos.endLine==aF.line)=true:=by rfl) (hs:starEach (e::es) X.env=(false,eval e X.env)::starEach es X.env:=by rfl) (jF:(backTo aF (starEach es X.env)).any (·.1)=false:=by rfl):
  PE X (.Call (.Attribute o name apos) (e::es) [] aF) (VT X.K T r to t):=by
 intro δ s σ H Q I h;refine wpAny_Call_method_late ia w_ g7 rfl (bD (ho δ s σ H _ I h) λv s1 ⟨x,H1,I1,r1,ty,q1⟩=> ?_);obtain ⟨h1,h2⟩:=DB I1 r1 ty;refine ⟨T,id,pa,slot,QW,h1,h2, ?_⟩;have hA:=ha aF δ s1 σ H1 _ I1 q1;rw [hs] at hA⊢;refine Calls.callWith_builtin (by show (false || (backTo aF (starEach es X.env)).any (·.1))=false;rw [jF] <;> rfl) (Calls.evalArgs_plain ?_);exact bD hA λus s2 ⟨vs,H2,I2,r2,q2⟩=>hm δ s2 σ H2 x vs v us Q I2 r1 r2 q2
end
def OR(X:Cx)(id:String)(r:V->List V->Hp->VK->Prop):Prop:=
 ∀(δ:List (Addr×Obj)) (s:Shared) (σ:St) (H:Hp) (x:V) (xs:List V) (v:Value) (us:List Value) (Q:VK),Inv X δ σ H s->Ω x v->Ψ xs us->r x xs H Q->
  wpAny (model X.prog X.w) X.A (call (.builtin id) (v::us)) (EP X δ σ Q) X.xe s
theorem Ψ.one:∀{x:V} {us:List Value},Ψ [x] us->∃u,us=[u]/\Ω x u
 | _,_, .cons r .nil=>⟨_,rfl,r⟩
theorem Ψ.zero:∀{us:List Value},Ψ [] us->us=[]
 | _, .nil=>rfl
theorem Ψ.rep{xs:List V}{us:List Value}(h:Ψ xs us):∀k:Nat,Ψ (List.replicate k xs).flatten (List.replicate k us).flatten
 | 0=> .nil
 | k+1=>by rw [abf,abf,abz,abz];exact Ψ.append h (Ψ.rep h k)
theorem rH(its:List Value):∀(k:Nat) (ae:List Value),
  List.foldl (λx1 x2=>x1++x2) ae.toArray (List.replicate k its.toArray)=(ae++(List.replicate k its).flatten).toArray
 | 0,ae=>by simp
 | k+1,ae=>by
  have e:ae.toArray++its.toArray=(ae++its).toArray:=by simp
  have e2:(ae++its)++(List.replicate k its).flatten=ae++(List.replicate (k+1) its).flatten:=by rw [abf,abz,aa8]
  rw [<-e2,<-rH its k (ae++its),<-e,abf,List.foldl_cons]
section
variable{σ:St}{H:Hp}{l b:Addr}{xs ys zs:List V}
theorem Inv.LZ{its its':List Value}{n:Nat}{f:Array Value->Array Value}{t':Nat}(I:Inv X δ σ H s)(hH:H l=some (.lst xs))
  (e:s.heap.get? l=some {cls:= .type "list",data:= .seq its.toArray n}) (hf:f its.toArray=its'.toArray) (hv:Ψ ys its') (hz:ys.length<=sizeLine):
  Inv X δ σ (upd H l (.lst ys)) {s with heap:=s.heap.update l (Obj.mapSeq f),toks:=t'}:=by
 have q:=PySem.IsL.update e f;rw [hf] at q;refine I.write (x:=l) (e:=l) (by rw [hH];exact trivial) (.inl rfl) (λb' u hb hu=>(Heap.get?_update_other s.heap (Obj.mapSeq f) (Ne.symm hb)).trans hu) ⟨_,q⟩ ?_;exact ⟨hz,its',_,hv,q⟩
theorem Inv.J6{its:List Value}{t':Nat}(I:Inv X δ σ H s)(hv:Ψ ys its)(hz:ys.length<=sizeLine):
  Inv X δ σ (upd H s.heap.objs.size (.lst ys)) {s with heap:=s.heap.push {cls:= .type "list",data:= .seq its.toArray},toks:=t'}:=
 I.laid (λ_ _ q=>aaf _ q) (aal _) ⟨hz,its,0,hv,aau _ rfl⟩
theorem Inv.fresh(I:Inv X δ σ H s):H s.heap.objs.size=none:=I.aJ.fresh (aal _)
theorem Inv.Bl(I:Inv X δ σ H s)(hH:H l=some (.lst xs)):xs.length<=sizeLine/\∃(its:List Value) (n:Nat),Ψ xs its/\xs.length=its.length/\s.heap.get? l=some {cls:= .type "list",data:= .seq its.toArray n}:=by obtain ⟨z,its,n,r,e⟩:=I.aJ l _ hH;exact ⟨z,its,n,r,r.length,e⟩
theorem BU{n:Nat}(h:n<=sizeLine):Builtin.List.listTooLong n=false:=by unfold Builtin.List.listTooLong;exact aaK (by omega)
end
section
def zi:V->List V->Hp->VK->Prop:=λx vs H Q=>∃l xs y,x= .ref l/\vs=[y]/\H l=some (.lst xs)/\xs.length < sizeLine/\Q .bf (upd H l (.lst (xs++[y])))
theorem rg:OR X "list.append" zi:=by intro δ s σ H x vs v us Q I rx rv h;obtain ⟨l,xs,y,rfl,rfl,hH,hz,q⟩:=h;cases rx;obtain ⟨u,rfl,ru⟩:=rv.one;obtain ⟨z,its,n,r,hl,e⟩:=I.Bl hH;refine call_meets F.slot_list_append ⟨_,e,rfl⟩ F.entry_list_append (F.args_list_append_2 _ _) (PySem.list_append l its.toArray n u (by rw [aas];omega)) ⟨e, ?_⟩;refine ⟨.bf,_,I.LZ (its':=its++[u]) hH e (by simp) (r.append (.cons ru .nil)) ?_,rfl,q⟩;rw [aag,List.length_singleton];omega
def Et:V->List V->Hp->VK->Prop:=λx vs H Q=>∃l xs,x= .ref l/\vs=[]/\H l=some (.lst xs)/\Q .bf (upd H l (.lst []))
theorem Cz:OR X "list.clear" Et:=by intro δ s σ H x vs v us Q I rx rv h;obtain ⟨l,xs,rfl,rfl,hH,q⟩:=h;cases rx;have XM:=rv.zero;subst XM;obtain ⟨z,its,n,r,hl,e⟩:=I.Bl hH;refine call_meets F.slot_list_clear ⟨_,e,rfl⟩ F.entry_list_clear (F.args_list_clear_1 _) (AutoSeq1.list_clear_list_0 l its.toArray n (by rw [aas];omega)) ⟨e, ?_⟩;exact ⟨.bf,_,I.LZ (its':=[]) (ys:=[]) hH e rfl .nil (abD _),rfl,q⟩
def Ot:R2:=λx y H Q=>∃l b xs zs,x= .ref l/\y= .ref b/\H l=some (.lst xs)/\H b=some (.lst zs)/\xs.length+zs.length<=sizeLine/\∀p,H p=none->Q (.ref p) (upd H p (.lst (xs++zs)))
theorem J8:ij X (binaryOp .Add) Ot:=by
 intro δ s σ H x y v u Q I rx ry h;obtain ⟨l,b,xs,zs,rfl,rfl,hH,hB,hz,q⟩:=h;cases rx;cases ry;obtain ⟨z,its,n,r,hl,e⟩:=I.Bl hH;obtain ⟨z2,Io,n2,r2,Fg,e2⟩:=I.Bl hB;refine PySem.P.add_list e e2 ?_ (by rw [aas,aas];omega);have ea:its.toArray++Io.toArray=(its++Io).toArray:=by simp
 rw [ea];exact ⟨.ref _,_,I.J6 (t':=s.toks) (r.append r2) (by rw [aag];omega),rfl,q _ I.fresh⟩
def NF:R2:=λx y H Q=>∃l k xs,x= .ref l/\y= .int k/\H l=some (.lst xs)/\ -(2 ^ 63)<=k/\k < 2 ^ 63/\xs.length * k.toNat<=sizeLine/\
 ∀p,H p=none->Q (.ref p) (upd H p (.lst (List.replicate k.toNat xs).flatten))
theorem GW{α:Type}(xs:List α)(k:Nat):(List.replicate k xs).flatten.length=k * xs.length:=by
 induction k with
 | zero=>simp
 | succ k ih=>rw [abf,abz,aag,ih,Nat.succ_mul,Nat.add_comm]
theorem II:ij X (binaryOp .Mult) NF:=by
 intro δ s σ H x y v u Q I rx ry h;obtain ⟨l,k,xs,rfl,rfl,hH,h1,h2,hz,q⟩:=h;cases rx;obtain ⟨t,rfl⟩:=ry;obtain ⟨z,its,n,r,hl,e⟩:=I.Bl hH;have hlen:its.toArray.size * k.toNat<=sizeLine:=by rw [aas,<-hl];exact hz
 have Rh:¬its.toArray.size * k.toNat > (2 ^ 63 - 1) / 8:=by
  have:(sizeLine:Nat)<=(2 ^ 63 - 1) / 8:=by decide
  omega
 have Sj:¬(!Builtin.List.listFitsIndex k)=true:=by rw [fitsIndex_both h1 h2];exact aar
 have Mq:¬Builtin.List.listTooLong (its.toArray.size * k.toNat)=true:=by rw [BU hlen];exact aar
 have PJ:List.foldl (λx1 x2=>x1++x2) #[] (List.replicate (if its.toArray.isEmpty=true then 0 else k.toNat) its.toArray)=(List.replicate k.toNat its).flatten.toArray:=by
  have f0:∀m:Nat,List.foldl (λx1 x2=>x1++x2) #[] (List.replicate m its.toArray)=(List.replicate m its).flatten.toArray:=λm=>by have:=rH its m [];rw [aaS] at this;exact this
  rw [f0];cases its with
  | nil=>simp
  | cons a r'=>rw [if_neg (by simp)]
 refine wpAny_binaryOp_repeat_ref (T:="list") (U:="int") (by decide) ⟨_,e,rfl⟩ (λs'=>typeIs_int s' k t) noFill_list_mul F.fills_int_mul F.slot_int_rmul repeat_list F.slot_int_index.lookup
  (call_meets F.slot_int_rmul (typeIs_int s k t) F.entry_int_rmul (F.args_int_rmul_2 _ _) (int___rmul___int_list k t l its.toArray n)
   ⟨e,rfl,⟨_,e,rfl⟩,call_meets F.slot_list_mul ⟨_,e,rfl⟩ F.entry_list_mul (F.args_list_mul_2 _ _) (AutoListH.list___mul___list_int_3 l its.toArray n k t Sj Rh Mq) ⟨e, ?_⟩⟩)
 rw [PJ];exact ⟨.ref _,_,I.J6 (t':=s.toks) (r.rep k.toNat) (by rw [GW,Nat.mul_comm];exact hz),rfl,q _ I.fresh⟩
end
end L2
namespace Att
open PySem PySem.W PySem.Calls PyProof.Rows
theorem mZ{P:Params}{h:Heap}:∀(ns:List Int) (vs:List Value),WellAll P h vs (ns.map WData.int)->IntsAre vs ns:=by
 intro ns
 induction ns with
 | nil=>
  intro vs w;rw [List.map_nil] at w;cases w;exact .nil
 | cons n ns ih=>
  intro vs w;rw [aaD] at w;cases w with
  | cons a b=>
   cases a;exact .cons _ _ (ih _ b)
theorem zR{l:OpenLaw}{n:Nat}(hn:l.most=some n){P:Params}{h:Heap}{args:List WData}{vals:List Value}
  (EX:l.row.toRowW.claim.pre args=true) (Sh:WellAll P h vals args):
  ∃a vs ns,vals=[Value.ref a]/\args=[WData.list (ns.map WData.int)]/\h.get? a=some {cls:= .type "list",data:= .seq vs.toArray}/\IntsAre vs ns/\ns.length<=n:=by
 have Pq:WShape.hasAll [] args [.list .int]=true:=(pre_splitW EX).1;have hc:l.pre.holds [] {args:=args}=true:=(pre_splitW EX).2;obtain ⟨d,r,rfl,h1,h2⟩:=hasAllW_cons Pq;obtain rfl:=hasAllW_nil h2;obtain ⟨xs,rfl,h3⟩:=hasW_list h1;obtain ⟨ns,rfl⟩:=items_int h3;have hlen:ns.length<=n:=by
  unfold OpenLaw.pre at hc;have h4:(WTm.not (.lt (.lit (.int (n:Int))) (.len (.arg 0)))).holds [] {args:=[.list (ns.map .int)]}=true:=by have h4:=(holds_andW hc).1;rw [hn] at h4;exact h4
  have h5:=condW_of h4 (w_not (w_lt w_lit (w_len_list (w_arg rfl))));rw [aac] at h5;refine Nat.le_of_not_lt λq=> ?_;have q':(n:Int) < ((ns.length:Nat):Int):=by omega
  first
   | (rw [aaq q'] at h5;exact aaH h5 (by decide))
   | (simp at h5;omega)
 cases Sh with
 | cons w1 w2=>
  cases w2;cases w1 with
  | list ho kO=>exact ⟨_,_,ns,rfl,rfl,ho,mZ ns _ kO,hlen⟩
theorem zQ(l:OpenLaw)(args:List WData):l.row.toRowW.claim.post args (.bool true) args=true:=
 postW_of (r:=l.row.toRowW) (X:=(true==true))
  (show WShape.has [] (.bool true) .bool=true by first | rfl | decide | simp [WShape.has,WShape.arms,WShape.armsAll])
  (show (WTm.eq .res (.lit (.bool true))).value [] {args:=args,res:=some (.bool true),after:=args}=some (.bool (true==true)) from w_eq_bool (w_res rfl) w_lit) rfl
theorem vj{l:OpenLaw}{n:Nat}{q:Program}{loose:List Str}{XP:(Str->Option Value)->Heap->Prop}{YP:World->Heap->Prop}{d:DefRec}
  (hn:l.most=some n) (Oi:d.params.defaults=[])
  (call:∀(w:World) (s₀ s₁:Shared) (mg mb:Str->Option Value) (fa:Addr) (o:Obj) (pm cd doc:Value) (a:Addr) (vs:List Value) (ns:List Int),
   Ground q loose [] XP w s₀ mg mb s₁.heap->YP w s₁.heap->
   s₁.heap.get? fa=some o->o.data= .func (docDef d.name d.params d.body d.scope pm cd doc)->s₁.heap.CodeRec cd d.name->mg d.name=some (.ref fa)->
   s₁.heap.get? a=some {cls:= .type "list",data:= .seq vs.toArray}->IntsAre vs ns->ns.length<=n->s₁.gens= #[]->
   codeAny (model l.prog w) callerA (.call (.ref fa) ⟨[.ref a],[]⟩) (λr s'=>r= .ok (.ret (.bool true))/\OldK s₁.heap s'.heap/\s'.os=s₁.os/\AllBare s'.gens) s₁):
  WalkO q loose XP YP l.row.toRowW d [] (λf vs=>PySem.call f vs):=by
 intro w s₀ s₁ mg mb G Y fa o pm cd doc dV kV ho hd BL hD Gp hg args vals as EX Xl Yx Sh Ye;obtain rfl:dV= .none:=Dflts.none hD Oi;obtain rfl:kV= .none:=Dflts.noKw hD;obtain ⟨a,vs,ns,rfl,rfl,KS,hints,hlen⟩:=zR hn EX Sh;refine enter_call (codeAny_mono (call w s₀ s₁ mg mb fa o pm cd doc a vs ns G Y ho (fd_plain hd) BL Gp KS hints hlen hg) λr s' hq=> ?_);obtain ⟨rfl,h2,h3,h4⟩:=hq;exact ⟨.inl ⟨.bool true, .bool true,[],rfl,λ_=>rfl, .bool true,zQ l _,λ_=>⟨List.Pairwise.nil,λ_ hm=>(nomatch hm)⟩⟩,h2,h3,h4⟩
end Att
namespace L2
open PySem PySem.Spec PyProof.Rows
theorem qF:∀{vs:List Value} {ns:List Int},IntsAre vs ns->Ψ (ns.map V.int) vs
 | _,_, .nil=> .nil
 | _,_, .cons n t h=> .cons ⟨t,rfl⟩ (qF h)
def IJ(H:Hp):Prop:=∀b,H b=none\/∃o xs,H b=some (.uH o (.lst xs))
theorem Cs{P:Program}{w:World}{K:fv}{mg mb:Str->Option Value}{CX:we}{k:Nat}{fa a:Addr}{fd:FuncData}{x:Str}{sp:Sp}{s₁:Shared}{vs:List Value}{ns:List Int}
  (KX:K.In s₁.heap) (SG:s₁.heap.Ns mainGlobals mg) (hb:s₁.heap.Ns builtinsNs mb) (XJ:∀x:Str,x≠"__name__"->mb x=bootBuiltins x) (RB:s₁.heap.NoLimit) (hg:s₁.gens= #[])
  (ha:s₁.heap.get? a=some {cls:= .type "list",data:= .seq vs.toArray}) (hi:IntsAre vs ns) (hl:ns.length<=sizeLine) (hr:bq k callerA)
  (F:∀base:Heap,K.In base->base.Ns mainGlobals mg->aB P w K mg base CX k fa fd [x] sp) (Mc:∀(s:Shared) (u:Value),BindsTo s fd ⟨[u],[]⟩ [(x,u)])
  (HD:∀H:Hp,IJ H->eQ K H a (ns.map V.int)->sp [.ref a] H (λv _=>v= .bl true) λ_ _ _=>False)
  (RL:∀H e s',CX [] H s₁ (λ_ _ _=>False) e s'->False):
  codeAny (model P w) callerA (.call (.ref fa) ⟨[.ref a],[]⟩) (λr s'=>r= .ok (.ret (.bool true))/\OldK s₁.heap s'.heap/\s'.os=s₁.os/\AllBare s'.gens) s₁:=by
 have rv:=qF hi;have QC:=hi.length
 have core:∀H:Hp,IJ H->eQ K H a (ns.map V.int)->iW P w H s₁.heap->(∀b,H b≠none->b=a)->(H a≠none->K.lookup a=none)->
   codeAny (model P w) callerA (.call (.ref fa) ⟨[.ref a],[]⟩) (λr s'=>r= .ok (.ret (.bool true))/\OldK s₁.heap s'.heap/\s'.os=s₁.os/\AllBare s'.gens) s₁:=by
  intro H hO hS aJ hA hK;have yE:∀{b:Addr} {o:Obj},s₁.heap.get? b=some o->H b=none->(rX s₁.heap H).get? b=some o:=λe n=>Dg e n;have Om:∀{b:Addr} {o:Obj} {es:Array DictEntry} {ep:Nat},s₁.heap.get? b=some o->o.data= .dict es ep->H b=none:=λ{b o es ep} e d=>by
   cases q:H b with
   | none=>rfl
   | some u=>
    have e':b=a:=hA b (by rw [q];simp);subst e';rw [ha] at e;cases e;have d':Data.seq vs.toArray _=Data.dict es ep:=d;cases d'
  have Pl:∀{b:Addr} {m:Str->Option Value},s₁.heap.Ns b m->(rX s₁.heap H).Ns b m:=λ{b m} ⟨o,es,ep,e,d,r⟩=>⟨o,es,ep,yE e (Om e d),d,r⟩
  have TL:K.In (rX s₁.heap H):=λb o e=>yE (KX b o e) (by
   cases q:H b with
   | none=>rfl
   | some u=>
    have e':b=a:=hA b (by rw [q];simp);subst e'
    rw [hK (by rw [q];simp)] at e;cases e)
  have hM:Mod K mg (rX s₁.heap H):=⟨TL,Pl SG,⟨mb,Pl hb,XJ⟩,let ⟨mc,h1,h2⟩:=RB;⟨mc,Pl h1,h2⟩⟩;have e0:xq P w K mg (rX s₁.heap H) callerA [] s₁ H:=⟨rfl,hM,λb o e=>Fb e,Nat.le_of_eq (zC _ _),trivial,λb hb=>absurd (show b∈([]:List Addr) from hb) (by simp),aJ, .of_eq hg⟩;refine codeAny_mono ((F _ TL (Pl SG)).run callerA [] s₁ H ⟨[.ref a],[]⟩ [.ref a] [.ref a] _ _ hr e0 (Mc s₁ (.ref a)) (.cons rfl .nil) (HD H hO hS)) λr s' h=> ?_;cases r with
  | error e=>exact (RL H e s' h).elim
  | ok fl=>
   cases fl with
   | next=>exact False.elim h
   | brk=>exact False.elim h
   | cont=>exact False.elim h
   | ret u=>
    obtain ⟨v,H',os,bare,un,P4,r',q⟩:=h;have q':v= .bl true:=q;subst q';obtain rfl:u=Value.bool true:=r';refine ⟨rfl,OldK.of_keep λb o e=> ?_,os,bare⟩;cases q:H b with
    | none=>exact un.keep b o e q (by intro z;exact absurd (show b∈([]:List Addr) from z) (by simp)) (by simp)
    | some u=>
     rcases hO b with z | ⟨ob,xs,z⟩
     ·rw [q] at z;cases z
     ·have z2:=un.lB b ob _ z;obtain ⟨e1,_⟩:=aJ b _ z;obtain ⟨e2,_⟩:=P4 b _ z2;rw [e] at e1;cases e1;exact e2
 cases hk:K.lookup a with
 | some o=>
  have e:=KX a o hk;rw [ha] at e;cases e;refine core (λ_=>none) (λ_=> .inl rfl) (.inr ⟨_,vs.toArray,_,hk,rfl,rfl,rfl,by rw [List.size_toArray,QC];exact hl,by simpa using rv⟩) (λb u z=>by have z':(none:Option HO)=some u:=z;cases z') (λb z=>absurd rfl z) λz=>absurd rfl z
 | none=>
  refine core (λb=>if b=a then some (.uH {cls:= .type "list",data:= .seq vs.toArray} (.lst (ns.map V.int))) else none) (λb=> ?_) (.inl (.inr ⟨{cls:= .type "list",data:= .seq vs.toArray},aaI rfl⟩)) (λb u z=> ?_) (λb z=> ?_) λ_=>hk
  ·by_cases hb:b=a
   ·exact .inr ⟨_,_,aaI hb⟩
   ·exact .inl (aaF hb)
  ·by_cases hb:b=a
   ·have z':=(aaI hb).symm.trans z;cases z';subst hb;exact ⟨ha,by rw [aac];exact hl,vs,_,rv,ha⟩
   ·have z':=(aaF hb).symm.trans z;cases z'
  ·by_cases hb:b=a
   ·exact hb
   ·exact aaH (aaF hb) z
theorem tY{l:PySem.W.OpenLaw}{n k:Nat}{q:Program}{loose:List Str}{XP:(Str->Option Value)->Heap->Prop}{YP:World->Heap->Prop}{d:DefRec}{K:Params->fv}{CX:World->we}{sp:World->Sp}{x:Str}
  (hn:l.most=some n) (Ly:n<=sizeLine) (Oi:d.params.defaults=[]) (hr:bq k callerA)
  (hY:∀(w:World) (h:Heap),YP w h->(K w.params).In h)
  (F:∀(w:World) (mg:Str->Option Value) (fa:Addr) (h:Heap),(K w.params).In h->h.Ns mainGlobals mg->mg d.name=some (.ref fa)->
   ∃fd:FuncData,(∀(s:Shared) (u:Value),BindsTo s fd ⟨[u],[]⟩ [(x,u)])/\
    ∀base:Heap,(K w.params).In base->base.Ns mainGlobals mg->aB l.prog w (K w.params) mg base (CX w) k fa fd [x] (sp w))
  (HD:∀(w:World) (H:Hp) (a:Addr) (ns:List Int),ns.length<=n->IJ H->eQ (K w.params) H a (ns.map V.int)->sp w [.ref a] H (λv _=>v= .bl true) λ_ _ _=>False)
  (RL:∀(w:World) (H:Hp) (s:Shared) (e:Value) (s':Shared),CX w [] H s (λ_ _ _=>False) e s'->False):
  PySem.W.WalkO q loose XP YP l.row.toRowW d [] (λf vs=>PySem.call f vs):=by
 refine Att.vj hn Oi λw s₀ s₁ mg mb fa o pm cd doc a vs ns G Y ho hd BL Gp KS hints hlen hg=> ?_;have KX:=hY w _ Y;obtain ⟨fd,hb,hF⟩:=F w mg fa _ KX G.T.g Gp;exact Cs KX G.T.g G.T.b G.T.builtins G.T.nolimit hg KS hints (aam hlen Ly) hr hF hb (λH hO hS=>HD w H a ns hlen hO hS) λH e s'=>RL w H s₁ e s'
end L2
/- XA P2 FO (shape;Up,My.* are MT):
  My.VP:a structure of E2 addresses Qi QZ NX names (classes,z6);My.Txt K t:a structure (Prop) of E2 equations m6 K;
  My.wU:{K} {implicit addresses ..} (e1:nsIn K mainGlobals "law"=some (some (.ref f))) (e2:K.lookup f=some ⟨oc,od, .func (fnOf "law" "law" params body scope dV kV doc pm an bK ct),sl⟩) (e3:codeIn K bK "law"=true) .. :∃t,My.Txt K t
set_option maxRecDepth 100000 in
set_option maxHeartbeats 0 in
theorem PySem.Challenge.cw_LID_holds : PySem.Challenge.rw_LID.Holds := by
 w_on;o_law;k_head;(case hw=>w_witness2)
 k_fill
 refine L2.tY (l:=PySem.Challenge.rw_LID) (n:=63) (k:=40) (x:="script") (CX:=fun w=> ..) (sp:=fun _=>My.KO) rfl (by decide) rfl ⟨rfl,by decide,by decide⟩ (fun w h Y=>PySem.W.kIn_of Y) ?F ?S ?C
 case F=>
  intro w mg fa h KX G Gp;have T:∃t,My.Txt (L2.R7 KX) t:=by
   dsimp only [L2.R7]
   refine' My.wU ?e1 ?e2 ?e3 ..
   (case e1=>PySem.W.k_is)
   (case e2=>PySem.W.k_is)
   ..
  obtain ⟨t,T⟩:=T;have e0:=Gp.symm.trans (PySem.W.mg_of KX G T.U4);cases e0;exact ⟨_,λs u=> .of_eq rfl,λbase kb nb=>My.wR T kb nb⟩
 case S=>exact λw H a ns hl hO hS=> ..
 case C=>exact ..
(E2 tactic k_is has no namespace:write k_is) -/
namespace L2
open PySem PySem.Spec PyProof.Rows
variable{P:Program}{w:World}{mg:Str->Option Value}{base:Heap}{qual:Str}{st:Stmt}{f x:Addr}{fd:FuncData}{ps N xs ys:List Str}{A:Around}{s:Shared}{env:Env}{outer:List Env}{X:Cx}{δ:List (Addr×Obj)}{scope:Scope}{Θ:List Nat}
def iN(s:Stmt):Arguments:=match s with
 | .FunctionDef _ a _ _ _ _ _ _ _ _=>a
 | _=>{posonlyargs:=[],args:=[],vararg:=none,kwonlyargs:=[],kw_defaults:=[],kwarg:=none,defaults:=[]}
def e_(s:Stmt):List Stmt:=match s with
 | .FunctionDef _ _ b _ _ _ _ _ _ _=>b
 | _=>[]
def ο(s:Stmt):Scope:=match s with
 | .FunctionDef _ _ _ _ _ _ sc _ _ _=>sc
 | _=>{kind:= .function,names:=[],isGenerator:=false,isCoroutine:=false}
abbrev O3:we:=λ_ _ _ _ _ _=>False
abbrev E0:XK:=λ_ _ _=>False
structure dH(K:fv)(x qual:Str)(st:Stmt)(f:Addr)(fd:FuncData):Prop where
 ex:∃(oc:Value) (od:Option Addr) (kV doc pm:Value) (an:Option Addr) (bK ct:Value) (C_:Array (Option Value)),
  fd=PySem.W.fnOf x qual (iN st) (e_ st) (ο st) .none kV doc pm an bK ct/\K.lookup f=some ⟨oc,od, .func fd,C_⟩/\PySem.W.codeIn K bK qual=true
 kp:PySem.W.keepIn K (.ref f)=true
section
variable{K:fv}
theorem dH.binds{x:Str}(F:dH K x qual st f fd)
  (h:∀(kV doc pm:Value) (an:Option Addr) (bK ct:Value) (us:List Value),us.length=ps.length->bindArgs (PySem.W.fnOf x qual (iN st) (e_ st) (ο st) .none kV doc pm an bK ct) ⟨us,[]⟩=pure (ps.zip us)):gL K fd ps []:=by
 obtain ⟨oc,od,kV,doc,pm,an,bK,ct,C_,rfl,lk,BL⟩:=F.ex;exact .all (h kV doc pm an bK ct)
theorem B3{x:Str}{oc:Value}{od an:Option Addr}{C_:Array (Option Value)}{kV doc pm bK ct:Value}(l:K.lookup f=some ⟨oc,od, .func (PySem.W.fnOf x qual (iN st) (e_ st) (ο st) .none kV doc pm an bK ct),C_⟩)
  (c:PySem.W.codeIn K bK qual=true) (k:PySem.W.keepIn K (.ref f)=true):dH K x qual st f (PySem.W.fnOf x qual (iN st) (e_ st) (ο st) .none kV doc pm an bK ct):=⟨⟨oc,od,kV,doc,pm,an,bK,ct,C_,rfl,l,c⟩,k⟩
end
theorem xj{A B:Prop}(h:B):if false=true then A else B:=by rw [aaF aar];exact h
theorem wm{A B:Prop}(h:A):if true=true then A else B:=by rw [aaI rfl];exact h
def b_(H H':Hp):Prop:=∀b o,H b=some o->H' b=some o
theorem b_.refl(H:Hp):b_ H H:=λ_ _ h=>h
theorem b_.trans{H H1 H2:Hp}(a:b_ H H1)(b:b_ H1 H2):b_ H H2:=λc o h=>b c o (a c o h)
theorem b_.free{H H':Hp}(e:b_ H H'){l:Addr}(h:H' l=Option.none):H l=Option.none:=by
 cases q:H l with
 | none=>rfl
 | some o=>
  rw [e l o q] at h;cases h
theorem b_.seq{K:fv}{H H':Hp}{a:Addr}{xs:List V}(e:b_ H H')(h:eQ K H a xs):eQ K H' a xs:=by
 rcases h with (h | ⟨o,h⟩) | h
 ·exact .inl (.inl (e _ _ h))
 ·exact .inl (.inr ⟨o,e _ _ h⟩)
 ·exact .inr h
section
def FJ(B:Heap)(l:List Env)(x:Addr)(o:Obj)(fl:Value)(h:Heap):Prop:=
 B.StaysIn h/\B.get? x=none/\h.FunFrames B l/\∃(vs:Array Value) (T:Addr) (oT:Obj) (ts:Array Value),h.get? x=some {o with data:= .fields vs}/\vs[2]? =some .none/\vs[1]? =some (.ref T)/\
  B.get? T=none/\T≠x/\h.get? T=some oT/\oT.data= .fields ts/\ts[3]? =some fl
section
variable{M:Model}{E:Value->Shared->Prop}{B:Heap}{l:List Env}{L:Addr}{o:Obj}{vs:Array Value}{Q:Unit->Shared->Prop}
theorem oW{h h':Heap}{T:Addr}{oT:Obj}{ts:Array Value}(hT:h.get? T=some oT)(hd:oT.data= .fields ts)(k:∀b,b≠T->h'.get? b=h.get? b):h.UpToSlots h':=λb ob e hn=>
 ⟨ob.slots,(k b λz=>by rw [z,hT] at e;cases e;exact hn _ hd).trans e⟩
theorem q5{h h':Heap}(hl:h.FunFrames B l)(u:h.UpToSlots h'):h'.FunFrames B l:=hl.of_keeps λb ob e hn=>by obtain ⟨sl,q⟩:=u b ob e hn;exact ⟨_,q,rfl⟩
theorem Ey{head:Value}{V6:Bool}(JO:A.frames=some (env::outer))(hf:env.frame=some L)(hB:B.StaysIn s.heap)(hn:B.get? x=none)(hl:s.heap.FunFrames B (env::outer))(hx:s.heap.get? x=some {o with data:= .fields vs})(h1:1 < vs.size)(h2:vs[2]? =some .none)
  (h:∀h',FJ B (env::outer) x o (rawInt L) h'->s.heap.UpToSlots h'->Q () {s with heap:=h'}):
  wpAny M A (do let a<-frameOf env;let pl<-entryPlaceOf L V6;let n<-EntryCells.newEntry head a .none (rawInt L) .none pl;setField (.ref x) 1 n) Q E s:=by
 refine aab (wpAny_frameOf_fun JO hl hf λg1 S1=>aab (wpAny_entryPlaceOf λpl eI=> ?_));have nx:x∉(env::outer).filterMap (·.frame):=λz=>by obtain ⟨_,ob,e,d⟩:=hl.mem z;rw [hx] at e;cases e;exact d _ rfl
 have TU:g1.get? x=some {o with data:= .fields vs}:=(S1.2.1 x nx).trans hx;unfold EntryCells.newEntry newFields;refine aab (wpAny_newObj_type ?_ (eI.sizeOk5 _ _ _ _ _));have Pp:=aaf (h:=g1) {cls:= .type "traceback",dict:=none,data:= .fields ([head, .ref L, .none,rawInt L, .none]++(if pl.isEmpty then List.replicate 6 Value.none else pl)).toArray} TU;refine wpAny_setField Pp rfl h1 (h _ ?_ ?_)
 ·have up1:∀b ob,b≠x->g1.get? b=some ob->((g1.push {cls:= .type "traceback",dict:=none,data:= .fields ([head, .ref L, .none,rawInt L, .none]++(if pl.isEmpty then List.replicate 6 Value.none else pl)).toArray}).update x (Obj.mapFields (·.setIfInBounds 1 (Value.ref g1.objs.size)))).get? b=some ob:=λb ob nb e=>
   (Heap.get?_update_other _ _ (Ne.symm nb)).trans (aaf _ e)
  have neT:g1.objs.size≠x:=Nat.ne_of_gt (aap TU)
  refine ⟨λb ob e=>up1 b ob (λz=>by rw [z,hn] at e;cases e) ((S1.2.1 b λz=>by rw [(hl.mem z).1] at e;cases e).trans (hB b ob e)),hn,hl.of_keeps λb ob e d=> ?_,vs.setIfInBounds 1 (.ref g1.objs.size),g1.objs.size,_,_,Heap.get?_update_self _ Pp rfl,by rw [Array.getElem?_setIfInBounds_ne (by decide)];exact h2,by simp [h1], ?_,neT,
   (Heap.get?_update_other _ _ (Ne.symm neT)).trans (aau g1 rfl),rfl, ?_⟩
  ·obtain ⟨sl,q⟩:=S1.2.2 b ob e;exact ⟨_,up1 b _ (λz=>by rw [z,hx] at e;cases e;exact d _ rfl) q,rfl⟩
  ·cases q:B.get? g1.objs.size with
   | none=>rfl
   | some ob=>
    have:=aap (hB _ _ q);rw [<-S1.1] at this;exact aaH this (abl _)
  ·first
    | (simp;done)
    | (rcases eI with rfl | ⟨_,_,_,_,_,_,_,rfl⟩ <;> simp)
 ·intro b ob e d;obtain ⟨sl,q⟩:=S1.2.2 b ob e;refine ⟨sl, ?_⟩;rw [Heap.get?_update_other _ _ (λz:x=b=>by rw [<-z,hx] at e;cases e;exact d _ rfl)];exact aaf _ q
theorem Ml(JO:A.frames=some (env::outer))(hf:env.frame=some L)(R:FJ B (env::outer) x o .none s.heap)
  (h:∀h',FJ B (env::outer) x o (rawInt L) h'->s.heap.UpToSlots h'->Q () {s with heap:=h'}):wpAny M A (noteFrame (.ref x) env) Q E s:=by
 obtain ⟨hB,hn,hl,vs,T,oT,ts,hx,h2,h1,nT,OM,hT,dT,h3⟩:=R;unfold noteFrame;simp only [hf];refine aab (wpAny_field hx rfl h1 ?_);rw [if_pos (show (Value.ref T != Value.none)=true by simp)];refine aab (wpAny_field hT dT h3 ?_);rw [if_neg (show¬((Value.none==rawInt L)=true) by simp [rawInt])];refine aab (wpAny_setField hT dT (abL.mp h3).1 ?_);have Cw:∀b,b≠T->(s.heap.update T (Obj.mapFields (·.setIfInBounds 3 Value.none))).get? b=s.heap.get? b:=λb nb=>Heap.get?_update_other _ _ (Ne.symm nb);have u:=oW hT dT Cw;exact Ey JO hf (λb ob e=>(Cw b λz=>by rw [z,nT] at e;cases e).trans (hB b ob e)) hn (q5 hl u) ((Cw x (Ne.symm OM)).trans hx) (abL.mp h1).1 h2 λh' F' u'=>h h' F' (u.trans u')
theorem E3{fl:Value}(R:FJ B l x o fl s.heap)(h:∀h',FJ B l x o .none h'->s.heap.UpToSlots h'->Q () {s with heap:=h'}):wpAny M A (setFlight (.ref x) none) Q E s:=by obtain ⟨hB,hn,hl,vs,T,oT,ts,hx,h2,h1,nT,OM,hT,dT,h3⟩:=R;unfold setFlight;refine aab (wpAny_field hx rfl h1 ?_);rw [if_pos (show (Value.ref T != Value.none)=true by simp)];have z3:=(abL.mp h3).1;have Cw:∀b,b≠T->(s.heap.update T (Obj.mapFields (·.setIfInBounds 3 ((none:Option Addr).elim Value.none λf=>rawInt f)))).get? b=s.heap.get? b:=λb nb=>Heap.get?_update_other _ _ (Ne.symm nb);have u:=oW hT dT Cw;refine wpAny_setField hT dT z3 (h _ ⟨λb ob e=>(Cw b λz=>by rw [z,nT] at e;cases e).trans (hB b ob e),hn,q5 hl u,vs,T,_,_,(Cw x (Ne.symm OM)).trans hx,h2,h1,nT,OM,Heap.get?_update_self _ hT (Obj.isFreed_of_fields (Obj.data_mapFields dT _)),Obj.data_mapFields dT _,by simp [z3]⟩ u)
theorem Kl{fl:Value}{h:Heap}(R:FJ B (env::outer) x o fl h):FJ B outer x o fl h:=by obtain ⟨hB,hn,⟨_,_,hl⟩,r⟩:=R;exact ⟨hB,hn,hl,r⟩
end
structure Pz(P:Program)(w:World)(l:List Env)(H H':Hp)(h h' B:Heap)(x:Addr)(o:Obj):Prop where
 un:Un (m5 l) [] H H' h h'
 ok:iW P w H' B
 LV:FJ B l x o .none h'
 OP:∀b u,h.get? b=some u->H b=none->b∉m5 l->B.get? b=some u
 LM:∀b u,h.get? b=some u->b∉m5 l->∃u',B.get? b=some u'
variable{l:List Env}{H H':Hp}{h h' Pc B:Heap}{o:Obj}
end
def cQ(P:Program)(w:World):we:=λouter H s E e s'=>
 ∃x o H' B,e= .ref x/\s'.os=s.os/\AllBare s'.gens/\Pz P w outer H H' s.heap s'.heap B x o/\E o.cls o.dict H'
section
variable{σ:St}{H H':Hp}{Pc B:Heap}{ox:Obj}
theorem Pz.leave(I:Inv X δ σ H s)(hex:X.ex=[])(zF:∀b∈m5 X.outer,b∈m5 X.stack)(ok:iW X.prog X.w H' B)(f:FJ B X.outer x ox .none Pc)(U2:X.s₀.heap.get? x=none)
  (OP:∀b o,b≠x->s.heap.get? b=some o->H b=none->b∉m5 X.stack->B.get? b=some o)
  (LM:∀b o,b≠x->s.heap.get? b=some o->b∉m5 X.stack->∃o',B.get? b=some o')
  (sl:∀b o,s.heap.get? b=some o->b∈m5 X.stack->∃sl,Pc.get? b=some {o with slots:=sl})
  (free:∀b o,s.heap.get? b=some o->H b=none->H' b=none)
  (mQ:∀b xs,H b=some (.tup xs)->H' b=some (.tup xs)) (lB:∀b o u,H b=some (.uH o u)->H' b=some (.uH o u))
  (mR:∀b ps,H b=some (.EW ps)->∃more,H' b=some (.EW (ps++more))):Pz X.prog X.w X.outer X.H₀ H' X.s₀.heap Pc B x ox:=by
 have nX:∀b o,X.s₀.heap.get? b=some o->b≠x:=λb o e z=>by rw [z,U2] at e;cases e
 have jj:∀b:Addr,b∉X.ex:=λb z=>by rw [hex] at z;cases z
 have nS:∀b o,X.s₀.heap.get? b=some o->b∉m5 X.outer->b∉m5 X.stack:=λb o e hb z=>
  (aaz.mp (I.sO b z)).elim (λq=>aaG (aaC (aap e) I.ok.above) q) hb
 refine ⟨⟨λb o e n hb _=> ?_,λb o e n hb _=> ?_,λb o e n _=> ?_,λb o e _=> ?_,λb xs e=>mQ b xs (I.base.mQ b xs e),λb o u e=>lB b o u (I.base.lB b o u e),λb ps e=> ?_⟩,ok,f,λb o e n hb=> ?_,λb o e hb=> ?_⟩
 ·exact f.1 b o (OP b o (nX b o e) (I.base.keep b o e n hb (jj b)) (I.base.free b o e n (jj b)) (nS b o e hb))
 ·obtain ⟨s1,e1⟩:=I.base.slot b o e n hb (jj b);obtain ⟨s2,e2⟩:=sl b _ e1 (zF b hb);exact ⟨s2,e2⟩
 ·obtain ⟨o',e1⟩:=I.base.there b o e (jj b);exact free b o' e1 (I.base.free b o e n (jj b))
 ·obtain ⟨o',e1⟩:=I.base.there b o e (jj b);by_cases hb:b∈m5 X.stack
  ·obtain ⟨s2,e2⟩:=sl b _ e1 hb;exact ⟨_,e2⟩
  ·obtain ⟨o2,q⟩:=LM b o' (nX b o e) e1 hb;exact ⟨o2,f.1 _ _ q⟩
 ·obtain ⟨m1,e1⟩:=I.base.mR b ps e;obtain ⟨m2,e2⟩:=mR b _ e1;exact ⟨m1++m2,by rw [e2,Array.append_assoc]⟩
 ·exact OP b o (nX b o e) (I.base.keep b o e n hb (jj b)) (I.base.free b o e n (jj b)) (nS b o e hb)
 ·obtain ⟨o',e1⟩:=I.base.there b o e (jj b);exact LM b o' (nX b o e) e1 (nS b o e hb)
end
def cf(CX:we)(X:Cx)(R:St->XK):Prop:=∀(δ:List (Addr×Obj)) (σ:St) (H:Hp) (s:Shared) (e:Value) (s':Shared),Inv X δ σ H s->CX X.stack H s (R σ) e s'->X.xe e s'
section
variable{K:fv}{cd:Value}{s₀:Shared}{H₀:Hp}{E:XK}
theorem GL:∀b∈m5 outer,b∈m5 (env::outer):=λb hb=>by obtain ⟨en,he,hf⟩:=abU.mp hb;exact abU.mpr ⟨en,aai _ he,hf⟩
theorem ξ:cf (cQ P w) (r9 (cQ P w) P w K mg base N qual scope f cd A outer s₀ H₀ E) (λ_=>E):=by
 intro δ σ H s e s' I hx;obtain ⟨x,o,H',B,rfl,os,bare,F,hE⟩:=hx;show wpAny _ _ (do noteFrame (.ref x) _;setFlight (.ref x) none) _ _ s';refine aab (Ml (B:=B) I.ok.frames rfl F.LV λh4 f4 u4=>E3 f4 λh5 f5 u5=> ?_);refine ⟨x,o,H',B,rfl,os.trans I.os,bare,Pz.leave I rfl GL F.ok (Kl f5) ?_ (λb o _=>F.OP b o) (λb o _=>F.LM b o) (λb o q hb=> ?_) (λb o q n=>F.un.free b o q n (by simp)) F.un.mQ F.un.lB F.un.mR,hE⟩
 ·show s₀.heap.get? x=none;cases q:s₀.heap.get? x with
  | none=>rfl
  | some u=>
   obtain ⟨u',e1⟩:=I.base.there x u q (λz=>nomatch z);by_cases hb:x∈m5 (r9 (cQ P w) P w K mg base N qual scope f cd A outer s₀ H₀ E).stack
   ·obtain ⟨vs,_,_,_,WR,_⟩:=F.LV.2.2.2;obtain ⟨_,o',m_,hd⟩:=F.LV.2.2.1.mem hb;rw [WR] at m_;cases m_;exact aaH rfl (hd _)
   ·obtain ⟨u2,e2⟩:=F.LM x u' e1 hb;rw [F.LV.2.1] at e2;cases e2
 ·obtain ⟨sl,e1⟩:=F.un.slot b o q (I.sC b hb) hb (by simp);obtain ⟨_,o',m_,hd⟩:=F.LV.2.2.1.mem hb;rw [e1] at m_;cases m_;obtain ⟨iV,e2⟩:=(u4.trans u5) b _ e1 hd;exact ⟨iV,e2⟩
end
def I_(sp:Sp)(nq:List V)(R:St->XK)(t:TA):TE:=λσ H Q=>t σ H λvs H1=>sp (vs++nq) H1 Q (R σ)
section
variable{CX:we}{k:Nat}{sp:Sp}{nq:List V}{ds:List Value}{R:St->XK}{x:Str}{p pos:Pos}{e:Expr}{es:List Expr}{t:TA}
theorem sR{σ:St}{H:Hp}{Q:VK}{us:List Value}{vs:List V}(F:aB X.prog X.w X.K X.mg X.base CX k f fd ps sp)(hr:bq k X.A)(hb:gL X.K fd ps ds)(hd:Ψ nq ds)(hx:cf CX X R)
  (I:Inv X δ σ H s) (r:Ψ vs us) (h:sp (vs++nq) H Q (R σ)):wpAny (model X.prog X.w) X.A (call (.ref f) us) (EP X δ σ Q) X.xe s:=by
 have r2:Ψ (vs++nq) (us++ds):=r.append hd;have hl:(us++ds).length=ps.length:=by rw [<-r2.length];exact F.len _ _ _ _ h
 refine wpAny_call (codeAny_mono (F.run X.A X.stack s H ⟨us,[]⟩ (us++ds) (vs++nq) Q (R σ) hr I.Oa (hb s us I.mV hl) r2 h) λr s' hq=> ?_);cases r with
 | error e=>exact hx δ σ H s e s' I hq
 | ok fl=>
  cases fl with
  | ret u=>exact I.after hq
  | next=>exact False.elim hq
  | brk=>exact False.elim hq
  | cont=>exact False.elim hq
theorem CM(F:aB X.prog X.w X.K X.mg X.base CX k f fd ps sp)(hr:bq k X.A)(hg:Gl X x)(hm:X.mg x=some (.ref f))(hk:PySem.W.keepIn X.K (.ref f)=true)(hb:gL X.K fd ps ds)(hd:Ψ nq ds)(hx:cf CX X R)
  (ha:PA X (e::es) t) (p_:(x==("__debug__":Str))=false:=by decide) (he:starEach (e::es) X.env=(false,eval e X.env)::starEach es X.env:=by rfl) (eI:(backTo pos (starEach es X.env)).any (·.1)=false:=by rfl):
  PE X (.Call (.Name x p) (e::es) [] pos) (I_ sp nq R t):=by
 intro δ s σ H Q I h;refine wpAny_Call_Name_kw (ub I hg hm ?_ p_);refine PySem.W.callWith_K (h₀:=X.base) I.ok.mod.Nu hk (bD (ha pos δ s σ H _ I h) λus s1 ⟨vs,H1,I1,r,q⟩=>⟨I1.mV, ?_⟩) he eI;exact sR F hr hb hd hx I1 r q
end
def jR(env:Env):List (Str×NameKind)->List (Str×Addr)->List (Str×Addr)
 | [],ae=>ae
 | p::r,ae=>jR env r (if p.2== .free then (p.1,(env.cells.lookup p.1).getD 0)::ae else ae)
theorem oV(h:∀p∈scope.names,p.2= .free->(env.cells.lookup p.1).isSome=true):closureFor scope env=pure (jR env scope.names []):=by
 have key:∀(l:List (Str×NameKind)) (ae:List (Str×Addr)),(∀p∈l,p.2= .free->(env.cells.lookup p.1).isSome=true)->
   (forIn l ae (λ(p:Str×NameKind) (r:List (Str×Addr))=>(if p.2== .free then (do let c<-cellOf env p.1;pure (ForInStep.yield ((p.1,c)::r))) else pure (ForInStep.yield r):Sem (ForInStep (List (Str×Addr))))))=(pure (jR env l ae):Sem (List (Str×Addr))):=by
  intro l
  induction l with
  | nil=>intro ae _;rfl
  | cons p r ih=>
   intro ae hp;rw [List.forIn_cons];have SU:=λa=>ih a λq hq=>hp q (aai _ hq);obtain ⟨n,k⟩:=p;by_cases hk:k= .free
   ·subst hk;have hs:=hp (n, .free) aak rfl;cases hl:env.cells.lookup n with
    | none=>rw [show env.cells.lookup (n,NameKind.free).1=none from hl] at hs;cases hs
    | some c=>
     have e1:jR env ((n, .free)::r) ae=jR env r ((n,c)::ae):=by show jR env r (if (NameKind.free==NameKind.free)=true then (n,(env.cells.lookup n).getD 0)::ae else ae)=_;rw [aaI (by decide),hl];rfl
     have e2:cellOf env n=pure c:=by unfold cellOf;rw [hl]
     rw [e1];have e3:(NameKind.free==NameKind.free)=true:=by decide
     simp only [e3,if_true,e2,pure_bind];exact SU _
   ·have hb:(k==NameKind.free)=false:=by simpa using hk
    have e1:jR env ((n,k)::r) ae=jR env r ae:=by show jR env r (if (k==NameKind.free)=true then (n,(env.cells.lookup n).getD 0)::ae else ae)=_;rw [hb,aaF (by decide)]
    rw [e1];simp only [hb,Bool.false_eq_true,if_false,pure_bind];exact SU _
 have:=key scope.names [] h;unfold closureFor
 first
  | exact this
  | (simp only [bind_pure];exact this)
  | (rw [bind_pure];exact this)
theorem qX{env:Env}{y:Str}{c:Addr}:∀(l:List (Str×NameKind)) (ae:List (Str×Addr)),(∀p∈l,p.2= .free->(env.cells.lookup p.1).isSome=true)->
  (ae.lookup y=some c->env.cells.lookup y=some c)->(jR env l ae).lookup y=some c->env.cells.lookup y=some c
 | [],ae,_,ha,h=>ha h
 | (n,k)::r,ae,hp,ha,h=>by
  refine qX r _ (λq hq=>hp q (aai _ hq)) (λe=> ?_) h;split at e
  ·rename_i hk;rw [abv] at e;cases q:(y==n) with
   | true=>
    rw [q] at e;have e':(env.cells.lookup n).getD 0=c:=aaA e;have hn:y=n:=by simpa using q
    subst hn;have hs:=hp (y,k) List.mem_cons_self (by simpa using hk);cases z:env.cells.lookup y with
    | none=>rw [show env.cells.lookup (y,k).1=none from z] at hs;cases hs
    | some d=>rw [z] at e';rw [<-e'];rfl
   | false=>rw [q] at e;exact ha e
  ·exact ha e
theorem n_{env:Env}{y:Str}:∀(l:List (Str×NameKind)) (ae:List (Str×Addr)),((y,NameKind.free)∈l\/(ae.lookup y).isSome=true)->((jR env l ae).lookup y).isSome=true
 | [],ae,h=>by
  rcases h with h | h
  ·cases h
  ·exact h
 | (n,k)::r,ae,h=>by
  refine n_ r _ ?_;by_cases hy:y=n
  ·subst hy;by_cases hk:k= .free
   ·subst hk;right;show (List.lookup y (if (NameKind.free==NameKind.free)=true then (y,(env.cells.lookup y).getD 0)::ae else ae)).isSome=true;rw [aaI (by decide),abv,abP];rfl
   ·rcases h with h | h
    ·rcases aaz.mp h with z | z
     ·exact aaH (Prod.mk.inj z).2.symm hk
     ·exact .inl z
    ·right;rw [if_neg (by simpa using hk)];exact h
  ·rcases h with h | h
   ·rcases aaz.mp h with z | z
    ·exact aaH (Prod.mk.inj z).1 hy
    ·exact .inl z
   ·right;split
    ·rw [List.lookup_cons,show (y==n)=false by simpa using hy];exact h
    ·exact h
def Cx.comp(X:Cx)(Nc:List Str)(scope:Scope)(C:Addr)(s:Shared)(H:Hp)(fp:List Addr):Cx:={X with
 N:=Nc
 s₀:=s
 H₀:=H
 env:=compEnvC scope (jR X.env scope.names []) C X.env
 outer:=X.stack
 ex:=fp
 fn:=λ_=>false
 pn:=[]
 xe:=λ_ _=>False}
theorem ψ.of{P:List Str}{sc:Scope}(h:(sc.kind,sc.isCoroutine,sc.isGenerator)=(.function,false,false))(h2:N.Nodup/\N.take P.length=P/\(∀x∈P,sc.names.lookup x=some .local\/sc.names.lookup x=some .cell)/\(∀y∈sc.names,y.2≠ .free):=by decide+kernel):ψ N P sc:=by obtain ⟨a,b,c,d⟩:=h2;exact ⟨aa3 (·.1) h,aa3 (·.2.1) h,aa3 (·.2.2) h,a,b,c,d⟩
structure aj(X:Cx)(scope:Scope)(xs ys:List Str)(Θ:List Nat):Prop where
 kind:scope.kind= .function
 B1:∀p∈scope.names,p.2≠ .cell
 names:∀p∈scope.names,p.2= .local->scope.names.lookup p.1=some .local
 own:∀x∈xs,scope.names.lookup x=some .local
 free:∀p∈scope.names,p.2= .free->X.env.scope.names.lookup p.1=some .cell
 nd:(xs++ys).Nodup
 Vt:∀q∈ys.zip Θ,X.N[q.2]? =some q.1/\X.env.scope.names.lookup q.1=some .cell/\scope.names.lookup q.1=some .free
 len:ys.length=Θ.length
theorem aj.of{sc:Scope}(_:ψ N ps sc)(hN:X.N=N)(hs:X.env.scope=sc)(k:scope.kind= .function)(h:(∀p∈scope.names,p.2≠ .cell)/\(∀p∈scope.names,p.2= .local->scope.names.lookup p.1=some .local)/\(∀x∈xs,scope.names.lookup x=some .local)/\(∀p∈scope.names,p.2= .free->sc.names.lookup p.1=some .cell)/\(xs++ys).Nodup/\(∀q∈ys.zip Θ,N[q.2]? =some q.1/\sc.names.lookup q.1=some .cell/\scope.names.lookup q.1=some .free)/\ys.length=Θ.length:=by decide+kernel):aj X scope xs ys Θ:=by subst hN hs;obtain ⟨a,b,c,d,e,f,g⟩:=h;exact ⟨k,a,b,c,d,e,f,g⟩
theorem CC{env:Env}{y:Str}:∀{l:List (Str×NameKind)},(∀p∈l,p.2≠ .cell)->
  ((l.map λ(n,k)=>if (k==NameKind.free&&env.scope.kind== .function&&env.kindOf n==some .cell) then (n,NameKind.cell) else (n,k)).lookup y=some .cell\/
   (l.map λ(n,k)=>if (k==NameKind.free&&env.scope.kind== .function&&env.kindOf n==some .cell) then (n,NameKind.cell) else (n,k)).lookup y=some .free)->(y,NameKind.free)∈l
 | [],_,h=>by rcases h with h | h <;> cases h
 | (n,k)::r,hc,h=>by
  have ih:= @CC env y r (λp hp=>hc p (aai _ hp));rw [aaD] at h;by_cases q:(k==NameKind.free&&env.scope.kind== .function&&env.kindOf n==some .cell)=true
  ·have hk:k= .free:=by rw [aan,aan] at q;simpa using q.1.1
   subst hk;by_cases hy:y=n
   ·subst hy;exact aak
   ·refine aai _ (ih ?_);have hb:(y==n)=false:=by simpa using hy
    simp only [q,if_true,List.lookup_cons,hb] at h;exact h
  ·by_cases hy:y=n
   ·subst hy;have hb:(y==y)=true:=by simp
    simp only [q,Bool.false_eq_true,if_false,List.lookup_cons,hb] at h;rcases h with h | h
    ·exact aaH (aaA h) (hc (y,k) aak)
    ·rw [<-aaA h];exact aak
   ·refine aai _ (ih ?_);have hb:(y==n)=false:=by simpa using hy
    simp only [q,Bool.false_eq_true,if_false,List.lookup_cons,hb] at h;exact h
theorem vR{env:Env}{y:Str}(hk:env.scope.kind= .function)(hy:env.kindOf y=some .cell):∀{l:List (Str×NameKind)},l.lookup y=some .free->
  (l.map λ(n,k)=>if (k==NameKind.free&&env.scope.kind== .function&&env.kindOf n==some .cell) then (n,NameKind.cell) else (n,k)).lookup y=some .cell
 | [],h=>by cases h
 | (n,k)::r,h=>by
  have ih:= @vR env y hk hy r;rw [aaD];rw [abv] at h;by_cases e:y=n
  ·subst e;have hb:(y==y)=true:=by simp
   rw [hb] at h;have:k= .free:=aaA h;subst this;have q:(NameKind.free==NameKind.free&&env.scope.kind== .function&&env.kindOf y==some .cell)=true:=by rw [hk,hy];rfl
   simp only [q,if_true,List.lookup_cons,hb]
  ·have hb:(y==n)=false:=by simpa using e
   rw [hb] at h;by_cases q:(k==NameKind.free&&env.scope.kind== .function&&env.kindOf n==some .cell)=true
   ·simp only [q,if_true,List.lookup_cons,hb];exact ih h
   ·simp only [q,Bool.false_eq_true,if_false,List.lookup_cons,hb];exact ih h
theorem aj.has(S:aj X scope xs ys Θ)(ok:X.Ok):∀p∈scope.names,p.2= .free->(X.env.cells.lookup p.1).isSome=true:=λp hp hf=>by obtain ⟨c,e⟩:=ok.has p.1 (.inl (S.free p hp hf));rw [e];rfl
theorem D7{α β:Type}:∀{xs:List α} {ys:List β} {j:Nat} {x:α} {y:β},xs[j]? =some x->ys[j]? =some y->(x,y)∈xs.zip ys
 | x::xs,y::ys,0,_,_,h1,h2=>by cases h1;cases h2;exact aak
 | x::xs,y::ys,j+1,_,_,h1,h2=>aai _ (D7 (xs:=xs) (ys:=ys) (j:=j) h1 h2)
 | [],_,_,_,_,h1,_=>by simp at h1
 | _::_,[],_,_,_,_,h2=>by simp at h2
def lT(Θ:List Nat)(σ:St):St:=Θ.map λi=>(σ[i]?).join
def v_(n:Nat)(gg:TG):Prop:=∀v (os cs:St) H (Q:St->Hp->Prop),os.length=n->gg v (os++cs) H Q->gg v (os++cs) H λσ' H'=>(∃OT:St,OT.length=n/\σ'=OT++cs)/\Q σ' H'
def wq(J:It)(n:Nat)(gg:TG)(tc:TT)(te:TE)(cs:St)(Q:VK)(H1:Hp)(D:Addr):Prop:=
 ∃ W:Nat->Nat->List V->Hp->Prop,(∃m,W 0 m [] (upd H1 D (.lst [])))/\∀i m ys H2,W i m ys H2->H2 D=some (.lst ys)/\
  ((J.stop i H2/\Q (.ref D) H2)\/(J.go i H2/\∀x H3,J.ME i H2 x H3->∀os:St,os.length=n->gg x (os++cs) H3 λσ' WD=>tc σ' WD λb H4=>match b with
   | true=>te σ' H4 λy H5=>H5 D=some (.lst ys)/\ys.length < sizeLine/\∃m',m' < m/\W (i+1) m' (ys++[y]) (upd H5 D (.lst (ys++[y])))
   | false=>∃m',m' < m/\W (i+1) m' ys H4))
def Ee(wi:TI)(n:Nat)(gg:TG)(tc:TT)(te:TE)(Θ:List Nat):TE:=λσ H Q=>wi σ H λJ H1=>∀D,H1 D=none->wq J n gg tc te (lT Θ σ) Q H1 D
def Rc(cs:List Expr)(env:Env):Sem Bool:=match cs with
 | []=>pure true
 | c::_=>isTrue c env (eval c env)
def Pf(X:Cx)(cs:List Expr)(t:TT):Prop:=
 (cs=[]\/∃c,cs=[c])/\∀(δ:List (Addr×Obj)) (s:Shared) (σ:St) (H:Hp) (Q:Bool->Hp->Prop),Inv X δ σ H s->t σ H Q->wpAny (model X.prog X.w) X.A (Rc cs X.env) (TP X δ σ Q) X.xe s
theorem qx{elt target iter:Expr}{cs:List Expr}{scope:Scope}{pos:Pos}{it ae:Value}{env:Env}(h:cs=[]\/∃c,cs=[c]):
  compTurn (.ListComp elt [⟨target,iter,cs,0⟩] scope pos) 0 it ae env=(standAt iter.pos >>= λ_=>pyNext it >>= λr=>match r with
   | none=>pure (.done .next)
   | some v=>letOwnedTupleGo target it v >>= λ_=>assign target env v >>= λ_=>Rc cs env >>= λok=>
    (if ok=true then (eval elt env >>= λx=>call (.builtin "list.append") [ae,x] >>= λ_=>pure ()) >>= λ_=>again (.compLoop (.ListComp elt [⟨target,iter,cs,0⟩] scope pos) 0 it ae env)
     else again (.compLoop (.ListComp elt [⟨target,iter,cs,0⟩] scope pos) 0 it ae env))):=by
 rcases h with rfl | ⟨c,rfl⟩ <;> (unfold compTurn Rc;dsimp only [List.getElem?_cons_zero,List.getElem?_cons_succ,List.getElem?_nil];simp only [List.forIn_cons,List.forIn_nil,bind_assoc,pure_bind,if_true];rfl)
section
variable{elt iter tg:Expr}{cs:List Expr}{pos:Pos}{wi:TI}{gg:TG}{tc:TT}{te:TE}
theorem qI(S:aj X scope xs ys Θ)(hc:X.calm=true)(hg:∀C s H fp,PG (Cx.comp X (xs++ys) scope C s H fp) tg gg)(hk:v_ xs.length gg)(ht:∀C s H fp,Pf (Cx.comp X (xs++ys) scope C s H fp) cs tc)(he:∀C s H fp,PE (Cx.comp X (xs++ys) scope C s H fp) elt te)
   {σ:St} {H2:Hp} {s2:Shared} {it:Addr} {fp:List Addr} {tn:Nat->Heap->Prop} {J:It} {Q:V->Hp->Prop} {PQ:Value->Addr->Result->Shared->Prop} (I:Inv X δ σ H2 s2) (T:uF X.prog X.w X.K tg J fp it tn) (t0:tn 0 s2.heap) (f2:∀b∈fp,qu X δ H2 b)
  (h:∀D,H2 D=none->wq J xs.length gg tc te (lT Θ σ) Q H2 D)
  (WH:∀D C s' H',Inv X δ σ H' s'->Q (.ref D) H'->(∃m,s'.heap.Ns C m)->H' C=none->X.s₀.heap.objs.size<=C->C≠X.env.locals->(∀z c,X.env.cells.lookup z=some c->c≠C)->(∀p∈X.pn++δ,p.1≠C)->PQ (.ref D) C (.ok .next) s'):
  wpAny (model X.prog X.w) X.A (newList []) (λae s3=>wpAny (model X.prog X.w) X.A (newFunctionEnv scope X.env.globals (jR X.env scope.names []) [] X.env.qual none .none (some X.env)) (λOo s4=>
   codeAny (model X.prog X.w) X.A (.compStart (.ListComp elt [⟨tg,iter,cs,0⟩] scope pos) 0 (.ref it) ae {Oo with scope:=relabel scope X.env}) (PQ ae Oo.locals) s4) X.xe s3) X.xe s2:=by
 have hD:H2 s2.heap.objs.size=none:=I.fresh;obtain ⟨W,⟨m0,w0⟩,step⟩:=h _ hD;refine wpAny_newObj_type ?_;have I3:Inv X δ σ (upd H2 s2.heap.objs.size (.lst [])) {s2 with heap:=s2.heap.push {cls:= .type "list",data:= .seq ([]:List Value).toArray}}:=Inv.J6 (t':=s2.toks) I (ys:=[]) (its:=[]) .nil (abD _);generalize OK:upd H2 s2.heap.objs.size (.lst [])=H3 at I3 w0;generalize WZ:({s2 with heap:=s2.heap.push {cls:= .type "list",data:= .seq ([]:List Value).toArray}}:Shared)=s3 at I3;have R_:∀b∈fp,H3 b=none:=λb hb=>by obtain ⟨o,e,_⟩:=T.obj _ _ t0 b hb;rw [<-OK,Β (aaG (aap e))];exact (f2 b hb).1
 have t3:tn 0 s3.heap:=T.keep _ _ _ t0 λb hb o e=>by rw [<-WZ];exact aaf _ e
 refine wpAny_newFunctionEnv S.B1 (λy hy=>nomatch hy) (λh4 Vs Xe=> ?_) S.kind;have hC:H3 s3.heap.objs.size=none:=I3.fresh
 have kp:∀b o,s3.heap.get? b=some o->h4.get? b=some o:=λb o e=>
  (Xe.2 b (aaG (aap e))).trans (aaf _ e)
 generalize Qo:({s3 with heap:=h4,toks:=s3.toks+([]:List (Str×Value)).length}:Shared)=s4;have e4:s4.heap=h4:=by rw [<-Qo]
 have EZ:∀z c,X.env.cells.lookup z=some c->c≠s3.heap.objs.size:=λz c e q=>by obtain ⟨v,w⟩:=I3.cell z c e;exact abl _ (q▸w.lt)
 have rn:∀z c,(jR X.env scope.names []).lookup z=some c->X.env.cells.lookup z=some c:=λz c e=>qX scope.names [] (S.has I.ok) (λq=>nomatch q) e;have V4:s3.heap.objs.size≠X.env.locals:=Nat.ne_of_gt I3.lt;have ok:(Cx.comp X (xs++ys) scope s3.heap.objs.size s3 H3 fp).Ok:=by
  refine ⟨I3.ok.mod,S.kind,I3.ok.glob,I3.ok.blt,aal _,λz z' c e1 e2=>I3.ok.inj z z' c (rn z c e1) (rn z' c e2),λz hz=> ?_,λz c hz=>(by cases hz),I3.ok.hd,I3.ok.frames, .inl rfl,λb hb=>⟨?_,λz c e=> ?_⟩,I3.bs, ?_,λb o e hb=> ?_,λb hb hf=> ?_,I3.stack,I3.sC⟩
  ·have:=n_ (env:=X.env) scope.names [] (.inl (CC S.B1 hz));exact abS.mp this
  ·obtain ⟨o,e,_⟩:=T.obj _ _ t3 b hb;exact aaG (aap e)
  ·exact (f2 b hb).2.2.2.2.1 z c (rn z c e)
  ·exact aam I3.ok.Lj I3.sz
  ·obtain ⟨_,_,_,hy,_⟩:=f2 b hb;have e0:=(I3.ok.bs b o e).1;rcases hy with hy | hy
   ·exact I3.ok.Js b o e hy
   ·exact aaH (aaC (aap e0) hy) (abl _)
  ·obtain ⟨_,hl,V_,_⟩:=f2 b hb;exact (aaz.mp (I3.sO b hf)).elim hl V_
 have hlen:((List.replicate xs.length (none:Option V))++lT Θ σ).length=(xs++ys).length:=by rw [aag,aag,aaZ,S.len];unfold lT;rw [aac]
 have I4:Inv X δ σ H3 s4:=by rw [<-Qo];exact I3.kept kp
 have Ic:Inv (Cx.comp X (xs++ys) scope s3.heap.objs.size s3 H3 fp) [] ((List.replicate xs.length (none:Option V))++lT Θ σ) H3 s4:=by
  refine ⟨ok,by rw [<-Qo];rfl,I4.bare,Un.kept (by rw [e4];exact kp),⟨_,by rw [e4];exact Vs,λi z v e1 e2 e3=> ?_⟩,λz c e=>I4.cell z c (rn z c e),hC,λz c e=>I4.mz z c (rn z c e),(λp hp=>nomatch hp),I4.aJ,hlen⟩;have e1:(xs++ys)[i]? =some z:=e1;by_cases hi:i < xs.length
  ·rw [aaE (by rw [aaZ];exact hi),List.getElem?_replicate,aaI hi] at e2;cases e2
  ·obtain ⟨j,rfl⟩:∃j,i=xs.length+j:=⟨i - xs.length,by omega⟩;have e1:ys[j]? =some z:=by rw [aaw (by omega),abF] at e1;exact e1
   have e2:(lT Θ σ)[j]? =some (some v):=by rw [aaw (by rw [aaZ];omega),aaZ,abF] at e2;exact e2
   unfold lT at e2;rw [aah] at e2;cases hi:Θ[j]? with
   | none=>rw [hi] at e2;cases e2
   | some i=>
    rw [hi] at e2;have e2:(σ[i]?).join=some v:=aaA e2;have e2:σ[i]? =some (some v):=by
     cases q:σ[i]? with
     | none=>rw [q] at e2;cases e2
     | some o=>rw [q] at e2;exact aa3 some e2
    obtain ⟨c1,c2,c3⟩:=S.Vt (z,i) (D7 e1 hi);have c4:=vR (env:=X.env) I.ok.kind c2 c3;have c3:(z,NameKind.free)∈scope.names:=PySem.mem_of_lookup c3;obtain ⟨m,hn,hl⟩:=I4.loc;obtain ⟨u,r,lk⟩:=hl i z v c1 e2 (.inr (.inl c2));refine ⟨u,r, .inr ⟨.inl c4, ?_⟩⟩;rcases lk with ⟨k,_⟩ | ⟨_,c,O7,z'⟩
    ·exact aaH ((show X.env.scope.names.lookup z=some .local from k).symm.trans c2) (by decide)
    ·obtain ⟨d,hd⟩:=abS.mp (n_ (env:=X.env) scope.names [] (.inl c3));have:=rn z d hd;rw [O7] at this;cases this;exact ⟨c,hd,z'⟩
 have loop:codeAny (model X.prog X.w) X.A (.compLoop (.ListComp elt [⟨tg,iter,cs,0⟩] scope pos) 0 (.ref it) (.ref s2.heap.objs.size) (compEnvC scope (jR X.env scope.names []) s3.heap.objs.size X.env)) (PQ (.ref s2.heap.objs.size) s3.heap.objs.size) s4:=by
  have R6:∀{H':Hp},(∀b∈fp,H' b=none)->∀b∈fp,qu (Cx.comp X (xs++ys) scope s3.heap.objs.size s3 H3 fp) [] H' b:=λhn b hb=>
   ⟨hn b hb,(ok.S5 b hb).1,ok.Jl b hb, .inl hb,(ok.S5 b hb).2,(λp hp=>nomatch hp)⟩
  refine codeAny_loop rfl (λn s'=>∃(i:Nat) (zs:List V) (os:St) (H':Hp),os.length=xs.length/\Inv (Cx.comp X (xs++ys) scope s3.heap.objs.size s3 H3 fp) [] (os++lT Θ σ) H' s'/\tn i s'.heap/\(∀b∈fp,H' b=none)/\W i n zs H') (λn s5 z=> ?_) m0 ⟨0,[],List.replicate xs.length none,H3,by rw [aaZ],Ic,T.keep _ _ _ t3 (λb hb o e=>by rw [e4];exact kp b o e),R_,w0⟩;obtain ⟨i,zs,os,H5,l5,I5,t5,Pw,w5⟩:=z;show wpAny _ _ ((compTurn _ 0 (.ref it) _ _).onRaise _) _ _ s5;refine wpAny_noted ?_;rw [qx (ht s3.heap.objs.size s3 H3 fp).1];refine aab (wpAny_standAt (aab ?_));obtain ⟨oK,stop | go⟩:=step i n zs H5 w5
  ·obtain ⟨stop,q⟩:=stop;refine bD (T.done (Cx.comp X (xs++ys) scope s3.heap.objs.size s3 H3 fp) rfl rfl rfl hc i [] s5 _ H5 _ I5 (R6 Pw) t5 stop) λr s6 ⟨hr,I6⟩=> ?_;subst hr;refine aae (WH _ _ s6 H5 ?_ q ?_ I6.free ?_ V4 EZ λp hp z=> ?_)
   ·refine I3.Od I6.os I6.base I6.aJ I6.bare λb hb=> ?_;obtain ⟨_,g1,_,g3,g4,g5⟩:=f2 b hb;exact ⟨g3,g1,g4,g5⟩
   ·obtain ⟨m,hn,_⟩:=I6.loc;exact ⟨m,hn⟩
   ·exact I3.sz
   ·exact aaG (aap (I3.pin p hp).1) z
  ·obtain ⟨go,turn⟩:=go;refine bD (T.item (Cx.comp X (xs++ys) scope s3.heap.objs.size s3 H3 fp) rfl rfl rfl hc i [] s5 _ H5 _ I5 (R6 Pw) t5 go) λr s6 ⟨u,hr,h6⟩=> ?_;subst hr;refine aab (bD h6 λ_ s7 ⟨y,H7,I7,r7,y7,t7,Vr⟩=> ?_);have T9:=I7.pinned (R6 Vr) (T.obj _ _ t7);refine aab (abt (hg _ _ _ _ _ s7 _ H7 y u _ T9 r7 (hk y os _ H7 _ l5 (turn y _ y7 os l5))) (λ_ s8 z8=> ?_) λ_ _ f=>f.elim);obtain ⟨σ8,H8,I8,⟨Tj,l8,e8⟩,q8⟩:=z8;subst e8;refine aab (abt ((ht _ _ _ _).2 _ s8 _ _ _ I8 q8) (λb s9 z9=> ?_) λ_ _ f=>f.elim);obtain ⟨H9,I9,q9⟩:=z9;cases b with
   | false=>
    obtain ⟨m9,WJ,w9⟩:=q9;refine aae ⟨rfl,m9,WJ,i+1,zs,Tj,_,l8,I9.gT,T.keep _ _ _ t7 λb hb o e=>(I9.pin (b,o) (aax _ (aax _ (cR hb e)))).1,λb hb=> ?_,w9⟩;obtain ⟨o,e,_⟩:=T.obj _ _ t7 b hb;exact (I9.pin (b,o) (aax _ (aax _ (cR hb e)))).2.1
   | true=>
    refine aab (aab (abt (he _ _ _ _ _ s9 _ _ _ I9 q9) (λWN WC VE=> ?_) λ_ _ f=>f.elim));obtain ⟨v10,TH,W4,Uw,KD,Xc,U3,R1,Ws⟩:=VE;refine aab (abt (rg (X:=Cx.comp X (xs++ys) scope s3.heap.objs.size s3 H3 fp) _ WC _ TH (.ref s2.heap.objs.size) [v10] _ [WN] (λ_ H'=>H'=upd TH s2.heap.objs.size (.lst (zs++[v10]))) W4 rfl (.cons Uw .nil) ⟨_,zs,v10,rfl,rfl,KD,Xc,rfl⟩) (λ_ X4 Wv=> ?_) λ_ _ f=>f.elim);obtain ⟨_,X3,Rq,_,XB⟩:=Wv;subst XB;refine aae (aae ⟨rfl,U3,R1,i+1,zs++[v10],Tj,_,l8,Rq.gT,T.keep _ _ _ t7 λb hb o e=>(Rq.pin (b,o) (aax _ (aax _ (cR hb e)))).1,λb hb=> ?_,Ws⟩);obtain ⟨o,e,_⟩:=T.obj _ _ t7 b hb;exact (Rq.pin (b,o) (aax _ (aax _ (cR hb e)))).2.1
 exact codeAny_compStart_list loop (T.self X.A 0 _ _ _ (T.keep _ _ _ t3 (λb hb o e=>by rw [e4];exact kp b o e)) loop)
theorem DW(S:aj X scope xs ys Θ)(hc:X.calm=true)(hi:PI X tg iter wi)(hg:∀C s H fp,PG (Cx.comp X (xs++ys) scope C s H fp) tg gg)(hk:v_ xs.length gg)(ht:∀C s H fp,Pf (Cx.comp X (xs++ys) scope C s H fp) cs tc)(he:∀C s H fp,PE (Cx.comp X (xs++ys) scope C s H fp) elt te)(hs:∀x,foldedSetIterable iter X.env x=pure x:=by intro _;rfl):
  PE X (.ListComp elt [⟨tg,iter,cs,0⟩] scope pos) (Ee wi xs.length gg tc te Θ):=by
 intro δ s σ H Q I h;rw [eval_ListComp];refine wpAny_comprehension_free (use:=none) rfl hs (oV (S.has I.ok)) S.kind S.names (bD (hi δ s σ H _ I h) λv s1 h1=>bD h1 λPt s2 h2=> ?_);obtain ⟨it,fp,tn,J,H2,rfl,I2,T,t0,f2,q⟩:=h2;refine qI S hc hg hk ht he (Q:=Q) I2 T t0 f2 q λD C s' H' I' q' n' hC hz hL K4 hp=> ?_;obtain ⟨m,n'⟩:=n';exact ⟨m,n',λh' sb=>⟨.ref D,H',I'.turned (it:=C) (t':=s'.toks) (λb o hb e=>(sb.2 b hb).trans e) hC hL (.inr hz) K4 hp,rfl,q'⟩⟩
theorem mG{i:Nat}{y:Str}{py h7:Pos}(hN:X.N.Nodup)(Dh:X.N[i]? =some y)(hy:Loc X.env.scope y)(S:aj X scope xs ys Θ)(hc:X.calm=true)(hi:PI X tg iter wi)(hg:∀C s H fp,PG (Cx.comp X (xs++ys) scope C s H fp) tg gg)(hk:v_ xs.length gg)(ht:∀C s H fp,Pf (Cx.comp X (xs++ys) scope C s H fp) cs tc)(he:∀C s H fp,PE (Cx.comp X (xs++ys) scope C s H fp) elt te)
  (Es:swapsWith (.ListComp elt [⟨tg,iter,cs,0⟩] scope pos) (some (.Name y py)) h7.line X.env=pure true) (hs:∀x,foldedSetIterable iter X.env x=pure x)
  (hf:X.fn y=true\/X.env.scope.names.lookup y=some .local):
  PS X (.Assign [.Name y py] (.ListComp elt [⟨tg,iter,cs,0⟩] scope pos) h7) (λD σ H=>Ee wi xs.length gg tc te Θ σ H λv H1=>D.nx (σ.set i (some v)) H1):=by
 intro δ s σ H D I h;rw [exec_Assign_Name_used _ _ _ _ Es];refine aab (wpAny_standAt (aab ?_));show wpAny _ _ (do let _<-comprehension (.ListComp elt [⟨tg,iter,cs,0⟩] scope pos) scope X.env _ (newList []) false (eval iter X.env) (some (assign (.Name y py) X.env))) _ _ s;refine aab (abt (wpAny_comprehension_free (use:=some (assign (.Name y py) X.env)) (Q:=λ_ s'=>SP X δ D .next s') rfl hs (oV (S.has I.ok)) S.kind S.names (bD (hi δ s σ H _ I h) λv s1 h1=>bD h1 λPt s2 h2=> ?_)) (λ_ s' hq=>aae (aae hq)) λ_ _ e=>e);obtain ⟨it,fp,tn,J,H2,rfl,I2,T,t0,f2,q⟩:=h2;refine qI S hc hg hk ht he (Q:=λv H1=>D.nx (σ.set i (some v)) H1) I2 T t0 f2 q λDl C s' H' I' q' n' hC hz hL K4 hp=> ?_;obtain ⟨m,n'⟩:=n';show wpAny _ _ (assign (.Name y py) X.env (.ref Dl)) _ _ s';refine wpAny_assign_Name (qQ I' hN Dh hy (v:= .ref Dl) rfl (λs3 I3 Qz=> ?_) hf);obtain ⟨a,Qz,ha⟩:=Qz;have Uv:C≠a:=by
  rcases ha with rfl | ha
  ·exact hL
  ·exact (K4 _ _ ha).symm
 exact ⟨m,n'.sameBut Qz Uv,λh' sb=>⟨_,H',I3.turned (it:=C) (t':=s3.toks) (λb o hb e=>(sb.2 b hb).trans e) hC hL (.inr hz) K4 hp,q'⟩⟩
end
section
variable{K:fv}
theorem dH.U5{x:Str}{k:Nat}{sp:Sp}(F:dH K x qual st f fd)(S:ψ N ps (ο st))(len:∀vs H Q E,sp vs H Q E->vs.length=ps.length)
  (uU:∀(bK:Value) (A:Around) (outer:List Env) (s:Shared) (H:Hp) (vs:List V) (Q:VK) (E:XK),bq k (A.deeper (envOfC qual (ο st) s.heap.objs.size f bK))->sp vs H Q E->
   ∃t,A7 (r9 (cQ P w) P w K mg base N qual (ο st) f bK A outer s H E) (e_ st) t/\t {nx:=λ_ H'=>Q .bf H',rt:=Q} (iF N vs) H):aB P w K mg base (cQ P w) (k+1) f fd ps sp:=by
 obtain ⟨oc,od,kV,doc,pm,an,bK,ct,C_,rfl,lk,BL⟩:=F.ex;exact MC lk BL S len λA outer s H vs Q E hr HD=>uU bK A outer s H vs Q E hr HD
end
theorem cM:cf (cQ P w) X (λ_=>E0):=by intro δ σ H s e s' _ hx;obtain ⟨_,_,_,_,_,_,_,_,hE⟩:=hx;exact hE.elim
theorem log2_lt{n:Nat}{k:Nat}(h:n < 2 ^ k)(hk:0 < k):n.log2 < k:=by
 by_cases h0:n=0
 ·rw [h0,show Nat.log2 0=0 from rfl];exact hk
 ·exact (Nat.log2_lt h0).mpr h
def gA(i:Int):Prop:=i.natAbs < 2 ^ 8000
theorem Au{i j:Int}(hi:gA i)(hj:gA j):IntMulOk i j:=by
 have b:∀{i:Int},gA i->Builtin.Int.intBits i<=8000:=λ{i} h=>by
  unfold Builtin.Int.intBits;split
  ·exact abD _
  ·have:=log2_lt (k:=8000) h (by decide);omega
 have b1:=b hi;have b2:=b hj;have h3:Builtin.Int.intTooBig (Builtin.Int.intBits i+Builtin.Int.intBits j)=false:=by
  unfold Builtin.Int.intTooBig;refine aaK ?_;have:(bitsLine:Int)=134217728:=by decide
  omega
 unfold IntMulOk;rw [h3,Bool.and_false];exact aar
section
theorem EK:ij X (binaryOp .Mult) (rI (λi j=>gA i/\gA j) λi j=> .int (i * j)):=OL λ_ _ _ _ _ _ _ hc q=>mul_int q (Au hc.1 hc.2)
theorem vf:ij X (binaryOp .FloorDiv) (rI (λ_ j=>j≠0/\gA j) λi j=> .int (i.fdiv j)):=OL λ_ _ _ _ _ _ _ hc q=>
 floordiv_int hc.1 q (.inl (PyProof.noPylong_of_log2 (aaC (log2_lt (k:=8000) hc.2 (by decide)) (by decide))))
end
def C1:V->Option Value
 | .ty T=>some (.type T)
 | .ref C=>some (.ref C)
 | _=>none
theorem Fy{c:V}{u t:Value}(r:Ω c u)(h:C1 c=some t):u=t:=by
 cases c with
 | ty T=>cases r;exact aaA h
 | ref C=>cases r;exact aaA h
 | _=>cases h
section
theorem mF:cw X (.builtin "isinstance") (λxs H Q=>∃x c t t' b,xs=[x,c]/\iA X.K H x t/\C1 c=some t'/\PySem.W.kitOne X.K t t'=some b/\Q (.bl b) H):=by intro δ s σ H xs us Q I r h;obtain ⟨x,c,t,t',b,rfl,ty,hc,hk,q⟩:=h;obtain ⟨u,u',rfl,r1,r2⟩:=OI r;cases Fy r2 hc;exact AX I r1 ty hk λtk=>⟨.bl b,H,I.tok tk,rfl,q⟩
end
def oI:List V->List V->Bool
 | [],[]=>true
 | x::xs,y::ys=>eT x y&&oI xs ys
 | _,_=>false
theorem jQ:∀(xs ys:List V) (e:Nat->Bool),(∀j x y,xs[j]? =some x->ys[j]? =some y->e j=eT x y)->((List.range (min xs.length ys.length)).all e&&xs.length==ys.length)=oI xs ys
 | [],[],e,_=>rfl
 | [],_::_,e,_=>by simp [oI]
 | _::_,[],e,_=>by simp [oI]
 | x::xs,y::ys,e,h=>by
  have ih:=jQ xs ys (λj=>e (j+1)) λj x y h1 h2=>h (j+1) x y h1 h2;have h0:e 0=eT x y:=h 0 x y rfl rfl;show _=(eT x y&&oI xs ys);rw [<-ih,<-h0];have e1:min (x::xs).length (y::ys).length=min xs.length ys.length+1:=by simp only [List.length_cons];omega
  rw [e1,abq,abE,List.all_map];have e2:((x::xs).length==(y::ys).length)=(xs.length==ys.length):=by simp only [List.length_cons];rw [Bool.eq_iff_iff];simp
  rw [e2,Bool.and_assoc];rfl
def MU(K:fv):R2:=λx y H Q=>∃a b xs ys,x= .ref a/\y= .ref b/\iZ K H a xs/\iZ K H b ys/\xs.all cE=true/\ys.all cE=true/\Q (.bl (oI xs ys)) H
def M9(K:fv):R2:=λx y H Q=>∃a b xs ys,x= .ref a/\y= .ref b/\iZ K H a xs/\iZ K H b ys/\xs.all cE=true/\ys.all cE=true/\Q (.bl (!oI xs ys)) H
theorem kM:∀{xs:List V} {j:Nat} {x:V},xs.all cE=true->xs[j]? =some x->cE x=true
 | _::_,0,_,h,e=>by rw [abE,aan] at h;cases e;exact h.1
 | _::_,j+1,_,h,e=>by rw [abE,aan] at h;exact kM h.2 e
section
theorem Kp(hu:X.A.units < cLine):ij X (compareOp .NotEq) (M9 X.K):=by
 intro δ s σ H x y v u Q I rx ry h;obtain ⟨a,b,xs,ys,rfl,rfl,h1,h2,f1,f2,q⟩:=h;cases rx;cases ry;obtain ⟨i1,v1,t1,_⟩:=I.tuple h1;obtain ⟨i2,v2,t2,_⟩:=I.tuple h2;have l1:=v1.length;have l2:=v2.length;refine SeqAt.RcNeAt.tuples (e:=λj=>match xs[j]?,ys[j]? with | some x,some y=>eT x y | _,_=>true) (show s.heap.IsTuple a i1.toArray from t1) (show s.heap.IsTuple b i2.toArray from t2) hu (λj h1 h2=> ?_) _ _ _ _ ?_
 ·have b1:j < i1.length:=by simpa using h1
  have b2:j < i2.length:=by simpa using h2
  have e1:xs[j]? =some (xs[j]'(by omega)):=aaa _;have e2:ys[j]? =some (ys[j]'(by omega)):=aaa _;obtain ⟨u1,g1,r1⟩:=v1.get e1;obtain ⟨u2,g2,r2⟩:=v2.get e2;rw [aaa b1] at g1;rw [aaa b2] at g2;have w1:i1.toArray[j]=u1:=by simpa using Option.some.inj g1
  have w2:i2.toArray[j]=u2:=by simpa using Option.some.inj g2
  rw [w1,w2];simp only [e1,e2];exact sT r1 r2 (kM f1 e1) (kM f2 e2)
 ·rw [List.size_toArray,List.size_toArray,<-l1,<-l2,jQ xs ys _ (λj x y h1 h2=>by simp only [h1,h2])];exact ⟨.bl (!oI xs ys),H,I,rfl,q⟩
theorem Ce(hu:X.A.units < cLine):ij X (compareOp .Eq) (MU X.K):=by
 intro δ s σ H x y v u Q I rx ry h;obtain ⟨a,b,xs,ys,rfl,rfl,h1,h2,f1,f2,q⟩:=h;cases rx;cases ry;obtain ⟨i1,v1,t1,_⟩:=I.tuple h1;obtain ⟨i2,v2,t2,_⟩:=I.tuple h2;have l1:=v1.length;have l2:=v2.length;refine SeqAt.eq_tupleAt (e:=λj=>match xs[j]?,ys[j]? with | some x,some y=>eT x y | _,_=>true) (show s.heap.IsTuple a i1.toArray from t1) (show s.heap.IsTuple b i2.toArray from t2) hu (λj h1 h2=> ?_) ?_
 ·have b1:j < i1.length:=by simpa using h1
  have b2:j < i2.length:=by simpa using h2
  have e1:xs[j]? =some (xs[j]'(by omega)):=aaa _;have e2:ys[j]? =some (ys[j]'(by omega)):=aaa _;obtain ⟨u1,g1,r1⟩:=v1.get e1;obtain ⟨u2,g2,r2⟩:=v2.get e2;rw [aaa b1] at g1;rw [aaa b2] at g2;have w1:i1.toArray[j]=u1:=by simpa using Option.some.inj g1
  have w2:i2.toArray[j]=u2:=by simpa using Option.some.inj g2
  rw [w1,w2];simp only [e1,e2];exact sT r1 r2 (kM f1 e1) (kM f2 e2)
 ·rw [List.size_toArray,List.size_toArray,<-l1,<-l2,jQ xs ys _ (λj x y h1 h2=>by simp only [h1,h2])];exact ⟨.bl (oI xs ys),H,I,rfl,q⟩
end
theorem A3(bs:List Bool):(List.range bs.length).any (λi=>bs.getD i false)=bs.any id:=by
 induction bs with
 | nil=>rfl
 | cons b bs ih=>
  rw [aaN,abq,List.any_cons,List.any_map,List.any_cons,<-ih];rfl
theorem tR:∀{bs:List Bool} {us:List Value},Ψ (bs.map V.bl) us->us=bs.map Value.bool
 | [],_,r=>by cases r;rfl
 | b::bs,_,r=>by
  cases r with
  | cons h t=>
   cases h;rw [tR t];rfl
theorem uY{prog:Program}{bs:List Bool}:TruthOf prog w A (λi v=>(bs.map Value.bool).toArray[i]? =some v) (λi=>bs.getD i false):=by
 intro i v s Q E h q;have h':(bs.map Value.bool)[i]? =some v:=by simpa using h
 rw [aah] at h';cases e:bs[i]? with
 | none=>rw [e] at h';cases h'
 | some b=>
  rw [e] at h';cases h';have q':Q b s:=by
   have eb:bs.getD i false=b:=by rw [aao,e];rfl
   exact eb▸q
  exact wpAny_truthy_bool q'
def Ol(K:fv):List V->Hp->VK->Prop:=λxs H Q=>∃(p:Addr) (bs:List Bool),xs=[.ref p]/\eQ K H p (bs.map V.bl)/\Q (.bl (bs.any id)) H
section
theorem Ck (hc : X.calm = true) : cw X (.builtin "any") (Ol X.K) := by
  intro δ s σ H xs us Q I r h;obtain ⟨p, bs, rfl, hq, q⟩ := h;obtain ⟨u, rfl, r1⟩ := iE r;cases r1;obtain ⟨its, rv, pl, hz⟩ := I.list hq;have Jv := tR rv;subst Jv;refine call_any_walk (wpAny_pyIter_list pl.isList ?_);have lp : p < s.heap.objs.size := by obtain ⟨o, e, _⟩ := pl.isList; exact aap e
  refine ⟨s.heap.objs.size, _, _, _, _, _, λi => bs.getD i false, rfl, Walks.list (show X.A.in1.handled = none from I.ok.hd hc) s.heap.objs.size p (aaG lp) (bs.map Value.bool).toArray, ⟨⟨_, aau _ rfl, rfl, rfl⟩, pl.isList.at λo e => aaf _ e⟩, uY, λh' tk hk => ?_⟩;refine ⟨.bl (bs.any id), H, I.kept λb o e => hk b o (λz => by have : b = s.heap.objs.size := (by simpa using z); exact Nat.lt_irrefl _ (this ▸ Heap.lt_size e)) (Heap.get?_push_of_some _ e), ?_, q⟩;rw [aas, aac, A3];rfl
end
end L2
namespace PySem
open Sem (wp)
end PySem
namespace PySem.W
open PySem PySem.Builtin PySem.Builtin.ObjectAttr
end PySem.W
namespace PySem
open Sem (wp)
end PySem
namespace L2
open PySem PySem.Spec PyProof.Rows
def xO(a C:Addr)(od:Option Addr):HO:= .ext λh=>∃ob vs,h.get? a=some ob/\ob.cls= .ref C/\ob.dict=od/\ob.data= .fields vs
inductive Dt where
 | bf
 | bl (b:Bool)
 | int (i:Int)
 | str (x:Str)
 | tup (xs:List Dt)
 | lst (xs:List Dt)
 | obj (C:Addr) (ns:List Str) (xs:List Dt)
 | loc (k:Nat)
 | ref (a:Addr)
 | ty (n:String)
 | cT (ns:List Int)
 | kt (xs:List Dt)
 | exc (C:Addr) (ns:List Str) (xs:List Dt)
 | LH (x C:Addr) (od:Option Addr) (ns:List Str) (xs:List Dt)
inductive MO where
 | lst (xs:List Dt)
 | ins (C:Addr) (ns:List Str) (xs:List Dt)
 | EH (ks:List Key) (xs:List Dt)
 | raw (u:Addr->HO)
 | Ha (u:Addr->List V->HO) (ds:List Dt)
abbrev Ms:=List MO
abbrev En:=List (Option Dt)
mutual
def Den(K:fv)(G:Hp)(L:List Addr):Dt->V->Prop
 | .bf,v=>v= .bf
 | .bl b,v=>v= .bl b
 | .int i,v=>v= .int i
 | .str x,v=>v= .str x
 | .tup ds,v=>∃a vs,v= .ref a/\G a=some (.tup vs)/\Ε K G L ds vs
 | .lst ds,v=>∃a vs,v= .ref a/\G a=some (.lst vs)/\Ε K G L ds vs
 | .obj C ns ds,v=>∃a dx vs,v= .ref a/\G a=some (.ins C dx (ns.zip vs))/\ns.length=ds.length/\Ε K G L ds vs
 | .loc k,v=>∃a,v= .ref a/\L[k]? =some a
 | .ref a,v=>v= .ref a
 | .ty n,v=>v= .ty n
 | .cT ns,v=>∃a,v= .ref a/\eQ K G a (ns.map V.int)
 | .kt ds,v=>∃a vs,v= .ref a/\iZ K G a vs/\Ε K G L ds vs
 | .exc C ns ds,v=>∃a od vs,v= .ref a/\G a=some (xO a C od)/\((ns=[]/\od=none)\/∃dx,od=some dx/\G dx=some (.xd (ns.zip vs)))/\ns.length=ds.length/\Ε K G L ds vs
 | .LH x _ od ns ds,v=>∃vs,v= .ref x/\((ns=[]/\od=none)\/∃dx,od=some dx/\G dx=some (.xd (ns.zip vs)))/\ns.length=ds.length/\Ε K G L ds vs
def Ε(K:fv)(G:Hp)(L:List Addr):List Dt->List V->Prop
 | [],vs=>vs=[]
 | d::ds,vs=>∃v r,vs=v::r/\Den K G L d v/\Ε K G L ds r
end
def Pre(L L':List Addr):Prop:=∃t,L'=L++t
theorem Pre.refl(L:List Addr):Pre L L:=⟨[],by simp⟩
theorem Pre.trans{a b c:List Addr}(h:Pre a b)(h':Pre b c):Pre a c:=by obtain ⟨t,rfl⟩:=h;obtain ⟨u,rfl⟩:=h';exact ⟨t++u,by simp⟩
theorem Pre.get{a b:List Addr}(h:Pre a b){k:Nat}{x:Addr}(e:a[k]? =some x):b[k]? =some x:=by obtain ⟨t,rfl⟩:=h;have hk:k < a.length:=(aad.mp e).1;rw [aaE hk];exact e
theorem b_.rd{H H':Hp}{a:Addr}{u:HO}(e:b_ H H')(h:Rd H a u):Rd H' a u:=by
 rcases h with h | ⟨o,h⟩
 ·exact .inl (e _ _ h)
 ·exact .inr ⟨o,e _ _ h⟩
theorem b_.NY{K:fv}{H H':Hp}{a:Addr}{xs:List V}(e:b_ H H')(h:iZ K H a xs):iZ K H' a xs:=by
 rcases h with h | h
 ·exact .inl (e.rd h)
 ·exact .inr h
section
variable{K:fv}{G G':Hp}{L L':List Addr}
mutual
theorem Den.mono(g:b_ G G')(l:Pre L L'):∀(d:Dt) (v:V),Den K G L d v->Den K G' L' d v
 | .bf,_,h=>h
 | .bl _,_,h=>h
 | .int _,_,h=>h
 | .str _,_,h=>h
 | .tup ds,_,⟨a,vs,e,h1,h2⟩=>⟨a,vs,e,g _ _ h1,Ε.mono g l ds vs h2⟩
 | .lst ds,_,⟨a,vs,e,h1,h2⟩=>⟨a,vs,e,g _ _ h1,Ε.mono g l ds vs h2⟩
 | .obj C ns ds,_,⟨a,dx,vs,e,h1,hn,h2⟩=>⟨a,dx,vs,e,g _ _ h1,hn,Ε.mono g l ds vs h2⟩
 | .loc k,_,⟨a,e,h1⟩=>⟨a,e,l.get h1⟩
 | .ref _,_,h=>h
 | .ty _,_,h=>h
 | .cT _,_,⟨a,e,h1⟩=>⟨a,e,g.seq h1⟩
 | .kt ds,_,⟨a,vs,e,h1,h2⟩=>⟨a,vs,e,g.NY h1,Ε.mono g l ds vs h2⟩
 | .exc _ _ ds,_,⟨a,od,vs,e,h1,h2,h3,h4⟩=>⟨a,od,vs,e,g _ _ h1,h2.imp (λz=>z) (λ⟨dx,z1,z2⟩=>⟨dx,z1,g _ _ z2⟩),h3,Ε.mono g l ds vs h4⟩
 | .LH _ _ _ _ ds,_,⟨vs,e,h2,h3,h4⟩=>⟨vs,e,h2.imp (λz=>z) (λ⟨dx,z1,z2⟩=>⟨dx,z1,g _ _ z2⟩),h3,Ε.mono g l ds vs h4⟩
theorem Ε.mono(g:b_ G G')(l:Pre L L'):∀(ds:List Dt) (vs:List V),Ε K G L ds vs->Ε K G' L' ds vs
 | [],_,h=>h
 | d::ds,_,⟨v,r,e,h1,h2⟩=>⟨v,r,e,Den.mono g l d v h1,Ε.mono g l ds r h2⟩
end
theorem Ε.pair:∀{ds:List Dt} {vs:List V},Ε K G L ds vs->Paired (Den K G L) ds vs
 | [],_,h=>by have h:_=_:=h;subst h;exact .nil
 | d::ds,_,⟨v,r,e,h1,h2⟩=>by subst e;exact .cons h1 (Ε.pair h2)
theorem Ε.of:∀{ds:List Dt} {vs:List V},Paired (Den K G L) ds vs->Ε K G L ds vs
 | _,_, .nil=>rfl
 | _,_, .cons h t=>⟨_,_,rfl,h,Ε.of t⟩
end
section
variable{α β:Type}{F:α->β->Prop}
theorem zd:∀{xs:List α} {us:List β} {i:Nat} {x:α},Paired F xs us->xs[i]? =some x->∃u,us[i]? =some u/\F x u
 | _,_,_,_, .nil,e=>by simp at e
 | _,_,0,_, .cons r _,e=>by simp at e;subst e;exact ⟨_,rfl,r⟩
 | _,_,i+1,x, .cons _ t,e=>by obtain ⟨u,h1,h2⟩:=zd (i:=i) (x:=x) t (by simpa using e);exact ⟨u,by simpa using h1,h2⟩
theorem ua:∀{xs ys:List α} {us ws:List β},Paired F xs us->Paired F ys ws->Paired F (xs++ys) (us++ws)
 | _,_,_,_, .nil,s=>s
 | _,_,_,_, .cons r t,s=> .cons r (ua t s)
theorem pk:∀{xs:List α} {us:List β} (n:Nat),Paired F xs us->Paired F (xs.take n) (us.take n)
 | _,_,0,_=> .nil
 | _,_,_+1, .nil=> .nil
 | _,_,n+1, .cons r t=> .cons r (pk n t)
theorem oq:∀{xs:List α} {us:List β} (n:Nat),Paired F xs us->Paired F (xs.drop n) (us.drop n)
 | _,_,0,r=>r
 | _,_,_+1, .nil=> .nil
 | _,_,n+1, .cons _ t=>oq n t
theorem zj{xs:List α}{us:List β}(h:Paired F xs us):∀k:Nat,Paired F (List.replicate k xs).flatten (List.replicate k us).flatten
 | 0=> .nil
 | k+1=>by rw [abf,abf,abz,abz];exact ua h (zj h k)
end
section
variable{K:fv}{G:Hp}{L:List Addr}
theorem Ε.length{ds:List Dt}{vs:List V}(h:Ε K G L ds vs):ds.length=vs.length:=Paired.length h.pair
theorem Ε.get{ds:List Dt}{vs:List V}{i:Nat}{d:Dt}(h:Ε K G L ds vs)(e:ds[i]? =some d):∃v,vs[i]? =some v/\Den K G L d v:=zd h.pair e
theorem Ε.app{ds es:List Dt}{vs us:List V}(h:Ε K G L ds vs)(h':Ε K G L es us):Ε K G L (ds++es) (vs++us):= .of (ua h.pair h'.pair)
theorem cY:∀{ns:List Int},Ε K G L (ns.map Dt.int) (ns.map V.int)
 | []=>rfl
 | n::ns=>⟨_,_,rfl,rfl,cY⟩
theorem aW{d:Dt}{vs:List V}(h:Ε K G L [d] vs):∃v,vs=[v]/\Den K G L d v:=by obtain ⟨v,r,rfl,h1,h2⟩:=h;have h2:r=[]:=h2;subst h2;exact ⟨v,rfl,h1⟩
theorem eh{d e:Dt}{vs:List V}(h:Ε K G L [d,e] vs):∃v u,vs=[v,u]/\Den K G L d v/\Den K G L e u:=by obtain ⟨v,r,rfl,h1,h2⟩:=h;obtain ⟨u,rfl,h3⟩:=aW h2;exact ⟨v,u,rfl,h1,h3⟩
end
def A_(K:fv)(G:Hp)(L:List Addr)(H:Hp)(a:Addr):MO->Prop
 | .lst ds=>∃vs,H a=some (.lst vs)/\Ε K G L ds vs
 | .ins C ns ds=>∃dx vs,H a=some (.ins C dx (ns.zip vs))/\ns.length=ds.length/\Ε K G L ds vs
 | .EH ks ds=>∃vs,H a=some (.dK (ks.zip vs))/\ks.length=ds.length/\Ε K G L ds vs
 | .raw u=>H a=some (u a)
 | .Ha u ds=>∃vs,H a=some (u a vs)/\Ε K G L ds vs
structure Rl(K:fv)(G:Hp)(L:List Addr)(M:Ms)(H:Hp):Prop where
 sub:b_ G H
 len:L.length=M.length
 nd:L.Nodup
 gh:∀(k:Nat) (a:Addr) (m:MO),L[k]? =some a->M[k]? =some m->G a=none/\A_ K G L H a m
structure Ex(G:Hp)(L:List Addr)(H:Hp)(G':Hp)(L':List Addr)(H':Hp):Prop where
 g:b_ G G'
 l:Pre L L'
 fr:∀b,G b=none->H b≠none->G' b=none
 out:∀b o,H b=some o->b∉L->H' b=some o
 new:∀b∈L',b∈L\/H b=none
 A9:∀b,H b≠none->H' b≠none
theorem Ex.refl(G:Hp)(L:List Addr)(H:Hp):Ex G L H G L H:=⟨.refl _, .refl _,λ_ h _=>h,λ_ _ h _=>h,λ_ h=> .inl h,λ_ h=>h⟩
theorem Ex.trans{G:Hp}{L:List Addr}{H G1:Hp}{L1:List Addr}{H1 G2:Hp}{L2:List Addr}{H2:Hp}(a:Ex G L H G1 L1 H1)(b:Ex G1 L1 H1 G2 L2 H2):Ex G L H G2 L2 H2 where
 g:=a.g.trans b.g
 l:=a.l.trans b.l
 fr:=λx h1 h2=>b.fr x (a.fr x h1 h2) (a.A9 x h2)
 out:=λx o h1 h2=>b.out x o (a.out x o h1 h2) λz=>(a.new x z).elim h2 λq=>by rw [h1] at q;cases q
 new:=λx h=>by
  rcases b.new x h with z | z
  ·exact a.new x z
  ·right;cases q:H x with
   | none=>rfl
   | some o=>exact absurd z (a.A9 x (by rw [q];simp))
 A9:=λx h=>b.A9 x (a.A9 x h)
theorem A_.there{K:fv}{G:Hp}{L:List Addr}{H:Hp}{a:Addr}{m:MO}(h:A_ K G L H a m):H a≠none:=by
 cases m with
 | lst ds=>obtain ⟨vs,e,_⟩:=h;rw [e];simp
 | ins C ns ds=>obtain ⟨dx,vs,e,_⟩:=h;rw [e];simp
 | EH ks ds=>obtain ⟨vs,e,_⟩:=h;rw [e];simp
 | raw u=>have h:H a=some (u a):=h;rw [h];simp
 | Ha u ds=>obtain ⟨vs,e,_⟩:=h;rw [e];simp
theorem A_.mono{K:fv}{G G':Hp}{L L':List Addr}{H H':Hp}{a:Addr}{m:MO}(g:b_ G G')(l:Pre L L')(e:H' a=H a)(h:A_ K G L H a m):A_ K G' L' H' a m:=by
 cases m with
 | lst ds=>obtain ⟨vs,e1,h⟩:=h;exact ⟨vs,e.trans e1,Ε.mono g l _ _ h⟩
 | ins C ns ds=>obtain ⟨dx,vs,e1,h0,h⟩:=h;exact ⟨dx,vs,e.trans e1,h0,Ε.mono g l _ _ h⟩
 | EH ks ds=>obtain ⟨vs,e1,h0,h⟩:=h;exact ⟨vs,e.trans e1,h0,Ε.mono g l _ _ h⟩
 | raw u=>exact e.trans h
 | Ha u ds=>obtain ⟨vs,e1,h⟩:=h;exact ⟨vs,e.trans e1,Ε.mono g l _ _ h⟩
section
variable{K:fv}{G:Hp}{L:List Addr}{M:Ms}{H:Hp}{p:Addr}{o:HO}
theorem Rl.rR(r:Rl K G L M H){a:Addr}(h:a∈L):∃(k:Nat) (m:MO),L[k]? =some a/\M[k]? =some m/\G a=none/\A_ K G L H a m:=by
 obtain ⟨k,hk,e⟩:=List.getElem_of_mem h;have e1:L[k]? =some a:=by rw [aaa hk,e]
 have e2:M[k]? =some (M[k]'(by rw [<-r.len];exact hk)):=aaa _;exact ⟨k,_,e1,e2,r.gh k a _ e1 e2⟩
theorem Rl.LJ(r:Rl K G L M H)(hp:H p=none):p∉L:=λz=>by obtain ⟨k,m,_,_,_,h⟩:=r.rR z;exact h.there hp
theorem Rl.CW(r:Rl K G L M H)(hp:H p=none):Rl K (upd G p o) L M (upd H p o) where
 sub:=λb u e=>by
  by_cases hb:b=p
  ·subst hb;rw [Ο] at e⊢;exact e
  ·rw [Β hb] at e⊢;exact r.sub b u e
 len:=r.len
 nd:=r.nd
 gh:=λk a m h1 h2=>by obtain ⟨q1,q2⟩:=r.gh k a m h1 h2;have hb:a≠p:=λz=>q2.there (by rw [z];exact hp);exact ⟨by rw [Β hb];exact q1,q2.mono (λb u e=>by rw [Β (λz=>by rw [z,r.sub.free hp] at e;cases e)];exact e) (.refl _) (Β hb)⟩
theorem Rl.J1(r:Rl K G L M H)(hp:H p=none):Ex G L H (upd G p o) L (upd H p o) where
 g:=λb u e=>by rw [Β (λz=>by rw [z,r.sub.free hp] at e;cases e)];exact e
 l:= .refl _
 fr:=λb h1 h2=>by rw [Β (λz=>h2 (by rw [z];exact hp))];exact h1
 out:=λb u h1 _=>by rw [Β (λz=>by rw [z,hp] at h1;cases h1)];exact h1
 new:=λb h=> .inl h
 A9:=λb h=>by rw [Β (λz=>h (by rw [z];exact hp))];exact h
theorem Rl.J2{m:MO}(r:Rl K G L M H)(hp:H p=none)(hm:A_ K G (L++[p]) (upd H p o) p m):Rl K G (L++[p]) (M++[m]) (upd H p o) where
 sub:=λb u e=>by rw [Β (λz=>by rw [z,r.sub.free hp] at e;cases e)];exact r.sub b u e
 len:=by rw [aag,aag,r.len];rfl
 nd:=List.nodup_append.mpr ⟨r.nd,by simp,λa ha b hb=>by
  have e:b=p:=by simpa using hb
  rw [e];exact λz=>r.LJ hp (z▸ha)⟩
 gh:=λk a m' h1 h2=>by
  by_cases hk:k < L.length
  ·rw [aaE hk] at h1;rw [aaE (by rw [<-r.len];exact hk)] at h2;obtain ⟨q1,q2⟩:=r.gh k a m' h1 h2;exact ⟨q1,q2.mono (.refl _) ⟨[p],rfl⟩ (Β λz=>q2.there (by rw [z];exact hp))⟩
  ·have e:k=L.length:=by have:=(aad.mp h1).1;rw [aag] at this;simp at this;omega
   rw [e,aaw (aal _)] at h1;rw [e,r.len,aaw (aal _)] at h2;simp at h1 h2;subst h1 h2;exact ⟨r.sub.free hp,hm⟩
theorem Rl.QH(r:Rl K G L M H)(hp:H p=none):Ex G L H G (L++[p]) (upd H p o) where
 g:= .refl _
 l:=⟨[p],rfl⟩
 fr:=λb h1 _=>h1
 out:=λb u h1 _=>by rw [Β (λz=>by rw [z,hp] at h1;cases h1)];exact h1
 new:=λb h=>by
  rcases aaQ.mp h with z | z
  ·exact .inl z
  ·have e:b=p:=by simpa using z
   right;rw [e];exact hp
 A9:=λb h=>by rw [Β (λz=>h (by rw [z];exact hp))];exact h
theorem Rl.setM{k:Nat}{a:Addr}{m:MO}(r:Rl K G L M H)(hk:L[k]? =some a)(hm:A_ K G L (upd H a o) a m):Rl K G L (M.set k m) (upd H a o) where
 sub:=λb u e=>by obtain ⟨k',m',e1,e2,q1,_⟩:=r.rR (aat hk);rw [Β (λz=>by rw [z,q1] at e;cases e)];exact r.sub b u e
 len:=by rw [abj];exact r.len
 nd:=r.nd
 gh:=λk' a' m' h1 h2=>by
  by_cases e:k'=k
  ·subst e;rw [hk] at h1;cases h1;have hl:k' < M.length:=by rw [<-r.len];exact (aad.mp hk).1
   rw [aa7 hl] at h2;cases h2;obtain ⟨_,_,_,_,q1,_⟩:=r.rR (aat hk);exact ⟨q1,hm⟩
  ·rw [aa2 (λz=>e z.symm)] at h2;obtain ⟨q1,q2⟩:=r.gh k' a' m' h1 h2;have ne:a'≠a:=λz=>by subst z;exact e ((List.getElem?_inj (aad.mp h1).1 r.nd).mp (h1.trans hk.symm))
   exact ⟨q1,q2.mono (.refl _) (.refl _) (Β ne)⟩
theorem Rl.GN{k:Nat}{a:Addr}(r:Rl K G L M H)(hk:L[k]? =some a):Ex G L H G L (upd H a o) where
 g:= .refl _
 l:= .refl _
 fr:=λb h1 _=>h1
 out:=λb u h1 h2=>by rw [Β (λz=>h2 (by rw [z];exact aat hk))];exact h1
 new:=λb h=> .inl h
 A9:=λb h=>by
  by_cases e:b=a
  ·rw [e,Ο];simp
  ·rw [Β e];exact h
end
structure jT(K:fv)(G:Hp)(L:List Addr)(ρ:En)(σ:St):Prop where
 len:ρ.length=σ.length
 gh:∀(i:Nat) (d:Dt),ρ[i]? =some (some d)->∃v,σ[i]? =some (some v)/\Den K G L d v
section
variable{K:fv}{G G':Hp}{L L':List Addr}{H H':Hp}{ρ:En}{σ:St}
theorem jT.mono(h:jT K G L ρ σ)(e:Ex G L H G' L' H'):jT K G' L' ρ σ:=⟨h.len,λi d q=>let ⟨v,a,b⟩:=h.gh i d q;⟨v,a,Den.mono e.g e.l d v b⟩⟩
theorem jT.set(h:jT K G L ρ σ)(i:Nat){d:Dt}{v:V}(q:Den K G L d v):jT K G L (ρ.set i (some d)) (σ.set i (some v)):=by
 refine ⟨by rw [abj,abj];exact h.len,λj d' e=> ?_⟩;by_cases hj:i=j
 ·subst hj;have hl:i < ρ.length:=by have:=(aad.mp e).1;rwa [abj] at this
  rw [aa7 hl] at e;cases e;exact ⟨v,aa7 (by rw [<-h.len];exact hl),q⟩
 ·rw [aa2 hj] at e;obtain ⟨u,a,b⟩:=h.gh j d' e;exact ⟨u,by rw [aa2 hj];exact a,b⟩
end
abbrev DQ:=Dt->Ms->Prop
abbrev DX:=En->Addr->List (Str×Dt)->Ms->Prop
def LL(K:fv)(G:Hp)(L:List Addr)(H:Hp)(fs:List (Str×Dt))(od:Option Addr):Prop:=
 (fs=[]/\od=none)\/fs≠[]/\∃dx vs,od=some dx/\G dx=some (.xd ((fs.map (·.1)).zip vs))/\Ε K G L (fs.map (·.2)) vs
def pV(K:fv)(G:Hp)(L:List Addr)(H:Hp)(R:St->XK)(x:DX):Prop:=
 ∀σ ρ C fs M' G' L' H' od,x ρ C fs M'->Ex G L H G' L' H'->Rl K G' L' M' H'->jT K G' L' ρ σ->LL K G' L' H' fs od->R σ (.ref C) od H'
theorem pV.on{K:fv}{G:Hp}{L:List Addr}{H G1:Hp}{L1:List Addr}{H1:Hp}{R:St->XK}{x:DX}(h:pV K G L H R x)(e:Ex G L H G1 L1 H1):pV K G1 L1 H1 R x:=
 λσ ρ C fs M' G' L' H' od q e' r n y=>h σ ρ C fs M' G' L' H' od q (e.trans e') r n y
def jj:DX:=λ_ _ _ _=>False
theorem Bs{K:fv}{G:Hp}{L:List Addr}{H:Hp}{R:St->XK}:pV K G L H R jj:=λ_ _ _ _ _ _ _ _ _ q=>q.elim
abbrev DE:=En->Ms->DQ->DX->Prop
abbrev DT:=En->Ms->(Bool->Ms->Prop)->DX->Prop
abbrev DA:=En->Ms->(List Dt->Ms->Prop)->DX->Prop
structure ke where
 nx:En->Ms->Prop
 rt:DQ
 bk:En->Ms->Prop:=λ_ _=>False
 ct:En->Ms->Prop:=λ_ _=>False
 x:DX:=jj
abbrev DS:=ke->En->Ms->Prop
inductive Fin(K:fv)(G0:Hp)(L0:List Addr)(H0:Hp)(q:DQ)(v:V)(H:Hp):Prop
 | mk (d:Dt) (G:Hp) (L:List Addr) (M:Ms) (e:Ex G0 L0 H0 G L H) (r:Rl K G L M H) (n:Den K G L d v) (h:q d M)
inductive qj(K:fv)(G0:Hp)(L0:List Addr)(H0:Hp)(q:Bool->Ms->Prop)(b:Bool)(H:Hp):Prop
 | mk (G:Hp) (L:List Addr) (M:Ms) (e:Ex G0 L0 H0 G L H) (r:Rl K G L M H) (h:q b M)
inductive K9(K:fv)(G0:Hp)(L0:List Addr)(H0:Hp)(q:List Dt->Ms->Prop)(vs:List V)(H:Hp):Prop
 | mk (ds:List Dt) (G:Hp) (L:List Addr) (M:Ms) (e:Ex G0 L0 H0 G L H) (r:Rl K G L M H) (n:Ε K G L ds vs) (h:q ds M)
inductive dI(K:fv)(G0:Hp)(L0:List Addr)(H0:Hp)(q:En->Ms->Prop)(σ:St)(H:Hp):Prop
 | mk (ρ:En) (G:Hp) (L:List Addr) (M:Ms) (e:Ex G0 L0 H0 G L H) (r:Rl K G L M H) (n:jT K G L ρ σ) (h:q ρ M)
def um(K:fv)(G0:Hp)(L0:List Addr)(H0:Hp)(Dn:ke):uE:=⟨dI K G0 L0 H0 Dn.nx,Fin K G0 L0 H0 Dn.rt,dI K G0 L0 H0 Dn.bk,dI K G0 L0 H0 Dn.ct⟩
inductive rQ(K:fv)(R:St->XK)(t:DE)(σ:St)(H:Hp)(Q:VK):Prop
 | mk (G:Hp) (L:List Addr) (ρ:En) (M:Ms) (q:DQ) (x:DX) (r:Rl K G L M H) (n:jT K G L ρ σ) (h:t ρ M q x) (hx:pV K G L H R x) (hQ:∀v H1,Fin K G L H q v H1->Q v H1)
inductive wV(K:fv)(R:St->XK)(t:DT)(σ:St)(H:Hp)(Q:Bool->Hp->Prop):Prop
 | mk (G:Hp) (L:List Addr) (ρ:En) (M:Ms) (q:Bool->Ms->Prop) (x:DX) (r:Rl K G L M H) (n:jT K G L ρ σ) (h:t ρ M q x) (hx:pV K G L H R x) (hQ:∀b H1,qj K G L H q b H1->Q b H1)
inductive Ng(K:fv)(R:St->XK)(t:DA)(σ:St)(H:Hp)(Q:List V->Hp->Prop):Prop
 | mk (G:Hp) (L:List Addr) (ρ:En) (M:Ms) (q:List Dt->Ms->Prop) (x:DX) (r:Rl K G L M H) (n:jT K G L ρ σ) (h:t ρ M q x) (hx:pV K G L H R x) (hQ:∀vs H1,K9 K G L H q vs H1->Q vs H1)
structure JU(A B:uE):Prop where
 nx:∀σ H,A.nx σ H->B.nx σ H
 rt:∀v H,A.rt v H->B.rt v H
 bk:∀σ H,A.bk σ H->B.bk σ H
 ct:∀σ H,A.ct σ H->B.ct σ H
inductive Mt(K:fv)(R:St->XK)(t:DS)(De:uE)(σ:St)(H:Hp):Prop
 | mk (G:Hp) (L:List Addr) (ρ:En) (M:Ms) (Dn:ke) (r:Rl K G L M H) (n:jT K G L ρ σ) (h:t Dn ρ M) (hx:pV K G L H R Dn.x) (hQ:JU (um K G L H Dn) De)
def JE(X:Cx)(R:St->XK)(e:Expr)(t:DE):Prop:=PE X e (rQ X.K R t)
def JT(X:Cx)(R:St->XK)(e:Expr)(t:DT):Prop:=PT X e (wV X.K R t)
def JW(X:Cx)(R:St->XK)(e:Expr)(t:DT):Prop:=PW X e (wV X.K R t)
def JA(X:Cx)(R:St->XK)(es:List Expr)(t:DA):Prop:=PA X es (Ng X.K R t)
def JS(X:Cx)(R:St->XK)(st:Stmt)(t:DS):Prop:=PS X st (Mt X.K R t)
def zT(X:Cx)(R:St->XK)(st:List Stmt)(t:DS):Prop:=A7 X st (Mt X.K R t)
section
variable{K:fv}{G0:Hp}{L0:List Addr}{H0 G1:Hp}{L1:List Addr}{H1:Hp}
theorem Fin.back{q:DQ}(e:Ex G0 L0 H0 G1 L1 H1){v:V}{H:Hp}(h:Fin K G1 L1 H1 q v H):Fin K G0 L0 H0 q v H:=let ⟨d,G,L,M,a,b,c,f⟩:=h;⟨d,G,L,M,e.trans a,b,c,f⟩
theorem dI.back{q:En->Ms->Prop}(e:Ex G0 L0 H0 G1 L1 H1){v:St}{H:Hp}(h:dI K G1 L1 H1 q v H):dI K G0 L0 H0 q v H:=let ⟨d,G,L,M,a,b,c,f⟩:=h;⟨d,G,L,M,e.trans a,b,c,f⟩
theorem qj.back{q:Bool->Ms->Prop}(e:Ex G0 L0 H0 G1 L1 H1){v:Bool}{H:Hp}(h:qj K G1 L1 H1 q v H):qj K G0 L0 H0 q v H:=let ⟨G,L,M,a,b,f⟩:=h;⟨G,L,M,e.trans a,b,f⟩
theorem um.back{Dn:ke}(e:Ex G0 L0 H0 G1 L1 H1):JU (um K G1 L1 H1 Dn) (um K G0 L0 H0 Dn):=⟨λ_ _ h=>dI.back e h,λ_ _ h=>Fin.back e h,λ_ _ h=>dI.back e h,λ_ _ h=>dI.back e h⟩
theorem SP.imp{X:Cx}{δ:List (Addr×Obj)}{A B:uE}(e:JU A B){f:Flow}{s:Shared}(h:SP X δ A f s):SP X δ B f s:=by
 cases f with
 | next=>obtain ⟨a,b,I,q⟩:=h;exact ⟨a,b,I,e.nx _ _ q⟩
 | brk=>obtain ⟨a,b,I,q⟩:=h;exact ⟨a,b,I,e.bk _ _ q⟩
 | cont=>obtain ⟨a,b,I,q⟩:=h;exact ⟨a,b,I,e.ct _ _ q⟩
 | ret u=>obtain ⟨v,a,b,I,r,q⟩:=h;exact ⟨v,a,b,I,r,e.rt _ _ q⟩
end
section
variable{X:Cx}{R:St->XK}{e:Expr}
theorem JE.of{te:TE}{t:DE}(h:PE X e te)(hw:∀σ H G L ρ M q x,Rl X.K G L M H->jT X.K G L ρ σ->t ρ M q x->pV X.K G L H R x->te σ H (Fin X.K G L H q)):JE X R e t:=by intro δ s σ H Q I ⟨G,L,ρ,M,q,x,r,n,ht,hx,hQ⟩;refine bD (h δ s σ H _ I (hw σ H G L ρ M q x r n ht hx)) λu s1 ⟨v,H1,I1,rv,f⟩=>⟨v,H1,I1,rv,hQ v H1 f⟩
theorem JT.of{te:TT}{t:DT}(h:PT X e te)(hw:∀σ H G L ρ M q x,Rl X.K G L M H->jT X.K G L ρ σ->t ρ M q x->pV X.K G L H R x->te σ H (qj X.K G L H q)):JT X R e t:=by intro δ s σ H Q I ⟨G,L,ρ,M,q,x,r,n,ht,hx,hQ⟩;refine bD (h δ s σ H _ I (hw σ H G L ρ M q x r n ht hx)) λu s1 ⟨H1,I1,f⟩=>⟨H1,I1,hQ u H1 f⟩
theorem JW.of{te:TT}{t:DT}(h:PW X e te)(hw:∀σ H G L ρ M q x,Rl X.K G L M H->jT X.K G L ρ σ->t ρ M q x->pV X.K G L H R x->te σ H (qj X.K G L H q)):JW X R e t:=by intro wh δ s σ H Q I ⟨G,L,ρ,M,q,x,r,n,ht,hx,hQ⟩;refine bD (h wh δ s σ H _ I (hw σ H G L ρ M q x r n ht hx)) λu s1 ⟨H1,I1,f⟩=>⟨H1,I1,hQ u H1 f⟩
theorem JA.of{es:List Expr}{te:TA}{t:DA}(h:PA X es te)(hw:∀σ H G L ρ M q x,Rl X.K G L M H->jT X.K G L ρ σ->t ρ M q x->pV X.K G L H R x->te σ H (K9 X.K G L H q)):JA X R es t:=by intro pos δ s σ H Q I ⟨G,L,ρ,M,q,x,r,n,ht,hx,hQ⟩;refine bD (h pos δ s σ H _ I (hw σ H G L ρ M q x r n ht hx)) λu s1 ⟨v,H1,I1,rv,f⟩=>⟨v,H1,I1,rv,hQ v H1 f⟩
theorem JS.of{st:Stmt}{te:TS}{t:DS}(h:PS X st te)(hw:∀σ H G L ρ M Dn,Rl X.K G L M H->jT X.K G L ρ σ->t Dn ρ M->pV X.K G L H R Dn.x->te (um X.K G L H Dn) σ H):JS X R st t:=by intro δ s σ H De I ⟨G,L,ρ,M,Dn,r,n,ht,hx,hQ⟩;exact bD (h δ s σ H _ I (hw σ H G L ρ M Dn r n ht hx)) λu s1 f=>SP.imp hQ f
theorem zT.of{st:List Stmt}{te:TS}{t:DS}(h:A7 X st te)(hw:∀σ H G L ρ M Dn,Rl X.K G L M H->jT X.K G L ρ σ->t Dn ρ M->pV X.K G L H R Dn.x->te (um X.K G L H Dn) σ H):zT X R st t:=by intro δ s σ H De I ⟨G,L,ρ,M,Dn,r,n,ht,hx,hQ⟩;exact bD (h δ s σ H _ I (hw σ H G L ρ M Dn r n ht hx)) λu s1 f=>SP.imp hQ f
end
def d8(i:Nat):DE:=λρ M q _=>match ρ[i]? with
 | some (some d)=>q d M
 | _=>False
def dC(d:Dt):DE:=λ_ M q _=>q d M
def iH(f:Dt->Dt->Ms->DQ->Prop)(a b:DE):DE:=λρ M q x=>a ρ M (λd1 M1=>b ρ M1 (λd2 M2=>f d1 d2 M2 q) x) x
def Le(f:Dt->Ms->DQ->Prop)(a:DE):DE:=λρ M q x=>a ρ M (λd1 M1=>f d1 M1 q) x
def jO:DA:=λ_ M q _=>q [] M
def dY(a:DE)(r:DA):DA:=λρ M q x=>a ρ M (λd M1=>r ρ M1 (λds M2=>q (d::ds) M2) x) x
def wa(f:List Dt->Ms->DQ->Prop)(a:DA):DE:=λρ M q x=>a ρ M (λds M1=>f ds M1 q) x
def pJ(K:fv)(r:R2)(f:Dt->Dt->Ms->DQ->Prop):Prop:=
 ∀G0 L0 H0 G L M H v1 v2 d1 d2 q,Ex G0 L0 H0 G L H->Rl K G L M H->Den K G L d1 v1->Den K G L d2 v2->f d1 d2 M q->r v1 v2 H (Fin K G0 L0 H0 q)
def RJ(K:fv)(r:V->Hp->VK->Prop)(f:Dt->Ms->DQ->Prop):Prop:=
 ∀G0 L0 H0 G L M H v1 d1 q,Ex G0 L0 H0 G L H->Rl K G L M H->Den K G L d1 v1->f d1 M q->r v1 H (Fin K G0 L0 H0 q)
def Dj(K:fv)(r:List V->Hp->VK->Prop)(f:List Dt->Ms->DQ->Prop):Prop:=
 ∀G0 L0 H0 G L M H vs ds q,Ex G0 L0 H0 G L H->Rl K G L M H->Ε K G L ds vs->f ds M q->r vs H (Fin K G0 L0 H0 q)
section
variable{K:fv}{R:St->XK}{ta tb:DE}{tc:DA}{σ:St}{H G:Hp}{L:List Addr}{ρ:En}{M:Ms}{q:DQ}{x:DX}
theorem wA{r:R2}{f:Dt->Dt->Ms->DQ->Prop}(od:pJ K r f)(rl:Rl K G L M H)(n:jT K G L ρ σ)(h:iH f ta tb ρ M q x)(hx:pV K G L H R x):Mp r (rQ K R ta) (rQ K R tb) σ H (Fin K G L H q):=by refine ⟨G,L,ρ,M,_,x,rl,n,h,hx,λv H1 ⟨d1,G1,L1,M1,e1,r1,n1,h1⟩=> ?_⟩;refine ⟨G1,L1,ρ,M1,_,x,r1,n.mono e1,h1,hx.on e1,λv2 H2 ⟨d2,G2,L2,M2,e2,r2,n2,h2⟩=> ?_⟩;exact od G L H G2 L2 M2 H2 v v2 d1 d2 q (e1.trans e2) r2 (Den.mono e2.g e2.l _ _ n1) n2 h2
theorem LN{r:V->Hp->VK->Prop}{f:Dt->Ms->DQ->Prop}(od:RJ K r f)(rl:Rl K G L M H)(n:jT K G L ρ σ)(h:Le f ta ρ M q x)(hx:pV K G L H R x):TX r (rQ K R ta) σ H (Fin K G L H q):=by refine ⟨G,L,ρ,M,_,x,rl,n,h,hx,λv H1 ⟨d1,G1,L1,M1,e1,r1,n1,h1⟩=> ?_⟩;exact od G L H G1 L1 M1 H1 v d1 q e1 r1 n1 h1
theorem HH{r:List V->Hp->VK->Prop}{f:List Dt->Ms->DQ->Prop}(od:Dj K r f)(rl:Rl K G L M H)(n:jT K G L ρ σ)(h:wa f tc ρ M q x)(hx:pV K G L H R x):Qm r (Ng K R tc) σ H (Fin K G L H q):=by refine ⟨G,L,ρ,M,_,x,rl,n,h,hx,λv H1 ⟨d1,G1,L1,M1,e1,r1,n1,h1⟩=> ?_⟩;exact od G L H G1 L1 M1 H1 v d1 q e1 r1 n1 h1
end
section
variable{X:Cx}{R:St->XK}{a b c:Expr}{ta tb:DE}{pos:Pos}
theorem jv(i:Nat){x:Str}{pos:Pos}(hN:X.N[i]? =some x:=by rfl)(hv:PU X.env.scope x:=by first | exact Or.inl rfl | exact Or.inr (Or.inl rfl) | exact Or.inr (Or.inr rfl))(hd:(x==("__debug__":Str))=false:=by decide)
  (BL:(x==("__classdict__":Str))=false:=by decide):JE X R (.Name x pos) (d8 i):= .of (Ku hN hv hd BL) λσ H G L ρ M q x r n h hx=>by
 unfold d8 at h;split at h
 ·rename_i d e;obtain ⟨v,e1,h1⟩:=n.gh i d e;exact ⟨v,e1,d,G,L,M, .refl _ _ _,r,h1,h⟩
 ·exact h.elim
theorem HM{d:Dt}{v:V}{e:Expr}(h:PE X e (tC v))(hd:∀G L,Den X.K G L d v):JE X R e (dC d):= .of h λσ H G L ρ M q x r n h hx=>⟨d,G,L,M, .refl _ _ _,r,hd G L,h⟩
theorem ι{i j pos}:JE X R (.Constant (.int i) j pos) (dC (.int i)):=HM IB λ_ _=>rfl
theorem Il{b j pos}:JE X R (.Constant (.bool b) j pos) (dC (.bl b)):=HM NG λ_ _=>rfl
theorem Q9{j pos}:JE X R (.Constant .none j pos) (dC .bf):=HM Jx λ_ _=>rfl
theorem fE{x j pos}:JE X R (.Constant (.str x) j pos) (dC (.str x)):=HM J7 λ_ _=>rfl
theorem yb{op:Operator}{r:R2}{f:Dt->Dt->Ms->DQ->Prop}(ho:ij X (binaryOp op) r)(od:pJ X.K r f)(ja:JE X R a ta)(jb:JE X R b tb):JE X R (.BinOp a op b pos) (iH f ta tb):=
 .of (OC ho ja jb) λσ H G L ρ M q x r n h hx=>wA od r n h hx
theorem QX{op:UnaryOp}{r:V->Hp->VK->Prop}{f:Dt->Ms->DQ->Prop}(ho:Po X (unaryOp op) r)(od:RJ X.K r f)(ja:JE X R a ta):JE X R (.UnaryOp op a pos) (Le f ta):=
 .of (MX ho ja) λσ H G L ρ M q x r n h hx=>LN od r n h hx
theorem vP{op:CmpOp}{r:R2}{f:Dt->Dt->Ms->DQ->Prop}(ho:ij X (compareOp op) r)(od:pJ X.K r f)(ja:JE X R a ta)(jb:JE X R b tb)(hm:behindInMarks op b=false):JE X R (.Compare a [op] [b] pos) (iH f ta tb):=
 .of (EO ho ja jb hm) λσ H G L ρ M q x r n h hx=>wA od r n h hx
theorem MB{r:R2}{f:Dt->Dt->Ms->DQ->Prop}(hr:ED X r)(od:pJ X.K r f)(ja:JE X R a ta)(jb:JE X R b tb)(hs:uw b):JE X R (.Subscript a b pos) (iH f ta tb):=
 .of (LY hr ja jb hs) λσ H G L ρ M q x r n h hx=>wA od r n h hx
theorem aU{env:Env}{es:List Expr}{c j p}:starEach (.Constant c j p::es) env=(false,eval (.Constant c j p) env)::starEach es env:=rfl
theorem HW{env:Env}{es:List Expr}{c p}:starEach (.Name c p::es) env=(false,eval (.Name c p) env)::starEach es env:=rfl
theorem aN{env:Env}{es:List Expr}{a o b p}:starEach (.BinOp a o b p::es) env=(false,eval (.BinOp a o b p) env)::starEach es env:=rfl
theorem aQ{env:Env}{es:List Expr}{a b c p}:starEach (.Call a b c p::es) env=(false,eval (.Call a b c p) env)::starEach es env:=rfl
theorem az{env:Env}{es:List Expr}{a b p}:starEach (.Subscript a b p::es) env=(false,eval (.Subscript a b p) env)::starEach es env:=rfl
theorem fK{env:Env}{es:List Expr}{a b p}:starEach (.Tuple a b p::es) env=(false,eval (.Tuple a b p) env)::starEach es env:=rfl
theorem Hl{env:Env}{es:List Expr}{a b p}:starEach (.UnaryOp a b p::es) env=(false,eval (.UnaryOp a b p) env)::starEach es env:=rfl
theorem ε:JA X R [] jO:= .of wL λσ H G L ρ M q x r n h hx=>⟨[],G,L,M, .refl _ _ _,r,rfl,h⟩
theorem ζ{e:Expr}{es:List Expr}{te:DE}{t:DA}(ha:JE X R e te)(hr:JA X R es t)(hs:starEach (e::es) X.env=(false,eval e X.env)::starEach es X.env:=by first | exact aU | exact HW | exact aN | exact aQ | exact az | exact fK | exact SV | exact Hl | rfl):JA X R (e::es) (dY te t):=
 .of (sE ha hr hs) λσ H G L ρ M q x rl n h hx=>by refine ⟨G,L,ρ,M,_,x,rl,n,h,hx,λv H1 ⟨d1,G1,L1,M1,e1,r1,n1,h1⟩=> ?_⟩;refine ⟨G1,L1,ρ,M1,_,x,r1,n.mono e1,h1,hx.on e1,λv2 H2 ⟨d2,G2,L2,M2,e2,r2,n2,h2⟩=> ?_⟩;exact ⟨d1::d2,G2,L2,M2,e1.trans e2,r2,⟨_,_,rfl,Den.mono e2.g e2.l _ _ n1,n2⟩,h2⟩
theorem Υ{c:Str}{p:Pos}{es:List Expr}{te:DE}{t:DA}(ha:JE X R (.Name c p) te)(hr:JA X R es t):JA X R (.Name c p::es) (dY te t):=ζ ha hr HW
def wG(t:DA):DE:=λρ M q x=>t ρ M (λds M1=>ds.length<=sizeLine/\q (.tup ds) M1) x
def Im(t:DA):DE:=λρ M q x=>t ρ M (λds M1=>ds.length<=sizeLine/\q (.lst ds) M1) x
def BI(t:DA):DE:=λρ M q x=>t ρ M (λds M1=>ds.length<=sizeLine/\q (.loc M1.length) (M1++[.lst ds])) x
theorem gq{K:fv}{G0:Hp}{L0:List Addr}{H0 G:Hp}{L:List Addr}{M:Ms}{H:Hp}{p:Addr}{o:HO}{d:Dt}{q:DQ}(e:Ex G0 L0 H0 G L H)(r:Rl K G L M H)(hp:H p=none)(hd:Den K (upd G p o) L d (.ref p))(h:q d M):Fin K G0 L0 H0 q (.ref p) (upd H p o):=
 ⟨d,upd G p o,L,M,e.trans (r.J1 hp),r.CW hp,hd,h⟩
theorem j_{K:fv}{G:Hp}{L:List Addr}{M:Ms}{H:Hp}{p:Addr}{ds:List Dt}{vs:List V}(r:Rl K G L M H)(hp:H p=none)(h:Ε K G L ds vs):Den K (upd G p (.tup vs)) L (.tup ds) (.ref p):=
 ⟨p,vs,rfl,Ο,Ε.mono (r.J1 hp).g (.refl _) _ _ h⟩
theorem rL{K:fv}{G:Hp}{L:List Addr}{M:Ms}{H:Hp}{p:Addr}{ds:List Dt}{vs:List V}(r:Rl K G L M H)(hp:H p=none)(h:Ε K G L ds vs):Den K (upd G p (.lst vs)) L (.lst ds) (.ref p):=
 ⟨p,vs,rfl,Ο,Ε.mono (r.J1 hp).g (.refl _) _ _ h⟩
theorem iG{K:fv}{G0:Hp}{L0:List Addr}{H0 G:Hp}{L:List Addr}{M:Ms}{H:Hp}{p:Addr}{q:DQ}{ds:List Dt}{vs:List V}(e:Ex G0 L0 H0 G L H)(r:Rl K G L M H)(hp:H p=none)(hd:Ε K G L ds vs)(h:q (.loc M.length) (M++[.lst ds])):Fin K G0 L0 H0 q (.ref p) (upd H p (.lst vs)):=
 ⟨.loc M.length,G,L++[p],M++[.lst ds],e.trans (r.QH hp),r.J2 (m:= .lst ds) hp ⟨vs,Ο,Ε.mono (.refl _) ⟨[p],rfl⟩ _ _ hd⟩,⟨p,rfl,by rw [<-r.len,List.getElem?_append_right (Nat.le_refl _)];simp⟩,h⟩
variable{es:List Expr}{t:DA}
theorem aq{x1}(h:JA X R es t):JE X R (.Tuple es x1 pos) (wG t):= .of (JX h) λσ H G L ρ M q x rl n h hx=>by refine ⟨G,L,ρ,M,_,x,rl,n,h,hx,λv H1 ⟨d1,G1,L1,M1,e1,r1,n1,h1⟩=>⟨by rw [<-n1.length];exact h1.1,λp hp=> ?_⟩⟩;exact gq e1 r1 hp (j_ r1 hp n1) h1.2
theorem ji(h:JA X R es t):JE X R (.List es pos) (Im t):= .of (Er h) λσ H G L ρ M q x rl n h hx=>by refine ⟨G,L,ρ,M,_,x,rl,n,h,hx,λv H1 ⟨d1,G1,L1,M1,e1,r1,n1,h1⟩=>⟨by rw [<-n1.length];exact h1.1,λp hp=> ?_⟩⟩;exact gq e1 r1 hp (rL r1 hp n1) h1.2
theorem kY(h:JA X R es t):JE X R (.List es pos) (BI t):= .of (Er h) λσ H G L ρ M q x rl n h hx=>by refine ⟨G,L,ρ,M,_,x,rl,n,h,hx,λv H1 ⟨d1,G1,L1,M1,e1,r1,n1,h1⟩=>⟨by rw [<-n1.length];exact h1.1,λp hp=> ?_⟩⟩;exact iG e1 r1 hp n1 h1.2
def mP(t:DE):DT:=λρ M q x=>t ρ M (λd M1=>match d with
 | .bl b=>q b M1
 | _=>False) x
def Nw(t u:DT):DT:=λρ M q x=>t ρ M (λc M1=>(c=true->u ρ M1 q x)/\(c=false->q false M1)) x
def SN(t u:DT):DT:=λρ M q x=>t ρ M (λc M1=>(c=true->q true M1)/\(c=false->u ρ M1 q x)) x
def Na(t:DT):DT:=λρ M q x=>t ρ M (λc M1=>q (!c) M1) x
theorem IA{K:fv}{t:DE}{σ:St}{H G:Hp}{L:List Addr}{ρ:En}{M:Ms}{q:Bool->Ms->Prop}{x:DX}(rl:Rl K G L M H)(n:jT K G L ρ σ)(h:mP t ρ M q x)(hx:pV K G L H R x):tB (rQ K R t) σ H (qj K G L H q):=by
 refine ⟨G,L,ρ,M,_,x,rl,n,h,hx,λv H1 ⟨d1,G1,L1,M1,e1,r1,n1,h1⟩=> ?_⟩
 (try dsimp only at h1)
 split at h1
 ·rename_i b;exact ⟨b,n1,G1,L1,M1,e1,r1,h1⟩
 ·exact h1.elim
theorem eG{e:Expr}{t:DE}(h:JE X R e t)(he:∀whole,isTrue e X.env whole=(do let v<-whole;standAt e.pos;holding [v] (truthy v)):=by intro _;rfl):JT X R e (mP t):=
 .of (Iq h he) λσ H G L ρ M q x rl n h hx=>IA rl n h hx
theorem g9{op:CmpOp}{r:R2}{f:Dt->Dt->Ms->DQ->Prop}(ho:ij X (compareOp op) r)(od:pJ X.K r f)(ja:JE X R a ta)(jb:JE X R b tb)(hm:behindInMarks op b=false):JT X R (.Compare a [op] [b] pos) (mP (iH f ta tb)):=
 .of (ER ho ja jb hm) λσ H G L ρ M q x rl n h hx=>by
  have h:iH f ta tb ρ M (λd M1=>match d with | .bl b=>q b M1 | _=>False) x:=h;refine ⟨G,L,ρ,M,_,x,rl,n,h,hx,λv H1 ⟨d1,G1,L1,M1,e1,r1,n1,h1⟩=> ?_⟩;refine ⟨G1,L1,ρ,M1,_,x,r1,n.mono e1,h1,hx.on e1,λv2 H2 ⟨d2,G2,L2,M2,e2,r2,n2,h2⟩=> ?_⟩;have:=od G L H G2 L2 M2 H2 v v2 d1 d2 _ (e1.trans e2) r2 (Den.mono e2.g e2.l _ _ n1) n2 h2;have e:(λx H'=>∃k,x=V.bl k/\qj X.K G L H q k H')=Fin X.K G L H (λd M1=>match d with | .bl b=>q b M1 | _=>False):=by
   funext y H'
   apply propext;constructor
   ·rintro ⟨k,rfl,G3,L3,M3,e3,r3,h3⟩;exact ⟨.bl k,G3,L3,M3,e3,r3,rfl,h3⟩
   ·rintro ⟨d,G3,L3,M3,e3,r3,n3,h3⟩;split at h3
    ·rename_i k;exact ⟨k,n3,G3,L3,M3,e3,r3,h3⟩
    ·exact h3.elim
  rw [e];exact this
theorem JW.jt{e:Expr}{t:DT}(h:JW X R e t):JT X R e t:=h _
variable{t1 t2:DT}{Ι:List Expr}
theorem E1(ha:JT X R a t1):JW X R (.BoolOp .And [a] pos) t1:=pw_and1 ha
theorem kZ(ha:JT X R a t1):JW X R (.BoolOp .Or [a] pos) t1:=pw_or1 ha
theorem JF(ha:JT X R a t1)(hb:JW X R (.BoolOp .And (b::Ι) pos) t2):JW X R (.BoolOp .And (a::b::Ι) pos) (Nw t1 t2):= .of (pw_and ha hb) λσ H G L ρ M q x rl n h hx=>by
 refine ⟨G,L,ρ,M,_,x,rl,n,h,hx,λc H1 ⟨G1,L1,M1,e1,r1,h1⟩=> ?_⟩;cases c with
 | true=>exact wm ⟨G1,L1,ρ,M1,_,x,r1,n.mono e1,h1.1 rfl,hx.on e1,λb H2 f=>qj.back e1 f⟩
 | false=>exact xj ⟨G1,L1,M1,e1,r1,h1.2 rfl⟩
theorem mq(ha:JT X R a t1)(hb:JW X R (.BoolOp .Or (b::Ι) pos) t2):JW X R (.BoolOp .Or (a::b::Ι) pos) (SN t1 t2):= .of (pw_or ha hb) λσ H G L ρ M q x rl n h hx=>by
 refine ⟨G,L,ρ,M,_,x,rl,n,h,hx,λc H1 ⟨G1,L1,M1,e1,r1,h1⟩=> ?_⟩;cases c with
 | true=>exact wm ⟨G1,L1,M1,e1,r1,h1.1 rfl⟩
 | false=>exact xj ⟨G1,L1,ρ,M1,_,x,r1,n.mono e1,h1.2 rfl,hx.on e1,λb H2 f=>qj.back e1 f⟩
theorem lL(ha:JT X R a t1):JT X R (.UnaryOp .Not a pos) (Na t1):= .of (Jq ha) λσ H G L ρ M q x rl n h hx=>
 ⟨G,L,ρ,M,_,x,rl,n,h,hx,λ_ _ ⟨G,L,M,e,r,h⟩=>⟨G,L,M,e,r,h⟩⟩
def NA(t u:DE):DE:=λρ M q x=>t ρ M (λd M1=>match d with
 | .bl c=>(c=true->u ρ M1 q x)/\(c=false->q (.bl false) M1)
 | _=>False) x
def SR(t u:DE):DE:=λρ M q x=>t ρ M (λd M1=>match d with
 | .bl c=>(c=true->q (.bl true) M1)/\(c=false->u ρ M1 q x)
 | _=>False) x
def Td(t:DT)(u v:DE):DE:=λρ M q x=>t ρ M (λc M1=>(c=true->u ρ M1 q x)/\(c=false->v ρ M1 q x)) x
theorem g8{op}{t:DE}(h:JE X R a t):JE X R (.BoolOp op [a] pos) t:=Ji h
theorem dU(ha:JE X R a ta)(hb:JE X R (.BoolOp .And (b::Ι) pos) tb):JE X R (.BoolOp .And (a::b::Ι) pos) (NA ta tb):= .of (Iu ha hb) λσ H G L ρ M q x rl n h hx=>by
 refine ⟨G,L,ρ,M,_,x,rl,n,h,hx,λv H1 ⟨d1,G1,L1,M1,e1,r1,n1,h1⟩=> ?_⟩
 (try dsimp only at h1)
 split at h1
 ·rename_i c;refine ⟨c,n1, ?_⟩;cases c with
  | true=>exact wm ⟨G1,L1,ρ,M1,_,x,r1,n.mono e1,h1.1 rfl,hx.on e1,λb H2 f=>Fin.back e1 f⟩
  | false=>exact xj ⟨.bl false,G1,L1,M1,e1,r1,rfl,h1.2 rfl⟩
 ·exact h1.elim
theorem OF(ha:JE X R a ta)(hb:JE X R (.BoolOp .Or (b::Ι) pos) tb):JE X R (.BoolOp .Or (a::b::Ι) pos) (SR ta tb):= .of (Mm ha hb) λσ H G L ρ M q x rl n h hx=>by
 refine ⟨G,L,ρ,M,_,x,rl,n,h,hx,λv H1 ⟨d1,G1,L1,M1,e1,r1,n1,h1⟩=> ?_⟩
 (try dsimp only at h1)
 split at h1
 ·rename_i c;refine ⟨c,n1, ?_⟩;cases c with
  | true=>exact wm ⟨.bl true,G1,L1,M1,e1,r1,rfl,h1.1 rfl⟩
  | false=>exact xj ⟨G1,L1,ρ,M1,_,x,r1,n.mono e1,h1.2 rfl,hx.on e1,λb H2 f=>Fin.back e1 f⟩
 ·exact h1.elim
theorem HN{c:Expr}(hc:JT X R c t1)(ha:JE X R a ta)(hb:JE X R b tb):JE X R (.IfExp c a b pos) (Td t1 ta tb):= .of (Eb hc ha hb) λσ H G L ρ M q x rl n h hx=>by
 refine ⟨G,L,ρ,M,_,x,rl,n,h,hx,λc H1 ⟨G1,L1,M1,e1,r1,h1⟩=> ?_⟩;cases c with
 | true=>exact wm ⟨G1,L1,ρ,M1,_,x,r1,n.mono e1,h1.1 rfl,hx.on e1,λb H2 f=>Fin.back e1 f⟩
 | false=>exact xj ⟨G1,L1,ρ,M1,_,x,r1,n.mono e1,h1.2 rfl,hx.on e1,λb H2 f=>Fin.back e1 f⟩
end
def Hz:DS:=λDn ρ M=>Dn.nx ρ M
def L8(t u:DS):DS:=λDn ρ M=>t {Dn with nx:=u Dn} ρ M
def TV(c:DT)(t u:DS):DS:=λDn ρ M=>c ρ M (λb M1=>(b=true->t Dn ρ M1)/\(b=false->u Dn ρ M1)) Dn.x
def K3(t:DE):DS:=λDn ρ M=>t ρ M Dn.rt Dn.x
def zB(i:Nat)(t:DE):DS:=λDn ρ M=>t ρ M (λd M1=>Dn.nx (ρ.set i (some d)) M1) Dn.x
def HV(t:DE):DS:=λDn ρ M=>t ρ M (λ_ M1=>Dn.nx ρ M1) Dn.x
def Qp(t:DS):DS:=λDn ρ M=>∃J:En->Ms->Prop,t {Dn with nx:=J} ρ M/\∀ρ' M',J ρ' M'->Dn.nx ρ' M'
section
variable{X:Cx}{R:St->XK}{st:Stmt}{Ι:List Stmt}{t u:DS}{e:Expr}{te:DE}{pos:Pos}
theorem Λ:zT X R [] Hz:= .of FY λσ H G L ρ M Dn rl n h hx=>⟨ρ,G,L,M, .refl _ _ _,rl,n,h⟩
theorem μ(h1:JS X R st t):zT X R [st] t:=GP h1
theorem η(h1:JS X R st t)(h2:zT X R Ι u):zT X R (st::Ι) (L8 t u):= .of (BB h1 h2) λσ H G L ρ M Dn rl n h hx=>by refine ⟨G,L,ρ,M,_,rl,n,h,hx,⟨λσ1 H1 ⟨ρ1,G1,L1,M1,e1,r1,n1,h1⟩=> ?_,λ_ _ f=>f,λ_ _ f=>f,λ_ _ f=>f⟩⟩;exact ⟨G1,L1,ρ1,M1,Dn,r1,n1,h1,hx.on e1,um.back e1⟩
theorem χ(he:JE X R e te):JS X R (.Return (some e) pos) (K3 te):= .of (KL he) λσ H G L ρ M Dn rl n h hx=>⟨G,L,ρ,M,_,_,rl,n,h,hx,λ_ _ f=>f⟩
theorem iI(he:JE X R e te)(hs:swapsWith e none pos.line X.env=pure false:=by rfl):JS X R (.Expr e pos) (HV te):= .of (E6 he hs) λσ H G L ρ M Dn rl n h hx=>by refine ⟨G,L,ρ,M,_,_,rl,n,h,hx,λv H1 ⟨d1,G1,L1,M1,e1,r1,n1,h1⟩=>⟨ρ,G1,L1,M1,e1,r1,n.mono e1,h1⟩⟩
theorem aC{c:Expr}{a b:List Stmt}{tc:DT}(hc:JT X R c tc)(ha:zT X R a t)(hb:zT X R b u):JS X R (.If c a b pos) (TV tc t u):= .of (M8 hc ha hb) λσ H G L ρ M Dn rl n h hx=>by
 refine ⟨G,L,ρ,M,_,_,rl,n,h,hx,λc H1 ⟨G1,L1,M1,e1,r1,h1⟩=> ?_⟩;cases c with
 | true=>exact wm ⟨G1,L1,ρ,M1,Dn,r1,n.mono e1,h1.1 rfl,hx.on e1,um.back e1⟩
 | false=>exact xj ⟨G1,L1,ρ,M1,Dn,r1,n.mono e1,h1.2 rfl,hx.on e1,um.back e1⟩
theorem τ(i:Nat){x:Str}{pos':Pos}(hN:X.N.Nodup)(he:JE X R e te)(hi:X.N[i]? =some x:=by rfl)(hx:Loc X.env.scope x:=by first | exact .inl rfl | exact .inr rfl)(hs:swapsWith e (some (.Name x pos')) pos.line X.env=pure false:=by rfl)(hf:X.fn x=true\/X.env.scope.names.lookup x=some .local:=by first | exact .inl rfl | exact .inr rfl | assumption):
  JS X R (.Assign [.Name x pos'] e pos) (zB i te):= .of (H_ hN hi hx he hs hf) λσ H G L ρ M Dn rl n h hx=>by
 refine ⟨G,L,ρ,M,_,_,rl,n,h,hx,λv H1 ⟨d1,G1,L1,M1,e1,r1,n1,h1⟩=>⟨_,G1,L1,M1,e1,r1,(n.mono e1).set i n1,h1⟩⟩
theorem h_(h:JS X R st t):JS X R st (Qp t):= .of h λσ H G L ρ M Dn rl n h hx=>by obtain ⟨J,h1,h2⟩:=h;refine ⟨G,L,ρ,M,_,rl,n,h1,hx,⟨λσ1 H1 ⟨ρ1,G1,L1,M1,e1,r1,n1,h1⟩=>⟨ρ1,G1,L1,M1,e1,r1,n1,h2 _ _ h1⟩,λ_ _ f=>f,λ_ _ f=>f,λ_ _ f=>f⟩⟩
end
abbrev Tt:=Addr->List (Str×Dt)->Ms->Prop
abbrev DF:=List Dt->Ms->DQ->Tt->Prop
inductive dw(K:fv)(T:DF)(vs:List V)(H:Hp)(Q:VK)(E:XK):Prop
 | mk (G:Hp) (L:List Addr) (ds:List Dt) (M:Ms) (q:DQ) (x:Tt) (r:Rl K G L M H) (n:Ε K G L ds vs) (h:T ds M q x) (hQ:∀v H1,Fin K G L H q v H1->Q v H1) (hE:∀C fs M1 G1 L1 H1 od,x C fs M1->Ex G L H G1 L1 H1->Rl K G1 L1 M1 H1->LL K G1 L1 H1 fs od->E (.ref C) od H1)
def lM(N:List Str)(ds:List Dt):En:=ds.map some++List.replicate (N.length - ds.length) none
theorem Bc{K:fv}{G:Hp}{L:List Addr}{N:List Str}{ds:List Dt}{vs:List V}(h:Ε K G L ds vs):jT K G L (lM N ds) (iF N vs):=by
 have hl:=h.length;refine ⟨by unfold lM iF;simp [hl],λi d e=> ?_⟩;unfold lM at e;unfold iF;by_cases hi:i < ds.length
 ·rw [List.getElem?_append_left (by simpa using hi),List.getElem?_map] at e;rw [List.getElem?_append_left (by simpa [<-hl] using hi),List.getElem?_map];cases q:ds[i]? with
  | none=>rw [q] at e;cases e
  | some d'=>
   rw [q] at e;cases e;obtain ⟨v,e1,h1⟩:=h.get q;exact ⟨v,by rw [e1];rfl,h1⟩
 ·rw [List.getElem?_append_right (by simpa using Nat.le_of_not_lt hi),List.getElem?_replicate] at e;split at e <;> cases e
section
variable{P:Program}{w:World}{K:fv}{mg:Str->Option Value}{base:Heap}
theorem dH.fZ{x qual:Str}{st:Stmt}{f:Addr}{fd:FuncData}{N ps:List Str}{k:Nat}{T:DF}(F:dH K x qual st f fd)(S:ψ N ps (ο st))(len:∀ds M q x,T ds M q x->ds.length=ps.length)
  (uU:∀(bK:Value) (A:Around) (outer:List Env) (s:Shared) (H:Hp) (E:XK),bq k (A.deeper (envOfC qual (ο st) s.heap.objs.size f bK))->
   ∃t,zT (r9 (cQ P w) P w K mg base N qual (ο st) f bK A outer s H E) (λ_=>E) (e_ st) t/\∀ds M q x,T ds M q x->t {nx:=λ_ M'=>q .bf M',rt:=q,x:=λ_=>x} (lM N ds) M):
  aB P w K mg base (cQ P w) (k+1) f fd ps (dw K T):=by
 refine F.U5 S (λvs H Q E h=> ?_) (λbK A outer s H vs Q E hr h=> ?_)
 ·obtain ⟨G,L,ds,M,q,x,rl,n,hT,_⟩:=h;rw [<-n.length];exact len _ _ _ _ hT
 ·obtain ⟨t,j,ht⟩:=uU bK A outer s H E hr;obtain ⟨G,L,ds,M,q,x,rl,n,hT,hQ,hE⟩:=h;refine ⟨_,j,G,L,lM N ds,M,_,rl,Bc n,ht ds M q x hT,λσ ρ C fs M' G' L' H' od hx e r _ y=>hE C fs M' G' L' H' od hx e r y,⟨λσ' H' ⟨ρ',G',L',M',e,r,_,h⟩=>hQ _ _ ⟨.bf,G',L',M',e,r,rfl,h⟩,λv H' f=>hQ v H' f,λ_ _ ⟨_,_,_,_,_,_,_,h⟩=>h.elim,λ_ _ ⟨_,_,_,_,_,_,_,h⟩=>h.elim⟩⟩
structure aL(P:Program)(w:World)(K:fv)(mg:Str->Option Value)(base:Heap)(k:Nat)(x:Str)(ps:List Str)(T:DF)(f:Addr)(fd:FuncData):Prop where
 ok:aB P w K mg base (cQ P w) k f fd ps (dw K T)
 b:gL K fd ps []
 m:mg x=some (.ref f)
 kp:PySem.W.keepIn K (.ref f)=true
end
def yo(T:DF)(t:DA):DE:=λρ M q x=>t ρ M (λds M1=>T ds M1 q (λC fs M'=>x ρ C fs M')) x
section
variable{X:Cx}{R:St->XK}{T:DF}{k k':Nat}{f:Addr}{fd:FuncData}{ps:List Str}{x:Str}{p pos:Pos}{e:Expr}{es:List Expr}{t:DA}
theorem ax(C:aL X.prog X.w X.K X.mg X.base k x ps T f fd)(hr:bq k' X.A)(hx:cf (cQ X.prog X.w) X R)(ha:JA X R (e::es) t)(hk:k<=k':=by decide)(hg:Gl X x:=by rfl)(p_:(x==("__debug__":Str))=false:=by decide)
  (he:starEach (e::es) X.env=(false,eval e X.env)::starEach es X.env:=by rfl) (eI:(backTo pos (starEach es X.env)).any (·.1)=false:=by rfl):JE X R (.Call (.Name x p) (e::es) [] pos) (yo T t):=
 .of (CM C.ok (hr.mono hk) hg C.m C.kp C.b .nil hx ha p_ he eI) λσ H G L ρ M q x rl n h hx=>by refine ⟨G,L,ρ,M,_,x,rl,n,h,hx,λvs H1 ⟨ds,G1,L1,M1,e1,r1,n1,h1⟩=> ?_⟩;show dw X.K T (vs++[]) H1 _ _;rw [aaU];exact ⟨G1,L1,ds,M1,q,_,r1,n1,h1,λv H' f=>Fin.back e1 f,λC fs M' G' L' H' od hq e' r' y=>hx σ ρ C fs M' G' L' H' od hq (e1.trans e') r' (n.mono (e1.trans e')) y⟩
end
structure Yl(K:fv)(J:It)(xs:List Dt)(G0:Hp)(L0:List Addr):Prop where
 go:∀(i:Nat) G L M H (d:Dt),b_ G0 G->Pre L0 L->Rl K G L M H->xs[i]? =some d->J.go i H/\∀v H',J.ME i H v H'->∃G',Ex G L H G' L H'/\Rl K G' L M H'/\Den K G' L d v
 stop:∀(i:Nat) G L M H,b_ G0 G->Pre L0 L->Rl K G L M H->xs.length<=i->J.stop i H
inductive MA(K:fv)(G0:Hp)(L0:List Addr)(H0:Hp)(q:List Dt->Ms->Prop)(J:It)(H:Hp):Prop
 | mk (xs:List Dt) (G:Hp) (L:List Addr) (M:Ms) (e:Ex G0 L0 H0 G L H) (r:Rl K G L M H) (y:Yl K J xs G L) (h:q xs M)
inductive QY(K:fv)(R:St->XK)(t:DA)(σ:St)(H:Hp)(Q:It->Hp->Prop):Prop
 | mk (G:Hp) (L:List Addr) (ρ:En) (M:Ms) (q:List Dt->Ms->Prop) (x:DX) (r:Rl K G L M H) (n:jT K G L ρ σ) (h:t ρ M q x) (hx:pV K G L H R x) (hQ:∀J H1,MA K G L H q J H1->Q J H1)
def JI(X:Cx)(R:St->XK)(tg iter:Expr)(t:DA):Prop:=PI X tg iter (QY X.K R t)
theorem EA.imp{X:Cx}{δ:List (Addr×Obj)}{σ:St}{tg:Expr}{R R':It->Hp->Prop}(hR:∀J H,R J H->R' J H){v:Value}{s:Shared}(h:EA X δ σ tg R v s):EA X δ σ tg R' v s:=by obtain ⟨it,fp,tn,J,H',a,b,c,d,e,f⟩:=h;exact ⟨it,fp,tn,J,H',a,b,c,d,e,hR J H' f⟩
theorem za{K:fv}{G:Hp}{L:List Addr}{a:Addr}{ds:List Dt}{vs:List V}(h:∀G':Hp,b_ G G'->eQ K G' a vs)(n:Ε K G L ds vs):Yl K (OU K a) ds G L where
 go:=λi G1 L1 M1 H1 d g l r e=>by
  obtain ⟨v,e1,n1⟩:=n.get e;have hs:=h H1 (g.trans r.sub)
  exact ⟨⟨vs,v,hs,e1⟩,λv' H' ⟨eH,y⟩=>by
   subst eH;have e2:=y vs hs;rw [e1] at e2;cases e2
   exact ⟨G1, .refl _ _ _,r,Den.mono g l _ _ n1⟩⟩
 stop:=λi G1 L1 M1 H1 g l r e=>⟨vs,h H1 (g.trans r.sub),by rw [<-n.length];exact e⟩
theorem CP{K:fv}{G:Hp}{L:List Addr}{a:Addr}{ds:List Dt}{vs:List V}(h:∀G':Hp,b_ G G'->iZ K G' a vs)(n:Ε K G L ds vs):Yl K (QP K a) ds G L where
 go:=λi G1 L1 M1 H1 d g l r e=>by
  obtain ⟨v,e1,n1⟩:=n.get e;have hs:=h H1 (g.trans r.sub)
  exact ⟨⟨vs,v,hs,e1⟩,λv' H' ⟨eH,y⟩=>by
   subst eH;have e2:=y vs hs;rw [e1] at e2;cases e2
   exact ⟨G1, .refl _ _ _,r,Den.mono g l _ _ n1⟩⟩
 stop:=λi G1 L1 M1 H1 g l r e=>⟨vs,h H1 (g.trans r.sub),by rw [<-n.length];exact e⟩
def bX(lo:Int)(n:Nat):List Dt:=(List.range n).map λk:Nat=>Dt.int (lo+(k:Int))
theorem Ks{K:fv}{G:Hp}{L:List Addr}{lo:Int}{n:Nat}:Yl K (O2 lo n) (bX lo n) G L where
 go :=λi G1 L1 M1 H1 d g l r e=>by
  unfold bX at e;rw [aah] at e;have hi:i < n:=by
   cases q:(List.range n)[i]? with
   | none=>rw [q] at e;cases e
   | some j=>
    have:=(aad.mp q).1;rwa [abY] at this
  rw [aaV hi] at e;cases e;exact ⟨hi,λv' H' ⟨eH,y⟩=>by subst eH y;exact ⟨G1, .refl _ _ _,r,rfl⟩⟩
 stop:=λi G1 L1 M1 H1 g l r e=>by show n<=i;unfold bX at e;simpa using e
section
variable{X:Cx}{R:St->XK}{tg iter:Expr}
theorem JI.of{wi:TI}{t:DA}(h:PI X tg iter wi)(hw:∀σ H G L ρ M q x,Rl X.K G L M H->jT X.K G L ρ σ->t ρ M q x->pV X.K G L H R x->wi σ H (MA X.K G L H q)):JI X R tg iter t:=by intro δ s σ H Q I ⟨G,L,ρ,M,q,x,r,n,ht,hx,hQ⟩;exact bD (h δ s σ H _ I (hw σ H G L ρ M q x r n ht hx)) λu s1 f=>bD f λu2 s2 f2=>EA.imp hQ f2
def xH(t:DA):DA:=λρ M q x=>t ρ M (λds M1=>match ds with
 | [.int j]=>(-(2 ^ 62)<=j/\j < 2 ^ 62)/\q (bX 0 j.toNat) M1
 | _=>False) x
theorem bA{a:Expr}{t:DA}{p pos:Pos}(hm:X.mg "range"=none)(ha:JA X R [a] t)(hg:Gl X "range":=by rfl)(hs:starEach [a] X.env=[(false,eval a X.env)]:=by rfl):JI X R tg (.Call (.Name "range" p) [a] [] pos) (xH t):=
 .of (zW hg hm ha hs) λσ H G L ρ M q x rl n h hx=>by
  refine ⟨G,L,ρ,M,_,x,rl,n,h,hx,λvs H1 ⟨ds,G1,L1,M1,e1,r1,n1,h1⟩=> ?_⟩
  (try dsimp only at h1)
  split at h1
  ·rename_i j;obtain ⟨v,rfl,n2⟩:=aW n1;have n2:v= .int j:=n2;subst n2;exact ⟨j,rfl,h1.1.1,h1.1.2,_,G1,L1,M1,e1,r1,Ks,h1.2⟩
  ·exact h1.elim
end
def GD(K:fv)(gg:TG)(g:Dt->En->(En->Prop)->Prop):Prop:=
 ∀G L M H d v ρ σ (k:En->Prop) (Q:St->Hp->Prop),Rl K G L M H->Den K G L d v->jT K G L ρ σ->g d ρ k->(∀ρ' σ',jT K G L ρ' σ'->k ρ'->Q σ' H)->gg v σ H Q
def gN(i:Nat):Dt->En->(En->Prop)->Prop:=λd ρ k=>k (ρ.set i (some d))
theorem bo{K:fv}{i:Nat}:GD K (gH i) (gN i):=λG L M H d v ρ σ k Q rl n en h hQ=>hQ _ _ (en.set i n) h
def g2(i j:Nat):Dt->En->(En->Prop)->Prop:=λd ρ k=>match d with
 | .tup [a,b]=>k ((ρ.set i (some a)).set j (some b))
 | _=>False
theorem IC{K:fv}{i j:Nat}:GD K (FN K 2 (mK (gH i) (mK (gH j) EN))) (g2 i j):=λG L M H d v ρ σ k Q rl n en h hQ=>by
 unfold g2 at h;split at h
 ·rename_i a b;obtain ⟨p,vs,rfl,e,n⟩:=n;obtain ⟨v1,v2,rfl,n1,n2⟩:=eh n;exact ⟨p,_,rfl, .inl (.inl (rl.sub _ _ e)),rfl,v1,_,rfl,v2,_,rfl,rfl,hQ _ _ ((en.set i n1).set j n2) h⟩
 ·exact h.elim
def lD(g:Dt->En->(En->Prop)->Prop)(tb:DS)(Dn:ke):List Dt->En->Ms->Prop
 | [],ρ,M=>Dn.nx ρ M
 | x::xs,ρ,M=>g x ρ λρ'=>tb {Dn with nx:=lD g tb Dn xs,ct:=lD g tb Dn xs,bk:=Dn.nx} ρ' M
def LD(ti:DA)(g:Dt->En->(En->Prop)->Prop)(tb:DS):DS:=λDn ρ M=>ti ρ M (λxs M1=>lD g tb Dn xs ρ M1) Dn.x
section
variable{X:Cx}{R:St->XK}{tg iter:Expr}{body:List Stmt}{ti:DA}{gg:TG}{g:Dt->En->(En->Prop)->Prop}{tb:DS}{pos:Pos}
theorem l'(hi:JI X R tg iter ti)(hg:PG X tg gg)(gd:GD X.K gg g)(hb:zT X R body tb)(hp:PassesOwn (model X.prog X.w) X.A X.env X.xe:=by first | exact PassesOwn.never | exact PassesOwn.leaving)(hc:X.calm=true:=by rfl)(hs:∀x,foldedSetIterable iter X.env x=pure x:=by intro _;rfl):
  JS X R (.For tg iter body [] pos) (LD ti g tb):= .of (CK hp hc hi hg hb hs) λσ H G L ρ M Dn rl n h hx=>by
 refine ⟨G,L,ρ,M,_,_,rl,n,h,hx,λJ H1 ⟨xs,G1,L1,M1,e1,r1,y,h1⟩=> ?_⟩;refine ⟨λi m σ' H'=>m+i=xs.length/\dI X.K G1 L1 H1 (λρ' M'=>lD g tb Dn (xs.drop i) ρ' M') σ' H',⟨xs.length,rfl,ρ,G1,L1,M1, .refl _ _ _,r1,n.mono e1,by rw [List.drop_zero];exact h1⟩, ?_⟩;rintro i m σ' H' ⟨hm,ρ',G',L',M',e',r',n',h'⟩;by_cases hi:i < xs.length
 ·right;have hd:xs[i]? =some xs[i]:=aaa hi;obtain ⟨go,yl⟩:=y.go i G' L' M' H' _ e'.g e'.l r' hd;rw [abg hi] at h';refine ⟨go,dI X.K G1 L1 H1 (λρ' M'=>lD g tb Dn (xs.drop (i+1)) ρ' M'),λσ2 H2 f=>⟨m - 1,by omega,by omega,f⟩,λv H2 hy=> ?_⟩;obtain ⟨G2,e2,r2,n2⟩:=yl v H2 hy;refine gd G2 L' M' H2 _ v ρ' σ' _ _ r2 n2 (n'.mono e2) h' λρ3 σ3 n3 h3=> ?_;refine ⟨G2,L',ρ3,M',_,r2,n3,h3,hx.on (e1.trans (e'.trans e2)),⟨λ_ _ f=>dI.back (e'.trans e2) f,λ_ _ f=>Fin.back (e1.trans (e'.trans e2)) f,λ_ _ f=>dI.back (e1.trans (e'.trans e2)) f,λ_ _ f=>dI.back (e'.trans e2) f⟩⟩
 ·left;refine ⟨y.stop i G' L' M' H' e'.g e'.l r' (by omega),ρ',G',L',M',e1.trans e',r',n', ?_⟩;rw [List.drop_eq_nil_of_le (by omega)] at h';exact h'
end
abbrev DK:=En->Ms->(List Dt->(Ms->Prop)->Ms->Prop)->DX->Prop
structure JJ(K:fv)(J:It)(xs:List Dt)(ok:Ms->Prop)(G0:Hp)(L0:List Addr):Prop where
 go:∀(i:Nat) G L M H (d:Dt),b_ G0 G->Pre L0 L->Rl K G L M H->ok M->xs[i]? =some d->J.go i H/\∀v H',J.ME i H v H'->∃G',Ex G L H G' L H'/\Rl K G' L M H'/\Den K G' L d v
 stop:∀(i:Nat) G L M H,b_ G0 G->Pre L0 L->Rl K G L M H->ok M->xs.length<=i->J.stop i H
inductive RZ(K:fv)(G0:Hp)(L0:List Addr)(H0:Hp)(q:List Dt->(Ms->Prop)->Ms->Prop)(J:It)(H:Hp):Prop
 | mk (xs:List Dt) (ok:Ms->Prop) (G:Hp) (L:List Addr) (M:Ms) (e:Ex G0 L0 H0 G L H) (r:Rl K G L M H) (y:JJ K J xs ok G L) (h:q xs ok M)
inductive Q0(K:fv)(R:St->XK)(t:DK)(σ:St)(H:Hp)(Q:It->Hp->Prop):Prop
 | mk (G:Hp) (L:List Addr) (ρ:En) (M:Ms) (q:List Dt->(Ms->Prop)->Ms->Prop) (x:DX) (r:Rl K G L M H) (n:jT K G L ρ σ) (h:t ρ M q x) (hx:pV K G L H R x) (hQ:∀J H1,RZ K G L H q J H1->Q J H1)
def JK(X:Cx)(R:St->XK)(tg iter:Expr)(t:DK):Prop:=PI X tg iter (Q0 X.K R t)
def Rz(t:DA):DK:=λρ M q x=>t ρ M (λxs M1=>q xs (λ_=>True) M1) x
theorem yK{X:Cx}{R:St->XK}{tg iter:Expr}{t:DA}(h:JI X R tg iter t):JK X R tg iter (Rz t):=by intro δ s σ H Q I ⟨G,L,ρ,M,q,x,r,n,ht,hx,hQ⟩;refine h δ s σ H Q I ⟨G,L,ρ,M,_,x,r,n,ht,hx,λJ H1 ⟨xs,G1,L1,M1,e1,r1,y,hq⟩=>hQ J H1 ⟨xs,_,G1,L1,M1,e1,r1,⟨λi G L M H d g l r _ e=>y.go i G L M H d g l r e,λi G L M H g l r _ e=>y.stop i G L M H g l r e⟩,hq⟩⟩
def lF(Θ:List Nat)(ρ:En):En:=Θ.map λi=>(ρ[i]?).join
def gW(g:Dt->En->(En->Prop)->Prop)(tc:DT)(te:DE)(ρ0:En)(ok:Ms->Prop):List Dt->List Dt->Ms->(List Dt->Ms->Prop)->Prop
 | [],ae,M,k=>ok M/\k ae M
 | x::xs,ae,M,k=>ok M/\g x ρ0 λρ'=>tc ρ' M (λb M1=>match b with
  | true=>te ρ' M1 (λd M2=>gW g tc te ρ0 ok xs (ae++[d]) M2 k) jj
  | false=>gW g tc te ρ0 ok xs ae M1 k) jj
def yd(n:Nat)(ti:DK)(g:Dt->En->(En->Prop)->Prop)(tc:DT)(te:DE)(Θ:List Nat):DE:=λρ M q x=>ti ρ M (λxs ok M1=>xs.length<=sizeLine/\gW g tc te (List.replicate n none++lF Θ ρ) ok xs [] M1 (λys M2=>q (.lst ys) M2)) x
theorem FZ{K:fv}{G:Hp}{L:List Addr}{ρ:En}{σ os:St}{n:Nat}(h:jT K G L ρ σ)(Θ:List Nat)(hl:os.length=n):jT K G L (List.replicate n none++lF Θ ρ) (os++lT Θ σ):=by
 have lc:(lF Θ ρ).length=(lT Θ σ).length:=by unfold lF lT;simp
 refine ⟨by rw [aag,aag,aaZ,hl,lc],λi d' e=> ?_⟩;by_cases hi:i < n
 ·rw [aaE (by rw [aaZ];exact hi),List.getElem?_replicate,aaI hi] at e;cases e
 ·rw [aaw (by rw [aaZ];omega),aaZ] at e;rw [aaw (by omega),hl];unfold lF at e;unfold lT;rw [aah] at e⊢;cases q:Θ[i - n]? with
  | none=>rw [q] at e;cases e
  | some j=>
   rw [q] at e;have e:(ρ[j]?).join=some d':=aaA e;have e:ρ[j]? =some (some d'):=by
    cases z:ρ[j]? with
    | none=>rw [z] at e;cases e
    | some o=>rw [z] at e;exact aa3 some e
   obtain ⟨v,hv,dn⟩:=h.gh j d' e;exact ⟨v,by show some ((σ[j]?).join)=_;rw [hv];rfl,dn⟩
theorem oS{K:fv}{J:It}{gg:TG}{g:Dt->En->(En->Prop)->Prop}{tc:DT}{te:DE}{Θ:List Nat}{nn:Nat}{ρ:En}{σ:St}{G1:Hp}{L1:List Addr}{M1:Ms}{H1:Hp}{xs:List Dt}{ok:Ms->Prop}{Dl:Addr}{Q:VK}{k:List Dt->Ms->Prop}(gd:GD K gg g)(r1:Rl K G1 L1 M1 H1)(n:jT K G1 L1 ρ σ)(y:JJ K J xs ok G1 L1)(hD:H1 Dl=none)(hz:xs.length<=sizeLine)
  (h:gW g tc te (List.replicate nn none++lF Θ ρ) ok xs [] M1 k)
  (fin:∀G2 L2 M2 H2 ds vs,Ex G1 L1 H1 G2 L2 H2->Rl K G2 L2 M2 H2->G2 Dl=none->Dl∉L2->H2 Dl=some (.lst vs)->Ε K G2 L2 ds vs->k ds M2->Q (.ref Dl) H2):
  wq J nn gg (wV K (λ_=>E0) tc) (rQ K (λ_=>E0) te) (lT Θ σ) Q H1 Dl:=by
 refine ⟨λi m ys H2=>m+i=xs.length/\H2 Dl=some (.lst ys)/\∃ae G2 L2 M2,Ex G1 L1 H1 G2 L2 H2/\Rl K G2 L2 M2 H2/\G2 Dl=none/\Dl∉L2/\Ε K G2 L2 ae ys/\ae.length<=i/\gW g tc te (List.replicate nn none++lF Θ ρ) ok (xs.drop i) ae M2 k,⟨xs.length,rfl,Ο,[],G1,L1,M1, ?_⟩, ?_⟩
 ·have gn:G1 Dl=none:=r1.sub.free hD;refine ⟨⟨.refl _, .refl _,λ_ h _=>h,λb u h1 _=>by rw [Β (λz=>by rw [z,hD] at h1;cases h1)];exact h1,λ_ h=> .inl h,λb h=>by rw [Β (λz=>h (by rw [z];exact hD))];exact h⟩,⟨λb u e=>by rw [Β (λz=>by rw [z,gn] at e;cases e)];exact r1.sub b u e,r1.len,r1.nd,λi a m h1 h2=> ?_⟩,gn,r1.LJ hD,rfl,aal _,by rw [List.drop_zero];exact h⟩;obtain ⟨q1,q2⟩:=r1.gh i a m h1 h2;exact ⟨q1,q2.mono (.refl _) (.refl _) (Β λz=>q2.there (by rw [z];exact hD))⟩
 ·rintro i m ys H2 ⟨hm,oK,ae,G2,L2,M2,e2,r2,g2,l2,n2,la,h2⟩;refine ⟨oK, ?_⟩;have ne1:∀{b:Addr} {u:HO},H1 b=some u->b≠Dl:=λe z=>by rw [z,hD] at e;cases e
  by_cases hi:i < xs.length
  ·right;have hd:xs[i]? =some xs[i]:=aaa hi;rw [abg hi] at h2;obtain ⟨aJ,h2⟩:=h2;obtain ⟨go,yl⟩:=y.go i G2 L2 M2 H2 _ e2.g e2.l r2 aJ hd;refine ⟨go,λv H3 hy os IW=> ?_⟩;obtain ⟨G3,e3,r3,n3⟩:=yl v H3 hy;have h3:H3 Dl=some (.lst ys):=e3.out _ _ oK l2;have g3:G3 Dl=none:=e3.fr _ g2 (by rw [oK];simp);refine gd G3 L2 M2 H3 _ v _ _ _ _ r3 n3 (FZ ((n.mono e2).mono e3) Θ IW) h2 λρ' σ' n' h'=> ?_;refine ⟨G3,L2,ρ',M2,_,jj,r3,n',h',Bs,λb H4 ⟨G4,L4,M4,e4,r4,h4⟩=> ?_⟩;have O_:H4 Dl=some (.lst ys):=e4.out _ _ h3 l2;have g4:G4 Dl=none:=e4.fr _ g3 (by rw [h3];simp);have l4:Dl∉L4:=λz=>(e4.new _ z).elim l2 λq=>by rw [h3] at q;cases q
   have OX:=e3.trans e4;cases b with
   | false=>
    exact ⟨m - 1,by omega,by omega,O_,ae,G4,L4,M4,e2.trans OX,r4,g4,l4,Ε.mono OX.g OX.l _ _ n2,by omega,h4⟩
   | true=>
    refine ⟨G4,L4,ρ',M4,_,jj,r4,n'.mono e4,h4,Bs,λv5 H5 ⟨d5,G5,L5,M5,e5,r5,n5,h5⟩=> ?_⟩;have VC:H5 Dl=some (.lst ys):=e5.out _ _ O_ l4;have g5:G5 Dl=none:=e5.fr _ g4 (by rw [O_];simp);have l5:Dl∉L5:=λz=>(e5.new _ z).elim l4 λq=>by rw [O_] at q;cases q
    have Sw:=OX.trans e5;have SJ:ys.length=ae.length:=by rw [<-n2.length]
    refine ⟨VC,by omega,m - 1,by omega,by omega,Ο,ae++[d5],G5,L5,M5, ?_, ?_,g5,l5,(Ε.mono Sw.g Sw.l _ _ n2).app ⟨_,_,rfl,n5,rfl⟩,by rw [aag];show ae.length+1<=i+1;omega,h5⟩
    ·have K':=e2.trans Sw
     exact ⟨K'.g,K'.l,K'.fr,λb u h1 h2=>by rw [Β (ne1 h1)];exact K'.out b u h1 h2,K'.new,λb h=>by
      by_cases hb:b=Dl
      ·rw [hb,Ο];simp
      ·rw [Β hb];exact K'.A9 b h⟩
    ·refine ⟨λb u e=>by rw [Β (λz=>by rw [z,g5] at e;cases e)];exact r5.sub b u e,r5.len,r5.nd,λi a m h1 h2=> ?_⟩;obtain ⟨q1,q2⟩:=r5.gh i a m h1 h2;exact ⟨q1,q2.mono (.refl _) (.refl _) (Β λz=>l5 (by rw [<-z];exact aat h1))⟩
  ·left;rw [List.drop_eq_nil_of_le (by omega)] at h2;exact ⟨y.stop i G2 L2 M2 H2 e2.g e2.l r2 h2.1 (by omega),fin G2 L2 M2 H2 ae ys e2 r2 g2 l2 oK n2 h2.2⟩
section
variable{K:fv}{G1:Hp}{L1:List Addr}{H1 G:Hp}{L:List Addr}{M:Ms}{H:Hp}{p:Addr}{ds:List Dt}{vs:List V}{q:DQ}
theorem zo(e:Ex G1 L1 H1 G L H)(r:Rl K G L M H)(GK:H1 p=none)(hg:G p=none)(hl:p∉L)(h:H p=some (.lst vs))(n:Ε K G L ds vs)(k:q (.lst ds) M):Fin K G1 L1 H1 q (.ref p) H:=by
 have g1:b_ G (upd G p (.lst vs)):=λb u e=>by rw [Β (λz=>by rw [z,hg] at e;cases e)];exact e
 refine ⟨.lst ds,upd G p (.lst vs),L,M,⟨e.g.trans g1,e.l,λb h1 h2=> ?_,e.out,e.new,e.A9⟩,⟨λb u e=> ?_,r.len,r.nd,λk a m h1 h2=> ?_⟩,⟨p,vs,rfl,Ο,Ε.mono g1 (.refl _) _ _ n⟩,k⟩
 ·rw [Β (λz=>h2 (by rw [z];exact GK))];exact e.fr b h1 h2
 ·by_cases hb:b=p
  ·rw [hb,Ο] at e;rw [hb];cases e;exact h
  ·rw [Β hb] at e;exact r.sub b u e
 ·obtain ⟨q1,q2⟩:=r.gh k a m h1 h2;have hb:a≠p:=λz=>hl (by rw [<-z];exact aat h1);exact ⟨by rw [Β hb];exact q1,q2.mono g1 (.refl _) rfl⟩
theorem Fx(e:Ex G1 L1 H1 G L H)(r:Rl K G L M H)(GK:H1 p=none)(hg:G p=none)(hl:p∉L)(h:H p=some (.lst vs))(n:Ε K G L ds vs)(k:q (.loc M.length) (M++[.lst ds])):Fin K G1 L1 H1 q (.ref p) H:=by
 refine ⟨.loc M.length,G,L++[p],M++[.lst ds],⟨e.g,e.l.trans ⟨[p],rfl⟩,e.fr,e.out,λb hb=> ?_,e.A9⟩,⟨r.sub,by rw [List.length_append,List.length_append,r.len];rfl,List.nodup_append.mpr ⟨r.nd,by simp,λa ha b hb=> ?_⟩,λk a m h1 h2=> ?_⟩,⟨p,rfl,by rw [<-r.len,List.getElem?_append_right (Nat.le_refl _)];simp⟩,k⟩
 ·rcases aaQ.mp hb with z | z
  ·exact e.new b z
  ·have e:b=p:=by simpa using z
   right;rw [e];exact GK
 ·have e:b=p:=by simpa using hb
  rw [e];exact λz=>hl (z▸ha)
 ·by_cases hk:k < L.length
  ·rw [aaE hk] at h1;rw [aaE (by rw [<-r.len];exact hk)] at h2;obtain ⟨q1,q2⟩:=r.gh k a m h1 h2;exact ⟨q1,q2.mono (.refl _) ⟨[p],rfl⟩ rfl⟩
  ·have e:k=L.length:=by have:=(aad.mp h1).1;rw [aag] at this;simp at this;omega
   rw [e,aaw (aal _)] at h1;rw [e,r.len,aaw (aal _)] at h2;simp at h1 h2;subst h1 h2;exact ⟨hg,vs,h,Ε.mono (.refl _) ⟨[p],rfl⟩ _ _ n⟩
def OJ(b:Bool)(q:DQ)(ys:List Dt)(M:Ms):Prop:=match b with
 | false=>q (.lst ys) M
 | true=>q (.loc M.length) (M++[.lst ys])
theorem yP{b:Bool}(e:Ex G1 L1 H1 G L H)(r:Rl K G L M H)(GK:H1 p=none)(hg:G p=none)(hl:p∉L)(h:H p=some (.lst vs))(n:Ε K G L ds vs)(k:OJ b q ds M):Fin K G1 L1 H1 q (.ref p) H:=by
 cases b
 ·exact zo e r GK hg hl h n k
 ·exact Fx e r GK hg hl h n k
end
theorem cn{n i:Nat}(h:i < n):v_ n (gH i):=λv os cs H Q hl hq=>⟨⟨os.set i (some v),by rw [abj];exact hl,List.set_append_left _ _ (by omega)⟩,hq⟩
section
variable{X:Cx}{elt iter tg:Expr}{xs:List Str}{scope:Scope}{pos:Pos}{ys:List Str}{Θ:List Nat}
theorem eC{i:Nat}{x:Str}{px:Pos}(S:aj X scope xs ys Θ)(h:xs[i]? =some x)(C:Addr)(s:Shared)(H:Hp)(fp:List Addr):PG (Cx.comp X (xs++ys) scope C s H fp) (.Name x px) (gH i):=by
 have hm:x∈xs:=aat h;have hi:(xs++ys)[i]? =some x:=by rw [aaE (aad.mp h).1];exact h
 exact au S.nd hi (.inl (lookup_relabel_local (S.own x hm))) (.inr (lookup_relabel_local (S.own x hm)))
end
def qL:DT:=λ_ M q _=>q true M
def Q7(X:Cx)(cs:List Expr)(t:DT):Prop:=Pf X cs (wV X.K (λ_=>E0) t)
theorem iL{X:Cx}:Q7 X [] qL:=⟨.inl rfl,λδ s σ H Q I ⟨G,L,ρ,M,q,x,r,n,h,hx,hQ⟩=>aae ⟨H,I,hQ true H ⟨G,L,M, .refl _ _ _,r,h⟩⟩⟩
theorem Fj{X:Cx}{c:Expr}{t:DT}(h:JT X (λ_=>E0) c t):Q7 X [c] t:=⟨.inr ⟨c,rfl⟩,h⟩
def HQ(b:Bool)(g:Dt->En->(En->Prop)->Prop)(tc:DT)(te:DE)(cs:En)(q:DQ):List Dt->(Ms->Prop)->Ms->Prop:=λzs ok M1=>zs.length<=sizeLine/\gW g tc te cs ok zs [] M1 (OJ b q)
section
variable{X:Cx}{R:St->XK}{elt iter tg:Expr}{cs:List Expr}{xs:List Str}{scope:Scope}{pos:Pos}{gg:TG}{g:Dt->En->(En->Prop)->Prop}{ti:DK}{tc:DT}{te:DE}{ys:List Str}{Θ:List Nat}(b:Bool)(S:aj X scope xs ys Θ)(hi:JK X R tg iter ti)(hg:∀C s H fp,PG (Cx.comp X (xs++ys) scope C s H fp) tg gg)(gd:GD X.K gg g)(hk:v_ xs.length gg)(ht:∀C s H fp,Q7 (Cx.comp X (xs++ys) scope C s H fp) cs tc)(he:∀C s H fp,JE (Cx.comp X (xs++ys) scope C s H fp) (λ_=>E0) elt te)(hc:X.calm=true)(hs:∀x,foldedSetIterable iter X.env x=pure x)
include S hi hg gd hk ht he hc hs
theorem P6{t:DE}(e:∀ρ M q x,t ρ M q x->ti ρ M (HQ b g tc te (List.replicate xs.length none++lF Θ ρ) q) x):JE X R (.ListComp elt [⟨tg,iter,cs,0⟩] scope pos) t:=
 .of (DW (tc:=wV X.K (λ_=>E0) tc) (te:=rQ X.K (λ_=>E0) te) S hc hi hg hk ht he hs) λσ H G L ρ M q x rl n h hx=>⟨G,L,ρ,M,_,x,rl,n,e _ _ _ _ h,hx,λJ H1 ⟨xs,ok,G1,L1,M1,e1,r1,y,hz,h1⟩ D hD=>oS gd r1 (n.mono e1) y hD hz h1 λG2 L2 M2 H2 ds vs e2 r2 g2 l2 h2 n2 k=>Fin.back e1 (yP e2 r2 hD g2 l2 h2 n2 k)⟩
theorem PK{i:Nat}{y:Str}{py h7:Pos}(hN:X.N.Nodup)(Dh:X.N[i]? =some y)(hy:Loc X.env.scope y)(Es:swapsWith (.ListComp elt [⟨tg,iter,cs,0⟩] scope pos) (some (.Name y py)) h7.line X.env=pure true)(hf:X.fn y=true\/X.env.scope.names.lookup y=some .local){t:DE}(e:∀ρ M q x,t ρ M q x->ti ρ M (HQ b g tc te (List.replicate xs.length none++lF Θ ρ) q) x):
  JS X R (.Assign [.Name y py] (.ListComp elt [⟨tg,iter,cs,0⟩] scope pos) h7) (zB i t):= .of (mG (tc:=wV X.K (λ_=>E0) tc) (te:=rQ X.K (λ_=>E0) te) hN Dh hy S hc hi hg hk ht he Es hs hf) λσ H G L ρ M Dn rl n h hx=>by
 refine ⟨G,L,ρ,M,_,_,rl,n,e _ _ _ _ h,hx,λJ H1 ⟨xs,ok,G1,L1,M1,e1,r1,y,hz,h1⟩ D hD=>oS gd r1 (n.mono e1) y hD hz h1 λG2 L2 M2 H2 ds vs e2 r2 g2 l2 h2 n2 k=> ?_⟩;obtain ⟨d,G3,L3,M3,e3,r3,n3,h3⟩:=yP (q:=λd M=>Dn.nx (ρ.set i (some d)) M) e2 r2 hD g2 l2 h2 n2 k;exact ⟨_,G3,L3,M3,e1.trans e3,r3,((n.mono e1).mono e3).set i n3,h3⟩
end
def mv(te:DE)(cs:En):List Dt->List Dt->Ms->(List Dt->Ms->Prop)->Prop
 | [],ae,M,k=>k ae M
 | x::xs,ae,M,k=>te (some x::cs) M (λd M1=>mv te cs xs (ae++[d]) M1 k) jj
def nZ(ti:DA)(te:DE)(Θ:List Nat):DE:=λρ M q x=>ti ρ M (λxs M1=>xs.length<=sizeLine/\mv te (lF Θ ρ) xs [] M1 (λys M2=>q (.lst ys) M2)) x
theorem sM{te:DE}{cs:En}:∀xs,mv te cs xs=gW (gN 0) qL te (none::cs) (λ_=>True) xs
 | []=>funext λae=>funext λM=>funext λk=>(true_and _).symm
 | x::xs=>funext λae=>funext λM=>funext λk=>by show te (some x::cs) M (λd M1=>mv te cs xs (ae++[d]) M1 k) jj=(True/\te (some x::cs) M (λd M1=>gW (gN 0) qL te (none::cs) (λ_=>True) xs (ae++[d]) M1 k) jj);rw [sM xs,true_and]
section
variable{X:Cx}{R:St->XK}{elt iter:Expr}{x:Str}{px:Pos}{scope:Scope}{pos:Pos}{ti:DA}{te:DE}{ys:List Str}{Θ:List Nat}
theorem tT(S:aj X scope [x] ys Θ)(hi:JI X R (.Name x px) iter ti)(he:∀C s H fp,JE (Cx.comp X (x::ys) scope C s H fp) (λ_=>E0) elt te)(hc:X.calm=true:=by rfl)(hs:∀x,foldedSetIterable iter X.env x=pure x:=by intro _;rfl):JE X R (.ListComp elt [⟨.Name x px,iter,[],0⟩] scope pos) (nZ ti te Θ):=P6 false S (yK hi) (eC S (i:=0) rfl) bo (cn (Nat.zero_lt_succ 0)) (λ_ _ _ _=>iL) he hc hs λρ M q x h=>by unfold nZ at h;simp only [sM] at h;exact h
theorem xi{i:Nat}{y:Str}{py h7:Pos}(hN:X.N.Nodup)(Dh:X.N[i]? =some y)(hy:Loc X.env.scope y)(S:aj X scope [x] ys Θ)(hi:JI X R (.Name x px) iter ti)(he:∀C s H fp,JE (Cx.comp X (x::ys) scope C s H fp) (λ_=>E0) elt te)(hc:X.calm=true:=by rfl)(Es:swapsWith (.ListComp elt [⟨.Name x px,iter,[],0⟩] scope pos) (some (.Name y py)) h7.line X.env=pure true:=by rfl)(hs:∀x,foldedSetIterable iter X.env x=pure x:=by intro _;rfl)(hf:X.fn y=true\/X.env.scope.names.lookup y=some .local:=by first | exact .inl rfl | exact .inr rfl | assumption):JS X R (.Assign [.Name y py] (.ListComp elt [⟨.Name x px,iter,[],0⟩] scope pos) h7) (zB i (nZ ti te Θ)):=PK false S (yK hi) (eC S (i:=0) rfl) bo (cn (Nat.zero_lt_succ 0)) (λ_ _ _ _=>iL) he hc hs hN Dh hy Es hf λρ M q x h=>by unfold nZ at h;simp only [sM] at h;exact h
end
theorem fin_same{K:fv}{G0:Hp}{L0:List Addr}{H0 G:Hp}{L:List Addr}{M:Ms}{H:Hp}{d:Dt}{v:V}{q:DQ}(e:Ex G0 L0 H0 G L H)(r:Rl K G L M H)(n:Den K G L d v)(h:q d M):Fin K G0 L0 H0 q v H:=⟨d,G,L,M,e,r,n,h⟩
theorem bE{K:fv}{G0:Hp}{L0:List Addr}{H0 G:Hp}{L:List Addr}{M:Ms}{H:Hp}{d:Dt}{v:V}{q:DQ}(e:Ex G0 L0 H0 G L H)(r:Rl K G L M H)(h:q d M)(n:Den K G L d v:=by rfl):Fin K G0 L0 H0 q v H:=⟨d,G,L,M,e,r,n,h⟩
def ky:Dt->Dt->Ms->DQ->Prop
 | .int i, .int j,M,q=>q (.int (i+j)) M
 | .str a, .str b,M,q=>a.length+b.length<=sizeLine/\q (.str (a++b)) M
 | .lst a, .lst b,M,q=>a.length+b.length<=sizeLine/\q (.lst (a++b)) M
 | .tup a, .tup b,M,q=>(a≠[]/\a.length+b.length<=sizeLine)/\q (.tup (a++b)) M
 | _,_,_,_=>False
def Fz:Dt->Dt->Ms->DQ->Prop
 | .int i, .int j,M,q=>q (.int (i - j)) M
 | _,_,_,_=>False
def K1:Dt->Dt->Ms->DQ->Prop
 | .int i, .int j,M,q=>(gA i/\gA j)/\q (.int (i * j)) M
 | .lst a, .int k,M,q=>(-(2 ^ 63)<=k/\k < 2 ^ 63/\a.length * k.toNat<=sizeLine)/\q (.lst (List.replicate k.toNat a).flatten) M
 | _,_,_,_=>False
def IK:Dt->Dt->Ms->DQ->Prop
 | .int i, .int j,M,q=>(0 < j/\gA j)/\q (.int (i / j)) M
 | _,_,_,_=>False
def CT:Dt->Dt->Ms->DQ->Prop
 | .int i, .int j,M,q=>(j≠0/\gA j)/\q (.int (i.fdiv j)) M
 | _,_,_,_=>False
def Ih:Dt->Dt->Ms->DQ->Prop
 | .int i, .int j,M,q=>0 < j/\q (.int (i % j)) M
 | _,_,_,_=>False
def Kk:Dt->Dt->Ms->DQ->Prop
 | .int i, .int j,M,q=>oB i j/\q (.int (i ^ j.toNat)) M
 | _,_,_,_=>False
def Ar:Dt->Ms->DQ->Prop
 | .int i,M,q=>q (.int (-i)) M
 | _,_,_=>False
section
variable{K:fv}
theorem Ql:pJ K (λx y H Q=>(∃i j,x=V.int i/\y= .int j/\Q (.int (i+j)) H)\/(∃i j,x=V.str i/\y= .str j/\i.length+j.length<=sizeLine/\Q (.str (i++j)) H)\/Ot x y H Q\/Hy K x y H Q) ky:=by
 intro G0 L0 H0 G L M H v1 v2 d1 d2 q e r n1 n2 h;unfold ky at h;split at h
 ·rename_i i j;exact .inl ⟨i,j,n1,n2,bE e r h⟩
 ·rename_i a b;exact .inr (.inl ⟨a,b,n1,n2,h.1,bE e r h.2⟩)
 ·rename_i a b;obtain ⟨p1,w1,rfl,e1,m1⟩:=n1;obtain ⟨p2,w2,rfl,e2,m2⟩:=n2;refine .inr (.inr (.inl ⟨p1,p2,w1,w2,rfl,rfl,r.sub _ _ e1,r.sub _ _ e2,by rw [<-m1.length,<-m2.length];exact h.1,λp hp=> ?_⟩));exact gq e r hp (rL r hp (m1.app m2)) h.2
 ·rename_i a b;obtain ⟨p1,w1,rfl,e1,m1⟩:=n1;obtain ⟨p2,w2,rfl,e2,m2⟩:=n2;have ne:w1≠[]:=λz=>h.1.1 (by have:=m1.length;rw [z] at this;exact List.eq_nil_of_length_eq_zero this);refine .inr (.inr (.inr ⟨p1,p2,w1,w2,rfl,rfl, .inl (.inl (r.sub _ _ e1)), .inl (.inl (r.sub _ _ e2)),ne,by rw [<-m1.length,<-m2.length];exact h.1.2,λz=> ?_,λ_ p hp=> ?_⟩))
  ·have hb:b=[]:=by have:=m2.length;rw [z] at this;exact List.eq_nil_of_length_eq_zero this
   subst hb;rw [aaU] at h;exact fin_same (d:= .tup a) e r ⟨p1,w1,rfl,e1,m1⟩ h.2
  ·exact gq e r hp (j_ r hp (m1.app m2)) h.2
 ·exact h.elim
theorem PB:pJ K (Am λi j=> .int (i - j)) Fz:=by
 intro G0 L0 H0 G L M H v1 v2 d1 d2 q e r n1 n2 h;unfold Fz at h;split at h
 ·exact ⟨_,_,n1,n2,bE e r h⟩
 ·exact h.elim
theorem RS:pJ K (λx y H Q=>(rI (λi j=>gA i/\gA j) λi j=> .int (i * j)) x y H Q\/NF x y H Q) K1:=by
 intro G0 L0 H0 G L M H v1 v2 d1 d2 q e r n1 n2 h;unfold K1 at h;split at h
 ·exact .inl ⟨_,_,n1,n2,h.1,bE e r h.2⟩
 ·rename_i a k;obtain ⟨p1,w1,rfl,e1,m1⟩:=n1;refine .inr ⟨p1,k,w1,rfl,n2,r.sub _ _ e1,h.1.1,h.1.2.1,by rw [<-m1.length];exact h.1.2.2,λp hp=> ?_⟩;exact gq e r hp (rL r hp (.of (zj m1.pair k.toNat))) h.2
 ·exact h.elim
theorem RW:pJ K (rI (λ_ j=>j≠0/\gA j) λi j=> .int (i.fdiv j)) IK:=by
 intro G0 L0 H0 G L M H v1 v2 d1 d2 q e r n1 n2 h;unfold IK at h;split at h
 ·rename_i i j;have h0:=h.1.1;refine ⟨_,_,n1,n2,⟨by omega,h.1.2⟩,fin_same (d:= .int (i.fdiv j)) e r rfl ?_⟩;rw [abM i (aaT h0)];exact h.2
 ·exact h.elim
theorem Oy:pJ K (rI (λ_ j=>j≠0/\gA j) λi j=> .int (i.fdiv j)) CT:=by
 intro G0 L0 H0 G L M H v1 v2 d1 d2 q e r n1 n2 h;unfold CT at h;split at h
 ·exact ⟨_,_,n1,n2,h.1,bE e r h.2⟩
 ·exact h.elim
theorem Qa:pJ K (rI (λ_ j=>0 < j) λi j=> .int (i % j)) Ih:=by
 intro G0 L0 H0 G L M H v1 v2 d1 d2 q e r n1 n2 h;unfold Ih at h;split at h
 ·exact ⟨_,_,n1,n2,h.1,bE e r h.2⟩
 ·exact h.elim
theorem Q4:pJ K (rI oB λi j=> .int (i ^ j.toNat)) Kk:=by
 intro G0 L0 H0 G L M H v1 v2 d1 d2 q e r n1 n2 h;unfold Kk at h;split at h
 ·exact ⟨_,_,n1,n2,h.1,bE e r h.2⟩
 ·exact h.elim
theorem Qb:RJ K (rU λi=> .int (-i)) Ar:=by
 intro G0 L0 H0 G L M H v1 d1 q e r n1 h;unfold Ar at h;split at h
 ·exact ⟨_,n1,bE e r h⟩
 ·exact h.elim
end
section
variable{X:Cx}{R:St->XK}{a b c:Expr}{ta tb:DE}{pos:Pos}
theorem ak(ja:JE X R a ta)(jb:JE X R b tb):JE X R (.BinOp a .Add b pos) (iH ky ta tb):=yb (Jo.or (xT.or (J8.or EI))) Ql ja jb
theorem oY(ja:JE X R a ta)(jb:JE X R b tb):JE X R (.BinOp a .Sub b pos) (iH Fz ta tb):=yb K5 PB ja jb
theorem br(ja:JE X R a ta)(jb:JE X R b tb):JE X R (.BinOp a .Mult b pos) (iH K1 ta tb):=yb (EK.or II) RS ja jb
theorem bO(ja:JE X R a ta)(jb:JE X R b tb):JE X R (.BinOp a .FloorDiv b pos) (iH IK ta tb):=yb vf RW ja jb
theorem Bf(ja:JE X R a ta)(jb:JE X R b tb):JE X R (.BinOp a .FloorDiv b pos) (iH CT ta tb):=yb vf Oy ja jb
theorem aD(ja:JE X R a ta)(jb:JE X R b tb):JE X R (.BinOp a .Mod b pos) (iH Ih ta tb):=yb KC Qa ja jb
theorem fM(ja:JE X R a ta)(jb:JE X R b tb):JE X R (.BinOp a .Pow b pos) (iH Kk ta tb):=yb Jh Q4 ja jb
theorem qS(ja:JE X R a ta):JE X R (.UnaryOp .USub a pos) (Le Ar ta):=QX J_ Qb ja
end
def Ph:Dt->Dt->Ms->DQ->Prop
 | .int i, .int j,M,q=>q (.bl (decide (i < j))) M
 | _,_,_,_=>False
def P0:Dt->Dt->Ms->DQ->Prop
 | .int i, .int j,M,q=>q (.bl (decide (i<=j))) M
 | _,_,_,_=>False
def PV:Dt->Dt->Ms->DQ->Prop
 | .int i, .int j,M,q=>q (.bl (decide (j < i))) M
 | _,_,_,_=>False
def PF:Dt->Dt->Ms->DQ->Prop
 | .int i, .int j,M,q=>q (.bl (decide (j<=i))) M
 | _,_,_,_=>False
def vY:Dt->Option V
 | .bf=>some .bf
 | .bl b=>some (.bl b)
 | .int i=>some (.int i)
 | .str x=>some (.str x)
 | _=>none
def iz:List Dt->Option (List V)
 | []=>some []
 | d::ds=>match vY d,iz ds with
  | some v,some vs=>some (v::vs)
  | _,_=>none
section
variable{K:fv}{G:Hp}{L:List Addr}
theorem kB{d:Dt}{v u:V}(h:vY d=some u)(n:Den K G L d v):v=u/\cE u=true:=by cases d <;> first | (cases h;exact ⟨n,rfl⟩) | cases h
theorem dM:∀{ds:List Dt} {vs us:List V},iz ds=some us->Ε K G L ds vs->vs=us/\us.all cE=true
 | [],vs,us,h,n=>by cases h;exact ⟨n,rfl⟩
 | d::ds,_,us,h,⟨v,r,e,n1,n2⟩=>by
  subst e;unfold iz at h;split at h
  ·rename_i u1 u2 h1 h2;cases h;obtain ⟨a1,a2⟩:=kB h1 n1;obtain ⟨b1,b2⟩:=dM h2 n2;subst a1 b1;exact ⟨rfl,by rw [abE,a2,b2];rfl⟩
  ·cases h
end
def F0:Dt->Dt->Ms->DQ->Prop
 | .int i, .int j,M,q=>q (.bl (decide (i=j))) M
 | .str i, .str j,M,q=>q (.bl (decide (i=j))) M
 | .bl i, .bl j,M,q=>q (.bl (decide (i=j))) M
 | .tup a, .tup b,M,q=>match iz a,iz b with
  | some us,some vs=>q (.bl (oI us vs)) M
  | _,_=>False
 | _,_,_,_=>False
def JN:Dt->Dt->Ms->DQ->Prop
 | .int i, .int j,M,q=>q (.bl (!decide (i=j))) M
 | .str i, .str j,M,q=>q (.bl (!decide (i=j))) M
 | .bl i, .bl j,M,q=>q (.bl (!decide (i=j))) M
 | .tup a, .tup b,M,q=>match iz a,iz b with
  | some us,some vs=>q (.bl (!oI us vs)) M
  | _,_=>False
 | _,_,_,_=>False
section
variable{K:fv}
theorem SK:pJ K (Am λi j=> .bl (decide (i < j))) Ph:=by
 intro G0 L0 H0 G L M H v1 v2 d1 d2 q e r n1 n2 h;unfold Ph at h;split at h
 ·exact ⟨_,_,n1,n2,bE e r h⟩
 ·exact h.elim
theorem WX:pJ K (Am λi j=> .bl (decide (i<=j))) P0:=by
 intro G0 L0 H0 G L M H v1 v2 d1 d2 q e r n1 n2 h;unfold P0 at h;split at h
 ·exact ⟨_,_,n1,n2,bE e r h⟩
 ·exact h.elim
theorem Va:pJ K (Am λi j=> .bl (decide (j < i))) PV:=by
 intro G0 L0 H0 G L M H v1 v2 d1 d2 q e r n1 n2 h;unfold PV at h;split at h
 ·exact ⟨_,_,n1,n2,bE e r h⟩
 ·exact h.elim
theorem XD:pJ K (Am λi j=> .bl (decide (j<=i))) PF:=by
 intro G0 L0 H0 G L M H v1 v2 d1 d2 q e r n1 n2 h;unfold PF at h;split at h
 ·exact ⟨_,_,n1,n2,bE e r h⟩
 ·exact h.elim
theorem iJ{p q:Prop} [Decidable p] [Decidable q](h:p↔q):decide p=decide q:=decide_eq_decide.mpr h
theorem Ov:pJ K (λx y H Q=>Tf x y H Q\/MU K x y H Q) F0:=by
 intro G0 L0 H0 G L M H v1 v2 d1 d2 q e r n1 n2 h;unfold F0 at h;split at h
 ·rename_i i j;cases n1;cases n2;exact .inl ⟨rfl,fin_same (d:= .bl _) e r (by show V.bl _=V.bl _;rw [iJ (p:=V.int i=V.int j) (q:=i=j) ⟨λz=>V.int.inj z,λz=>by rw [z]⟩]) h⟩
 ·rename_i i j;cases n1;cases n2;exact .inl ⟨rfl,fin_same (d:= .bl _) e r (by show V.bl _=V.bl _;rw [iJ (p:=V.str i=V.str j) (q:=i=j) ⟨λz=>V.str.inj z,λz=>by rw [z]⟩]) h⟩
 ·rename_i i j;cases n1;cases n2;exact .inl ⟨rfl,fin_same (d:= .bl _) e r (by show V.bl _=V.bl _;rw [iJ (p:=V.bl i=V.bl j) (q:=i=j) ⟨λz=>V.bl.inj z,λz=>by rw [z]⟩]) h⟩
 ·rename_i a b;obtain ⟨p1,w1,rfl,e1,m1⟩:=n1;obtain ⟨p2,w2,rfl,e2,m2⟩:=n2;split at h
  ·rename_i us vs h1 h2;obtain ⟨rfl,a2⟩:=dM h1 m1;obtain ⟨rfl,b2⟩:=dM h2 m2;exact .inr ⟨p1,p2,_,_,rfl,rfl, .inl (.inl (r.sub _ _ e1)), .inl (.inl (r.sub _ _ e2)),a2,b2,bE e r h⟩
  ·exact h.elim
 ·exact h.elim
theorem RQ:pJ K (λx y H Q=>Ta x y H Q\/M9 K x y H Q) JN:=by
 intro G0 L0 H0 G L M H v1 v2 d1 d2 q e r n1 n2 h;unfold JN at h;split at h
 ·rename_i i j;cases n1;cases n2;exact .inl ⟨rfl,fin_same (d:= .bl _) e r (by show V.bl _=V.bl _;rw [iJ (p:=V.int i=V.int j) (q:=i=j) ⟨λz=>V.int.inj z,λz=>by rw [z]⟩]) h⟩
 ·rename_i i j;cases n1;cases n2;exact .inl ⟨rfl,fin_same (d:= .bl _) e r (by show V.bl _=V.bl _;rw [iJ (p:=V.str i=V.str j) (q:=i=j) ⟨λz=>V.str.inj z,λz=>by rw [z]⟩]) h⟩
 ·rename_i i j;cases n1;cases n2;exact .inl ⟨rfl,fin_same (d:= .bl _) e r (by show V.bl _=V.bl _;rw [iJ (p:=V.bl i=V.bl j) (q:=i=j) ⟨λz=>V.bl.inj z,λz=>by rw [z]⟩]) h⟩
 ·rename_i a b;obtain ⟨p1,w1,rfl,e1,m1⟩:=n1;obtain ⟨p2,w2,rfl,e2,m2⟩:=n2;split at h
  ·rename_i us vs h1 h2;obtain ⟨rfl,a2⟩:=dM h1 m1;obtain ⟨rfl,b2⟩:=dM h2 m2;exact .inr ⟨p1,p2,_,_,rfl,rfl, .inl (.inl (r.sub _ _ e1)), .inl (.inl (r.sub _ _ e2)),a2,b2,bE e r h⟩
  ·exact h.elim
 ·exact h.elim
end
section
variable{X:Cx}{R:St->XK}{a b c:Expr}{ta tb:DE}{pos:Pos}
theorem FQ(ja:JE X R a ta)(jb:JE X R b tb):JE X R (.Compare a [.Lt] [b] pos) (iH Ph ta tb):=vP Hc SK ja jb (iC _)
theorem wZ(ja:JE X R a ta)(jb:JE X R b tb):JE X R (.Compare a [.LtE] [b] pos) (iH P0 ta tb):=vP LI WX ja jb (iC _)
theorem Qd(ja:JE X R a ta)(jb:JE X R b tb):JE X R (.Compare a [.GtE] [b] pos) (iH PF ta tb):=vP Oc XD ja jb (iC _)
theorem N6{k:Nat}(hr:bq k X.A)(ja:JE X R a ta)(jb:JE X R b tb):JE X R (.Compare a [.Eq] [b] pos) (iH F0 ta tb):=vP (HB.or (Ce hr.xv)) Ov ja jb (iC _)
theorem qK(ja:JE X R a ta)(jb:JE X R b tb):JT X R (.Compare a [.Lt] [b] pos) (mP (iH Ph ta tb)):=g9 Hc SK ja jb (iC _)
theorem Hq(ja:JE X R a ta)(jb:JE X R b tb):JT X R (.Compare a [.Gt] [b] pos) (mP (iH PV ta tb)):=g9 MG Va ja jb (iC _)
theorem cb{k:Nat}(hr:bq k X.A)(ja:JE X R a ta)(jb:JE X R b tb):JT X R (.Compare a [.Eq] [b] pos) (mP (iH F0 ta tb)):=g9 (HB.or (Ce hr.xv)) Ov ja jb (iC _)
theorem ml{k:Nat}(hr:bq k X.A)(ja:JE X R a ta)(jb:JE X R b tb):JT X R (.Compare a [.NotEq] [b] pos) (mP (iH JN ta tb)):=g9 (MP.or (Kp hr.xv)) RQ ja jb (iC _)
end
def gu(M:Ms):Dt->Option (List Dt)
 | .lst xs=>some xs
 | .tup xs=>some xs
 | .cT ns=>some (ns.map .int)
 | .kt xs=>some xs
 | .loc k=>match M[k]? with
  | some (.lst xs)=>some xs
  | _=>none
 | _=>none
theorem nc{K:fv}{G:Hp}{L:List Addr}{M:Ms}{H:Hp}{d:Dt}{v:V}{xs:List Dt}(r:Rl K G L M H)(n:Den K G L d v)(h:gu M d=some xs):∃a vs,v= .ref a/\(eQ K H a vs\/iZ K H a vs)/\Ε K G L xs vs:=by
 cases d with
 | lst ds=>cases h;obtain ⟨a,vs,rfl,e,m⟩:=n;exact ⟨a,vs,rfl, .inl (.of (r.sub _ _ e)),m⟩
 | tup ds=>cases h;obtain ⟨a,vs,rfl,e,m⟩:=n;exact ⟨a,vs,rfl, .inr (.of (r.sub _ _ e)),m⟩
 | kt ds=>cases h;obtain ⟨a,vs,rfl,e,m⟩:=n;exact ⟨a,vs,rfl, .inr (r.sub.NY e),m⟩
 | cT ns=>cases h;obtain ⟨a,rfl,e⟩:=n;exact ⟨a,_,rfl, .inl (r.sub.seq e),cY⟩
 | loc k=>
  obtain ⟨a,rfl,e⟩:=n;have h:(match M[k]? with | some (.lst xs)=>some xs | _=>none)=some xs:=h;split at h
  ·rename_i ys hm;cases h;obtain ⟨_,vs,e1,m1⟩:=r.gh k a _ e hm;exact ⟨a,vs,rfl, .inl (.of e1),m1⟩
  ·cases h
 | _=>cases h
theorem Fn{K:fv}{G:Hp}{L:List Addr}{ds:List Dt}{vs:List V}{i:Int}{d:Dt}(n:Ε K G L ds vs)(h:gS ds i=some d):∃v,gS vs i=some v/\Den K G L d v:=by
 unfold gS at h⊢;rw [<-n.length];cases q:EG ds.length i with
 | none=>rw [q] at h;cases h
 | some j=>
  rw [q] at h;obtain ⟨v,e,m⟩:=n.get h;exact ⟨v,e,m⟩
def cN:Dt->Dt->Ms->DQ->Prop
 | .str z, .int i,M,q=>z.length<=sizeLine/\match gS z.cps.toList i with
  | some c=>q (.str ⟨#[c]⟩) M
  | none=>False
 | d, .int i,M,q=>match gu M d with
  | some xs=>(match gS xs i with
   | some y=>q y M
   | none=>False)
  | none=>False
 | _,_,_,_=>False
def dJ:List Dt->Ms->DQ->Prop
 | [.str z],M,q=>z.length<=sizeLine/\q (.int z.length) M
 | [d],M,q=>match gu M d with
  | some xs=>q (.int xs.length) M
  | none=>False
 | _,_,_=>False
section
variable{K:fv}
theorem Uo:pJ K (S_ K) cN:=by
 intro G0 L0 H0 G L M H v1 v2 d1 d2 q e r n1 n2 h;unfold cN at h;split at h
 ·rename_i z i;split at h
  ·rename_i c hc;exact .inr (.inr ⟨z,i,c,n1,n2,h.1,hc,bE e r h.2⟩)
  ·exact h.2.elim
 ·rename_i d i _;split at h
  ·rename_i xs hx;split at h
   ·rename_i y hy;obtain ⟨a,vs,rfl,hs,m⟩:=nc r n1 hx;obtain ⟨v,e1,m1⟩:=Fn m hy;rcases hs with hs | hs
    ·exact .inl ⟨a,vs,i,v,rfl,n2,hs,e1,fin_same e r m1 h⟩
    ·exact .inr (.inl ⟨a,vs,i,v,rfl,n2,hs,e1,fin_same e r m1 h⟩)
   ·exact h.elim
  ·exact h.elim
 ·exact h.elim
theorem Q3:Dj K (λxs H Q=>(∃z,xs=[V.str z]/\z.length<=sizeLine/\Q (.int z.length) H)\/(∃p ys,xs=[V.ref p]/\(eQ K H p ys\/iZ K H p ys)/\Q (.int ys.length) H)) dJ:=by
 intro G0 L0 H0 G L M H vs ds q e r n h;unfold dJ at h;split at h
 ·rename_i z;obtain ⟨v,rfl,n1⟩:=aW n;cases n1;exact .inl ⟨z,rfl,h.1,bE e r h.2⟩
 ·rename_i d _;obtain ⟨v,rfl,n1⟩:=aW n;split at h
  ·rename_i xs hx;obtain ⟨a,ws,rfl,hs,m⟩:=nc r n1 hx;exact .inr ⟨a,ws,rfl,hs,fin_same (d:= .int xs.length) e r (by show V.int _=V.int _;rw [m.length]) h⟩
  ·exact h.elim
 ·exact h.elim
end
section
variable{X:Cx}{R:St->XK}{a b c:Expr}{ta tb:DE}{pos:Pos}
theorem Γ(ja:JE X R a ta)(jb:JE X R b tb)(hs:uw b:=by exact λ_ _=>rfl):JE X R (.Subscript a b pos) (iH cN ta tb):=MB IY Uo ja jb hs
variable{x:Str}{p:Pos}{e:Expr}{es:List Expr}{t:DA}{id T:String}{r:List V->Hp->VK->Prop}{f:List Dt->Ms->DQ->Prop}
theorem gG(hc:cw X (.builtin id) r)(cd:Dj X.K r f)(hm:X.mg x=none)(hv:bootBuiltins x=some (.builtin id))(ha:JA X R (e::es) t)(hg:Gl X x:=by rfl)(hn:x≠"__name__":=by decide)(p_:(x==("__debug__":Str))=false:=by decide)
  (he:starEach (e::es) X.env=(false,eval e X.env)::starEach es X.env:=by rfl) (eI:(backTo pos (starEach es X.env)).any (·.1)=false:=by rfl):JE X R (.Call (.Name x p) (e::es) [] pos) (wa f t):=
 .of (vE hc hg hm hv ha hn p_ he eI) λσ H G L ρ M q x r n h hx=>HH cd r n h hx
theorem Cd(hc:cw X (.type T) r)(cd:Dj X.K r f)(hm:X.mg x=none)(hv:bootBuiltins x=some (.type T))(ha:JA X R (e::es) t)(hg:Gl X x:=by rfl)(hn:x≠"__name__":=by decide)(p_:(x==("__debug__":Str))=false:=by decide)
  (he:starEach (e::es) X.env=(false,eval e X.env)::starEach es X.env:=by rfl) (eI:(backTo pos (starEach es X.env)).any (·.1)=false:=by rfl):JE X R (.Call (.Name x p) (e::es) [] pos) (wa f t):=
 .of (iM hc hg hm hv ha hn p_ he eI) λσ H G L ρ M q x r n h hx=>HH cd r n h hx
theorem bL(hm:X.mg "len"=none)(ha:JA X R [e] t)(he:starEach [e] X.env=(false,eval e X.env)::starEach [] X.env:=by rfl)(eI:(backTo pos (starEach [] X.env)).any (·.1)=false:=by rfl)(hg:Gl X "len":=by rfl):JE X R (.Call (.Name "len" p) [e] [] pos) (wa dJ t):=
 gG (tJ.or sW) Q3 hm PySem.boot_len ha hg (by decide) (by decide) he eI
end
def Ij:List Dt->Ms->DQ->Prop
 | [.int i],M,q=>q (.int (if i < 0 then -i else i)) M
 | _,_,_=>False
def Km:List Dt->Ms->DQ->Prop
 | [d],M,q=>∃bs:List Bool,gu M d=some (bs.map Dt.bl)/\(∀k,d≠ .kt k)/\(∀k,d≠ .tup k)/\q (.bl (bs.any id)) M
 | _,_,_=>False
def He:Dt->Option Value
 | .bf=>some (.type "NoneType")
 | .bl _=>some (.type "bool")
 | .int _=>some (.type "int")
 | .str _=>some (.type "str")
 | .lst _=>some (.type "list")
 | .tup _=>some (.type "tuple")
 | _=>none
def Mu:Dt->Option Value
 | .ty T=>some (.type T)
 | .ref C=>some (.ref C)
 | _=>none
section
variable{K:fv}
theorem rE{G:Hp}{L:List Addr}:∀{l:List Str},Ε K G L (l.map Dt.str) (l.map V.str)
 | []=>rfl
 | _::_=>⟨_,_,rfl,rfl,rE⟩
theorem kg{G:Hp}{L:List Addr}:∀{bs:List Bool} {vs:List V},Ε K G L (bs.map Dt.bl) vs->vs=bs.map V.bl
 | [],_,h=>h
 | b::bs,_,⟨v,r,e,h1,h2⟩=>by subst e;rw [kg h2,show v=V.bl b from h1];rfl
theorem QR:Dj K (λxs H Q=>∃i,xs=[V.int i]/\Q (.int (if i < 0 then -i else i)) H) Ij:=by
 intro G0 L0 H0 G L M H vs ds q e r n h;unfold Ij at h;split at h
 ·rename_i i;obtain ⟨v,rfl,n1⟩:=aW n;cases n1;exact ⟨i,rfl,bE e r h⟩
 ·exact h.elim
theorem Sf:Dj K (Ol K) Km:=by
 intro G0 L0 H0 G L M H vs ds q e r n h;unfold Km at h;split at h
 ·rename_i d;obtain ⟨bs,hs,nk,nt,h⟩:=h;obtain ⟨v,rfl,n1⟩:=aW n;cases d with
  | lst xs=>
   cases hs;obtain ⟨a,ws,rfl,e1,m⟩:=n1;exact ⟨a,bs,rfl,by rw [<-kg m];exact .of (r.sub _ _ e1),bE e r h⟩
  | loc k=>
   obtain ⟨a,rfl,e1⟩:=n1;have hs:(match M[k]? with | some (.lst xs)=>some xs | _=>none)=some (bs.map Dt.bl):=hs;split at hs
   ·rename_i ys hm;cases hs;obtain ⟨_,ws,e2,m⟩:=r.gh k a _ e1 hm;exact ⟨a,bs,rfl,by rw [<-kg m];exact .of e2,bE e r h⟩
   ·cases hs
  | tup xs=>exact aaH rfl (nt xs)
  | kt xs=>exact aaH rfl (nk xs)
  | cT ns=>
   have e0:ns.map Dt.int=bs.map Dt.bl:=aaA hs;cases ns with
   | nil=>
    cases bs with
    | nil=>obtain ⟨a,rfl,e1⟩:=n1;exact ⟨a,[],rfl,r.sub.seq e1,bE e r h⟩
    | cons _ _=>cases e0
   | cons _ _=>
    cases bs with
    | nil=>cases e0
    | cons _ _=>cases e0
  | _=>cases hs
 ·exact h.elim
theorem Av{G:Hp}{L:List Addr}{M:Ms}{H:Hp}{d:Dt}{v:V}{t:Value}(r:Rl K G L M H)(n:Den K G L d v)(h:He d=some t):iA K H v t:=by
 cases d with
 | bf=>cases h;cases n;exact .bf
 | bl b=>cases h;cases n;exact .bl _
 | int i=>cases h;cases n;exact .int _
 | str x=>cases h;cases n;exact .str _
 | lst xs=>cases h;obtain ⟨a,ws,rfl,e,_⟩:=n;exact .lst (r.sub _ _ e)
 | tup xs=>cases h;obtain ⟨a,ws,rfl,e,_⟩:=n;exact .tup (r.sub _ _ e)
 | _=>cases h
theorem zr{G:Hp}{L:List Addr}{d:Dt}{v:V}{t:Value}(n:Den K G L d v)(h:Mu d=some t):C1 v=some t:=by
 cases d with
 | ty T=>cases n;exact h
 | ref C=>cases n;exact h
 | _=>cases h
end
section
variable{X:Cx}{R:St->XK}{o a e e1 e2:Expr}{es:List Expr}{to ta te:DE}{t:DA}{name:Str}{apos aF pos p p2:Pos}{T id:String}
theorem Ag:bootBuiltins "int"=some (.type "int"):=by decide+kernel
theorem AJ:bootBuiltins "abs"=some (.builtin "abs"):=by decide+kernel
theorem zX:bootBuiltins "any"=some (.builtin "any"):=by decide+kernel
theorem fG:bootBuiltins "isinstance"=some (.builtin "isinstance"):=by decide+kernel
theorem xZ:bootBuiltins "bool"=some (.type "bool"):=by decide+kernel
theorem vX:bootBuiltins "tuple"=some (.type "tuple"):=by decide+kernel
theorem jN:bootBuiltins "list"=some (.type "list"):=by decide+kernel
theorem Gb{x:Str}{T:String}(hm:X.mg x=none)(hv:bootBuiltins x=some (.type T))(hg:Gl X x:=by rfl)(hn:x≠"__name__":=by decide)(hd:(x==("__debug__":Str))=false:=by decide):JE X R (.Name x p) (dC (.ty T)):=HM (Gu (v:= .ty T) hg hm hv rfl hn hd) λ_ _=>rfl
theorem KR{x:Str}{C:Addr}(hm:X.mg x=some (.ref C))(hg:Gl X x:=by rfl)(hd:(x==("__debug__":Str))=false:=by decide):JE X R (.Name x p) (dC (.ref C)):=HM (tH (v:= .ref C) hg hm rfl hd) λ_ _=>rfl
theorem oM{x:Str}{z:Int}(hm:∃tk,X.mg x=some (.int z tk))(hg:Gl X x:=by rfl)(hd:(x==("__debug__":Str))=false:=by decide):JE X R (.Name x p) (dC (.int z)):=let ⟨tk,hm⟩:=hm;HM (tH (v:= .int z) hg hm ⟨tk,rfl⟩ hd) λ_ _=>rfl
end
def Pe(x:Str):It:=⟨λi _=>i < x.cps.size,λi H v H'=>H'=H/\∃c,x.cps[i]? =some c/\v= .str ⟨#[c]⟩,λi _=>x.cps.size<=i⟩
theorem Ai{P:Program}{w:World}{K:fv}{tg:Expr}(x:Str)(t:Tok)(it:Addr):uF P w K tg (Pe x) [it] it (λi h=>h.IsStrIter it "str_ascii_iterator" x t i) where
 mem:=by simp
 obj:=λi h st b hb=>by
  have e:b=it:=by simpa using hb
  subst e;obtain ⟨o,e,c,d⟩:=st;exact ⟨o,e,λv z=>by rw [d] at z;cases z⟩
 keep:=λi h h' st k=>let ⟨o,ho,r⟩:=st;⟨o,k it (by simp) o ho,r⟩
 item:=by intro X hP hw hK hc i δ s σ H E I hf st hg;subst hP hw hK;obtain ⟨f0,f1,f2,f3,f4,f5⟩:=hf it (by simp);have hg:i < x.cps.size:=hg;refine wpAny_pyNext_ascii_item st (c:=x.cps[i]) (by simp [hg]) λh' sZ sb=> ?_;have I1:Inv X δ σ H {s with heap:=h',toks:=s.toks+1}:=I.turned (λb o hb e=>(sb.2 b hb).trans e) f0 f1 f3 f4 f5;obtain ⟨o,e,c,d⟩:=id sZ;exact ⟨_,rfl,qT (s:={s with heap:=h',toks:=s.toks+1}) e c d (by decide) ⟨.str ⟨#[x.cps[i]]⟩,H,I1,⟨_,rfl⟩,⟨rfl,_,by simp [hg],rfl⟩,sZ,λb hb=>(hf b hb).1⟩⟩
 done:=by intro X hP hw hK hc i δ s σ H E I hf st hg;subst hP hw hK;obtain ⟨f0,f1,f2,f3,f4,f5⟩:=hf it (by simp);have hg:x.cps.size<=i:=hg;exact wpAny_pyNext_ascii_end (I.ok.hd hc) st (by simp;omega) λh' eb=>⟨rfl,I.turned (t':=s.toks) (λb o hb e=>eb b o hb e) f0 f1 f3 f4 f5⟩
 self:=λ_ _ _ _ _ st h=>wpAny_pyIter_striter_ascii st h
theorem AS{P:Program}{w:World}{K:fv}{tg:Expr}(x:Str)(t:Tok)(it:Addr):uF P w K tg (Pe x) [it] it (λi h=>h.IsStrIter it "str_iterator" x t i) where
 mem:=by simp
 obj:=λi h st b hb=>by
  have e:b=it:=by simpa using hb
  subst e;obtain ⟨o,e,c,d⟩:=st;exact ⟨o,e,λv z=>by rw [d] at z;cases z⟩
 keep:=λi h h' st k=>let ⟨o,ho,r⟩:=st;⟨o,k it (by simp) o ho,r⟩
 item:=by intro X hP hw hK hc i δ s σ H E I hf st hg;subst hP hw hK;obtain ⟨f0,f1,f2,f3,f4,f5⟩:=hf it (by simp);have hg:i < x.cps.size:=hg;refine wpAny_pyNext_wide_item st (c:=x.cps[i]) (by simp [hg]) λh' sZ sb=> ?_;have I1:Inv X δ σ H {s with heap:=h',toks:=s.toks+1}:=I.turned (λb o hb e=>(sb.2 b hb).trans e) f0 f1 f3 f4 f5;obtain ⟨o,e,c,d⟩:=id sZ;exact ⟨_,rfl,qT (s:={s with heap:=h',toks:=s.toks+1}) e c d (by decide) ⟨.str ⟨#[x.cps[i]]⟩,H,I1,⟨_,rfl⟩,⟨rfl,_,by simp [hg],rfl⟩,sZ,λb hb=>(hf b hb).1⟩⟩
 done:=by intro X hP hw hK hc i δ s σ H E I hf st hg;subst hP hw hK;obtain ⟨f0,f1,f2,f3,f4,f5⟩:=hf it (by simp);have hg:x.cps.size<=i:=hg;exact wpAny_pyNext_wide_end (I.ok.hd hc) st (by simp;omega) λh' eb=>⟨rfl,I.turned (t':=s.toks) (λb o hb e=>eb b o hb e) f0 f1 f3 f4 f5⟩
 self:=λ_ _ _ _ _ st h=>wpAny_pyIter_striter_wide st h
def tQ(z:Str):List Dt:=z.cps.toList.map λc=>Dt.str ⟨#[c]⟩
theorem Ia{K:fv}{G:Hp}{L:List Addr}{z:Str}:Yl K (Pe z) (tQ z) G L where
 go :=λi G1 L1 M1 H1 d g l r e=>by
  unfold tQ at e;rw [aah] at e;cases q:z.cps.toList[i]? with
  | none=>rw [q] at e;cases e
  | some c=>
   rw [q] at e;cases e;have hi:i < z.cps.size:=by have:=(aad.mp q).1;simpa using this
   refine ⟨hi,λv' H' ⟨eH,c',e',y⟩=> ?_⟩;subst eH y;have:c'=c:=by rw [<-aa9,q] at e';exact (aaA e').symm
   subst this;exact ⟨G1, .refl _ _ _,r,rfl⟩
 stop:=λi G1 L1 M1 H1 g l r e=>by unfold tQ at e;show z.cps.size<=i;simpa using e
def N1(M:Ms):Dt->Option (List Dt)
 | .lst xs=>some xs
 | .tup xs=>some xs
 | .cT ns=>some (ns.map .int)
 | .kt xs=>some xs
 | .str z=>some (tQ z)
 | _=>none
section
variable{X:Cx}{R:St->XK}{tg e:Expr}{te:DE}
theorem rY{δ:List (Addr×Obj)}{σ:St}{H:Hp}{s:Shared}{a:Addr}{vs:List V}{Q:It->Hp->Prop}{E:Value->Shared->Prop}(I:Inv X δ σ H s)(hq:eQ X.K H a vs)(q:Q (OU X.K a) H):wpAny (model X.prog X.w) X.A (pyIter (.ref a)) (EA X δ σ tg Q) E s:=by
 obtain ⟨its,rv,p,hz⟩:=I.list hq;refine wpAny_pyIter_list p.isList ?_;refine ⟨s.heap.objs.size,[s.heap.objs.size],_,_,H,rfl,I.kept (t':=s.toks) λb o e=>aaf _ e,zZ a _,⟨_,aau _ rfl,rfl,rfl⟩,λb hb=> ?_,q⟩;have e:b=s.heap.objs.size:=by simpa using hb
 subst e;exact I.zE (aal _) (I.aJ.fresh (aal _))
theorem CY{δ:List (Addr×Obj)}{σ:St}{H:Hp}{s:Shared}{a:Addr}{vs:List V}{Q:It->Hp->Prop}{E:Value->Shared->Prop}(I:Inv X δ σ H s)(hq:iZ X.K H a vs)(q:Q (QP X.K a) H):wpAny (model X.prog X.w) X.A (pyIter (.ref a)) (EA X δ σ tg Q) E s:=by
 obtain ⟨its,rv,p,hz⟩:=I.tuple hq;refine wpAny_pyIter_tuple (show s.heap.IsTuple a its.toArray from p) ?_;refine ⟨s.heap.objs.size,[s.heap.objs.size],_,_,H,rfl,I.kept (t':=s.toks) λb o e=>aaf _ e,xN a _,⟨_,aau _ rfl,rfl,rfl⟩,λb hb=> ?_,q⟩;have e:b=s.heap.objs.size:=by simpa using hb
 subst e;exact I.zE (aal _) (I.aJ.fresh (aal _))
theorem Ii{δ:List (Addr×Obj)}{σ:St}{H:Hp}{s:Shared}{z:Str}{t:Tok}{Q:It->Hp->Prop}{E:Value->Shared->Prop}(I:Inv X δ σ H s)(q:Q (Pe z) H):wpAny (model X.prog X.w) X.A (pyIter (.str z t)) (EA X δ σ tg Q) E s:=by
 have fp:∀b∈[s.heap.objs.size],qu X δ H b:=λb hb=>by
  have e:b=s.heap.objs.size:=by simpa using hb
  subst e;exact I.zE (aal _) (I.aJ.fresh (aal _))
 cases ha:z.cps.all (· < 128)
 ·exact wpAny_pyIter_wide ha ⟨s.heap.objs.size,[s.heap.objs.size],_,_,H,rfl,I.kept (t':=s.toks) λb o e=>aaf _ e,AS z t _,⟨_,aau _ rfl,rfl,rfl⟩,fp,q⟩
 ·exact wpAny_pyIter_ascii ha ⟨s.heap.objs.size,[s.heap.objs.size],_,_,H,rfl,I.kept (t':=s.toks) λb o e=>aaf _ e,Ai z t _,⟨_,aau _ rfl,rfl,rfl⟩,fp,q⟩
end
def I0:DF:=λds _ q _=>∃ns:List Int,ds=[.cT ns]/\ns.length<=63/\∀M',q (.bl true) M'
def vG(K:fv):Sp:=λvs H Q _=>∃(a:Addr) (ns:List Int),vs=[.ref a]/\eQ K H a (ns.map V.int)/\ns.length<=63/\∀H',Q (.bl true) H'
theorem Jj{P:Program}{w:World}{K:fv}{mg:Str->Option Value}{base:Heap}{k:Nat}{f:Addr}{fd:FuncData}{x:Str}(F:aB P w K mg base (cQ P w) k f fd [x] (dw K I0)):aB P w K mg base O3 k f fd [x] (vG K):=by
 have sp:∀vs H Q E,vG K vs H Q E->dw K I0 vs H Q E0:=by rintro vs H Q E ⟨a,ns,rfl,hS,hl,hQ⟩;refine ⟨H,[],[.cT ns],[],λd _=>d= .bl true,λ_ _ _=>False,⟨.refl _,rfl,List.nodup_nil,λk a m h=>by simp at h⟩,⟨_,_,rfl,⟨a,rfl,hS⟩,rfl⟩,⟨ns,rfl,hl,λ_=>rfl⟩,λv H' ⟨d,G',L',M',_,_,n,e⟩=> ?_,λ_ _ _ _ _ _ _ h=>h.elim⟩;subst e;rw [show v=V.bl true from n];exact hQ H'
 refine ⟨λvs H Q E h=>F.len vs H Q E0 (sp vs H Q E h),λA outer s H args us vs Q E hr he hb hv h=>codeAny_mono (F.run A outer s H args us vs Q E0 hr he hb hv (sp vs H Q E h)) λr s' hq=> ?_⟩;cases r with
 | error e=>
  obtain ⟨_,_,_,_,_,_,_,_,hE⟩:=hq;exact hE.elim
 | ok fl=>cases fl <;> exact hq
def Jk(c:DT)(tb:DS):DS:=λDn ρ M=>∃W:Nat->En->Ms->Prop,(∃m,W m ρ M)/\∀m ρ M,W m ρ M->
 c ρ M (λb M1=>(b=true->∃N:En->Ms->Prop,(∀ρ' M',N ρ' M'->∃m',m' < m/\W m' ρ' M')/\tb {Dn with nx:=N,ct:=N,bk:=Dn.nx} ρ M1)/\(b=false->Dn.nx ρ M1)) Dn.x
def P1(i j:Nat)(t:DA):DS:=λDn ρ M=>t ρ M (λds M1=>match ds with
 | [a,b]=>Dn.nx ((ρ.set i (some a)).set j (some b)) M1
 | _=>False) Dn.x
section
variable{X:Cx}{R:St->XK}{c a b:Expr}{body:List Stmt}{tc:DT}{tb:DS}{pos:Pos}
theorem pG(hc:JT X R c tc)(hb:zT X R body tb)(hp:PassesOwn (model X.prog X.w) X.A X.env X.xe:=by first | exact PassesOwn.never | exact PassesOwn.leaving):JS X R (.While c body [] pos) (Jk tc tb):= .of (BH hp hc hb) λσ H G L ρ M Dn rl n h hx=>by
 obtain ⟨W,⟨m0,w0⟩,turn⟩:=h;refine ⟨λm σ' H'=>dI X.K G L H (W m) σ' H',⟨m0,ρ,G,L,M, .refl _ _ _,rl,n,w0⟩,λm σ' H' ⟨ρ',G',L',M',e',r',n',w'⟩=> ?_⟩;refine ⟨G',L',ρ',M',_,_,r',n',turn m ρ' M' w',hx.on e',λv H1 ⟨G1,L1,M1,e1,r1,h1⟩=> ?_⟩;cases v with
 | true=>
  obtain ⟨N,hN,hb⟩:=h1.1 rfl;refine wm ⟨dI X.K G L H N,λσ2 H2 ⟨ρ2,G2,L2,M2,e2,r2,n2,h2⟩=> ?_, ?_⟩
  ·obtain ⟨m',hm,w2⟩:=hN ρ2 M2 h2;exact ⟨m',hm,ρ2,G2,L2,M2,e2,r2,n2,w2⟩
  ·have Nk:=e'.trans e1;exact ⟨G1,L1,ρ',M1,_,r1,n'.mono e1,hb,hx.on Nk,⟨λ_ _ f=>dI.back Nk f,λ_ _ f=>Fin.back Nk f,λ_ _ f=>dI.back Nk f,λ_ _ f=>dI.back Nk f⟩⟩
 | false=>exact xj ⟨ρ',G1,L1,M1,e'.trans e1,r1,n'.mono e1,h1.2 rfl⟩
theorem Iy{i j:Nat}{x y:Str}{t:DA}{px py pt:Pos}{kt k2 Kw}(hN:X.N.Nodup)(hi:X.N[i]? =some x)(hj:X.N[j]? =some y)(ha:JA X R [a,b] t)(Lz:i≠j:=by decide)
  (hx:X.env.scope.names.lookup x=some .local:=by rfl) (hy:X.env.scope.names.lookup y=some .local:=by rfl)
  (hw:swappedStores [.Tuple [.Name x px, .Name y py] kt pt] (.Tuple [a,b] k2 Kw) X.env=pure (some [x,y]):=by rfl) (hc:X.calm=true:=by rfl)
  (hs:swapsWithSole [.Tuple [.Name x px, .Name y py] kt pt] (.Tuple [a,b] k2 Kw) pos.line X.env=pure false:=by rfl):
  JS X R (.Assign [.Tuple [.Name x px, .Name y py] kt pt] (.Tuple [a,b] k2 Kw) pos) (P1 i j t):= .of (Ky hc hN hi hj Lz hx hy ha hw hs) λσ H G L ρ M Dn rl n h hx=>by
 refine ⟨G,L,ρ,M,_,_,rl,n,h,hx,λvs H1 ⟨ds,G1,L1,M1,e1,r1,n1,h1⟩=> ?_⟩
 (try dsimp only at h1)
 split at h1
 ·obtain ⟨v,u,rfl,m1,m2⟩:=eh n1;exact ⟨v,u,rfl,_,G1,L1,M1,e1,r1,((n.mono e1).set i m1).set j m2,h1⟩
 ·exact h1.elim
end
section
variable{X:Cx}{R:St->XK}{e e2 o:Expr}{es:List Expr}{t:DA}{to ta tb:DE}{a b:Expr}{p pos apos aF:Pos}
theorem y6(hm:X.mg "abs"=none)(ha:JA X R [e] t)(he:starEach [e] X.env=(false,eval e X.env)::starEach [] X.env:=by rfl)(eI:(backTo pos (starEach [] X.env)).any (·.1)=false:=by rfl)(hg:Gl X "abs":=by rfl):JE X R (.Call (.Name "abs" p) [e] [] pos) (wa Ij t):=
 gG D5 QR hm AJ ha hg (by decide) (by decide) he eI
theorem N_(hm:X.mg "any"=none)(ha:JA X R [e] t)(hc:X.calm=true:=by rfl)(he:starEach [e] X.env=(false,eval e X.env)::starEach [] X.env:=by rfl)(eI:(backTo pos (starEach [] X.env)).any (·.1)=false:=by rfl)(hg:Gl X "any":=by rfl):JE X R (.Call (.Name "any" p) [e] [] pos) (wa Km t):=
 gG (Ck hc) Sf hm zX ha hg (by decide) (by decide) he eI
end
theorem lV{te:DE}{cs:En}{f:Dt->Dt}{M:Ms}{k:List Dt->Ms->Prop}:∀(xs ae:List Dt),(∀x∈xs,∀q:DQ,q (f x) M->te (some x::cs) M q jj)->k (ae++xs.map f) M->mv te cs xs ae M k
 | [],ae,_,h=>by rw [List.map_nil,aaU] at h;exact h
 | x::xs,ae,ht,h=>ht x List.mem_cons_self _ (lV xs (ae++[f x]) (λy hy=>ht y (List.mem_cons_of_mem _ hy)) (by simpa using h))
theorem π{d y:Dt}{xs:List Dt}{i:Int}{M:Ms}{q:DQ}(hs:gu M d=some xs)(h:gS xs i=some y)(k:q y M):cN d (.int i) M q:=by
 cases d with
 | str z=>cases hs
 | _=>
  unfold cN;simp only [hs,h];exact k
theorem Φ{d:Dt}{xs:List Dt}{M:Ms}{q:DQ}(hs:gu M d=some xs)(k:q (.int xs.length) M):dJ [d] M q:=by
 cases d with
 | str z=>cases hs
 | _=>
  unfold dJ;simp only [hs];exact k
theorem ao{α:Type}{x:α}{xs:List α}:gS (x::xs) 0=some x:=Ζ (j:=0) rfl
theorem A4(bs:List Bool):(List.range bs.length).all (λi=>bs.getD i false)=bs.all id:=by
 induction bs with
 | nil=>rfl
 | cons b bs ih=>
  rw [aaN,abq,abE,List.all_map,abE,<-ih];rfl
def NQ(K:fv):List V->Hp->VK->Prop:=λxs H Q=>∃(p:Addr) (bs:List Bool),xs=[.ref p]/\eQ K H p (bs.map V.bl)/\Q (.bl (bs.all id)) H
section
variable{X:Cx}
theorem Ea (hc : X.calm = true) : cw X (.builtin "all") (NQ X.K) := by
  intro δ s σ H xs us Q I r h;obtain ⟨p, bs, rfl, hq, q⟩ := h;obtain ⟨u, rfl, r1⟩ := iE r;cases r1;obtain ⟨its, rv, pl, hz⟩ := I.list hq;have Jv := tR rv;subst Jv;refine call_all_walk (wpAny_pyIter_list pl.isList ?_);have lp : p < s.heap.objs.size := by obtain ⟨o, e, _⟩ := pl.isList; exact aap e
  refine ⟨s.heap.objs.size, _, _, _, _, _, λi => bs.getD i false, rfl, Walks.list (show X.A.in1.handled = none from I.ok.hd hc) s.heap.objs.size p (aaG lp) (bs.map Value.bool).toArray, ⟨⟨_, aau _ rfl, rfl, rfl⟩, pl.isList.at λo e => aaf _ e⟩, uY, λh' tk hk => ?_⟩;refine ⟨.bl (bs.all id), H, I.kept λb o e => hk b o (λz => by have : b = s.heap.objs.size := (by simpa using z); exact Nat.lt_irrefl _ (this ▸ Heap.lt_size e)) (Heap.get?_push_of_some _ e), ?_, q⟩;rw [aas, aac, A4];rfl
end
def KZ:List Dt->Ms->DQ->Prop
 | [.lst xs],M,q=>∃bs:List Bool,xs=bs.map Dt.bl/\q (.bl (bs.all id)) M
 | _,_,_=>False
theorem Qn{K:fv}:Dj K (NQ K) KZ:=by
 intro G0 L0 H0 G L M H vs ds q e r n h;unfold KZ at h;split at h
 ·rename_i xs;obtain ⟨bs,rfl,h⟩:=h;obtain ⟨v,rfl,n1⟩:=aW n;obtain ⟨a,ws,rfl,e1,m⟩:=n1;exact ⟨a,bs,rfl,by rw [<-kg m];exact .of (r.sub _ _ e1),bE e r h⟩
 ·exact h.elim
def Hn(i j k:Nat)(t:DE):DS:=λDn ρ M=>t ρ M (λd M1=>match d with
 | .tup [a,b,c]=>Dn.nx (((ρ.set i (some a)).set j (some b)).set k (some c)) M1
 | _=>False) Dn.x
def vH(i j:Nat)(t:DE):DS:=λDn ρ M=>t ρ M (λd M1=>match d with
 | .tup [a,b]=>Dn.nx ((ρ.set i (some a)).set j (some b)) M1
 | _=>False) Dn.x
section
variable{X:Cx}{R:St->XK}{e o:Expr}{es:List Expr}{t:DA}{to te:DE}{p pos apos aF:Pos}
theorem Ax:bootBuiltins "all"=some (.builtin "all"):=by decide+kernel
theorem N4(hm:X.mg "all"=none)(ha:JA X R [e] t)(hc:X.calm=true:=by rfl)(he:starEach [e] X.env=(false,eval e X.env)::starEach [] X.env:=by rfl)(eI:(backTo pos (starEach [] X.env)).any (·.1)=false:=by rfl)(hg:Gl X "all":=by rfl):JE X R (.Call (.Name "all" p) [e] [] pos) (wa KZ t):=
 gG (Ea hc) Qn hm Ax ha hg (by decide) (by decide) he eI
variable{i j k:Nat}{tg:Expr}
theorem EU(he:JE X R e te)(hg:PG X tg (FN X.K 3 (mK (gH i) (mK (gH j) (mK (gH k) EN)))))(hs:swapsWithSole [tg] e pos.line X.env=pure false:=by rfl)(hw:swappedStores [tg] e X.env=pure none:=by rfl)
  (h1:(assignEach [tg] X.env).map (·.2)=[assign tg X.env]:=by rfl):JS X R (.Assign [tg] e pos) (Hn i j k te):= .of (CJ he hg hs hw h1) λσ H G L ρ M Dn rl n h hx=>by
 refine ⟨G,L,ρ,M,_,_,rl,n,h,hx,λv H1 ⟨d1,G1,L1,M1,e1,r1,n1,h1⟩=> ?_⟩
 (try dsimp only at h1)
 split at h1
 ·rename_i a b c;obtain ⟨p,vs,rfl,e,m⟩:=n1;obtain ⟨v1,r',rfl,m1,m'⟩:=m;obtain ⟨v2,v3,rfl,m2,m3⟩:=eh m';exact ⟨p,_,rfl, .inl (.inl (r1.sub _ _ e)),rfl,v1,_,rfl,v2,_,rfl,v3,_,rfl,rfl,_,G1,L1,M1,e1,r1,(((n.mono e1).set i m1).set j m2).set k m3,h1⟩
 ·exact h1.elim
theorem nK(he:JE X R e te)(hg:PG X tg (FN X.K 2 (mK (gH i) (mK (gH j) EN))))(hs:swapsWithSole [tg] e pos.line X.env=pure false:=by rfl)(hw:swappedStores [tg] e X.env=pure none:=by rfl)
  (h1:(assignEach [tg] X.env).map (·.2)=[assign tg X.env]:=by rfl):JS X R (.Assign [tg] e pos) (vH i j te):= .of (CJ he hg hs hw h1) λσ H G L ρ M Dn rl n h hx=>by
 refine ⟨G,L,ρ,M,_,_,rl,n,h,hx,λv H1 ⟨d1,G1,L1,M1,e1,r1,n1,h1⟩=> ?_⟩
 (try dsimp only at h1)
 split at h1
 ·rename_i a b;obtain ⟨p,vs,rfl,e,m⟩:=n1;obtain ⟨v1,v2,rfl,m1,m2⟩:=eh m;exact ⟨p,_,rfl, .inl (.inl (r1.sub _ _ e)),rfl,v1,_,rfl,v2,_,rfl,rfl,_,G1,L1,M1,e1,r1,((n.mono e1).set i m1).set j m2,h1⟩
 ·exact h1.elim
end
mutual
def Dt.under(n:Nat):Dt->Prop
 | .bf=>True
 | .bl _=>True
 | .int _=>True
 | .str _=>True
 | .tup ds=>Dt.aV n ds
 | .lst ds=>Dt.aV n ds
 | .obj _ _ ds=>Dt.aV n ds
 | .loc k=>k < n
 | .ref _=>True
 | .ty _=>True
 | .cT _=>True
 | .kt ds=>Dt.aV n ds
 | .exc _ _ ds=>Dt.aV n ds
 | .LH _ _ _ _ ds=>Dt.aV n ds
def Dt.aV(n:Nat):List Dt->Prop
 | []=>True
 | d::ds=>Dt.under n d/\Dt.aV n ds
end
def MO.under(n:Nat):MO->Prop
 | .lst ds=>Dt.aV n ds
 | .ins _ _ ds=>Dt.aV n ds
 | .EH _ ds=>Dt.aV n ds
 | .raw _=>True
 | .Ha _ ds=>Dt.aV n ds
mutual
inductive zD(n:Nat)(E:Ms):Dt->Dt->Prop
 | old {d:Dt} (h:d.under n):zD n E d d
 | tup {ds es:List Dt} (h:fF n E ds es):zD n E (.tup ds) (.tup es)
 | lst {ds es:List Dt} (h:fF n E ds es):zD n E (.lst ds) (.lst es)
 | obj {C:Addr} {ns:List Str} {ds es:List Dt} (h:fF n E ds es):zD n E (.obj C ns ds) (.obj C ns es)
 | AA {k:Nat} {ds es:List Dt} (hk:n<=k) (e:E[k - n]? =some (.lst ds)) (h:fF n E ds es):zD n E (.loc k) (.lst es)
 | RT {k:Nat} {C:Addr} {ns:List Str} {ds es:List Dt} (hk:n<=k) (e:E[k - n]? =some (.ins C ns ds)) (h:fF n E ds es):zD n E (.loc k) (.obj C ns es)
inductive fF(n:Nat)(E:Ms):List Dt->List Dt->Prop
 | nil:fF n E [] []
 | cons {d e:Dt} {ds es:List Dt} (h:zD n E d e) (t:fF n E ds es):fF n E (d::ds) (e::es)
end
theorem fF.length{n:Nat}{E:Ms}:∀{ds es:List Dt},fF n E ds es->ds.length=es.length
 | [],es,h=>by cases h;rfl
 | d::ds,es,h=>by
  cases h with
  | cons h t=>rw [aaN,aaN,fF.length t]
theorem fF.old{n:Nat}{E:Ms}:∀{ds:List Dt},Dt.aV n ds->fF n E ds ds
 | [],_=> .nil
 | _::_,h=> .cons (.old h.1) (fF.old h.2)
section
variable{K:fv}{G G':Hp}{L0 t:List Addr}{n:Nat}
mutual
theorem rC(hn:L0.length=n)(g:b_ G G'):∀(d:Dt) (v:V),d.under n->Den K G (L0++t) d v->Den K G' L0 d v
 | .bf,_,_,h=>h
 | .bl _,_,_,h=>h
 | .int _,_,_,h=>h
 | .str _,_,_,h=>h
 | .tup ds,_,u,⟨a,vs,e,h1,h2⟩=>⟨a,vs,e,g _ _ h1,aS hn g ds vs u h2⟩
 | .lst ds,_,u,⟨a,vs,e,h1,h2⟩=>⟨a,vs,e,g _ _ h1,aS hn g ds vs u h2⟩
 | .obj C ns ds,_,u,⟨a,dx,vs,e,h1,hl,h2⟩=>⟨a,dx,vs,e,g _ _ h1,hl,aS hn g ds vs u h2⟩
 | .loc k,_,u,⟨a,e,h1⟩=>⟨a,e,by
   have u:k < n:=u
   rwa [aaE (by rw [hn];exact u)] at h1⟩
 | .ref _,_,_,h=>h
 | .ty _,_,_,h=>h
 | .cT _,_,_,⟨a,e,h1⟩=>⟨a,e,g.seq h1⟩
 | .kt ds,_,u,⟨a,vs,e,h1,h2⟩=>⟨a,vs,e,g.NY h1,aS hn g ds vs u h2⟩
 | .exc _ _ ds,_,u,⟨a,od,vs,e,h1,h2,h3,h4⟩=>⟨a,od,vs,e,g _ _ h1,h2.imp (λz=>z) (λ⟨dx,z1,z2⟩=>⟨dx,z1,g _ _ z2⟩),h3,aS hn g ds vs u h4⟩
 | .LH _ _ _ _ ds,_,u,⟨vs,e,h2,h3,h4⟩=>⟨vs,e,h2.imp (λz=>z) (λ⟨dx,z1,z2⟩=>⟨dx,z1,g _ _ z2⟩),h3,aS hn g ds vs u h4⟩
theorem aS(hn:L0.length=n)(g:b_ G G'):∀(ds:List Dt) (vs:List V),Dt.aV n ds->Ε K G (L0++t) ds vs->Ε K G' L0 ds vs
 | [],_,_,h=>h
 | d::ds,_,u,⟨v,r,e,h1,h2⟩=>⟨v,r,e,rC hn g d v u.1 h1,aS hn g ds r u.2 h2⟩
end
theorem Ad{H:Hp}{a:Addr}(hn:L0.length=n)(g:b_ G G'){m:MO}(u:m.under n)(h:A_ K G (L0++t) H a m):A_ K G' L0 H a m:=by
 cases m with
 | lst ds=>obtain ⟨vs,e,h⟩:=h;exact ⟨vs,e,aS hn g _ _ u h⟩
 | ins C ns ds=>obtain ⟨dx,vs,e,hl,h⟩:=h;exact ⟨dx,vs,e,hl,aS hn g _ _ u h⟩
 | EH ks ds=>obtain ⟨vs,e,hl,h⟩:=h;exact ⟨vs,e,hl,aS hn g _ _ u h⟩
 | raw u=>exact h
 | Ha u' ds=>obtain ⟨vs,e,h⟩:=h;exact ⟨vs,e,aS hn g _ _ u h⟩
end
open Classical in
noncomputable def m6(G H:Hp)(t:List Addr):Hp:=λb=>if b∈t then H b else G b
theorem yQ{G H:Hp}{t:List Addr}{b:Addr}(h:b∈t):m6 G H t b=H b:=by unfold m6;rw [if_pos h]
theorem kE{G H:Hp}{t:List Addr}{b:Addr}(h:b∉t):m6 G H t b=G b:=by unfold m6;rw [if_neg h]
section
variable{K:fv}{G:Hp}{L0 t:List Addr}{M0 E:Ms}{H:Hp}
theorem fH(r:Rl K G (L0++t) (M0++E) H):b_ G (m6 G H t):=λb u e=>by
 by_cases hb:b∈t
 ·obtain ⟨_,_,_,_,g,_⟩:=r.rR (a:=b) (aax _ hb);rw [g] at e;cases e
 ·rw [kE hb];exact e
theorem Bh(r:Rl K G (L0++t) (M0++E) H)(hn:L0.length=M0.length){k:Nat}{a:Addr}{m:MO}(hk:M0.length<=k)(e:(L0++t)[k]? =some a)(em:E[k - M0.length]? =some m):m6 G H t a=H a/\A_ K G (L0++t) H a m:=by
 have e2:(M0++E)[k]? =some m:=by rw [aaw hk];exact em
 obtain ⟨_,q⟩:=r.gh k a m e e2;rw [aaw (by rw [hn];exact hk)] at e;exact ⟨yQ (aat e),q⟩
theorem FP(r:Rl K G (L0++t) (M0++E) H)(hn:L0.length=M0.length){d d':Dt}(f:zD M0.length E d d'):∀v,Den K G (L0++t) d v->Den K (m6 G H t) L0 d' v:=by
 refine zD.rec (motive_1:=λd d' _=>∀v,Den K G (L0++t) d v->Den K (m6 G H t) L0 d' v) (motive_2:=λds es _=>∀vs,Ε K G (L0++t) ds vs->Ε K (m6 G H t) L0 es vs) ?_ ?_ ?_ ?_ ?_ ?_ ?_ ?_ f
 ·exact λ{d} u v h=>rC hn (fH r) d v u h
 ·exact λ{ds es} f ih v ⟨a,vs,e,h1,h2⟩=>⟨a,vs,e,fH r _ _ h1,ih vs h2⟩
 ·exact λ{ds es} f ih v ⟨a,vs,e,h1,h2⟩=>⟨a,vs,e,fH r _ _ h1,ih vs h2⟩
 ·exact λ{C ns ds es} f ih v ⟨a,dx,vs,e,h1,hl,h2⟩=>⟨a,dx,vs,e,fH r _ _ h1,hl.trans f.length,ih vs h2⟩
 ·intro k ds es hk em f ih v ⟨a,e,h1⟩;obtain ⟨o,vs,e1,h2⟩:=Bh r hn hk h1 em;exact ⟨a,vs,e,o.trans e1,ih vs h2⟩
 ·intro k C ns ds es hk em f ih v ⟨a,e,h1⟩;obtain ⟨o,dx,vs,e1,hl,h2⟩:=Bh r hn hk h1 em;exact ⟨a,dx,vs,e,o.trans e1,hl.trans f.length,ih vs h2⟩
 ·exact λvs h=>h
 ·exact λ{d e ds es} f t Um QV vs ⟨v,r,e,h1,h2⟩=>⟨v,r,e,Um v h1,QV r h2⟩
end
def QJ(n:Nat)(q:DQ):DQ:=λd M=>∃M' E d',M=M'++E/\M'.length=n/\(∀m∈M',MO.under n m)/\zD n E d d'/\q d' M'
theorem Fin.uH{K:fv}{G0:Hp}{L0:List Addr}{M0:Ms}{H0:Hp}{q:DQ}{v:V}{H:Hp}(r0:Rl K G0 L0 M0 H0)(f:Fin K G0 L0 H0 (QJ M0.length q) v H):Fin K G0 L0 H0 q v H:=by
 obtain ⟨d,G,L,M,ex,r,dn,M',E,d',rfl,hl,hu,fz,hq⟩:=f;obtain ⟨t,rfl⟩:=ex.l;have hn:L0.length=M'.length:=by rw [hl];exact r0.len
 have TZ:∀b,b∈L0->b∉t:=λb h1 h2=>(List.nodup_append.mp r.nd).2.2 b h1 b h2 rfl;have sm:=fH r;refine ⟨d',m6 G H t,L0,M',⟨ex.g.trans sm, .refl _,λb h1 h2=> ?_,ex.out,λb h=> .inl h,ex.A9⟩,⟨λb u e=> ?_,hn,(List.nodup_append.mp r.nd).1,λk a m h1 h2=> ?_⟩,FP r hn (hl▸fz) v dn,hq⟩
 ·have hb:b∉t:=λz=>(ex.new b (aax _ z)).elim (λy=>TZ b y z) h2;rw [kE hb];exact ex.fr b h1 h2
 ·by_cases hb:b∈t
  ·rw [yQ hb] at e;exact e
  ·rw [kE hb] at e;exact r.sub b u e
 ·have k1:k < L0.length:=(aad.mp h1).1;have e1:(L0++t)[k]? =some a:=by rw [aaE k1];exact h1
  have e2:(M'++E)[k]? =some m:=by rw [aaE (by rw [<-hn];exact k1)];exact h2
  obtain ⟨g,q⟩:=r.gh k a m e1 e2;exact ⟨by rw [kE (TZ a (aat h1))];exact g,Ad (n:=M'.length) hn sm (by rw [hl];exact hu m (aat h2)) q⟩
section
variable{X:Cx}{R:St->XK}{e:Expr}{t:DE}
theorem kL{st:Stmt}:JS X R st (λ_ _ _=>False):=λ_ _ _ _ _ _ ⟨_,_,_,_,_,_,_,h,_,_⟩=>h.elim
end
def DJ(C:Addr)(m:Str)(sp:Sp)(nq:List V)(R:St->XK)(ta:TE)(t:TA):TE:=λσ H Q=>ta σ H λx H1=>∃a dx fs,x= .ref a/\H1 a=some (.ins C dx fs)/\fs.lookup m=none/\
 t σ H1 λvs H2=>sp (x::(vs++nq)) H2 Q (R σ)
def KU(C:Addr)(sp:Sp)(nq:List V)(R:St->XK)(t:TA):TE:=λσ H Q=>t σ H λvs H1=>∀x dx,H1 x=none->H1 dx=none->dx≠x->
 sp (.ref x::(vs++nq)) (upd (upd H1 dx (.own x)) x (.ins C dx [])) (λv H2=>v= .bf/\Q (.ref x) H2) (R σ)
section
variable{X:Cx}{CX:we}{k:Nat}{f C:Addr}{fd:FuncData}{ps:List Str}{sp:Sp}{nq:List V}{ds:List Value}{R:St->XK}{x m:Str}{p pos apos:Pos}{e o:Expr}{es:List Expr}{ta:TE}{t:TA}
theorem BC{pl:Sem Bool}(he:PE X o ta)(c:xa X.K C)(hm:GV X.K C m f)(F:aB X.prog X.w X.K X.mg X.base CX k f fd ps sp)(hr:bq k X.A)(hb:gL X.K fd ps ds)(hd:Ψ nq ds)(hx:cf CX X R)(ha:PA X (e::es) t)
  (zF:starEach (e::es) X.env=(false,eval e X.env)::starEach es X.env:=by rfl) (eI:(backTo pos (starEach es X.env)).any (·.1)=false:=by rfl)
  (ht:eval (.Call (.Attribute o m apos) (e::es) [] pos) X.env=(do
   let ov<-eval o X.env
   standAt apos.atName
   let (f,first)<-holding [ov] (getMethod ov m pl)
   callWith pos f first (backTo pos (starEach (e::es) X.env)) (backToKw pos (keywordEach [] X.env))):=by rfl):
  PE X (.Call (.Attribute o m apos) (e::es) [] pos) (DJ C m sp nq R ta t):=by
 intro δ s σ H Q I h;refine PySem.W.methodCall_KW (pl:=pl) (bD (he δ s σ H _ I h) λu s1 ⟨x,H1,I1,rx,a,dx,fs,ex,ea,l,q⟩=> ?_) ht;subst ex;obtain rfl:u=Value.ref a:=rx;refine oQ I1 ea c hm l ?_;refine PySem.W.callWith_K (first:=[.ref a]) (h₀:=X.base) I.ok.mod.Nu hm.kp (bD (ha pos δ s1 σ H1 _ I1 q) λus s2 ⟨vs,H2,I2,r,q2⟩=>⟨I2.mV, ?_⟩) zF eI;exact sR (us:= .ref a::us) (vs:= .ref a::vs) F hr hb hd hx I2 (.cons rfl r) q2
theorem Ap{pl:Sem Bool}(he:PE X o ta)(c:xa X.K C)(hm:GV X.K C m f)(F:aB X.prog X.w X.K X.mg X.base CX k f fd ps sp)(hr:bq k X.A)(hb:gL X.K fd ps ds)(hd:Ψ nq ds)(hx:cf CX X R)
  (ht:eval (.Call (.Attribute o m apos) [] [] pos) X.env=(do
   let ov<-eval o X.env
   standAt apos.atName
   let (f,first)<-holding [ov] (getMethod ov m pl)
   callWith pos f first (backTo pos (starEach [] X.env)) (backToKw pos (keywordEach [] X.env))):=by rfl):
  PE X (.Call (.Attribute o m apos) [] [] pos) (DJ C m sp nq R ta NZ):=by
 intro δ s σ H Q I h;refine PySem.W.methodCall_KW (pl:=pl) (bD (he δ s σ H _ I h) λu s1 ⟨x,H1,I1,rx,a,dx,fs,ex,ea,l,q⟩=> ?_) ht;subst ex;obtain rfl:u=Value.ref a:=rx;refine oQ I1 ea c hm l ?_;exact PySem.W.callWith_K0 (first:=[.ref a]) I1.mV hm.kp (sR (us:=[.ref a]) (vs:=[.ref a]) F hr hb hd hx I1 (.cons rfl .nil) q)
theorem Ao{δ:List (Addr×Obj)}{σ:St}{H:Hp}{s:Shared}{Q:VK}{us:List Value}{vs:List V}(M:Mk X.K C f)(F:aB X.prog X.w X.K X.mg X.base CX k f fd ps sp)(hr:bq (k+1) X.A)(hb:gL X.K fd ps ds)(hd:Ψ nq ds)
  (hx:cf CX X R) (I:Inv X δ σ H s) (r:Ψ vs us)
  (h:∀x dx,H x=none->H dx=none->dx≠x->sp (.ref x::(vs++nq)) (upd (upd H dx (.own x)) x (.ins C dx [])) (λv H2=>v= .bf/\Q (.ref x) H2) (R σ)):
  wpAny (model X.prog X.w) X.A (call (.ref C) us) (EP X δ σ Q) X.xe s:=by
 have hq:=h (s.heap.objs.size+1) s.heap.objs.size (I.aJ.fresh (Nat.le_succ _)) (I.aJ.fresh (aal _)) (aaG (Nat.lt_succ_self _));have I2:=Inv.made (C:=C) I;have r2:Ψ (V.ref (s.heap.objs.size+1)::(vs++nq)) (Value.ref (s.heap.objs.size+1)::(us++ds)):= .cons rfl (r.append hd);have hl:(Value.ref (s.heap.objs.size+1)::us++ds).length=ps.length:=by have e:=r2.length;rw [F.len _ _ _ _ hq] at e;exact e.symm
 refine wpAny_call (Bi (f:=f) I.mV M.makes M.init (beq_iff_eq.mp M.fn) (codeAny_mono (F.run _ X.stack _ _ ⟨Value.ref (s.heap.objs.size+1)::us,[]⟩ (Value.ref (s.heap.objs.size+1)::(us++ds)) _ _ (R σ) (hr.make C us [])
  (I2.Oa.make C us []) (hb _ (Value.ref (s.heap.objs.size+1)::us) I2.mV hl) r2 hq) λr s' A8=> ?_))
 cases r with
 | error e=>exact hx δ σ _ _ e s' I2 A8
 | ok fl=>
  cases fl with
  | ret u=>
   obtain ⟨v,H',I3,rv,ev,q3⟩:=I2.after A8;subst ev;exact ⟨rv,⟨V.ref (s.heap.objs.size+1),H',I3,rfl,q3⟩⟩
  | next=>exact False.elim A8
  | brk=>exact False.elim A8
  | cont=>exact False.elim A8
theorem DH(M:Mk X.K C f)(F:aB X.prog X.w X.K X.mg X.base CX k f fd ps sp)(hr:bq (k+1) X.A)(hg:Gl X x)(hm:X.mg x=some (.ref C))(hb:gL X.K fd ps ds)(hd:Ψ nq ds)(hx:cf CX X R)
  (ha:PA X (e::es) t) (p_:(x==("__debug__":Str))=false:=by decide) (he:starEach (e::es) X.env=(false,eval e X.env)::starEach es X.env:=by rfl) (eI:(backTo pos (starEach es X.env)).any (·.1)=false:=by rfl):
  PE X (.Call (.Name x p) (e::es) [] pos) (KU C sp nq R t):=by
 intro δ s σ H Q I h;refine wpAny_Call_Name_kw (ub I hg hm ?_ p_);refine PySem.W.callWith_K (h₀:=X.base) I.ok.mod.Nu M.kp (bD (ha pos δ s σ H _ I h) λus s1 ⟨vs,H1,I1,r,q⟩=>⟨I1.mV, ?_⟩) he eI;exact Ao M F hr hb hd hx I1 r q
end
def E5(C:Addr)(M:Ms)(d:Dt)(ns:List Str)(ds:List Dt):Prop:=d= .obj C ns ds\/∃k,d= .loc k/\M[k]? =some (.ins C ns ds)
section
variable{K:fv}{G:Hp}{L:List Addr}{M:Ms}{H:Hp}{C:Addr}{d:Dt}{v:V}{ns:List Str}{ds:List Dt}
theorem C5(r:Rl K G L M H)(n:Den K G L d v)(o:E5 C M d ns ds):∃a dx vs,v= .ref a/\H a=some (.ins C dx (ns.zip vs))/\ns.length=ds.length/\Ε K G L ds vs:=by
 rcases o with rfl | ⟨k,rfl,hm⟩
 ·obtain ⟨a,dx,vs,e,h1,hl,h2⟩:=n;exact ⟨a,dx,vs,e,r.sub _ _ h1,hl,h2⟩
 ·obtain ⟨a,e,h1⟩:=n;obtain ⟨_,dx,vs,h2,hl,h3⟩:=r.gh k a _ h1 hm;exact ⟨a,dx,vs,e,h2,hl,h3⟩
theorem uW{f:Str}:∀{ns:List Str} {ds:List Dt} {vs:List V} {d:Dt},Ε K G L ds vs->(ns.zip ds).lookup f=some d->∃v,(ns.zip vs).lookup f=some v/\Den K G L d v
 | [],_,_,_,_,h=>by simp at h
 | _::_,[],_,_,_,h=>by simp at h
 | g::ns,d::ds,_,d',⟨v,r,rfl,h1,h2⟩,h=>by
  rw [aa4,abv] at h;rw [aa4,abv];cases q:f==g with
  | true=>rw [q] at h;cases h;exact ⟨v,rfl,h1⟩
  | false=>rw [q] at h;exact uW h2 h
theorem pC{f:Str}:∀{ns:List Str} {ds:List Dt} {vs:List V},Ε K G L ds vs->(ns.zip ds).lookup f=none->(ns.zip vs).lookup f=none
 | [],_,_,_,_=>by simp
 | _::_,[],_,h,_=>by have h:_=_:=h;subst h;simp
 | g::ns,d::ds,_,⟨v,r,rfl,h1,h2⟩,h=>by
  rw [aa4,abv] at h;rw [aa4,abv];cases q:f==g with
  | true=>rw [q] at h;cases h
  | false=>rw [q] at h;exact pC h2 h
theorem vI{f:Str}{v:V}:∀{ns:List Str} {vs:List V},ns.length=vs.length->f∉ns->gO f v (ns.zip vs)=(ns++[f]).zip (vs++[v])
 | [],[],_,_=>rfl
 | g::ns,x::vs,hl,h=>by have hg:¬g=f:=λz=>h (by rw [z];exact aak);show (if g=f then (g,v)::ns.zip vs else (g,x)::gO f v (ns.zip vs))=(g,x)::(ns++[f]).zip (vs++[v]);rw [if_neg hg,vI (by simpa using hl) λz=>h (List.mem_cons_of_mem _ z)]
 | [],_::_,hl,_=>by simp at hl
 | _::_,[],hl,_=>by simp at hl
end
def Jf(C:Addr)(f:Str)(t:DE):DE:=λρ M q x=>t ρ M (λd M1=>∃ns ds v,E5 C M1 d ns ds/\(ns.zip ds).lookup f=some v/\q v M1) x
def rG(C:Addr)(m:Str)(T:DF)(to:DE)(ta:DA):DE:=λρ M q x=>to ρ M (λd M1=>(∃ns ds,E5 C M1 d ns ds/\(ns.zip ds).lookup m=none)/\ta ρ M1 (λds M2=>T (d::ds) M2 q (λC fs M'=>x ρ C fs M')) x) x
def Nr(C:Addr)(T:DF)(ta:DA):DE:=λρ M q x=>ta ρ M (λds M1=>T (.loc M1.length::ds) (M1++[.ins C [] []]) (λd M2=>d= .bf/\q (.loc M1.length) M2) (λC fs M'=>x ρ C fs M')) x
def Ho(C:Addr)(f:Str)(to tv:DE):DS:=λDn ρ M=>tv ρ M (λy M1=>to ρ M1 (λd M2=>∃k ns ds,d= .loc k/\M2[k]? =some (.ins C ns ds)/\f∉ns/\ns.length < 1000/\Dn.nx ρ (M2.set k (.ins C (ns++[f]) (ds++[y])))) Dn.x) Dn.x
structure eL(P:Program)(w:World)(K:fv)(mg:Str->Option Value)(base:Heap)(k:Nat)(C:Addr)(m:Str)(ps:List Str)(T:DF)(f:Addr)(fd:FuncData):Prop where
 ok:aB P w K mg base (cQ P w) k f fd ps (dw K T)
 b:gL K fd ps []
 c:xa K C
 m:GV K C m f
structure ET(P:Program)(w:World)(K:fv)(mg:Str->Option Value)(base:Heap)(k:Nat)(x:Str)(C:Addr)(ps:List Str)(T:DF)(f:Addr)(fd:FuncData):Prop where
 ok:aB P w K mg base (cQ P w) k f fd ps (dw K T)
 b:gL K fd ps []
 k:Mk K C f
 m:mg x=some (.ref C)
section
variable{X:Cx}{R:St->XK}{C:Addr}{f m x:Str}{T:DF}{k k':Nat}{a:Addr}{fd:FuncData}{ps:List Str}{e o value:Expr}{es:List Expr}{pos pos' apos p:Pos}{to te tv:DE}{ta:DA}
theorem rB(c:xa X.K C)(n:fh X.K C f)(he:JE X R e te)(hb:attributeBase e f X.env (eval e X.env)=eval e X.env:=by rfl):JE X R (.Attribute e f pos) (Jf C f te):=
 .of (Kg he hb) λσ H G L ρ M q x rl en h hx=>by refine ⟨G,L,ρ,M,_,x,rl,en,h,hx,λv H1 ⟨d1,G1,L1,M1,e1,r1,n1,ns,ds,y,ob,hl,h1⟩=> ?_⟩;obtain ⟨p,dx,vs,rfl,hp,_,dn⟩:=C5 r1 n1 ob;obtain ⟨u,hu,du⟩:=uW dn hl;exact ⟨p,C,dx,_,u,rfl,hp,c,n,hu,y,G1,L1,M1,e1,r1,du,h1⟩
theorem fD{pl:Sem Bool}(D:eL X.prog X.w X.K X.mg X.base k C m ps T a fd)(hr:bq k' X.A)(hx:cf (cQ X.prog X.w) X R)(ho:JE X R o to)(ha:JA X R (e::es) ta)(hk:k<=k':=by decide)
  (zF:starEach (e::es) X.env=(false,eval e X.env)::starEach es X.env:=by rfl) (eI:(backTo pos (starEach es X.env)).any (·.1)=false:=by rfl)
  (ht:eval (.Call (.Attribute o m apos) (e::es) [] pos) X.env=(do
   let ov<-eval o X.env
   standAt apos.atName
   let (f,first)<-holding [ov] (getMethod ov m pl)
   callWith pos f first (backTo pos (starEach (e::es) X.env)) (backToKw pos (keywordEach [] X.env))):=by rfl):
  JE X R (.Call (.Attribute o m apos) (e::es) [] pos) (rG C m T to ta):=
 .of (BC (pl:=pl) ho D.c D.m D.ok (hr.mono hk) D.b .nil hx ha zF eI ht) λσ H G L ρ M q x rl en h hx=>by refine ⟨G,L,ρ,M,_,x,rl,en,h,hx,λv H1 ⟨d1,G1,L1,M1,e1,r1,n1,⟨ns,ds,ob,hl⟩,h1⟩=> ?_⟩;obtain ⟨p,dx,vs,rfl,hp,_,dn⟩:=C5 r1 n1 ob;refine ⟨p,dx,_,rfl,hp,pC dn hl,G1,L1,ρ,M1,_,x,r1,en.mono e1,h1,hx.on e1,λus H2 ⟨AD,G2,L2,M2,e2,r2,n2,h2⟩=> ?_⟩;show dw X.K T (V.ref p::(us++[])) H2 _ _;rw [aaU];have IH:=e1.trans e2;exact ⟨G2,L2,d1::AD,M2,q,_,r2,⟨_,_,rfl,Den.mono e2.g e2.l _ _ n1,n2⟩,h2,λv H' f=>Fin.back IH f,λC fs M' G' L' H' od hq e' r' y=>hx σ ρ C fs M' G' L' H' od hq (IH.trans e') r' (en.mono (IH.trans e')) y⟩
theorem eU{pl:Sem Bool}(D:eL X.prog X.w X.K X.mg X.base k C m ps T a fd)(hr:bq k' X.A)(hx:cf (cQ X.prog X.w) X R)(ho:JE X R o to)(hk:k<=k':=by decide)
  (ht:eval (.Call (.Attribute o m apos) [] [] pos) X.env=(do
   let ov<-eval o X.env
   standAt apos.atName
   let (f,first)<-holding [ov] (getMethod ov m pl)
   callWith pos f first (backTo pos (starEach [] X.env)) (backToKw pos (keywordEach [] X.env))):=by rfl):
  JE X R (.Call (.Attribute o m apos) [] [] pos) (rG C m T to jO):=
 .of (Ap (pl:=pl) ho D.c D.m D.ok (hr.mono hk) D.b .nil hx ht) λσ H G L ρ M q x rl en h hx=>by refine ⟨G,L,ρ,M,_,x,rl,en,h,hx,λv H1 ⟨d1,G1,L1,M1,e1,r1,n1,⟨ns,ds,ob,hl⟩,h1⟩=> ?_⟩;obtain ⟨p,dx,vs,rfl,hp,_,dn⟩:=C5 r1 n1 ob;refine ⟨p,dx,_,rfl,hp,pC dn hl, ?_⟩;show dw X.K T (V.ref p::([]++[])) H1 _ _;exact ⟨G1,L1,[d1],M1,q,_,r1,⟨_,_,rfl,n1,rfl⟩,h1,λv H' f=>Fin.back e1 f,λC fs M' G' L' H' od hq e' r' y=>hx σ ρ C fs M' G' L' H' od hq (e1.trans e') r' (en.mono (e1.trans e')) y⟩
theorem Dy(D:ET X.prog X.w X.K X.mg X.base k x C ps T a fd)(hr:bq k' X.A)(hx:cf (cQ X.prog X.w) X R)(ha:JA X R (e::es) ta)(hk:k+1<=k':=by decide)(hg:Gl X x:=by rfl)(p_:(x==("__debug__":Str))=false:=by decide)
  (he:starEach (e::es) X.env=(false,eval e X.env)::starEach es X.env:=by rfl) (eI:(backTo pos (starEach es X.env)).any (·.1)=false:=by rfl):JE X R (.Call (.Name x p) (e::es) [] pos) (Nr C T ta):=
 .of (DH D.k D.ok (hr.mono hk) hg D.m D.b .nil hx ha p_ he eI) λσ H G L ρ M q x rl en h hx=>by
  refine ⟨G,L,ρ,M,_,x,rl,en,h,hx,λvs H1 ⟨ds,G1,L1,M1,e1,r1,n1,h1⟩ y dx hy Ts fP=> ?_⟩;show dw X.K T (V.ref y::(vs++[])) _ _ _;rw [aaU];have ra:=r1.CW (o:= .own y) Ts;have ea:=r1.J1 (o:= .own y) Ts;have TN:upd H1 dx (HO.own y) y=none:=by rw [Β (Ne.symm fP)];exact hy
  have rb:=ra.J2 (p:=y) (o:= .ins C dx []) (m:= .ins C [] []) TN ⟨dx,[],Ο,rfl,rfl⟩;have eb:=ra.QH (p:=y) (o:= .ins C dx []) TN;have e2:=ea.trans eb;have IH:=e1.trans e2;refine ⟨_,_, .loc M1.length::ds,_,_,_,rb,⟨_,_,rfl,⟨y,rfl, ?_⟩,Ε.mono e2.g e2.l _ _ n1⟩,h1,λv H' ⟨d,G',L',M',e',r',dn,hd,hq⟩=> ?_,λC fs M' G' L' H' od hq e' r' z=>hx σ ρ C fs M' G' L' H' od hq (IH.trans e') r' (en.mono (IH.trans e')) z⟩
  ·rw [<-r1.len,List.getElem?_append_right (Nat.le_refl _)];simp
  ·subst hd;refine ⟨dn, .loc M1.length,G',L',M',IH.trans e',r',⟨y,rfl,e'.l.get ?_⟩,hq⟩;rw [<-r1.len,List.getElem?_append_right (Nat.le_refl _)];simp
theorem yw(c:xa X.K C)(n:fh X.K C f)(ho:JE X R o to)(hv:JE X R value tv)(hs:swapsWith value (some (.Attribute o f pos')) pos.line X.env=pure false:=by rfl):JS X R (.Assign [.Attribute o f pos'] value pos) (Ho C f to tv):=
 .of (JV ho hv hs) λσ H G L ρ M Dn rl en h hx=>by refine ⟨G,L,ρ,M,_,_,rl,en,h,hx,λy H1 ⟨dy,G1,L1,M1,e1,r1,n1,h1⟩=> ?_⟩;refine ⟨G1,L1,ρ,M1,_,_,r1,en.mono e1,h1,hx.on e1,λu H2 ⟨du,G2,L2,M2,e2,r2,n2,k,ns,ds,ed,hm,hf,hz,h2⟩=> ?_⟩;subst ed;obtain ⟨p,rfl,hp⟩:=n2;obtain ⟨_,dx,vs,hH,hl,dn⟩:=r2.gh k p _ hp hm;have ID:ns.length=vs.length:=hl.trans dn.length;refine ⟨p,C,dx,_,rfl,hH,c,n,by rw [abA,<-ID,abZ];exact hz, ?_⟩;rw [vI ID hf];exact ⟨ρ,G2,L2,_,(e1.trans e2).trans (r2.GN hp),r2.setM (m:= .ins C (ns++[f]) (ds++[dy])) hp ⟨dx,_,Ο,by rw [aag,aag,hl];rfl,dn.app ⟨_,_,rfl,Den.mono e2.g e2.l _ _ n1,rfl⟩⟩,(en.mono (e1.trans e2)).mono (r2.GN (o:= .own p) hp),h2⟩
end
def zg:List Dt->Ms->DQ->Prop
 | [d],M,q=>match gu M d with
  | some xs=>q (.loc M.length) (M++[.lst xs])
  | none=>False
 | _,_,_=>False
section
variable{K:fv}
theorem NV:Dj K (λxs H Q=>∃p ys,xs=[V.ref p]/\(eQ K H p ys\/iZ K H p ys)/\∀l,H l=none->Q (.ref l) (upd H l (.lst ys))) zg:=by
 intro G0 L0 H0 G L M H vs ds q e r n h;unfold zg at h;split at h
 ·rename_i d;obtain ⟨v,rfl,n1⟩:=aW n;split at h
  ·rename_i xs hs;obtain ⟨a,us,rfl,hq,dn⟩:=nc r n1 hs;exact ⟨a,us,rfl,hq,λl hl=>iG e r hl dn h⟩
  ·exact h.elim
 ·exact h.elim
end
section
variable{X:Cx}{R:St->XK}{e o i value:Expr}{t:DA}{to ti tv:DE}{p pos apos aF IU:Pos}
theorem su(hm:X.mg "list"=none)(ha:JA X R [e] t)(hg:Gl X "list":=by rfl)(he:starEach [e] X.env=(false,eval e X.env)::starEach [] X.env:=by rfl)(eI:(backTo pos (starEach [] X.env)).any (·.1)=false:=by rfl):JE X R (.Call (.Name "list" p) [e] [] pos) (wa zg t):=
 Cd sg NV hm jN ha hg (by decide) (by decide) he eI
def E8(to:DE)(t:DA):DE:=λρ M q x=>to ρ M (λd M1=>(∃k xs,d= .loc k/\M1[k]? =some (.lst xs))/\t ρ M1 (λds M2=>∃k xs y,d= .loc k/\ds=[y]/\M2[k]? =some (.lst xs)/\xs.length < sizeLine/\q .bf (M2.set k (.lst (xs++[y])))) x) x
theorem iD(ho:JE X R o to)(ha:JA X R [e] t)(ia:attributeBase o "append" X.env (eval o X.env)=eval o X.env:=by rfl)
  (w_:((backTo aF (starEach [e] X.env)).all (λx=> !x.1)&&(backToKw aF (keywordEach [] X.env)).all (λx=>x.1.isSome)
   &&decide (([e]:List Expr).length+([]:List Keyword).length+(if ([]:List Keyword).isEmpty then 0 else 1) < 30))=true:=by rfl)
  (g7:(apos.endLine==aF.line)=true:=by rfl) (hs:starEach [e] X.env=(false,eval e X.env)::starEach [] X.env:=by rfl) (jF:(backTo aF (starEach [] X.env)).any (·.1)=false:=by rfl):
  JE X R (.Call (.Attribute o "append" apos) [e] [] aF) (E8 to t):=
 .of (BO abG PySem.F.slot_list_append PySem.F.type_list_append (r:=zi) rg ho ha ia w_ g7 hs jF) λσ H G L ρ M q x rl n h hx=>by refine ⟨G,L,ρ,M,_,x,rl,n,h,hx,λv H1 ⟨d1,G1,L1,M1,e1,r1,n1,⟨k,xs,ed,hm⟩,h1⟩=> ?_⟩;subst ed;obtain ⟨a,rfl,hk⟩:=n1;obtain ⟨_,vs,hH,_⟩:=r1.gh k a _ hk hm;refine ⟨.inl ⟨rfl,vs, .of hH⟩,G1,L1,ρ,M1,_,x,r1,n.mono e1,h1,hx.on e1,λus H2 ⟨ds,G2,L2,M2,e2,r2,n2,k',xs',y,ek,ed,FU,hz,h2⟩=> ?_⟩;cases ek;subst ed;obtain ⟨u,rfl,n3⟩:=aW n2;have Nv:=e2.l.get hk;obtain ⟨_,JZ,Ll,HE⟩:=r2.gh k a _ Nv FU;refine ⟨a,JZ,u,rfl,rfl,Ll,by rw [<-HE.length];exact hz, .bf,G2,L2,_,(e1.trans e2).trans (r2.GN Nv),r2.setM (m:= .lst (xs'++[y])) Nv ⟨_,Ο,HE.app ⟨_,_,rfl,n3,rfl⟩⟩,rfl,h2⟩
end
structure Src(K:fv)(a:Addr)(xs:List Dt)(ok:Ms->Prop)(G0:Hp)(L0:List Addr):Prop where
 at_:∀G L M H,b_ G0 G->Pre L0 L->Rl K G L M H->ok M->∃vs,eQ K H a vs/\Ε K G L xs vs
def i0(M:Ms):Dt->Option (List Dt×(Ms->Prop))
 | .lst xs=>some (xs,λ_=>True)
 | .cT ns=>some (ns.map .int,λ_=>True)
 | .loc k=>match M[k]? with
  | some (.lst xs)=>some (xs,λM'=>M'[k]? =some (.lst xs))
  | _=>none
 | _=>none
theorem xw{K:fv}{G:Hp}{L:List Addr}{M:Ms}{H:Hp}{d:Dt}{v:V}{xs:List Dt}{ok:Ms->Prop}(r:Rl K G L M H)(n:Den K G L d v)(h:i0 M d=some (xs,ok)):∃a vs,v= .ref a/\eQ K H a vs/\Src K a xs ok G L/\ok M:=by
 cases d with
 | lst ds=>
  cases h;obtain ⟨a,vs,rfl,e,m⟩:=n;exact ⟨a,vs,rfl, .of (r.sub _ _ e),⟨λG' L' M' H' g l r' _=>⟨vs, .of (r'.sub _ _ (g _ _ e)),Ε.mono g l _ _ m⟩⟩,trivial⟩
 | cT ns=>
  cases h;obtain ⟨a,rfl,e⟩:=n;exact ⟨a,_,rfl,r.sub.seq e,⟨λG' L' M' H' g l r' _=>⟨_,r'.sub.seq (g.seq e),cY⟩⟩,trivial⟩
 | loc k=>
  obtain ⟨a,rfl,e⟩:=n;have h:(match M[k]? with | some (.lst xs)=>some (xs,λM':Ms=>M'[k]? =some (.lst xs)) | _=>none)=some (xs,ok):=h;split at h
  ·rename_i ys hm;cases h;obtain ⟨_,vs,e1,m1⟩:=r.gh k a _ e hm;refine ⟨a,vs,rfl, .of e1,⟨λG' L' M' H' g l r' hk=> ?_⟩,hm⟩;obtain ⟨_,JZ,e2,m2⟩:=r'.gh k a _ (l.get e) hk;exact ⟨JZ, .of e2,m2⟩
  ·cases h
 | _=>cases h
theorem Cu{K:fv}{G:Hp}{L:List Addr}{a:Addr}{xs:List Dt}{ok:Ms->Prop}(s:Src K a xs ok G L):JJ K (OU K a) xs ok G L where
 go:=λi G1 L1 M1 H1 d g l r k e=>by
  obtain ⟨vs,hs,n⟩:=s.at_ G1 L1 M1 H1 g l r k;obtain ⟨v,e1,n1⟩:=n.get e
  exact ⟨⟨vs,v,hs,e1⟩,λv' H' ⟨eH,y⟩=>by
   subst eH;have e2:=y vs hs;rw [e1] at e2;cases e2
   exact ⟨G1, .refl _ _ _,r,n1⟩⟩
 stop:=λi G1 L1 M1 H1 g l r k e=>by obtain ⟨vs,hs,n⟩:=s.at_ G1 L1 M1 H1 g l r k;exact ⟨vs,hs,by rw [<-n.length];exact e⟩
def ph(M:Ms):Dt->Option (List Dt×(Ms->Prop))
 | .loc k=>i0 M (.loc k)
 | d=>(N1 M d).map λxs=>(xs,λ_=>True)
def dX(t:DE):DK:=λρ M q x=>t ρ M (λd M1=>match ph M1 d with
 | some (xs,ok)=>q xs ok M1
 | none=>False) x
theorem bF{X:Cx}{R:St->XK}{tg e:Expr}{te:DE}(h:JE X R e te):JK X R tg e (dX te):=by
 intro δ s σ H Q I ⟨G,L,ρ,M,q,x,rl,n,ht,hx,hQ⟩;refine bD (h δ s σ H (Fin X.K G L H _) I ⟨G,L,ρ,M,_,x,rl,n,ht,hx,λ_ _ f=>f⟩) λu s1 ⟨v,H1,I1,rv,d,G1,L1,M1,e1,r1,n1,h1⟩=> ?_
 (try dsimp only at h1)
 cases hi:ph M1 d with
 | none=>rw [hi] at h1;exact h1.elim
 | some p=>
  obtain ⟨xs,ok⟩:=p;rw [hi] at h1;have fin:∀J,JJ X.K J xs ok G1 L1->Q J H1:=λJ y=>hQ J H1 ⟨xs,ok,G1,L1,M1,e1,r1,y,h1⟩;have up:∀{J},ok=(λ_=>True)->Yl X.K J xs G1 L1->JJ X.K J xs ok G1 L1:=λeo y=>by subst eo;exact ⟨λi G L M H d g l r _ e=>y.go i G L M H d g l r e,λi G L M H g l r _ e=>y.stop i G L M H g l r e⟩
  cases d with
  | loc k=>
   obtain ⟨a,vs,rfl,hs,sr,_⟩:=xw r1 n1 hi;cases rv;exact rY I1 hs (fin _ (Cu sr))
  | lst ds=>
   cases hi;obtain ⟨a,vs,rfl,e,m⟩:=n1;cases rv;exact rY I1 (vs:=vs) (.of (r1.sub _ _ e)) (fin _ (up rfl (za (λG' g=> .of (g _ _ e)) m)))
  | cT ns=>
   cases hi;obtain ⟨a,rfl,e⟩:=n1;cases rv;exact rY I1 (r1.sub.seq e) (fin _ (up rfl (za (λG' g=>g.seq e) cY)))
  | tup ds=>
   cases hi;obtain ⟨a,vs,rfl,e,m⟩:=n1;cases rv;exact CY I1 (vs:=vs) (.of (r1.sub _ _ e)) (fin _ (up rfl (CP (λG' g=> .of (g _ _ e)) m)))
  | kt ds=>
   cases hi;obtain ⟨a,vs,rfl,e,m⟩:=n1;cases rv;exact CY I1 (r1.sub.NY e) (fin _ (up rfl (CP (λG' g=>g.NY e) m)))
  | str z=>
   cases hi;cases n1;obtain ⟨t,rfl⟩:=rv;exact Ii I1 (fin _ (up rfl Ia))
  | _=>cases hi
def jH(g:Dt->En->(En->Prop)->Prop)(tb:DS)(Dn:ke)(ok:Ms->Prop):List Dt->En->Ms->Prop
 | [],ρ,M=>ok M/\Dn.nx ρ M
 | x::xs,ρ,M=>ok M/\g x ρ λρ'=>tb {Dn with nx:=jH g tb Dn ok xs,ct:=jH g tb Dn ok xs,bk:=Dn.nx} ρ' M
def CH(ti:DK)(g:Dt->En->(En->Prop)->Prop)(tb:DS):DS:=λDn ρ M=>ti ρ M (λxs ok M1=>jH g tb Dn ok xs ρ M1) Dn.x
section
variable{X:Cx}{R:St->XK}{tg iter:Expr}{body:List Stmt}{ti:DK}{gg:TG}{g:Dt->En->(En->Prop)->Prop}{tb:DS}{pos:Pos}
theorem j9(hi:JK X R tg iter ti)(hg:PG X tg gg)(gd:GD X.K gg g)(hb:zT X R body tb)(hp:PassesOwn (model X.prog X.w) X.A X.env X.xe:=by first | exact PassesOwn.never | exact PassesOwn.leaving)(hc:X.calm=true:=by rfl)(hs:∀x,foldedSetIterable iter X.env x=pure x:=by intro _;rfl):
  JS X R (.For tg iter body [] pos) (CH ti g tb):= .of (CK hp hc hi hg hb hs) λσ H G L ρ M Dn rl n h hx=>by
 refine ⟨G,L,ρ,M,_,_,rl,n,h,hx,λJ H1 ⟨xs,ok,G1,L1,M1,e1,r1,y,h1⟩=> ?_⟩;refine ⟨λi m σ' H'=>m+i=xs.length/\dI X.K G1 L1 H1 (λρ' M'=>jH g tb Dn ok (xs.drop i) ρ' M') σ' H',⟨xs.length,rfl,ρ,G1,L1,M1, .refl _ _ _,r1,n.mono e1,by rw [List.drop_zero];exact h1⟩, ?_⟩;rintro i m σ' H' ⟨hm,ρ',G',L',M',e',r',n',h'⟩;by_cases hi:i < xs.length
 ·right;have hd:xs[i]? =some xs[i]:=aaa hi;rw [abg hi] at h';obtain ⟨aJ,h'⟩:=h';obtain ⟨go,yl⟩:=y.go i G' L' M' H' _ e'.g e'.l r' aJ hd;refine ⟨go,dI X.K G1 L1 H1 (λρ' M'=>jH g tb Dn ok (xs.drop (i+1)) ρ' M'),λσ2 H2 f=>⟨m - 1,by omega,by omega,f⟩,λv H2 hy=> ?_⟩;obtain ⟨G2,e2,r2,n2⟩:=yl v H2 hy;refine gd G2 L' M' H2 _ v ρ' σ' _ _ r2 n2 (n'.mono e2) h' λρ3 σ3 n3 h3=> ?_;refine ⟨G2,L',ρ3,M',_,r2,n3,h3,hx.on (e1.trans (e'.trans e2)),⟨λ_ _ f=>dI.back (e'.trans e2) f,λ_ _ f=>Fin.back (e1.trans (e'.trans e2)) f,λ_ _ f=>dI.back (e1.trans (e'.trans e2)) f,λ_ _ f=>dI.back (e'.trans e2) f⟩⟩
 ·left;rw [List.drop_eq_nil_of_le (by omega)] at h';exact ⟨y.stop i G' L' M' H' e'.g e'.l r' h'.1 (by omega),ρ',G',L',M',e1.trans e',r',n',h'.2⟩
end
def gI(te:DE)(cs:En)(ok:Ms->Prop):List Dt->List Dt->Ms->(List Dt->Ms->Prop)->Prop
 | [],ae,M,k=>ok M/\k ae M
 | x::xs,ae,M,k=>ok M/\te (some x::cs) M (λd M1=>gI te cs ok xs (ae++[d]) M1 k) jj
def gU(ti:DK)(te:DE)(Θ:List Nat):DE:=λρ M q x=>ti ρ M (λxs ok M1=>xs.length<=sizeLine/\gI te (lF Θ ρ) ok xs [] M1 (λys M2=>q (.lst ys) M2)) x
def nz(ti:DK)(te:DE)(Θ:List Nat):DE:=λρ M q x=>ti ρ M (λxs ok M1=>xs.length<=sizeLine/\gI te (lF Θ ρ) ok xs [] M1 (λys M2=>q (.loc M2.length) (M2++[.lst ys]))) x
theorem kI{te:DE}{cs:En}{ok:Ms->Prop}:∀xs,gI te cs ok xs=gW (gN 0) qL te (none::cs) ok xs
 | []=>rfl
 | x::xs=>funext λae=>funext λM=>funext λk=>by show (ok M/\te (some x::cs) M (λd M1=>gI te cs ok xs (ae++[d]) M1 k) jj)=(ok M/\te (some x::cs) M (λd M1=>gW (gN 0) qL te (none::cs) ok xs (ae++[d]) M1 k) jj);rw [kI xs]
section
variable{X:Cx}{R:St->XK}{elt iter:Expr}{x:Str}{px:Pos}{scope:Scope}{pos:Pos}{ti:DK}{te:DE}{ys:List Str}{Θ:List Nat}
theorem dG(S:aj X scope [x] ys Θ)(hi:JK X R (.Name x px) iter ti)(he:∀C s H fp,JE (Cx.comp X (x::ys) scope C s H fp) (λ_=>E0) elt te)(hc:X.calm=true:=by rfl)(hs:∀x,foldedSetIterable iter X.env x=pure x:=by intro _;rfl):JE X R (.ListComp elt [⟨.Name x px,iter,[],0⟩] scope pos) (gU ti te Θ):=P6 false S hi (eC S (i:=0) rfl) bo (cn (Nat.zero_lt_succ 0)) (λ_ _ _ _=>iL) he hc hs λρ M q x h=>by unfold gU at h;simp only [kI] at h;exact h
theorem pM(S:aj X scope [x] ys Θ)(hi:JK X R (.Name x px) iter ti)(he:∀C s H fp,JE (Cx.comp X (x::ys) scope C s H fp) (λ_=>E0) elt te)(hc:X.calm=true:=by rfl)(hs:∀x,foldedSetIterable iter X.env x=pure x:=by intro _;rfl):JE X R (.ListComp elt [⟨.Name x px,iter,[],0⟩] scope pos) (nz ti te Θ):=P6 true S hi (eC S (i:=0) rfl) bo (cn (Nat.zero_lt_succ 0)) (λ_ _ _ _=>iL) he hc hs λρ M q x h=>by unfold nz at h;simp only [kI] at h;exact h
theorem hU{i:Nat}{y:Str}{py h7:Pos}(hN:X.N.Nodup)(Dh:X.N[i]? =some y)(hy:Loc X.env.scope y)(S:aj X scope [x] ys Θ)(hi:JK X R (.Name x px) iter ti)(he:∀C s H fp,JE (Cx.comp X (x::ys) scope C s H fp) (λ_=>E0) elt te)(hc:X.calm=true:=by rfl)(Es:swapsWith (.ListComp elt [⟨.Name x px,iter,[],0⟩] scope pos) (some (.Name y py)) h7.line X.env=pure true:=by rfl)(hs:∀x,foldedSetIterable iter X.env x=pure x:=by intro _;rfl)(hf:X.fn y=true\/X.env.scope.names.lookup y=some .local:=by first | exact .inl rfl | exact .inr rfl | assumption):JS X R (.Assign [.Name y py] (.ListComp elt [⟨.Name x px,iter,[],0⟩] scope pos) h7) (zB i (gU ti te Θ)):=PK false S hi (eC S (i:=0) rfl) bo (cn (Nat.zero_lt_succ 0)) (λ_ _ _ _=>iL) he hc hs hN Dh hy Es hf λρ M q x h=>by unfold gU at h;simp only [kI] at h;exact h
end
theorem lK:∀{ns:List Int} {us:List Value},Ψ (ns.map V.int) us->∃ts:List (Int×Tok),us=ts.map (λp=>Value.int p.1 p.2)/\ts.map (·.1)=ns
 | [],_,h=>by cases h;exact ⟨[],rfl,rfl⟩
 | n::ns,_,h=>by
  cases h with
  | cons r t=>
   obtain ⟨tk,rfl⟩:=r;obtain ⟨ts,rfl,rfl⟩:=lK t;exact ⟨(n,tk)::ts,rfl,rfl⟩
def Nd(K:fv):List V->Hp->VK->Prop:=λxs H Q=>∃(p:Addr) (ns:List Int),xs=[.ref p]/\eQ K H p (ns.map V.int)/\Q (.int ns.sum) H
theorem Em{X:Cx}(hc:X.calm=true):cw X (.builtin "sum") (Nd X.K):=by
 intro δ s σ H xs us Q I r h;obtain ⟨p,ns,rfl,hq,q⟩:=h;obtain ⟨u,rfl,r1⟩:=iE r;cases r1;obtain ⟨its,rv,pl,hz⟩:=I.list hq;obtain ⟨ts,rfl,rfl⟩:=lK rv;have e:(ts.map λp=>Value.int p.1 p.2).toArray=intItems ts.toArray:=by simp [intItems]
 have hl:=pl.isList;rw [e] at hl;refine sum_intListG (I.ok.hd hc) hl λh' tk t' hk=> ?_;refine ⟨.int (ts.map (·.1)).sum,H,I.kept hk,⟨t', ?_⟩,q⟩;rw [preSum_eq,List.take_of_length_le (by simp)]
def IG:List Dt->Ms->DQ->Prop
 | [d],M,q=>∃ns:List Int,gu M d=some (ns.map .int)/\(∃xs ok,i0 M d=some (xs,ok))/\q (.int ns.sum) M
 | _,_,_=>False
theorem jZ{K:fv}{G:Hp}{L:List Addr}:∀{ns:List Int} {vs:List V},Ε K G L (ns.map Dt.int) vs->vs=ns.map V.int
 | [],_,h=>h
 | _::_,_,⟨v,r,e,h1,h2⟩=>by have h1:v=_:=h1;rw [e,h1,jZ h2];rfl
theorem kD{M:Ms}{d:Dt}{xs:List Dt}{ok:Ms->Prop}(h:i0 M d=some (xs,ok)):gu M d=some xs:=by
 cases d with
 | lst ds=>cases h;rfl
 | cT ns=>cases h;rfl
 | loc k=>
  have h:(match M[k]? with | some (.lst xs)=>some (xs,λM':Ms=>M'[k]? =some (.lst xs)) | _=>none)=some (xs,ok):=h;show (match M[k]? with | some (.lst xs)=>some xs | _=>none)=some xs;split at h
  ·rename_i ys hm;cases h;rfl
  ·cases h
 | _=>cases h
theorem Rv{K:fv}:Dj K (Nd K) IG:=by
 intro G0 L0 H0 G L M H vs ds q e r n h;unfold IG at h;split at h
 ·rename_i d;obtain ⟨v,rfl,n1⟩:=aW n;obtain ⟨ns,hs,⟨xs,ok,hl⟩,hq⟩:=h;obtain ⟨a,us,rfl,sq,sr,aJ⟩:=xw r n1 hl;rw [kD hl] at hs;cases hs;obtain ⟨ws,Lw,dn⟩:=sr.at_ G L M H (.refl _) (.refl _) r aJ;rw [jZ dn] at Lw;exact ⟨a,ns,rfl,Lw, .int ns.sum,G,L,M,e,r,rfl,hq⟩
 ·exact h.elim
theorem zG:bootBuiltins "sum"=some (.builtin "sum"):=by decide+kernel
theorem wD:bootBuiltins "enumerate"=some (.type "enumerate"):=by decide+kernel
section
variable{X:Cx}{R:St->XK}{e a b:Expr}{t:DA}{ta tb:DE}{p pos:Pos}
theorem HA(hm:X.mg "sum"=none)(ha:JA X R [e] t)(hc:X.calm=true:=by rfl)(hg:Gl X "sum":=by rfl)(he:starEach [e] X.env=(false,eval e X.env)::starEach [] X.env:=by rfl)(eI:(backTo pos (starEach [] X.env)).any (·.1)=false:=by rfl):JE X R (.Call (.Name "sum" p) [e] [] pos) (wa IG t):=
 gG (Em hc) Rv hm zG ha hg (by decide) (by decide) he eI
def Og:Dt->Dt->Ms->DQ->Prop:=λd e M q=>∃u xs us,vY d=some u/\gu M e=some xs/\iz xs=some us/\q (.bl (OO u us)) M
theorem Qu{K:fv}:pJ K (Te K false) Og:=by intro G0 L0 H0 G L M H v1 v2 d1 d2 q e r n1 n2 ⟨u,xs,us,h1,h2,h3,hq⟩;obtain ⟨rfl,fu⟩:=kB h1 n1;obtain ⟨a,vs,rfl,sq,dn⟩:=nc r n2 h2;obtain ⟨rfl,fs⟩:=dM h3 dn;exact ⟨a,vs,rfl,sq,fu,fs, .bl _,G,L,M,e,r,rfl,hq⟩
theorem JM(ja:JE X R a ta)(jb:JE X R b tb)(hm:behindInMarks .In b=false:=by rfl):JT X R (.Compare a [.In] [b] pos) (mP (iH Og ta tb)):=g9 AU Qu ja jb hm
end
theorem Inv.Ak{X:Cx}{δ:List (Addr×Obj)}{σ:St}{H:Hp}{s:Shared}{h':Heap}{its:List Addr}{T:Addr}{o:HO}{t':Nat}(I:Inv X δ σ H s)(k:∀b u,b∉its->s.heap.get? b=some u->h'.get? b=some u)(f:∀b∈its,qu X δ H b)(hT:s.heap.objs.size<=T)(new:aO X.prog X.w (upd H T o) h' T o):
  Inv X δ σ (upd H T o) {s with heap:=h',toks:=t'}:=by
 have hn:=I.aJ.fresh hT;have To:∀b u,H b=some u->b∉its:=λb u e z=>by rw [(f b z).1] at e;cases e
 refine I.call (ch:=its) (g':=s.gens) (d':=s.drawn) (t':=t') ⟨λb u q _ _ hb=>k b u hb q,λb u q _ _ hb=>⟨u.slots,k b u hb q⟩,λb u q n _=> ?_,λb u q hb=>⟨u,k b u hb q⟩,λb xs q=> ?_,λb u xs q=> ?_,λb ps q=>⟨#[], ?_⟩⟩ (λb u e=> ?_) I.bare λb hb=> ?_
 ·rw [Β (aaG (aaC (aap q) hT))];exact n
 ·rw [Β (bt q hn)];exact q
 ·rw [Β (bt q hn)];exact q
 ·rw [Β (bt q hn),q];simp
 ·by_cases hb:b=T
  ·subst hb;rw [Ο] at e;cases e;exact new
  ·rw [Β hb] at e;refine (I.aJ b u e).zU (λc v hc q=>k c v ?_ q) (λc q=>by rw [Β (bt q hn)];exact q) λc xs q=>by rw [Β (bt q hn)];exact q
   rcases hc with z | z
   ·rw [z];exact To b u e
   ·exact To c _ z
 ·obtain ⟨f0,f1,f2,f3,f4,f5⟩:=f b hb;exact ⟨f3,f1,f4,f5⟩
def SX(K:fv)(l:Addr):It:=
 ⟨λi H=>∃xs x,eQ K H l xs/\xs[i]? =some x,λi H v H'=>∃p x,H p=none/\v= .ref p/\H'=upd H p (.tup [.int i,x])/\∀xs,eQ K H l xs->xs[i]? =some x,λi H=>∃xs,eQ K H l xs/\xs.length<=i⟩
theorem A1{P:Program}{w:World}{K:fv}{elts:List Expr}{x1:Nat}{tp:Pos}(l it e:Addr)(fP:e≠it):uF P w K (.Tuple elts x1 tp) (SX K l) [e,it] e (λi h=>(∃old,IsEnum h e it i old)/\h.IsListIter it l i) where
 mem:=by simp
 obj:=λi h st b hb=>by
  obtain ⟨⟨old,he⟩,hi⟩:=st;rcases aaz.mp hb with rfl | hb
  ·exact ⟨_,he,λv z=>by
    have z':Data.fields _=Data.cell v:=z
    cases z'⟩
  ·have e:b=it:=by simpa using hb
   subst e;obtain ⟨o,e,c,d⟩:=hi;exact ⟨o,e,λv z=>by rw [d] at z;cases z⟩
 keep:=λi h h' st k=>by obtain ⟨⟨old,he⟩,hi⟩:=st;exact ⟨⟨old,k e (by simp) _ he⟩,hi.at λo q=>k it (by simp) o q⟩
 item:=by
  intro X hP hw hK hc i δ s σ H E I hf st hg;subst hP hw hK;obtain ⟨⟨old,he⟩,hi⟩:=st;obtain ⟨xs,x,hq,hx⟩:=hg;obtain ⟨its,rv,p,hz⟩:=I.list hq;obtain ⟨u,hu,ru⟩:=rv.get hx;refine wpAny_pyNext_enum_item he hi p.isList (x:=u) (by simpa using hu) fP λh' ho QE hT hsz hk=> ?_;refine ⟨_,rfl,wpAny_letOwnedTupleGo_enum (s:={s with heap:=h',toks:=s.toks+1}) ho λh2 Uc sb=> ?_⟩;have sb:Heap.SameBut e h' h2:=sb;have elt:e < s.heap.objs.size:=aap he;have XO:it < s.heap.objs.size:=by obtain ⟨o,q,_⟩:=hi;exact aap q
  have neT:s.heap.objs.size≠e:=Nat.ne_of_gt elt;have Xf:h2.get? s.heap.objs.size=some {cls:= .type "tuple",data:= .seq #[.int i s.toks,u]}:=(sb.2 _ neT).trans hT;have I2:Inv X δ σ (upd H s.heap.objs.size (.tup [.int i,x])) {s with heap:=h2,toks:=s.toks+1}:=by
   refine I.Ak (its:=[e,it]) (λb o hb q=> ?_) hf (aal _) ?_
   ·have h1:b≠e:=λz=>hb (by simp [z]);have h3:b≠it:=λz=>hb (by simp [z]);exact (sb.2 b h1).trans (hk b o h1 h3 q)
   ·refine ⟨by simp [sizeLine_eq],[.int i s.toks,u], .cons ⟨_,rfl⟩ (.cons ru .nil), ?_⟩;exact ⟨_,Xf,rfl,0,rfl⟩
  have iter:h2.IsListIter it l (i+1):=QE.at λo q=>(sb.2 it (Ne.symm fP)).trans q;refine ⟨.ref s.heap.objs.size,_,I2,rfl,⟨s.heap.objs.size,x,I.aJ.fresh (Nat.le_refl _),rfl,rfl,λys hy=>by rw [I.bP hy hq];exact hx⟩,⟨⟨u,by simpa using Uc⟩,iter⟩,λb hb=> ?_⟩;have nb:b≠s.heap.objs.size:=by
   rcases aaz.mp hb with rfl | hb
   ·exact aaG elt
   ·have:b=it:=by simpa using hb
    subst this;exact aaG XO
  rw [Β nb];exact (hf b hb).1
 done:=by intro X hP hw hK hc i δ s σ H E I hf st hg;subst hP hw hK;obtain ⟨⟨old,he⟩,hi⟩:=st;obtain ⟨xs,hq,hx⟩:=hg;obtain ⟨its,rv,p,hz⟩:=I.list hq;have hl:=rv.length;obtain ⟨f0,f1,f2,f3,f4,f5⟩:=hf it (by simp);refine wpAny_pyNext_enum_end (I.ok.hd hc) he hi p.isList (by simp;omega) λh' ext=>⟨rfl,I.turned (t':=s.toks) (λb o hb q=>ext b o hb q) f0 f1 f3 f4 f5⟩
 self:=λ_ _ _ _ _ st h=>by obtain ⟨⟨old,he⟩,_⟩:=st;exact wpAny_pyIter_enum he h
def jc:Nat->List Dt->List Dt
 | _,[]=>[]
 | n,x::xs=> .tup [.int n,x]::jc (n+1) xs
theorem kP:∀(n:Nat) (xs:List Dt),(jc n xs).length=xs.length
 | _,[]=>rfl
 | n,_::xs=>by unfold jc;rw [List.length_cons,List.length_cons,kP]
theorem rF:∀{n i:Nat} {xs:List Dt} {d:Dt},(jc n xs)[i]? =some d->∃x,xs[i]? =some x/\d= .tup [.int ((n+i:Nat):Int),x]
 | n,i,[],d,h=>by simp [jc] at h
 | n,0,x::xs,d,h=>by unfold jc at h;simp at h;exact ⟨x,rfl,by rw [<-h];simp⟩
 | n,i+1,x::xs,d,h=>by unfold jc at h;obtain ⟨y,h1,h2⟩:=rF (n:=n+1) (i:=i) (xs:=xs) (d:=d) (by simpa using h);exact ⟨y,by simpa using h1,by rw [h2,show n+1+i=n+(i+1) by omega]⟩
theorem BF{K:fv}{G:Hp}{L:List Addr}{a:Addr}{xs:List Dt}{ok:Ms->Prop}(s:Src K a xs ok G L):JJ K (SX K a) (jc 0 xs) ok G L where
 go:=λi G1 L1 M1 H1 d g l r k e=>by obtain ⟨vs,hs,n⟩:=s.at_ G1 L1 M1 H1 g l r k;obtain ⟨y,ey,rfl⟩:=rF e;obtain ⟨v,e1,n1⟩:=n.get ey;refine ⟨⟨vs,v,hs,e1⟩,λv' H' ⟨p,x,hp,ev,eH,hx⟩=> ?_⟩;subst ev eH;have e2:=hx vs hs;rw [e1] at e2;cases e2;refine ⟨_,r.J1 hp,r.CW hp,j_ (ds:=[.int ((0+i:Nat):Int),y]) r hp ⟨_,_,rfl, ?_,_,_,rfl,n1,rfl⟩⟩;show V.int i=V.int _;rw [Nat.zero_add]
 stop:=λi G1 L1 M1 H1 g l r k e=>by obtain ⟨vs,hs,n⟩:=s.at_ G1 L1 M1 H1 g l r k;exact ⟨vs,hs,by rw [<-n.length,<-kP 0];exact e⟩
def Nj(t:DA):DK:=λρ M q x=>t ρ M (λds M1=>∃d xs ok,ds=[d]/\i0 M1 d=some (xs,ok)/\q (jc 0 xs) ok M1) x
theorem Gy{X:Cx}{R:St->XK}{elts:List Expr}{x1:Nat}{tp:Pos}{a:Expr}{t:DA}{p pos:Pos}(hm:X.mg "enumerate"=none)(ha:JA X R [a] t)(hg:Gl X "enumerate":=by rfl)(hs:starEach [a] X.env=[(false,eval a X.env)]:=by rfl):JK X R (.Tuple elts x1 tp) (.Call (.Name "enumerate" p) [a] [] pos) (Nj t):=by
 intro δ s σ H Q I ⟨G,L,ρ,M,q,x,rl,n,ht,hx,hQ⟩;refine Call_ (nL I hg hm wD (PyProof.Rows.callWith_type1 (bD (ha pos δ s σ H (K9 X.K G L H _) I ⟨G,L,ρ,M,_,x,rl,n,ht,hx,λ_ _ f=>f⟩) λus s1 ⟨vs,H1,I1,rv,ds,G1,L1,M1,e1,r1,n1,d,xs,ok,ed,hl,h1⟩=> ?_) hs rfl));subst ed;obtain ⟨v,rfl,n2⟩:=aW n1;obtain ⟨b,ws,rfl,sq,sr,_⟩:=xw r1 n2 hl;obtain ⟨u,rfl,ru⟩:=Ψ.one rv;cases ru;obtain ⟨its,_,pl,_⟩:=I1.list sq;refine call_enumerate_list pl.isList λh' he hi hz hk=> ?_;have I2:Inv X δ σ H1 {s1 with heap:=h'}:=I1.kept (t':=s1.toks) hk;refine wpAny_pyIter_enum (s:={s1 with heap:=h'}) he ⟨s1.heap.objs.size+1,[s1.heap.objs.size+1,s1.heap.objs.size],_,_,H1,rfl,I2,A1 b s1.heap.objs.size (s1.heap.objs.size+1) (Nat.ne_of_gt (Nat.lt_succ_self _)),⟨⟨_,he⟩,hi⟩,λc hc=> ?_,hQ _ _ ⟨_,ok,G1,L1,M1,e1,r1,BF sr,h1⟩⟩;have hc:s1.heap.objs.size<=c:=by
  rcases aaz.mp hc with rfl | hc
  ·exact Nat.le_succ _
  ·have:c=s1.heap.objs.size:=by simpa using hc
   rw [this];exact aal _
 have f:=I1.zE (H':=H1) hc (I1.aJ.fresh hc);exact f
def BX(M:Ms):Dt->Option Value
 | .loc k=>match M[k]? with
  | some (.lst _)=>some (.type "list")
  | _=>none
 | d=>He d
def Hm(K:fv):List Dt->Ms->DQ->Prop:=λds M q=>∃d c t t' b,ds=[d,c]/\BX M d=some t/\Mu c=some t'/\PySem.W.kitOne K t t'=some b/\q (.bl b) M
section
variable{K:fv}
theorem wK{G:Hp}{L:List Addr}{M:Ms}{H:Hp}{d:Dt}{v:V}{t:Value}(r:Rl K G L M H)(n:Den K G L d v)(h:BX M d=some t):iA K H v t:=by
 by_cases hd:∃k,d= .loc k
 ·obtain ⟨k,rfl⟩:=hd;obtain ⟨a,rfl,e⟩:=n;have h:(match M[k]? with | some (.lst _)=>some (Value.type "list") | _=>none)=some t:=h;split at h
  ·rename_i xs hm;cases h;obtain ⟨_,vs,e1,_⟩:=r.gh k a _ e hm;exact .lst e1
  ·cases h
 ·refine Av r n ?_;cases d with
  | loc k=>exact aaH ⟨k,rfl⟩ hd
  | _=>exact h
theorem Nt:Dj K (λxs H Q=>∃x c t t' b,xs=[x,c]/\iA K H x t/\C1 c=some t'/\PySem.W.kitOne K t t'=some b/\Q (.bl b) H) (Hm K):=by intro G0 L0 H0 G L M H vs ds q e r n ⟨d,c,t,t',b,ed,h1,h2,hb,h⟩;subst ed;obtain ⟨v,u,rfl,n1,n2⟩:=eh n;exact ⟨v,u,t,t',b,rfl,wK r n1 h1,zr n2 h2,hb,bE e r h⟩
end
section
variable{X:Cx}{R:St->XK}{e e2:Expr}{t:DA}{p pos:Pos}
theorem ui(K:fv)(hm:X.mg "isinstance"=none)(ha:JA X R [e,e2] t)(he:starEach [e,e2] X.env=(false,eval e X.env)::starEach [e2] X.env:=by rfl)(eI:(backTo pos (starEach [e2] X.env)).any (·.1)=false:=by rfl)(hg:Gl X "isinstance":=by rfl)(hK:X.K=K:=by rfl):JE X R (.Call (.Name "isinstance" p) [e,e2] [] pos) (wa (Hm K) t):=by subst hK;exact gG mF Nt hm fG ha hg (by decide) (by decide) he eI
theorem qU:∀{zs:List Str} {us:List Value},Paired (λ(z:Str) (u:Value)=>∃tk,u= .str z tk) zs us->Ψ (zs.map V.str) us
 | _,_, .nil=> .nil
 | _,_, .cons h t=> .cons h (qU t)
theorem LQ{x:Str}{zs:List Str}(hm:∃a o its n,X.mg x=some (.ref a)/\X.K.lookup a=some o/\o.cls= .type "tuple"/\o.data= .seq its n/\its.size<=sizeLine/\Paired (λ(z:Str) (u:Value)=>∃tk,u= .str z tk) zs its.toList)(hg:Gl X x:=by rfl)(hd:(x==("__debug__":Str))=false:=by decide):JE X R (.Name x pos) (dC (.kt (zs.map .str))):=by obtain ⟨a,o,its,n,h1,h2,h3,h4,h5,h6⟩:=hm;exact HM (v:= .ref a) (tH hg h1 rfl hd) λG L=>⟨a,zs.map V.str,rfl, .inr ⟨o,its,n,h2,h3,h4,h5,qU h6⟩,rE⟩
end
theorem cy{te:DE}{cs:En}{ok:Ms->Prop}{f:Dt->Dt}:∀{xs ae:List Dt} {M:Ms} {k:List Dt->Ms->Prop},ok M->(∀x∈xs,∀q:DQ,q (f x) M->te (some x::cs) M q jj)->k (ae++xs.map f) M->gI te cs ok xs ae M k
 | [],ae,M,k,ho,_,h=>⟨ho,by simpa using h⟩
 | x::xs,ae,M,k,ho,hf,h=>⟨ho,hf x List.mem_cons_self _ (cy ho (λy hy=>hf y (List.mem_cons_of_mem _ hy)) (by simpa using h))⟩
theorem fJ{g:Dt->En->(En->Prop)->Prop}{tb:DS}{Dn:ke}{ok:Ms->Prop}(J:List Dt->En->Ms->Prop)(aJ:∀xs ρ M,J xs ρ M->ok M)
  (step:∀x xs ρ M,J (x::xs) ρ M->(∀ρ M,J xs ρ M->jH g tb Dn ok xs ρ M)->g x ρ λρ'=>tb {Dn with nx:=jH g tb Dn ok xs,ct:=jH g tb Dn ok xs,bk:=Dn.nx} ρ' M)
  (fin:∀ρ M,J [] ρ M->Dn.nx ρ M):∀(xs:List Dt) (ρ:En) (M:Ms),J xs ρ M->jH g tb Dn ok xs ρ M
 | [],ρ,M,h=>⟨aJ _ _ _ h,fin _ _ h⟩
 | x::xs,ρ,M,h=>⟨aJ _ _ _ h,step x xs ρ M h λρ' M' h'=>fJ J aJ step fin xs ρ' M' h'⟩
section
variable{K:fv}{G:Hp}{L:List Addr}
mutual
theorem K2:∀(d:Dt) (v:V),Den K G L d v->d.under L.length
 | .bf,_,_=>trivial
 | .bl _,_,_=>trivial
 | .int _,_,_=>trivial
 | .str _,_,_=>trivial
 | .tup ds,_,⟨a,vs,e,h1,h2⟩=>cI ds vs h2
 | .lst ds,_,⟨a,vs,e,h1,h2⟩=>cI ds vs h2
 | .obj C ns ds,_,⟨a,dx,vs,e,h1,hl,h2⟩=>cI ds vs h2
 | .loc k,_,⟨a,e,h1⟩=>(aad.mp h1).1
 | .ref _,_,_=>trivial
 | .ty _,_,_=>trivial
 | .cT _,_,_=>trivial
 | .kt ds,_,⟨a,vs,e,h1,h2⟩=>cI ds vs h2
 | .exc _ _ ds,_,⟨a,od,vs,e,h1,h2,h3,h4⟩=>cI ds vs h4
 | .LH _ _ _ _ ds,_,⟨vs,e,h2,h3,h4⟩=>cI ds vs h4
theorem cI:∀(ds:List Dt) (vs:List V),Ε K G L ds vs->Dt.aV L.length ds
 | [],_,_=>trivial
 | d::ds,_,⟨v,r,e,h1,h2⟩=>⟨K2 d v h1,cI ds r h2⟩
end
theorem Rl.un{M:Ms}{H:Hp}(r:Rl K G L M H):∀m∈M,MO.under M.length m:=λm hm=>by
 obtain ⟨k,hk,e⟩:=List.getElem_of_mem hm;have em:M[k]? =some m:=by rw [aaa hk,e]
 have el:L[k]? =some (L[k]'(by rw [r.len];exact hk)):=aaa _;obtain ⟨_,q⟩:=r.gh k _ m el em;rw [<-r.len];cases m with
 | lst ds=>obtain ⟨vs,_,h⟩:=q;exact cI _ _ h
 | ins C ns ds=>obtain ⟨dx,vs,_,_,h⟩:=q;exact cI _ _ h
 | EH ks ds=>obtain ⟨vs,_,_,h⟩:=q;exact cI _ _ h
 | raw u=>trivial
 | Ha u ds=>obtain ⟨vs,_,h⟩:=q;exact cI _ _ h
end
def mW(M0:Ms)(q:DQ):DQ:=λd M=>∃E d',M=M0++E/\zD M0.length E d d'/\q d' M0
theorem Fin.mW{K:fv}{G0:Hp}{L0:List Addr}{M0:Ms}{H0:Hp}{q:DQ}{v:V}{H:Hp}(r0:Rl K G0 L0 M0 H0)(f:Fin K G0 L0 H0 (mW M0 q) v H):Fin K G0 L0 H0 q v H:=by obtain ⟨d,G,L,M,ex,r,dn,E,d',e,fz,hq⟩:=f;exact Fin.uH r0 ⟨d,G,L,M,ex,r,dn,M0,E,d',e,rfl,r0.un,fz,hq⟩
def Pa(t:DE):DE:=λρ M q x=>t ρ M (mW M q) x
theorem bN{X:Cx}{R:St->XK}{e:Expr}{t:DE}(h:JE X R e t):JE X R e (Pa t):= .of h λσ H G L ρ M q x rl n ht hx=>⟨G,L,ρ,M,_,x,rl,n,ht,hx,λv H1 f=>Fin.mW rl f⟩
theorem GC{M0:Ms}{q:DQ}{d:Dt}(hu:d.under M0.length)(h:q d M0):mW M0 q d M0:=⟨[],d,by simp, .old hu,h⟩
theorem jn{M0 E:Ms}{q:DQ}{d d':Dt}(f:zD M0.length E d d')(h:q d' M0):mW M0 q d (M0++E):=⟨E,d',rfl,f,h⟩
def dE(f:Expr->Option Dt):List Expr->Option (List Dt)
 | []=>some []
 | e::es=>match f e,dE f es with
  | some d,some ds=>some (d::ds)
  | _,_=>none
def d9:Nat->Expr->Option Dt
 | 0,e=>match e with
  | .Constant (.int i) _ _=>some (.int i)
  | .Constant (.str x) _ _=>some (.str x)
  | _=>none
 | n+1,e=>match e with
  | .Constant (.int i) _ _=>some (.int i)
  | .Constant (.str x) _ _=>some (.str x)
  | .Tuple es _ _=>if es.length<=100 then (dE (d9 n) es).map .tup else none
  | .List es _=>if es.length<=100 then (dE (d9 n) es).map .lst else none
  | _=>none
theorem x9{n:Nat}{e:Expr}{d:Dt}{es:List Expr}{env:Env}(h:d9 n e=some d):starEach (e::es) env=(false,eval e env)::starEach es env:=by cases n <;> (unfold d9 at h;split at h <;> first | rfl | cases h)
theorem ik{f:Expr->Option Dt}:∀{es:List Expr} {ds:List Dt},dE f es=some ds->ds.length=es.length
 | [],ds,h=>by cases h;rfl
 | e::es,ds,h=>by
  unfold dE at h;split at h
  ·rename_i d Bb h1 h2;cases h;rw [aaN,aaN,ik h2]
  ·cases h
section
variable{X:Cx}{R:St->XK}
theorem og{n:Nat}(ih:∀(e:Expr) (d:Dt),d9 n e=some d->JE X R e (dC d)):∀(es:List Expr) (ds:List Dt),dE (d9 n) es=some ds->JA X R es (λ_ M q _=>q ds M)
 | [],ds,h=>by cases h;exact ε
 | e::es,ds,h=>by
  unfold dE at h;split at h
  ·rename_i d Bb h1 h2;cases h;exact ζ (ih e d h1) (og ih es Bb h2) (hs:=x9 h1)
  ·cases h
theorem yz{n:Nat}(h:n<=100):n<=sizeLine:=aam h (by decide)
theorem JE.imp{e:Expr}{t t':DE}(h:JE X R e t)(hi:∀ρ M q x,t' ρ M q x->t ρ M q x):JE X R e t':= .of h λσ H G L ρ M q x rl n ht hx=>⟨G,L,ρ,M,q,x,rl,n,hi _ _ _ _ ht,hx,λ_ _ f=>f⟩
theorem nA:∀(n:Nat) {e:Expr} {d:Dt},d9 n e=some d->JE X R e (dC d)
 | 0,e,d,h=>by
  unfold d9 at h;split at h
  ·cases h;exact ι
  ·cases h;exact fE
  ·cases h
 | n +1,e,d,h=>by
  unfold d9 at h;split at h
  ·cases h;exact ι
  ·cases h;exact fE
  ·split at h
   ·rename_i es _ _ hl;cases hc:dE (d9 n) es with
    | none=>rw [hc] at h;cases h
    | some ds=>
     rw [hc] at h;cases h;exact (aq (og (λe d=>nA n) es ds hc)).imp λρ M q x hq=>⟨yz (by rw [ik hc];exact hl),hq⟩
   ·cases h
  ·split at h
   ·rename_i es _ hl;cases hc:dE (d9 n) es with
    | none=>rw [hc] at h;cases h
    | some ds=>
     rw [hc] at h;cases h;exact (ji (og (λe d=>nA n) es ds hc)).imp λρ M q x hq=>⟨yz (by rw [ik hc];exact hl),hq⟩
   ·cases h
  ·cases h
end
theorem dF{g:Dt->En->(En->Prop)->Prop}{tc:DT}{te:DE}{ρ0:En}{ok:Ms->Prop}{M:Ms}{k:List Dt->Ms->Prop}(ho:ok M)(b:Dt->Bool)(f:Dt->Dt):∀(xs ae:List Dt),(∀x∈xs,∀(q:DQ) (p:Ms->Prop),(b x=true->q (f x) M)->(b x=false->p M)->g x ρ0 λρ'=>tc ρ' M (λb' M1=>match b' with | true=>te ρ' M1 q jj | false=>p M1) jj)->
  k (ae++(xs.filter b).map f) M->gW g tc te ρ0 ok xs ae M k
 | [],ae,_,h=>⟨ho,by simpa using h⟩
 | x::xs,ae,ht,h=>⟨ho,ht x List.mem_cons_self _ _ (λhb=>dF ho b f xs _ (λy hy=>ht y (List.mem_cons_of_mem _ hy)) (by simpa [hb] using h)) λhb=>dF ho b f xs _ (λy hy=>ht y (List.mem_cons_of_mem _ hy)) (by simpa [hb] using h)⟩
theorem qM(xs:List V)(k:Nat):qt xs (some (k:Int)) none=xs.drop k:=by
 unfold qt;rw [HT.nD,HT.vc];by_cases h:k<=xs.length
 ·rw [Nat.min_eq_left h,List.take_of_length_le (by rw [abu];omega)]
 ·rw [Nat.min_eq_right (by omega),List.drop_eq_nil_of_le (Nat.le_refl _),List.drop_eq_nil_of_le (by omega)];simp
def Ie(te tl:DE):DE:=λρ M q x=>te ρ M (λd M1=>tl ρ M1 (λdi M2=>∃ds n,d= .tup ds/\di= .int (n:Nat)/\1<=n/\1<=ds.length/\q (.tup (ds.drop n)) M2) x) x
theorem qP{X:Cx}{R:St->XK}{e l:Expr}{te tl:DE}{pos p2:Pos}(he:JE X R e te)(hl:JE X R l tl):JE X R (.Subscript e (.Slice (some l) none none p2) pos) (Ie te tl):=
 .of (kN Bq he (nh hl) nB) λσ H G L ρ M q x rl n h hx=>by
  refine ⟨G,L,ρ,M,_,x,rl,n,h,hx,λv H1 ⟨d1,G1,L1,M1,e1,r1,n1,h1⟩=> ?_⟩;refine ⟨G1,L1,ρ,M1,_,x,r1,n.mono e1,h1,hx.on e1,λv2 H2 ⟨d2,G2,L2,M2,e2,r2,n2,ds,k,ed,ei,k1,l1,h2⟩=> ?_⟩;subst ed ei;obtain ⟨a,vs,rfl,ea,m⟩:=Den.mono e2.g e2.l _ _ n1;have n2:v2= .int k:=n2;subst n2;have lv:=m.length;refine ⟨k,rfl,a,vs,rfl, .of (r2.sub _ _ ea),λz=> ?_,λp hp=> ?_⟩
  ·rw [HT.nD] at z;omega
  ·rw [qM];exact gq (e1.trans e2) r2 hp (j_ r2 hp (Ε.of (oq k m.pair))) h2
section
variable{κ:Type} [DecidableEq κ]
theorem iY.AK{o:Option V}{u:Option Value}(r:iY o u):o.isSome=u.isSome:=by
 cases o with
 | none=>cases u with
  | none=>rfl
  | some _=>exact (show False from r).elim
 | some _=>cases u with
  | none=>exact (show False from r).elim
  | some _=>rfl
theorem iY.getD{o:Option V}{u:Option Value}{d:V}{d':Value}(r:iY o u)(rd:Ω d d'):Ω (o.getD d) (u.getD d'):=by
 cases o with
 | none=>cases u with
  | none=>exact rd
  | some _=>exact (show False from r).elim
 | some _=>cases u with
  | none=>exact (show False from r).elim
  | some _=>exact r
end
theorem HK{P:Program}{w:World}{k:Key}{u:Value}(r:Ω (kV k) u):(aY P w).is k u=true:=by
 cases k with
 | inl i=>obtain ⟨t,e⟩:=(show∃t,u=Value.int i t from r);subst e;exact u6 P w i t
 | inr x=>obtain ⟨t,e⟩:=(show∃t,u=Value.str x t from r);subst e;exact vx P w x t
theorem qR{P:Program}{w:World}:∀{ks:List Key} {us:List Value},Ψ (ks.map kV) us->ItemsAre (aY P w) ks us
 | [],_,r=>by rw [List.map_nil] at r;cases r;exact .nil
 | k::ks,_,r=>by
  rw [aaD] at r;cases r with
  | cons h t=>exact .cons (HK h) (qR t)
section
variable{P:Program}{w:World}{H:Hp}{h:Heap}{a:Addr}
theorem L7{u:HO}(ok:iW P w H h)(e:Rd H a u):aO P w H h a u:=e.ok ok
theorem N2{Κ:List (Key×V)}(ok:iW P w H h)(e:Rd H a (.dK Κ)):Κ.length<=sizeLine/\(a==sysModules)=false/\∃vs,KV Κ vs/\h.DictOf (aY P w) a vs:=
 show aO P w H h a (.dK Κ) from L7 ok e
theorem NR{Κ:List (Key×V)}(ok:iW P w H h)(e:H a=some (.dK Κ)):Κ.length<=sizeLine/\(a==sysModules)=false/\∃vs,KV Κ vs/\h.DictOf (aY P w) a vs:=N2 ok (.inl e)
theorem Jp{ks:List Key}(ok:iW P w H h)(e:H a=some (.tup (ks.map kV))):(tupleKind (aY P w)).is h ks a:=by obtain ⟨_,its,r,o,h1,h2,n,h3⟩:=(show aO P w H h a (.tup (ks.map kV)) from ok a _ e);exact ⟨o,its.toArray,n,h1,h2,h3,by simpa using qR r⟩
end
section
variable{X:Cx}{δ:List (Addr×Obj)}{σ:St}{H:Hp}{s:Shared}{a:Addr}{y v:V}{u r:Value}{o:Option V}{A:Around}{E:Value->Shared->Prop}
theorem Inv.big(I:Inv X δ σ H s):sysModules < s.heap.objs.size:=by have h:mainGlobals < s.heap.objs.size:=(I.mod.glob.keeps I.bk).lt;exact Nat.lt_trans (by decide) h
theorem GH{h':Heap}{t':Nat}{ob:HO}(I:Inv X δ σ H s)(mu:Ls (H a))(hs:Heap.SameBut a s.heap h')(he:∃q,h'.get? a=some q)(new:aO X.prog X.w (upd H a ob) h' a ob):
  Inv X δ σ (upd H a ob) {s with heap:=h',toks:=t'}:=
 I.write (x:=a) (e:=a) mu (.inl rfl) (λb q hb z=>(hs.2 b hb).trans z) he new
end
def JC(i:Expr):Prop:=∀ov iv,subscripted i false ov iv=operate [ov,iv] (getItem ov iv)
theorem EJ{prog:Program}{w:World}{A:Around}{E:Value->Shared->Prop}{s:Shared}{env:Env}{value slice:Expr}{pos:Pos}{T id:String}{Q:Value->Shared->Prop}
  (hl:typeLookup (.type T) "__getitem__"=pure (some (.builtin id))) (hs:JC slice)
  (h:wpAny (model prog w) A (eval value env) (λo s₁=>wpAny (model prog w) A (eval slice env) (λi s₂=>s₂.TypeIs o T/\wpAny (model prog w) A (getItem o i) Q E s₂) E s₁) E s):
  wpAny (model prog w) A (eval (.Subscript value slice pos) env) Q E s:=by
 refine Subscript_ (abt h (λo s₁ h₁=>abt h₁ (λi s₂ h₂=> ?_) λ_ _ x=>x) λ_ _ x=>x);obtain ⟨hT,h₂⟩:=h₂;unfold subscriptTail;refine aab ?_;rw [getitemInPython_of_ne hT.not_modules];refine aab (wpAny_specialOf hT hl ?_);have fin:wpAny (model prog w) A (subscripted slice false o i) (λr s₃=>wpAny (model prog w) A (letTemporaryGo value o r >>= λ_=>pure r) Q E s₃) E s₂:=by rw [hs o i];exact wpAny_operating (abt h₂ (λr s₃ h₃=>aab (wpAny_letTemporaryGo (aae h₃))) λ_ _ x=>x)
 first
  | exact aae (aab fin)
  | exact aab (aae (aab fin))
  | exact aab fin
theorem Cr{P:Program}{w:World}{H:Hp}(h:Heap)(hb:sysModules < h.objs.size):aO P w H (h.push {cls:= .type "dict",data:= .dict #[]}) h.objs.size (.dK []):=
 ⟨abD _,beq_eq_false_iff_ne.mpr (Ne.symm (aaG hb)),[], .nil,Heap.DictOf.new h⟩
def IX:TE:=λ_ H Q=>∀p,H p=none->Q (.ref p) (upd H p (.dK []))
section
variable{X:Cx}{pos:Pos}
theorem B8:PE X (.Dict [] [] pos) IX:=λδ s σ H Q I h=>
 wpAny_Dict_empty ⟨.ref s.heap.objs.size,_,I.laid (a:=s.heap.objs.size) (o:= .dK []) (t':=s.toks) (λ_ _ q=>aaf _ q) (aal _) (Cr s.heap I.big),rfl,h _ (I.aJ.fresh (aal _))⟩
end
structure M2(X:Cx)(o:Expr)(m:Str)(apos:Pos)(e f:Expr)(aF:Pos):Prop where
 base:attributeBase o m X.env (eval o X.env)=eval o X.env
 MM:((backTo aF (starEach [e,f] X.env)).all (λx=> !x.1)&&(backToKw aF (keywordEach [] X.env)).all (λx=>x.1.isSome)
  &&decide (([e,f]:List Expr).length+([]:List Keyword).length+(if ([]:List Keyword).isEmpty then 0 else 1) < 30))=true
 line:(apos.endLine==aF.line)=true
 trees:backTo aF (starEach [e,f] X.env)=[(false,eval e X.env),(false,eval f X.env)]
end L2
namespace Att
open PySem PySem.W PySem.Calls PyProof.Rows
end Att
namespace L2
open PySem PySem.Spec PyProof.Rows
end L2
/- XA P2 FO (shape;Up,My.* are MT):
  My.VP:a structure of E2 addresses Qi QZ NX names (classes,z6);My.Txt K t:a structure (Prop) of E2 equations m6 K;
  My.wU:{K} {implicit addresses ..} (e1:nsIn K mainGlobals "law"=some (some (.ref f))) (e2:K.lookup f=some ⟨oc,od, .func (fnOf "law" "law" params body scope dV kV doc pm an bK ct),sl⟩) (e3:codeIn K bK "law"=true) .. :∃t,My.Txt K t
set_option maxRecDepth 100000 in
set_option maxHeartbeats 0 in
theorem PySem.Challenge.cw_LID_holds : PySem.Challenge.rw_LID.Holds := by
 w_on;o_law;k_head;(case hw=>w_witness2)
 k_fill
 refine L2.tY (l:=PySem.Challenge.rw_LID) (n:=63) (k:=40) (x:="script") (CX:=fun w=> ..) (sp:=fun _=>My.KO) rfl (by decide) rfl ⟨rfl,by decide,by decide⟩ (fun w h Y=>PySem.W.kIn_of Y) ?F ?S ?C
 case F=>
  intro w mg fa h KX G Gp;have T:∃t,My.Txt (L2.R7 KX) t:=by
   dsimp only [L2.R7]
   refine' My.wU ?e1 ?e2 ?e3 ..
   (case e1=>PySem.W.k_is)
   (case e2=>PySem.W.k_is)
   ..
  obtain ⟨t,T⟩:=T;have e0:=Gp.symm.trans (PySem.W.mg_of KX G T.U4);cases e0;exact ⟨_,λs u=> .of_eq rfl,λbase kb nb=>My.wR T kb nb⟩
 case S=>exact λw H a ns hl hO hS=> ..
 case C=>exact ..
(E2 tactic k_is has no namespace:write k_is) -/
namespace L2
open PySem PySem.Spec PyProof.Rows
variable{X:Cx}{δ:List (Addr×Obj)}{s:Shared}{n k':Nat}{b:Bool}{G:Hp}{L:List Addr}{R:St->XK}{te:DE}{pos:Pos}
inductive vO(K:fv)(H:Hp):Nat->V->V->Bool->Prop
 | flat {n:Nat} {x y:V} (h1:cE x=true) (h2:cE y=true):vO K H n x y (eT x y)
 | tup {n:Nat} {a b:Addr} {xs ys:List V} {f:Nat->Bool} (h1:iZ K H a xs) (h2:iZ K H b ys) (h:∀j x y,xs[j]? =some x->ys[j]? =some y->vO K H n x y (f j)):vO K H (n+1) (.ref a) (.ref b) ((List.range (min xs.length ys.length)).all f&&xs.length==ys.length)
 | lst {n:Nat} {a b:Addr} {xs ys:List V} {f:Nat->Bool} (h1:eQ K H a xs) (h2:eQ K H b ys) (hl:xs.length=ys.length) (h:∀j x y,xs[j]? =some x->ys[j]? =some y->vO K H n x y (f j)):vO K H (n+1) (.ref a) (.ref b) ((List.range xs.length).all f)
 | len {n:Nat} {a b:Addr} {xs ys:List V} (h1:eQ K H a xs) (h2:eQ K H b ys) (hl:xs.length≠ys.length):vO K H (n+1) (.ref a) (.ref b) false
theorem Ed{x:V}(h:cE x=true):eT x x=true:=by cases x <;> first | rfl | (show (_==_)=true;simp) | cases h
section
variable{σ:St}{H:Hp}
theorem ow(I:Inv X δ σ H s){x y:V}(h:vO X.K H n x y b):x=y->b=true:=by
 induction h with
 | flat h1 h2=>intro e;subst e;exact Ed h1
 | @tup n a b xs ys f h1 h2 h ih=>
  intro e;cases e;cases I.fQ h1 h2;rw [abZ,abP,Bool.and_true];refine aaX.mpr λj hj=> ?_;have hj:=aaL.mp hj;exact ih j _ _ (aaa hj) (aaa hj) rfl
 | @lst n a b xs ys f h1 h2 hl h ih=>
  intro e;cases e;cases I.bP h1 h2;refine aaX.mpr λj hj=> ?_;have hj:=aaL.mp hj;exact ih j _ _ (aaa hj) (aaa hj) rfl
 | len h1 h2 hl=>
  intro e;cases e;cases I.bP h1 h2;exact aaH rfl hl
theorem aA{xs:List V}{its:List Value}(r:Ψ xs its){j:Nat}(h:j < its.toArray.size):∃x,xs[j]? =some x/\Ω x its.toArray[j]:=by
 have hj:j < its.length:=by simpa using h
 have hx:j < xs.length:=by rw [r.length];exact hj
 obtain ⟨u,g,ru⟩:=r.get (aaa hx);rw [aaa hj] at g;cases g;exact ⟨_,List.getElem?_eq_getElem hx,by simpa using ru⟩
theorem gb(I:Inv X δ σ H s){x y:V}(h:vO X.K H n x y b):∀{A:Around} {u v:Value},Ω x u->Ω y v->A.units+n < cLine->SeqAt.EqAt A s u v b:=by
 induction h with
 | flat h1 h2=>exact λru rv _=>sT ru rv h1 h2
 | @tup n a b xs ys f h1 h2 h ih=>
  intro A u v ru rv hu;cases ru;cases rv;by_cases e:a=b
  ·have:=ow I (.tup h1 h2 h) (aa3 V.ref e);rw [this,e];exact SeqAt.EqAt.same _
  ·obtain ⟨i1,v1,t1,_⟩:=I.tuple h1;obtain ⟨i2,v2,t2,_⟩:=I.tuple h2
   have:=SeqAt.RcAt.tuples (A:=A) (e:=f) (show s.heap.IsTuple a i1.toArray from t1) (show s.heap.IsTuple b i2.toArray from t2) (by omega) (λj g1 g2=>by
    obtain ⟨x,hx,rx⟩:=aA v1 g1;obtain ⟨y,hy,ry⟩:=aA v2 g2
    exact ih j x y hx hy rx ry (by show A.units+1+n < cLine;omega))
   rw [aas,aas,<-v1.length,<-v2.length] at this;exact SeqAt.EqAt.of_refs e this
 | @lst n a b xs ys f h1 h2 hl h ih=>
  intro A u v ru rv hu;cases ru;cases rv;by_cases e:a=b
  ·have:=ow I (.lst h1 h2 hl h) (aa3 V.ref e);rw [this,e];exact SeqAt.EqAt.same _
  ·obtain ⟨i1,v1,t1,_⟩:=I.list h1;obtain ⟨i2,v2,t2,_⟩:=I.list h2
   have:=SeqAt.RcAt.lists (A:=A) (e:=f) t1.isList t2.isList (by rw [aas,aas,<-v1.length,<-v2.length];exact hl) (by omega) (λj g1 g2=>by
    obtain ⟨x,hx,rx⟩:=aA v1 g1;obtain ⟨y,hy,ry⟩:=aA v2 g2
    exact ih j x y hx hy rx ry (by show A.units+1+n < cLine;omega))
   rw [aas,<-v1.length] at this;exact SeqAt.EqAt.of_refs e this
 | @len n a b xs ys h1 h2 hl=>
  intro A u v ru rv hu;cases ru;cases rv;have e:a≠b:=λe=>by subst e;cases I.bP h1 h2;exact hl rfl
  obtain ⟨i1,v1,t1,_⟩:=I.list h1;obtain ⟨i2,v2,t2,_⟩:=I.list h2;exact SeqAt.EqAt.of_refs e (SeqAt.RcAt.lists_lengths t1.isList t2.isList (by rw [List.size_toArray,List.size_toArray,<-v1.length,<-v2.length];simpa using hl) (by omega))
end
def Nh(K:fv)(n:Nat):R2:=λx y H Q=>∃a b c,x= .ref a/\y= .ref b/\vO K H n x y c/\Q (.bl c) H
def Nl(K:fv)(n:Nat):R2:=λx y H Q=>∃a b c,x= .ref a/\y= .ref b/\vO K H n x y c/\Q (.bl (!c)) H
section
theorem Bg(hu:X.A.units+n < cLine):ij X (compareOp .Eq) (Nh X.K n):=by
 intro δ s σ H x y v u Q I rx ry h;obtain ⟨a,b,c,rfl,rfl,h,q⟩:=h;cases rx;cases ry;cases h with
 | flat h1 h2=>cases h1
 | @tup n _ _ xs ys f h1 h2 h=>
  obtain ⟨i1,v1,t1,_⟩:=I.tuple h1;obtain ⟨i2,v2,t2,_⟩:=I.tuple h2;refine SeqAt.eq_tupleAt (e:=f) (show s.heap.IsTuple a i1.toArray from t1) (show s.heap.IsTuple b i2.toArray from t2) (by omega) (λj g1 g2=> ?_) ?_
  ·obtain ⟨x,hx,rx⟩:=aA v1 g1;obtain ⟨y,hy,ry⟩:=aA v2 g2;exact gb I (h j x y hx hy) rx ry (by show X.A.units+1+n < cLine;omega)
  ·rw [aas,aas,<-v1.length,<-v2.length];exact ⟨.bl _,H,I,rfl,q⟩
 | @lst n _ _ xs ys f h1 h2 hl h=>
  obtain ⟨i1,v1,t1,_⟩:=I.list h1;obtain ⟨i2,v2,t2,_⟩:=I.list h2;refine SeqAt.eq_listAt (e:=f) t1.isList t2.isList (by rw [aas,aas,<-v1.length,<-v2.length];exact hl) (by omega) (λj g1 g2=> ?_) ?_
  ·obtain ⟨x,hx,rx⟩:=aA v1 g1;obtain ⟨y,hy,ry⟩:=aA v2 g2;exact gb I (h j x y hx hy) rx ry (by show X.A.units+1+n < cLine;omega)
  ·rw [aas,<-v1.length];exact ⟨.bl _,H,I,rfl,q⟩
 | @len n _ _ xs ys h1 h2 hl=>
  obtain ⟨i1,v1,t1,_⟩:=I.list h1;obtain ⟨i2,v2,t2,_⟩:=I.list h2;exact SeqAt.eq_list_lengthsAt t1.isList t2.isList (by rw [List.size_toArray,List.size_toArray,<-v1.length,<-v2.length];simpa using hl) (by omega) ⟨.bl _,H,I,rfl,q⟩
theorem KJ(hu:X.A.units+n < cLine):ij X (compareOp .NotEq) (Nl X.K n):=by
 intro δ s σ H x y v u Q I rx ry h;obtain ⟨a,b,c,rfl,rfl,h,q⟩:=h;cases rx;cases ry;cases h with
 | flat h1 h2=>cases h1
 | @tup n _ _ xs ys f h1 h2 h=>
  obtain ⟨i1,v1,t1,_⟩:=I.tuple h1;obtain ⟨i2,v2,t2,_⟩:=I.tuple h2;refine SeqAt.RcNeAt.tuples (e:=f) (show s.heap.IsTuple a i1.toArray from t1) (show s.heap.IsTuple b i2.toArray from t2) (by omega) (λj g1 g2=> ?_) _ _ _ _ ?_
  ·obtain ⟨x,hx,rx⟩:=aA v1 g1;obtain ⟨y,hy,ry⟩:=aA v2 g2;exact gb I (h j x y hx hy) rx ry (by show X.A.units+1+n < cLine;omega)
  ·rw [aas,aas,<-v1.length,<-v2.length];exact ⟨.bl _,H,I,rfl,q⟩
 | @lst n _ _ xs ys f h1 h2 hl h=>
  obtain ⟨i1,v1,t1,_⟩:=I.list h1;obtain ⟨i2,v2,t2,_⟩:=I.list h2;refine SeqAt.RcNeAt.lists (e:=f) t1.isList t2.isList (by rw [aas,aas,<-v1.length,<-v2.length];exact hl) (by omega) (λj g1 g2=> ?_) _ _ _ _ ?_
  ·obtain ⟨x,hx,rx⟩:=aA v1 g1;obtain ⟨y,hy,ry⟩:=aA v2 g2;exact gb I (h j x y hx hy) rx ry (by show X.A.units+1+n < cLine;omega)
  ·rw [aas,<-v1.length];exact ⟨.bl _,H,I,rfl,q⟩
 | @len n _ _ xs ys h1 h2 hl=>
  obtain ⟨i1,v1,t1,_⟩:=I.list h1;obtain ⟨i2,v2,t2,_⟩:=I.list h2;exact SeqAt.RcNeAt.lists_lengths t1.isList t2.isList (by rw [List.size_toArray,List.size_toArray,<-v1.length,<-v2.length];simpa using hl) (by omega) _ _ _ _ ⟨.bl _,H,I,rfl,q⟩
end
def fC(M:Ms):Dt->Option (List Dt)
 | .lst xs=>some xs
 | .cT ns=>some (ns.map .int)
 | .loc k=>match M[k]? with
  | some (.lst xs)=>some xs
  | _=>none
 | _=>none
inductive gM(M:Ms):Nat->Dt->Dt->Bool->Prop
 | flat {n:Nat} {d e:Dt} {x y:V} (h1:vY d=some x) (h2:vY e=some y):gM M n d e (eT x y)
 | tup {n:Nat} {ds es:List Dt} {f:Nat->Bool} (h:∀j d e,ds[j]? =some d->es[j]? =some e->gM M n d e (f j)):gM M (n+1) (.tup ds) (.tup es) ((List.range (min ds.length es.length)).all f&&ds.length==es.length)
 | lst {n:Nat} {d e:Dt} {ds es:List Dt} {f:Nat->Bool} (h1:fC M d=some ds) (h2:fC M e=some es) (hl:ds.length=es.length) (h:∀j d e,ds[j]? =some d->es[j]? =some e->gM M n d e (f j)):gM M (n+1) d e ((List.range ds.length).all f)
 | len {n:Nat} {d e:Dt} {ds es:List Dt} (h1:fC M d=some ds) (h2:fC M e=some es) (hl:ds.length≠es.length):gM M (n+1) d e false
theorem bU{K:fv}{M:Ms}{H:Hp}{d:Dt}{v:V}{xs:List Dt}(r:Rl K G L M H)(n:Den K G L d v)(h:fC M d=some xs):∃a vs,v= .ref a/\eQ K H a vs/\Ε K G L xs vs:=by
 cases d with
 | lst ds=>cases h;obtain ⟨a,vs,rfl,e,m⟩:=n;exact ⟨a,vs,rfl, .of (r.sub _ _ e),m⟩
 | cT ns=>cases h;obtain ⟨a,rfl,e⟩:=n;exact ⟨a,_,rfl,r.sub.seq e,cY⟩
 | loc k=>
  obtain ⟨a,rfl,e⟩:=n;have h:(match M[k]? with | some (.lst xs)=>some xs | _=>none)=some xs:=h;split at h
  ·rename_i ys hm;cases h;obtain ⟨_,vs,e1,m1⟩:=r.gh k a _ e hm;exact ⟨a,vs,rfl, .of e1,m1⟩
  ·cases h
 | _=>cases h
theorem Ε.back{K:fv}{ds:List Dt}{vs:List V}{i:Nat}{v:V}(h:Ε K G L ds vs)(e:vs[i]? =some v):∃d,ds[i]? =some d/\Den K G L d v:=by
 have hi:i < ds.length:=by rw [h.length];exact (aad.mp e).1
 obtain ⟨v',e',n⟩:=h.get (aaa hi);rw [e] at e';cases e';exact ⟨_,aaa hi,n⟩
theorem qW{K:fv}{M:Ms}{H:Hp}(r:Rl K G L M H){d e:Dt}(h:gM M n d e b):∀{v u:V},Den K G L d v->Den K G L e u->vO K H n v u b:=by
 induction h with
 | flat h1 h2=>
  intro v u n1 n2;obtain ⟨rfl,f1⟩:=kB h1 n1;obtain ⟨rfl,f2⟩:=kB h2 n2;exact .flat f1 f2
 | @tup n ds es f h ih=>
  intro v u n1 n2;obtain ⟨a,vs,rfl,e1,m1⟩:=n1;obtain ⟨b,us,rfl,e2,m2⟩:=n2;rw [m1.length,m2.length];refine .tup (.of (r.sub _ _ e1)) (.of (r.sub _ _ e2)) λj x y hx hy=> ?_;obtain ⟨d,hd,dn⟩:=m1.back hx;obtain ⟨e,he,en⟩:=m2.back hy;exact ih j d e hd he dn en
 | @lst n d e ds es f h1 h2 hl h ih=>
  intro v u n1 n2;obtain ⟨a,vs,rfl,s1,m1⟩:=bU r n1 h1;obtain ⟨b,us,rfl,s2,m2⟩:=bU r n2 h2;rw [m1.length];refine .lst s1 s2 (by rw [<-m1.length,<-m2.length];exact hl) λj x y hx hy=> ?_;obtain ⟨d,hd,dn⟩:=m1.back hx;obtain ⟨e,he,en⟩:=m2.back hy;exact ih j d e hd he dn en
 | @len n d e ds es h1 h2 hl=>
  intro v u n1 n2;obtain ⟨a,vs,rfl,s1,m1⟩:=bU r n1 h1;obtain ⟨b,us,rfl,s2,m2⟩:=bU r n2 h2;exact .len s1 s2 (by rw [<-m1.length,<-m2.length];exact hl)
def By(M:Ms)(d:Dt):Prop:=(∃ds,d= .tup ds)\/∃xs,fC M d=some xs
theorem nj{K:fv}{M:Ms}{H:Hp}{d:Dt}{v:V}(r:Rl K G L M H)(n:Den K G L d v)(h:By M d):∃a,v= .ref a:=by
 rcases h with ⟨ds,rfl⟩ | ⟨xs,h⟩
 ·obtain ⟨a,vs,rfl,_⟩:=n;exact ⟨a,rfl⟩
 ·obtain ⟨a,vs,rfl,_⟩:=bU r n h;exact ⟨a,rfl⟩
def Jy(n:Nat):Dt->Dt->Ms->DQ->Prop:=λd e M q=>∃b,By M d/\By M e/\gM M n d e b/\q (.bl b) M
def ML(n:Nat):Dt->Dt->Ms->DQ->Prop:=λd e M q=>∃b,By M d/\By M e/\gM M n d e b/\q (.bl (!b)) M
theorem Mr{K:fv}:pJ K (Nh K n) (Jy n):=by intro G0 L0 H0 G L M H v1 v2 d1 d2 q e r n1 n2 ⟨b,h1,h2,h,hq⟩;obtain ⟨a,rfl⟩:=nj r n1 h1;obtain ⟨a',rfl⟩:=nj r n2 h2;exact ⟨a,a',b,rfl,rfl,qW r h n1 n2,bE e r hq⟩
theorem QG{K:fv}:pJ K (Nl K n) (ML n):=by intro G0 L0 H0 G L M H v1 v2 d1 d2 q e r n1 n2 ⟨b,h1,h2,h,hq⟩;obtain ⟨a,rfl⟩:=nj r n1 h1;obtain ⟨a',rfl⟩:=nj r n2 h2;exact ⟨a,a',b,rfl,rfl,qW r h n1 n2,bE e r hq⟩
section
variable{a b e l u:Expr}{ta tb tl tu:DE}{t:DA}{p p2:Pos}
theorem sX{A:Around}{k:Nat}(hr:bq k A)(hn:n<=64):A.units+n < cLine:=aaP (Nat.add_le_add_left hn _) hr.units
theorem B6(n:Nat)(hr:bq k' X.A)(ja:JE X R a ta)(jb:JE X R b tb)(hn:n<=64:=by decide)(hm:behindInMarks .Eq b=false:=by rfl):JE X R (.Compare a [.Eq] [b] pos) (iH (Jy n) ta tb):=vP (Bg (sX hr hn)) Mr ja jb hm
theorem JP(n:Nat)(hr:bq k' X.A)(ja:JE X R a ta)(jb:JE X R b tb)(hn:n<=64:=by decide)(hm:behindInMarks .Eq b=false:=by rfl):JT X R (.Compare a [.Eq] [b] pos) (mP (iH (Jy n) ta tb)):=g9 (Bg (sX hr hn)) Mr ja jb hm
theorem wW(n:Nat)(hr:bq k' X.A)(ja:JE X R a ta)(jb:JE X R b tb)(hn:n<=64:=by decide)(hm:behindInMarks .NotEq b=false:=by rfl):JT X R (.Compare a [.NotEq] [b] pos) (mP (iH (ML n) ta tb)):=g9 (KJ (sX hr hn)) QG ja jb hm
theorem rq(xs:List V)(k:Nat):qt xs none (some (k:Int))=xs.take k:=by
 unfold qt;rw [HT.nD,HT.vc,List.drop_zero,Nat.sub_zero];by_cases h:k<=xs.length
 ·rw [Nat.min_eq_left h]
 ·rw [Nat.min_eq_right (by omega),List.take_of_length_le (aal _),List.take_of_length_le (by omega)]
def N9(te tl:DE):DE:=λρ M q x=>te ρ M (λd M1=>tl ρ M1 (λdi M2=>∃ds n,fC M2 d=some ds/\di= .int (n:Nat)/\q (.loc M2.length) (M2++[.lst (ds.drop n)])) x) x
theorem iP(he:JE X R e te)(hl:JE X R l tl):JE X R (.Subscript e (.Slice (some l) none none p2) pos) (N9 te tl):=
 .of (kN zq he (nh hl) nB) λσ H G L ρ M q x rl n h hx=>by refine ⟨G,L,ρ,M,_,x,rl,n,h,hx,λv H1 ⟨d1,G1,L1,M1,e1,r1,n1,h1⟩=> ?_⟩;refine ⟨G1,L1,ρ,M1,_,x,r1,n.mono e1,h1,hx.on e1,λv2 H2 ⟨d2,G2,L2,M2,e2,r2,n2,ds,k,ed,ei,h2⟩=> ?_⟩;subst ei;obtain ⟨a,vs,rfl,sq,m⟩:=bU r2 (Den.mono e2.g e2.l _ _ n1) ed;have n2:v2= .int k:=n2;subst n2;refine ⟨k,rfl,a,vs,rfl,sq,λp hp=> ?_⟩;rw [qM];exact iG (e1.trans e2) r2 hp (Ε.of (oq k m.pair)) h2
end
open PySem PySem.SeqAt
def jV(prog:Program)(w:World)(A:Around)(s:Shared)(y x:Value)(b:Bool):Prop:=
 ∀(E:Value->Shared->Prop) (Q:Bool->Shared->Prop),Q b s->wpAny (model prog w) A (eqBool y x) Q E s
section
variable{K:Type} [DecidableEq K]{prog:Program}{w:World}{knd:KeyKind prog w K}{A:Around}{E:Value->Shared->Prop}{a b:Addr}{Κ lR:List (K×Value)}
theorem jV.same(v:Value):jV prog w A s v v true:=λE Q h=>SeqAt.EqAt.same v prog w E Q h
theorem jV.of_refs{k:Bool}(fP:a≠b)(h:∀(E:Value->Shared->Prop) (Q:Value->Shared->Prop),Q (.bool k) s->wpAny (model prog w) A (richCompare .Eq (.ref a) (.ref b)) Q E s):jV prog w A s (.ref a) (.ref b) k:=λE Q hq=>by unfold eqBool;refine wpAny_holding ?_;refine wpAny_ite_split (λFE=>aaH (by have:=eq_of_beq FE;injection this) fP) (λ_=> ?_);exact aab (h E _ (wpAny_truthy_bool hq))
end
section
variable{a b e f o:Expr}{ta tb tf to:DE}{t:DA}{p apos aF:Pos}
def KY(to:DE):DE:=λρ M q x=>to ρ M (λd M1=>∃k xs,d= .loc k/\M1[k]? =some (.lst xs)/\q .bf (M1.set k (.lst []))) x
theorem GQ(ho:JE X R o to)(ia:attributeBase o "clear" X.env (eval o X.env)=eval o X.env:=by rfl)(g7:(apos.endLine==aF.line)=true:=by rfl):JE X R (.Call (.Attribute o "clear" apos) [] [] aF) (KY to):=
 .of (Jm abG PySem.F.slot_list_clear PySem.F.type_list_clear (r:=Et) Cz ho ia g7) λσ H G L ρ M q x rl n h hx=>by refine ⟨G,L,ρ,M,_,x,rl,n,h,hx,λv H1 ⟨d1,G1,L1,M1,e1,r1,n1,k,xs,ed,hm,h1⟩=> ?_⟩;subst ed;obtain ⟨a,rfl,hk⟩:=n1;obtain ⟨_,vs,hH,dn⟩:=r1.gh k a _ hk hm;exact ⟨.inl ⟨rfl,vs, .of hH⟩,a,vs,rfl,rfl,hH, .bf,G1,L1,_,e1.trans (r1.GN hk),r1.setM (m:= .lst []) hk ⟨[],Ο,rfl⟩,rfl,h1⟩
end
section
variable{elt iter c:Expr}{x z:Str}{px pz tp:Pos}{scope:Scope}{ti:DK}{tc:DT}{ys:List Str}{Θ:List Nat}{kk:Nat}
theorem kn{i:Nat}{y:Str}{py h7:Pos}(hN:X.N.Nodup)(Dh:X.N[i]? =some y)(hy:Loc X.env.scope y)(S:aj X scope [x] ys Θ)(hi:JK X R (.Name x px) iter ti)(ht:∀C s H fp,JT (Cx.comp X (x::ys) scope C s H fp) (λ_=>E0) c tc)(he:∀C s H fp,JE (Cx.comp X (x::ys) scope C s H fp) (λ_=>E0) elt te)(hc:X.calm=true:=by rfl)(Es:swapsWith (.ListComp elt [⟨.Name x px,iter,[c],0⟩] scope pos) (some (.Name y py)) h7.line X.env=pure true:=by rfl)(hs:∀x,foldedSetIterable iter X.env x=pure x:=by intro _;rfl)(hf:X.fn y=true\/X.env.scope.names.lookup y=some .local:=by first | exact .inl rfl | exact .inr rfl | assumption):JS X R (.Assign [.Name y py] (.ListComp elt [⟨.Name x px,iter,[c],0⟩] scope pos) h7) (zB i (yd 1 ti (gN 0) tc te Θ)):=PK false S hi (eC S (i:=0) rfl) bo (cn (Nat.zero_lt_succ 0)) (λC s H fp=>Fj (ht C s H fp)) he hc hs hN Dh hy Es hf λ_ _ _ _ h=>h
end
section
variable{e l:Expr}{tl:DE}{p2:Pos}
def BY(te tl:DE):DE:=λρ M q x=>te ρ M (λd M1=>tl ρ M1 (λdi M2=>∃ds n,fC M2 d=some ds/\di= .int (n:Nat)/\q (.loc M2.length) (M2++[.lst (ds.take n)])) x) x
theorem ng(he:JE X R e te)(hl:JE X R l tl):JE X R (.Subscript e (.Slice none (some l) none p2) pos) (BY te tl):=
 .of (kN zq he nB (nh hl)) λσ H G L ρ M q x rl n h hx=>by refine ⟨G,L,ρ,M,_,x,rl,n,h,hx,λv H1 ⟨d1,G1,L1,M1,e1,r1,n1,h1⟩=> ?_⟩;refine ⟨G1,L1,ρ,M1,_,x,r1,n.mono e1,h1,hx.on e1,λv2 H2 ⟨d2,G2,L2,M2,e2,r2,n2,ds,k,ed,ei,h2⟩=> ?_⟩;subst ei;obtain ⟨a,vs,rfl,sq,m⟩:=bU r2 (Den.mono e2.g e2.l _ _ n1) ed;have n2:v2= .int k:=n2;subst n2;refine ⟨k,rfl,a,vs,rfl,sq,λp hp=> ?_⟩;rw [rq];exact iG (e1.trans e2) r2 hp (Ε.of (pk k m.pair)) h2
end
section
variable{o i e a b:Expr}{to ti ta tb:DE}{p:Pos}
theorem IQ:JE X R (.Dict [] [] pos) (λ_ M q _=>q (.loc M.length) (M++[.EH [] []])):=
 .of B8 λσ H G L ρ M q x rl n h hx=>by intro p hp;exact ⟨.loc M.length,G,L++[p],_,rl.QH hp,rl.J2 (m:= .EH [] []) hp ⟨[],Ο,rfl,rfl⟩,⟨p,rfl,by rw [<-rl.len,List.getElem?_append_right (Nat.le_refl _)];simp⟩,h⟩
end
theorem B2{α β:Type}{F:α->β->Prop}:∀{xs:List α} {ys:List β},Paired F xs ys->∀{i:Nat} {x:α},xs[i]? =some x->∃y,ys[i]? =some y/\F x y
 | _,_, .nil,i,x,h=>by simp at h
 | _,_, .cons r t,0,x,h=>by obtain rfl:=aaA h;exact ⟨_,rfl,r⟩
 | _,_, .cons r t,i+1,x,h=>by obtain ⟨y,e,f⟩:=B2 t (show _=some x by simpa using h);exact ⟨y,by simpa using e,f⟩
def zk:Key->Dt
 | .inl i=> .int i
 | .inr x=> .str x
section
variable{σ:St}{H:Hp}
theorem yF(I:Inv X δ σ H s){a:Addr}{xs ys:List V}(h:iZ X.K H a xs)(h':eQ X.K H a ys):False:=by obtain ⟨_,_,⟨o,n,e,c,_⟩,_⟩:=I.list h';obtain ⟨_,_,⟨o2,e2,c2,_⟩,_⟩:=I.tuple h;rw [e] at e2;cases e2;rw [c] at c2;exact aaH (Value.type.inj c2) (by decide)
theorem D4(I:Inv X δ σ H s){x y:V}(h:vO X.K H n x y b):∀{b':Bool},vO X.K H n x y b'->b=b':=by
 induction h with
 | flat h1 h2=>
  intro b' h';cases h' with
  | flat=>rfl
  | tup=>cases h1
  | lst=>cases h1
  | len=>cases h1
 | @tup n a b xs ys f h1 h2 h ih=>
  intro b' h';cases h' with
  | flat lW=>cases lW
  | @tup _ _ _ xs' Uz f' lW Kq h'=>
   cases I.fQ h1 lW;cases I.fQ h2 Kq
   congr 1
   rw [abc,aaX,aaX];have key:∀j∈List.range (min xs.length ys.length),f j=f' j:=λj hj=>by
    have hj:=aaL.mp hj;have l1:j < xs.length:=by omega
    have l2:j < ys.length:=by omega
    exact ih j _ _ (aaa l1) (aaa l2) (h' j _ _ (aaa l1) (aaa l2))
   exact ⟨λz j hj=>by rw [<-key j hj];exact z j hj,λz j hj=>by rw [key j hj];exact z j hj⟩
  | lst lW=>exact (yF I h1 lW).elim
  | len lW=>exact (yF I h1 lW).elim
 | @lst n a b xs ys f h1 h2 hl h ih=>
  intro b' h';cases h' with
  | flat lW=>cases lW
  | tup lW=>exact (yF I lW h1).elim
  | @lst _ _ _ xs' Uz f' lW Kq HR h'=>
   cases I.bP h1 lW;cases I.bP h2 Kq;rw [abc,aaX,aaX];have key:∀j∈List.range xs.length,f j=f' j:=λj hj=>by
    have l1:=aaL.mp hj;have l2:j < ys.length:=by omega
    exact ih j _ _ (aaa l1) (aaa l2) (h' j _ _ (aaa l1) (aaa l2))
   exact ⟨λz j hj=>by rw [<-key j hj];exact z j hj,λz j hj=>by rw [key j hj];exact z j hj⟩
  | len lW Kq HR=>
   cases I.bP h1 lW;cases I.bP h2 Kq;exact aaH hl HR
 | len h1 h2 hl=>
  intro b' h';cases h' with
  | flat lW=>cases lW
  | tup lW=>exact (yF I lW h1).elim
  | lst lW Kq HR=>
   cases I.bP h1 lW;cases I.bP h2 Kq;exact aaH HR hl
  | len=>rfl
end
def Cy(K:fv)(n:Nat):V->List V->Hp->VK->Prop:=λx vs H Q=>∃p xs y,∃f:Nat->Bool,∃j:Nat,x= .ref p/\vs=[y]/\eQ K H p xs/\(∀i z,xs[i]? =some z->vO K H n z y (f i))/\j < xs.length/\f j=true/\(∀i,i < j->f i=false)/\Q (.int (j:Int)) H
theorem Di(hu:X.A.units+(n+1) < cLine):OR X "list.index" (Cy X.K n):=by
 intro δ s σ H x vs v us Q I rx rv h;obtain ⟨p,xs,y,f,j,rfl,rfl,hq,hf,hj,ft,ff,q⟩:=h;cases rx;obtain ⟨u,rfl,ru⟩:=rv.one;obtain ⟨its,r,pl,hz⟩:=I.list hq;obtain ⟨⟨cls,dd,data,sl⟩,nn,ho,hc,IV,hd⟩:=id pl;simp only at hc hd;subst hc hd
 classical
 have EE:X.A.in1.units+n < cLine:=by show X.A.units+1+n < cLine;omega
 have lz:its.toArray.size=xs.length:=by rw [aas,<-r.length]
 have R5:sizeLine < 2 ^ 63 - 1:=by decide
 have uq:∀i i' (z:V),xs[i]? =some z->xs[i']? =some z->f i=f i':=λi i' z h1 h2=>D4 I (hf i z h1) (hf i' z h2);have ev:∀(m:Nat) (hm:m < its.toArray.size),decide (∃i z,xs[i]? =some z/\Ω z its.toArray[m]/\f i=true)=f m:=λm hm=>by
  obtain ⟨z,hz,rz⟩:=aA r hm;by_cases c:∃i z,xs[i]? =some z/\Ω z its.toArray[m]/\f i=true
  ·rw [aaq c];obtain ⟨i,z',h1,h2,h3⟩:=c;cases rz.inj h2;rw [uq m i z hz h1,h3]
  ·rw [aaK c];cases e:f m with
   | false=>rfl
   | true=>exact aaH ⟨m,z,hz,rz,e⟩ c
 refine call_meets F.slot_list_index ⟨_,ho,rfl⟩ F.entry_list_index (F.args_list_index_2 _ _) (SeqAt.list_indexAt p its.toArray nn dd sl u (λw=>decide (∃i z,xs[i]? =some z/\Ω z w/\f i=true)) j (by omega) (by omega) ((ev j (by omega)).trans ft) (λm hm h=>(ev m hm).trans (ff m h))) ⟨ho,λw hw=> ?_, .int (j:Int),H,I.tok _,⟨_,rfl⟩,q⟩;obtain ⟨m,hm,rfl⟩:=Array.mem_iff_getElem.mp hw;obtain ⟨z,hz,rz⟩:=aA r hm;have:=ev m hm;exact this▸gb I (hf m z hz) rz ru EE
section
variable{e o:Expr}{t:DA}{to:DE}{apos aF:Pos}
def xk(n:Nat)(to:DE)(t:DA):DE:=λρ M q x=>to ρ M (λd M1=>(∃xs,fC M1 d=some xs)/\t ρ M1 (λds M2=>∃y xs,∃f:Nat->Bool,∃j:Nat,ds=[y]/\fC M2 d=some xs/\(∀i z,xs[i]? =some z->gM M2 n z y (f i))/\j < xs.length/\f j=true/\(∀i,i < j->f i=false)/\q (.int (j:Int)) M2) x) x
theorem sD(n:Nat)(hr:bq k' X.A)(ho:JE X R o to)(ha:JA X R [e] t)(hn:n+1<=64:=by decide)(ia:attributeBase o "index" X.env (eval o X.env)=eval o X.env:=by rfl)
  (w_:((backTo aF (starEach [e] X.env)).all (λx=> !x.1)&&(backToKw aF (keywordEach [] X.env)).all (λx=>x.1.isSome)
   &&decide (([e]:List Expr).length+([]:List Keyword).length+(if ([]:List Keyword).isEmpty then 0 else 1) < 30))=true:=by rfl)
  (g7:(apos.endLine==aF.line)=true:=by rfl) (hs:starEach [e] X.env=(false,eval e X.env)::starEach [] X.env:=by rfl) (jF:(backTo aF (starEach [] X.env)).any (·.1)=false:=by rfl):
  JE X R (.Call (.Attribute o "index" apos) [e] [] aF) (xk n to t):=
 .of (BO abG PySem.F.slot_list_index PySem.F.type_list_index (r:=Cy X.K n) (Di (sX hr hn)) ho ha ia w_ g7 hs jF) λσ H G L ρ M q x rl n h hx=>by refine ⟨G,L,ρ,M,_,x,rl,n,h,hx,λv H1 ⟨d1,G1,L1,M1,e1,r1,n1,⟨xs,hm⟩,h1⟩=> ?_⟩;obtain ⟨a,vs,rfl,sq,m⟩:=bU r1 n1 hm;refine ⟨.inl ⟨rfl,vs,sq⟩,G1,L1,ρ,M1,_,x,r1,n.mono e1,h1,hx.on e1,λus H2 ⟨ds,G2,L2,M2,e2,r2,n2,y,xs',f,j,ed,FU,hf,hj,ft,ff,h2⟩=> ?_⟩;subst ed;obtain ⟨u,rfl,n3⟩:=aW n2;obtain ⟨a2,JZ,ea,Lw,m2⟩:=bU r2 (Den.mono e2.g e2.l _ _ n1) FU;cases ea;refine ⟨a,JZ,u,f,j,rfl,rfl,Lw,λi z hz=> ?_,by rw [<-m2.length];exact hj,ft,ff, .int (j:Int),G2,L2,_,e1.trans e2,r2,rfl,h2⟩;obtain ⟨d,hd,dn⟩:=m2.back hz;exact qW r2 (hf i d hd) dn n3
end
end L2
namespace PySem
open Sem (wp)
section
variable{prog:Program}{w:World}{K:Type} [DecidableEq K](knd:KeyKind prog w K)
def aG(h:Heap)(k:List K×K)(a:Addr):Prop:=
 ∃o n b v,h.get? a=some o/\o.cls= .type "tuple"/\o.data= .seq #[.ref b,v] n/\IsTupleKey knd h k.1 b/\knd.is k.2 v=true
def nW(k:List K×K):Int:=reduceHash (Builtin.Tuple.tupleHashOf [tupleKeyHash knd k.1,knd.hash k.2])
variable{knd}
theorem aG.typeIs{s:Shared}{k:List K×K}{a:Addr}(x:aG knd s.heap k a):s.TypeIs (.ref a) "tuple":=let ⟨o,_,_,_,ho,hc,_⟩:=x;⟨o,ho,hc⟩
theorem aG.inj{h:Heap}{a:Addr}{x y:List K×K}(hx:aG knd h x a)(hy:aG knd h y a):x=y:=by
 obtain ⟨o,n,b,v,ho,_,hd,hi,hv⟩:=hx;obtain ⟨o',n',b',v',m_,_,eJ,QE,yn⟩:=hy;obtain rfl:o=o':=aaA (ho.symm.trans m_);rw [hd] at eJ;injection eJ with h1 _
 injection h1 with h1
 injection h1 with h1 h2
 injection h1 with h1
 injection h2 with h2 _
 subst h1 h2;exact Prod.ext (hi.inj QE) (knd.inj _ _ _ hv yn)
theorem aG.keeps{h h':Heap}{k:List K×K}{a d:Addr}{o:Obj}{es ep}(x:aG knd h k a)(ho:h.get? d=some o)(hd:o.data= .dict es ep)(hs:Heap.SameBut d h h'):
  aG knd h' k a:=by
 obtain ⟨o',n,b,v,m_,hc,eJ,hi,hv⟩:=x;have fP:a≠d:=by rintro rfl;obtain rfl:o'=o:=aaA (m_.symm.trans ho);rw [hd] at eJ;exact nomatch eJ
 exact ⟨o',n,b,v,(hs.2 a fP).trans m_,hc,eJ,hi.keeps ho hd hs,hv⟩
variable{A:Around}{E:Value->Shared->Prop}{s:Shared}
theorem ku{k:List K×K}{a:Addr}{Q:Int->Shared->Prop}(hu:A.units < cLine)(EE:A.in1.units < cLine)(hk:aG knd s.heap k a)(h:Q (nW knd k) {s with toks:=s.toks+(k.1.length+3)}):
  wpAny (model prog w) A (pyHash (.ref a)) Q E s:=by
 have hT:=hk.typeIs;obtain ⟨o,n,b,v,ho,_,hd,hi,hv⟩:=hk;unfold pyHash
 first | unfold pyHashByItsType | skip
 first | refine aab (wpAny_cRoomFor_or (.inr hu) ?_) | skip
 refine aab (wpAny_specialOf hT F.slot_tuple_hash.lookup ?_);show wpAny _ _ (if (some (Value.builtin "tuple.__hash__")==some Value.none)=true then _ else _) Q E s;rw [aaF (by rw [beq_builtin_none];exact aar)];refine aab (wpAny_specialOf hT F.slot_tuple_hash.lookup ?_);show wpAny _ _ (callSpecialIfBoundUnlessNone? (.ref a) "__hash__" _ >>= _) Q E s;refine aab (wpAny_callSpecialIfBoundUnlessNone?_slot hT F.slot_tuple_hash (wpAny_call_entry F.slot_tuple_hash hT F.entry_tuple_hash ?_ (F.args_tuple_hash_1 _)));show wpAny _ _ (Builtin.Tuple.tupleItemsOf (.ref a) >>= _) _ _ s;refine aab (wpAny_tupleItemsOf ho hd ?_);refine aab ?_;rw [<-Array.forIn_toList]
 refine wpAny_forIn_list _
  (λΙ (c:Array Int) s'=>(Ι=[.ref b,v]/\c.toList=[]/\s'=s)\/(Ι=[v]/\c.toList=[tupleKeyHash knd k.1]/\s'={s with toks:=s.toks+(k.1.length+1)})\/
   (Ι=[]/\c.toList=[tupleKeyHash knd k.1,knd.hash k.2]/\s'={s with toks:=s.toks+(k.1.length+2)}))
  _ ?_ ?_ _ _ (.inl ⟨rfl,rfl,rfl⟩)
 ·rintro x Ι c s' (⟨e,hc,rfl⟩ | ⟨e,hc,rfl⟩ | ⟨e,_⟩)
  ·injection e with e1 e2;subst e1 e2
   refine aab (wpAny_pyHash_tuple EE hi ?_)
   first
    | exact wpAny_pure (.inr (.inl ⟨rfl,by simp [hc],rfl⟩))
    | exact wpAny_bind (wpAny_pure (wpAny_pure (.inr (.inl ⟨rfl,by simp [hc],rfl⟩))))
  ·injection e with e1 e2;subst e1 e2
   refine aab (knd.pyHash hv ?_)
   first
    | exact wpAny_pure (.inr (.inr ⟨rfl,by simp [hc],by simp [Nat.add_assoc]⟩))
    | exact wpAny_bind (wpAny_pure (wpAny_pure (.inr (.inr ⟨rfl,by simp [hc],by simp [Nat.add_assoc]⟩))))
  ·exact nomatch e
 ·rintro c s' (⟨e,_⟩ | ⟨e,_⟩ | ⟨_,hc,rfl⟩)
  ·exact nomatch e
  ·exact nomatch e
  show wpAny _ _ (retInt (Builtin.Tuple.tupleHashOf c.toList)) _ _ _;rw [hc];refine wpAny_ret_mkInt ?_;show wpAny _ _ (if (decide (-(2:Int) ^ 63<=Builtin.Tuple.tupleHashOf [tupleKeyHash knd k.1,knd.hash k.2])&&decide (Builtin.Tuple.tupleHashOf [tupleKeyHash knd k.1,knd.hash k.2] < 2 ^ 63))=true then _ else _) Q E _;unfold nW reduceHash at h;by_cases hr:(decide (-(2:Int) ^ 63<=Builtin.Tuple.tupleHashOf [tupleKeyHash knd k.1,knd.hash k.2])&&decide (Builtin.Tuple.tupleHashOf [tupleKeyHash knd k.1,knd.hash k.2] < 2 ^ 63))=true
  ·rw [aaI hr];rw [aaI hr] at h;exact wpAny_pure (by simpa [Nat.add_assoc] using h)
  ·rw [aaF hr];rw [aaF hr] at h;exact wpAny_bind (wpAny_rule (wpAny_pure (by simpa [Nat.add_assoc] using h)))
theorem tF{x y:List K×K}{a b:Addr}{P:Fin->Shared->Prop}(hu:A.units < cLine)(hx:aG knd s.heap x a)(hy:aG knd s.heap y b)(h:P (.done (.ret (.bool (decide (x=y))))) s):
  wpAny (model prog w) A (Builtin.«tuple.__eq__» ⟨[.ref a, .ref b],[]⟩) P E s:=by
 have Wq:=hy.typeIs;obtain ⟨oa,na,b1,v1,V2,_,HZ,U8,OS⟩:=hx;obtain ⟨ob,nb,b2,v2,U9,_,p_,VZ,T6⟩:=hy;show wpAny _ _ (isInstance (.ref b) (.type "tuple") >>= _) _ _ s;refine aab (wpAny_isInstance Wq isSubtype_tuple_tuple ?_);simp only [Bool.not_true,Bool.false_eq_true,if_false];refine aab (wpAny_tupleItemsOf V2 HZ ?_);refine aab (wpAny_tupleItemsOf U9 p_ ?_);refine aab ?_;have e0:(#[Value.ref b1,v1]:Array Value).toList.zip (#[Value.ref b2,v2]:Array Value).toList=[(.ref b1, .ref b2),(v1,v2)]:=rfl
 refine wpAny_forIn_list _
  (λΙ r s'=>r.1=none/\s'=s/\(Ι=[(.ref b1, .ref b2),(v1,v2)]\/(Ι=[(v1,v2)]/\x.1=y.1)\/(Ι=[]/\x.1=y.1/\x.2=y.2)))
  _ ?_ ?_ _ _ ⟨rfl,rfl, .inl rfl⟩
 ·rintro ⟨u,v⟩ Ι r s' ⟨hr,rfl,(e | ⟨e,h1⟩ | ⟨e,_⟩)⟩
  ·injection e with e1 e2;injection e1 with e1 e3;subst e1 e2 e3
   refine aab (wpAny_eqBool_tuple hu U8 VZ ?_);by_cases hk:x.1=y.1
   ·rw [aaq hk];simp only [Bool.not_true,Bool.false_eq_true,if_false];exact aae ⟨rfl,rfl, .inr (.inl ⟨trivial,hk⟩)⟩
   ·rw [aaK hk];simp only [Bool.not_false,if_true];rw [aaK (λe=>hk (aa3 Prod.fst e))] at h;exact aab (aae (aae (aae h)))
  ·injection e with e1 e2;injection e1 with e1 e3;subst e1 e2 e3
   refine aab (knd.eqBool OS T6 ?_);by_cases hk:x.2=y.2
   ·rw [aaq hk];simp only [Bool.not_true,Bool.false_eq_true,if_false];exact aae ⟨rfl,rfl, .inr (.inr ⟨trivial,h1,hk⟩)⟩
   ·rw [aaK hk];simp only [Bool.not_false,if_true];rw [aaK (λe=>hk (aa3 Prod.snd e))] at h;exact aab (aae (aae (aae h)))
  ·exact nomatch e
 ·rintro ⟨r1,r2⟩ s' ⟨hr,rfl,(e | ⟨e,_⟩ | ⟨_,h1,h2⟩)⟩
  ·exact nomatch e
  ·exact nomatch e
  simp only at hr;subst hr;refine aae ?_;rw [aaq (Prod.ext h1 h2)] at h;exact h
theorem kH{x y:List K×K}{a b:Addr}{Q:Bool->Shared->Prop}(hu:A.units < cLine)(EE:A.in1.units < cLine)(hx:aG knd s.heap x a)(hy:aG knd s.heap y b)(h:Q (decide (x=y)) s):
  wpAny (model prog w) A (eqBool (.ref a) (.ref b)) Q E s:=by
 unfold eqBool
 try with_reducible refine wpAny_holding ?_
 show wpAny _ _ (if (Value.ref a==Value.ref b)=true then _ else _) Q E s;by_cases FE:(Value.ref a==Value.ref b)=true
 ·rw [aaI FE];have e:a=b:=by have:=eq_of_beq FE;injection this
  subst e;obtain rfl:=hx.inj hy;exact wpAny_bind (wpAny_rule (wpAny_pure (by simpa using h)))
 ·rw [aaF FE]
  exact aab (wpAny_richCompare_same_room (op:= .Eq) hx.typeIs hy.typeIs F.slot_tuple_eq
   (wpAny_call_entry F.slot_tuple_eq hx.typeIs F.entry_tuple_eq (tF EE hx hy ⟨_,rfl,(λe=>nomatch e),wpAny_truthy_bool h⟩) (F.args_tuple_eq_2 _ _)) hu)
theorem gp(m:Nat){ks:List K}{a:Addr}{Q:Bool->Shared->Prop}(hk:IsTupleKey knd s.heap ks a)(h:Q true s):wpAny (model prog w) A (eqIsQuiet (m+1) (.ref a)) Q E s:=by
 have hT:=hk.typeIs;obtain ⟨o,items,n,ho,_,hd,hi⟩:=hk;unfold eqIsQuiet;refine aab (wpAny_specialOf hT F.slot_tuple_eq.lookup ?_);show wpAny _ _ (isInstance (.ref a) (.type "tuple") >>= _) _ _ s;refine aab (wpAny_isInstance hT isSubtype_tuple_tuple ?_);simp only [Bool.not_true,Bool.false_eq_true,if_false];refine aab (wpAny_seqItems ho hd ?_);refine aab ?_;show wpAny _ _ (forIn items _ _) _ _ s;rw [<-Array.forIn_toList];refine wpAny_forIn_list _ (λΙ r s'=>r.1=none/\s'=s/\∀v∈Ι,carriedByValue v=true) _ ?_ ?_ _ _ ⟨rfl,rfl,hi.byValue⟩
 ·rintro v Ι r s' ⟨hr,rfl,kO⟩;rw [eqIsQuiet_byValue _ (kO v aak)];refine aab (aae ?_);simp only [Bool.not_true,Bool.false_eq_true,if_false];exact aae ⟨rfl,rfl,λu EE=>kO u (aai _ EE)⟩
 ·rintro ⟨r1,r2⟩ s' ⟨hr,rfl,_⟩;simp only at hr;subst hr;exact aae h
theorem hG{k:List K×K}{a:Addr}{Q:Bool->Shared->Prop}(hk:aG knd s.heap k a)(h:Q true s):wpAny (model prog w) A (eqIsQuiet 8 (.ref a)) Q E s:=by
 have hT:=hk.typeIs;obtain ⟨o,n,b,v,ho,_,hd,hi,hv⟩:=hk;unfold eqIsQuiet;refine aab (wpAny_specialOf hT F.slot_tuple_eq.lookup ?_);show wpAny _ _ (isInstance (.ref a) (.type "tuple") >>= _) _ _ s;refine aab (wpAny_isInstance hT isSubtype_tuple_tuple ?_);simp only [Bool.not_true,Bool.false_eq_true,if_false];refine aab (wpAny_seqItems ho hd ?_);refine aab ?_;show wpAny _ _ (forIn (#[Value.ref b,v]:Array Value) _ _) _ _ s;rw [<-Array.forIn_toList];refine wpAny_forIn_list _ (λΙ r s'=>r.1=none/\s'=s/\(Ι=[.ref b,v]\/Ι=[v]\/Ι=[])) _ ?_ ?_ _ _ ⟨rfl,rfl, .inl rfl⟩
 ·rintro u Ι r s' ⟨hr,rfl,(e | e | e)⟩
  ·injection e with e1 e2;subst e1 e2
   refine aab (gp _ hi ?_);simp only [Bool.not_true,Bool.false_eq_true,if_false];exact aae ⟨rfl,rfl, .inr (.inl trivial)⟩
  ·injection e with e1 e2;subst e1 e2
   rw [eqIsQuiet_byValue _ (knd.byValue _ _ hv)];refine aab (aae ?_);simp only [Bool.not_true,Bool.false_eq_true,if_false];exact aae ⟨rfl,rfl, .inr (.inr trivial)⟩
  ·exact nomatch e
 ·rintro ⟨r1,r2⟩ s' ⟨hr,rfl,_⟩;simp only at hr;subst hr;exact aae h
end
def cL{prog:Program}{w:World}{K:Type} [DecidableEq K](knd:KeyKind prog w K):HeapKind prog w (List K×K) where
 is:=aG knd
 hash:=nW knd
 draws:=λk=>k.1.length+3
 room:=λA=>A.units < cLine/\A.in1.units < cLine
 inj:=λhx hy=>hx.inj hy
 keeps:=λx ho hd hs=>x.keeps ho hd hs
 pyHash:=λhu hk h=>ku hu.1 hu.2 hk h
 eqBool:=λhu hx hy h=>kH hu.1 hu.2 hx hy h
 quiet:=λhk h=>hG hk h
end PySem
namespace L2
open PySem PySem.Spec PyProof.Rows
variable{P prog:Program}{w:World}{a b:Addr}{u:Value}{A:Around}{X:Cx}{δ:List (Addr×Obj)}{s:Shared}{v:V}{E Q:Value->Shared->Prop}{pos:Pos}{c:Bool}{n:Nat}{L as:List Addr}{us:List V}{R:St->XK}
abbrev NK:=List Key×Key
variable{k:NK}{xs:List (NK×Addr×Value)}{ks:List NK}
abbrev NL:=List (NK×Addr×V)
variable{Κ:NL}
abbrev NT:NL->List (NK×Addr×Value)->Prop:=Paired λp q=>p.1=q.1/\p.2.1=q.2.1/\Ω p.2.2 q.2.2
def DP(P:Program)(w:World)(a:Addr)(Κ:NL)(h:Heap):Prop:=Κ.length<=sizeLine/\(a==sysModules)=false/\∃xs,NT Κ xs/\
 ∃o es ep,h.get? a=some o/\o.ExactDict/\o.data= .dict es ep/\es.toList=xs.map (entryOfKey (cL (aY P w)))/\(xs.map (·.1)).Nodup
def j4(P:Program)(w:World)(a:Addr)(Κ:NL):HO:= .ext (DP P w a Κ)
def iT(H:Hp)(k:NK)(b:Addr):Prop:=∃c,H b=some (.tup [.ref c,kV k.2])/\H c=some (.tup (k.1.map kV))
def dt(H:Hp)(Κ:NL):Prop:=∀x∈Κ,iT H x.1 x.2.1
def eN(Κ:NL)(k:NK):Option V:=(Κ.find? λx=>decide (x.1=k)).map (·.2.2)
def uG(Κ:NL)(k:NK)(b:Addr)(v:V):NL:=if (Κ.find? λx=>decide (x.1=k)).isSome then Κ.map (λx=>if x.1=k then (x.1,x.2.1,v) else x) else Κ++[(k,b,v)]
theorem vQ(Κ:NL)(k:NK)(b:Addr)(v:V):(uG Κ k b v).length<=Κ.length+1:=by
 unfold uG;split
 ·rw [aac];omega
 ·simp
section
variable{H:Hp}{h:Heap}
theorem xX{H':Hp}{P':Program}{w':World}(x:DP P' w' a Κ h):aO P w H' h a (j4 P' w' a Κ):=by
 refine ⟨x, ?_,λh1 h2 y k=> ?_⟩
 ·obtain ⟨_,_,_,_,o,_,_,e,_⟩:=x;exact ⟨o,e⟩
 ·obtain ⟨z,hd,xs,r,o,es,ep,e,c⟩:=y;exact ⟨z,hd,xs,r,o,es,ep,k _ e,c⟩
theorem nG(ok:iW P w H h)(e:iT H k b):(cL (aY P w)).is h k b:=by
 obtain ⟨c,e1,e2⟩:=e;obtain ⟨_,its,r,o,h1,h2,n,h3⟩:=(show aO P w H h b (.tup [.ref c,kV k.2]) from ok b _ e1);cases r with
 | cons r1 r2=>
  cases r2 with
  | cons r2 r3=>
   cases r3;cases r1;exact ⟨o,n,c,_,h1,h2,h3,Jp ok e2,HK r2⟩
theorem NT.val(r:NT Κ xs)(k:NK):iY (eN Κ k) ((atKey xs k).map (·.2)):=by
 induction r with
 | nil=>exact True.intro
 | @cons p q ps qs h t ih=>
  obtain ⟨h1,_,h2⟩:=h;by_cases e:p.1=k
  ·have e':q.1=k:=h1.symm.trans e;have b:atKey (q::qs) k=some q.2:=by simp [atKey,List.find?_cons,e']
   have c:eN (p::ps) k=some p.2.2:=by simp [eN,List.find?_cons,e]
   rw [c,b];exact h2
  ·have e':¬q.1=k:=λz=>e (h1.trans z);have b:atKey (q::qs) k=atKey qs k:=by simp [atKey,List.find?_cons,e']
   have c:eN (p::ps) k=eN ps k:=by simp [eN,List.find?_cons,e]
   rw [c,b];exact ih
theorem NT.Qv(r:NT Κ xs)(k:NK){y:V}(ry:Ω y u):NT (Κ.map λx=>if x.1=k then (x.1,x.2.1,y) else x) (xs.map (putAt k u)):=by
 induction r with
 | nil=>exact .nil
 | @cons p q ps qs h t ih=>
  rw [aaD,aaD];refine .cons ?_ ih;obtain ⟨h1,h2,h3⟩:=h;unfold putAt;by_cases e:p.1=k
  ·rw [aaI e,aaI (h1.symm.trans e)];exact ⟨h1,h2,ry⟩
  ·rw [aaF e,aaF (λz=>e (h1.trans z))];exact ⟨h1,h2,h3⟩
theorem NT.put(r:NT Κ xs)(k:NK){y:V}(ry:Ω y u):NT (uG Κ k b y) (storedH xs k b u):=by
 have e:(Κ.find? λx=>decide (x.1=k)).isSome=(atKey xs k).isSome:=by have q:=(r.val k).AK;unfold eN at q;rw [Option.isSome_map,Option.isSome_map] at q;exact q
 unfold uG storedH;rw [e];by_cases q:(atKey xs k).isSome=true
 ·rw [aaI q,aaI q];exact r.Qv k ry
 ·rw [aaF q,aaF q];exact Paired.snoc r ⟨rfl,rfl,ry⟩
theorem mw(ok:iW P w H h)(e:H a=some (j4 P w a Κ))(nk:dt H Κ):Κ.length<=sizeLine/\(a==sysModules)=false/\∃xs,NT Κ xs/\h.DictOfH (cL (aY P w)) a xs:=by
 obtain ⟨z,y,xs,r,o,es,ep,h1,h2,h3,h4,h5⟩:=(show DP P w a Κ h from (ok a _ e).1);refine ⟨z,y,xs,r,o,es,ep,h1,h2,h3,h4,λx hx=> ?_,h5⟩;have all:∀{l:NL} {m:List (NK×Addr×Value)},NT l m->dt H l->∀x∈m,(cL (aY P w)).is h x.1 x.2.1:=by
  intro l m q
  induction q with
  | nil=>intro _ x hx;exact nomatch hx
  | @cons p q ps qs hq t ih=>
   intro nk x hx;rcases aaz.mp hx with e | hx
   ·subst e;have:=nk p aak;rw [hq.1,hq.2.1] at this;exact nG ok this
   ·exact ih (λy hy=>nk y (aai _ hy)) x hx
 exact all r nk x hx
end
theorem nest_room(hu:A.units+2 < cLine):(cL (aY P w)).room A.in1:=⟨Nat.lt_of_succ_lt hu,hu⟩
section
variable{σ:St}{H:Hp}{d:V}{r:Value}
theorem Inv.Jb(I:Inv X δ σ H s)(e:H a=some (.dK [])):Inv X δ σ (upd H a (j4 X.prog X.w a [])) s:=by obtain ⟨z,hd,vs,rel,o,es,ep,e1,c,e2,e3,e4⟩:=NR I.aJ e;cases rel;refine I.write (x:=a) (e:=a) (h':=s.heap) (t':=s.toks) (by rw [e];exact True.intro) (.inl rfl) (λb u _ q=>q) ⟨o,e1⟩ (xX ⟨z,hd,[], .nil,o,es,ep,e1,c,e2, ?_,List.nodup_nil⟩);obtain ⟨e4,_⟩:=e4;generalize es.toList=l at e4;cases e4;rfl
theorem IZ(hu:A.units+2 < cLine)(I:Inv X δ σ H s)(e:H a=some (j4 X.prog X.w a Κ))(nk:dt H Κ)(eb:iT H k b)(rd:Ω d r)
  (h:∀w' s',Inv X δ σ H s'->Ω ((eN Κ k).getD d) w'->Q w' s'):wpAny (model X.prog X.w) A (call (.builtin "dict.get") [.ref a, .ref b,r]) Q E s:=by
 obtain ⟨z,hd,xs,rel,dd⟩:=mw I.aJ e nk;exact call_meetsIn PySem.F.slot_dict_get dd.typeIs PySem.F.entry_dict_get (PySem.F.args_dict_get_3 _ _ _) (meetsH_dict_get_default (cL (aY X.prog X.w)) a b hd r) ⟨nest_room hu,k,xs,nG I.aJ eb,dd,h _ _ (I.tok _) ((rel.val k).getD rd)⟩
theorem Aq{Q:Unit->Shared->Prop}(hu:A.units+2 < cLine)(I:Inv X δ σ H s)(e:H a=some (j4 X.prog X.w a Κ))(nk:dt H Κ)(eb:iT H k b)(l:Κ.length < sizeLine)(rv:Ω v r)
  (h:∀s',Inv X δ σ (upd H a (j4 X.prog X.w a (uG Κ k b v))) s'->Q () s'):wpAny (model X.prog X.w) A (setItem (.ref a) (.ref b) r) Q E s:=by
 obtain ⟨z,hd,xs,rel,dd⟩:=mw I.aJ e nk;have hz:xs.length<=sizeLine:=by rw [<-Paired.length rel];exact z
 have hl:(uG Κ k b v).length<=sizeLine:=by have:=vQ Κ k b v;omega
 refine wpAny_setItem_heap (hsz:=hz) (nest_room hu) (nG I.aJ eb) dd λh' T3 hs=>h _ ?_;obtain ⟨q,es,ep,hq,h2,h3,h4,_,h5⟩:=T3;exact GH I (by rw [e];exact True.intro) hs ⟨q,hq⟩ (xX ⟨hl,hd,_,rel.put k rv,q,es,ep,hq,h2,h3,h4,h5⟩)
end
def IM(P:Program)(w:World)(td ty tx:TE):TE:=λσ H Q=>td σ H λx H1=>∃a,x= .ref a/\(∃Κ,H1 a=some (j4 P w a Κ)/\dt H1 Κ)/\ty σ H1 λy H2=>tx σ H2 λz H3=>
 ∃b Κ k,y= .ref b/\H3 a=some (j4 P w a Κ)/\dt H3 Κ/\iT H3 k b/\Q ((eN Κ k).getD z) H3
def MS(P:Program)(w:World)(td ty tv:TE):TS:=λD σ H=>tv σ H λv H1=>td σ H1 λx H2=>ty σ H2 λy H3=>∃a b Κ k,x= .ref a/\y= .ref b/\H3 a=some (j4 P w a Κ)/\dt H3 Κ/\iT H3 k b/\Κ.length < sizeLine/\
 D.nx σ (upd H3 a (j4 P w a (uG Κ k b v)))
section
variable{o i e f value:Expr}{apos aF pos':Pos}{td ty tx tv:TE}
theorem Eo(hu:X.A.units+2 < cLine)(ho:PE X o td)(he:PE X e ty)(hf:PE X f tx)(m:M2 X o "get" apos e f aF):PE X (.Call (.Attribute o "get" apos) [e,f] [] aF) (IM X.prog X.w td ty tx):=by
 intro δ s σ H Q I h;refine wpAny_Call_method m.base m.MM m.line PySem.F.plainAttrs_dict PySem.F.slot_dict_get PySem.F.type_dict_get (bD (ho δ s σ H _ I h) λu s1 ⟨x,H1,I1,rx,a,ex,⟨Yt,d,XQ⟩,q1⟩=> ?_);subst ex;obtain rfl:u=Value.ref a:=rx;obtain ⟨_,hd,xs,_,dd⟩:=mw I1.aJ d XQ;refine ⟨dd.typeIs,λb q=> ?_, ?_⟩
 ·cases q;obtain ⟨ob,_,_,h1,h2,_⟩:=dd;exact ⟨ob,h1,h2.2.1⟩
 rw [m.trees]
 refine Calls.callWith_builtin rfl (Calls.evalArgs_plain (Calls.spliced_cons (bD (he δ s1 σ H1 _ I1 q1) λiv s2 ⟨y,H2,I2,ry,q2⟩=>
  Calls.spliced_cons (bD (hf δ s2 σ H2 _ I2 q2) λfv s3 ⟨z,H3,I3,rz,b,Κ,k,ey,e,nk,eb,q3⟩=>Calls.spliced_nil ?_))))
 subst ey;obtain rfl:iv=Value.ref b:=ry;exact IZ hu I3 e nk eb rz λw' s4 I4 E9=>⟨_,H3,I4,E9,q3⟩
theorem Fs(hu:X.A.units+2 < cLine)(ho:PE X o td)(hi:PE X i ty)(hv:PE X value tv)(hs:swapsWith value (some (.Subscript o i pos')) pos.line X.env=pure false):
  PS X (.Assign [.Subscript o i pos'] value pos) (MS X.prog X.w td ty tv):=by
 intro δ s σ H D I h;refine wpAny_Assign_Subscript (bD (hv δ s σ H _ I h) λr s1 ⟨v,H1,I1,rv,q1⟩=>bD (ho δ s1 σ H1 _ I1 q1) λu s2 ⟨x,H2,I2,rx,q2⟩=>bD (hi δ s2 σ H2 _ I2 q2) λiv s3 ⟨y,H3,I3,ry,a,b,Κ,k,ex,ey,e,nk,eb,l,q3⟩=> ?_) hs;subst ex ey;obtain rfl:u=Value.ref a:=rx;obtain rfl:iv=Value.ref b:=ry;exact Aq hu I3 e nk eb l rv λs4 I4=>⟨σ,_,I4,q3⟩
def Mo(P:Program)(w:World)(t:TE):TE:=λσ H Q=>t σ H λx H1=>∃a,x= .ref a/\H1 a=some (.dK [])/\Q x (upd H1 a (j4 P w a []))
theorem Gj(he:PE X e ty):PE X e (Mo X.prog X.w ty):=by intro δ s σ H Q I h;refine bD (he δ s σ H _ I h) λu s1 ⟨x,H1,I1,rx,a,ex,e1,q1⟩=> ?_;subst ex;exact ⟨.ref a,_,I1.Jb e1,rx,q1⟩
end
open PySem PySem.SeqAt
section
variable{K:Type} [DecidableEq K]{knd:HeapKind prog w K}{xs ys:List (K×Addr×Value)}
theorem zh{es:Array DictEntry}(he:es.toList=xs.map (entryOfKey knd))(j:Nat):es[j]? =xs[j]?.map (entryOfKey knd):=by rw [<-aa9,he,aah]
theorem AY{xs:List (K×Addr×Value)}{k:K}{q:Addr×Value}(h:atKey xs k=some q):∃j:Nat,xs[j]? =some (k,q):=by unfold atKey at h;obtain ⟨p,h1,h2⟩:=aaO.mp h;have h3:=List.find?_some h1;have h4:=List.mem_of_find?_eq_some h1;obtain ⟨j,hj⟩:=aba.mp h4;have h5:p.1=k:=aaB h3;exact ⟨j,by rw [hj,<-h5,<-h2]⟩
theorem xP{id:String}(hu:knd.room A)(ha:s.heap.DictOfH knd a xs)(hb:s.heap.DictOfH knd b ys)(HZ:(a==sysModules)=false)(p_:(b==sysModules)=false)(hl:xs.length=ys.length)
  {e:Nat->Bool} (he:∀j k p,xs[j]? =some (k,p)->(atKey ys k=none/\e j=false)\/∃q,atKey ys k=some q/\jV prog w A s p.2 q.2 (e j)) {Q:Bool->Shared->Prop} (h:Q ((List.range xs.length).all e) s):
  wpAny (model prog w) A (Builtin.Dict.samePairs id a b) Q E s:=by
 obtain ⟨o1,gQ,WA,g1,x1,d1,k1,i1,n1⟩:=ha;obtain ⟨o2,EB,UC,g2,x2,d2,k2,i2,n2⟩:=hb;have sa:∀{c:Addr} {Q:Unit->Shared->Prop},(c==sysModules)=false->Q () s->wpAny (model prog w) A (Builtin.Dict.showsAll c) Q E s:=λhc hq=>by unfold Builtin.Dict.showsAll;rw [aaF (by rw [hc];decide)];exact aae hq
 unfold Builtin.Dict.samePairs;refine aab (sa HZ (aab (sa p_ (aab (wpAny_dictEntries g1 d1 (aab (wpAny_dictEntries g2 d2 ?_)))))));have z1:gQ.size=xs.length:=by rw [<-aa5,k1,aac]
 have z2:EB.size=ys.length:=by rw [<-aa5,k2,aac]
 rw [if_neg (by rw [z1,z2,hl];simp)];refine aab (wpAny_dictEpoch g1 d1 ?_);refine aab ?_;rw [Std.Legacy.Range.forIn_eq_forIn_range'];have sz:[:gQ.size].size=gQ.size:=by simp [Std.Legacy.Range.size]
 rw [sz];refine wpAny_forIn_list _ (λΙ b s'=>s'=s/\b.1=none/\∃i,Ι=List.range' i (gQ.size - i)/\i<=gQ.size/\((List.range i).all e=true)) _ ?_ ?_ _ _ ⟨rfl,rfl,0,by simp,Nat.zero_le _,rfl⟩
 ·rintro x Ι b s' ⟨rfl,hb,i,hr,hi,kO⟩;have AI:i < gQ.size:=by
   rcases abe i gQ.size with h' | h'
   ·exact h'
   ·rw [Nat.sub_eq_zero_of_le h'] at hr;cases hr
  rw [show gQ.size - i=(gQ.size - (i+1))+1 by omega,List.range'_succ] at hr;injection hr with hx Ca
  subst hx;refine aab (wpAny_dictEntries g1 d1 ?_);have Pp:x < xs.length:=by omega
  obtain ⟨⟨k,ka,v⟩,hk⟩:∃p,xs[x]? =some p:=⟨_,aaa Pp⟩;rw [zh k1 x,hk];dsimp only [Option.map,entryOfKey];have hm:(k,ka,v)∈xs:=aat hk;refine aab (abt (Q:=λr Hw=>Hw=s'/\r=e x) (E:=E) ?_ (λr Hw ⟨es,er⟩=> ?_) λ_ _ h'=>h')
  ·refine wpAny_holding (aab (wpAny_dictFind_heap hu (i1 _ hm) g2 d2 k2 i2 n2 (λno=> ?_) λj p hj=> ?_))
   ·rcases he x k _ hk with ⟨h1,h2⟩ | ⟨q,h1,h2⟩
    ·exact aae ⟨rfl,h2.symm⟩
    ·obtain ⟨j,hj⟩:=AY h1;exact aaH hj (no j q)
   ·rcases he x k _ hk with ⟨h1,h2⟩ | ⟨q,h1,h2⟩
    ·rw [atKey_of_get n2 hj] at h1;cases h1
    ·rw [atKey_of_get n2 hj] at h1;cases h1;dsimp only;refine aab (wpAny_dictEntries g2 d2 ?_);rw [zh k2 j,hj];dsimp only [Option.map,entryOfKey];exact wpAny_holding (h2 _ _ ⟨rfl,rfl⟩)
  ·subst es er;cases hex:e x with
   | false=>
    rw [aaI (by rfl)];refine aae (aae ?_);have:(List.range xs.length).all e=false:=by rw [List.all_eq_false];exact ⟨x,aaL.mpr (by omega),by rw [hex];decide⟩
    rw [this] at h;exact h
   | true=>
    rw [aaF (by decide)];refine aab (wpAny_dictEpoch g1 d1 ?_);rw [if_neg (by simp)];refine aae ⟨rfl,rfl,x+1,Ca,by omega, ?_⟩;rw [abV,List.all_append,kO];simp [hex]
 ·rintro ⟨b1,b2⟩ s' ⟨rfl,hb,i,hr,hi,kO⟩;have hb:b1=none:=hb;subst hb;have:i=gQ.size:=by have:=aa3 List.length hr;rw [List.length_range'] at this;simp at this;omega
  subst this;rw [z1] at kO;rw [kO] at h;exact aae h
theorem oO{id:String}(ha:s.heap.DictOfH knd a xs)(hb:s.heap.DictOfH knd b ys)(HZ:(a==sysModules)=false)(p_:(b==sysModules)=false)(hl:xs.length≠ys.length)
  {Q:Bool->Shared->Prop} (h:Q false s):wpAny (model prog w) A (Builtin.Dict.samePairs id a b) Q E s:=by
 obtain ⟨o1,gQ,WA,g1,x1,d1,k1,i1,n1⟩:=ha;obtain ⟨o2,EB,UC,g2,x2,d2,k2,i2,n2⟩:=hb;have sa:∀{c:Addr} {Q:Unit->Shared->Prop},(c==sysModules)=false->Q () s->wpAny (model prog w) A (Builtin.Dict.showsAll c) Q E s:=λhc hq=>by unfold Builtin.Dict.showsAll;rw [aaF (by rw [hc];decide)];exact aae hq
 unfold Builtin.Dict.samePairs;refine aab (sa HZ (aab (sa p_ (aab (wpAny_dictEntries g1 d1 (aab (wpAny_dictEntries g2 d2 ?_)))))));have z1:gQ.size=xs.length:=by rw [<-aa5,k1,aac]
 have z2:EB.size=ys.length:=by rw [<-aa5,k2,aac]
 rw [if_pos (by rw [z1,z2];simpa using hl)];exact aab (wpAny_rule (aae h))
theorem mO(ta:s.TypeIs (.ref a) "dict")(tb:s.TypeIs (.ref b) "dict")(hu:A.units < cLine)(h:∀{E:Value->Shared->Prop} {Q:Bool->Shared->Prop},Q c s->wpAny (model prog w) A.in1 (Builtin.Dict.samePairs (toString "dict."++toString "__eq__") a b) Q E s)(q:Q (.bool c) s):wpAny (model prog w) A (richCompare .Eq (.ref a) (.ref b)) Q E s:=by
 refine wpAny_richCompare_same_room ta tb F.slot_dict_eq (wpAny_call_entry F.slot_dict_eq ta F.entry_dict_eq ?_ (F.args_dict_eq_2 _ _)) hu;show wpAny _ _ (Builtin.Dict.dictSlotArgs "__eq__" ⟨[.ref a, .ref b],[]⟩ >>= _) _ _ s;refine aab ?_;unfold Builtin.Dict.dictSlotArgs;refine aab (wpAny_notOrdered_dict ta ?_);refine aab (m:=slotArgs "__eq__" 1 _) (aae ?_);refine aae ?_;refine aab (wpAny_isInstance tb isSubtype_dict_dict ?_);rw [aaF (by decide)];refine aab (aae (aab (aae (aab (h ?_)))));have e:(c==true)=c:=by cases c <;> rfl
 refine aae ⟨Value.bool (c==true),rfl,⟨λz=>(nomatch z), ?_⟩⟩;rw [e];exact q
end
section
open PySem.AutoSeq1 (wpAny_loadPart')
open PySem.MeetsSeq PySem.MeetsSeq2 PySem.MeetsSeq3 PySem.SeqRoads2
theorem kW{l:Addr}{items:Array Value}{n:Nat}{dd:Option Addr}{sl:Array (Option Value)}{x:Value}{e:Nat->Bool}{Bt:Int}{j:Nat}(hj:j < items.size)(G9:(j:Int) < Bt)
  (hit:e j=true) (Lx:∀m,m < j->e m=false):∀k i:Nat,j - i=k->i<=j->MeetsIn prog w (Builtin.«list.index.loop» ⟨[.ref l,x,rawInt i,rawInt Bt],[]⟩)
   (λA R s=>s.heap.get? l=some {cls:= .type "list",dict:=dd,data:= .seq items n,slots:=sl}/\(∀m (hm:m < items.size),jV prog w A.in1 s items[m] x (e m))/\R (.ok (.ret (.int j s.toks))) {s with toks:=s.toks+1})
 | 0,i,hk,Lz=>λA R s h=>by
  obtain ⟨hp,g,d,tk,os⟩:=s;obtain ⟨hl,he,h⟩:=h;have Q2:i=j:=by omega
  subst Q2
  wp_walk using wpAny_loadPart' hl
  have hi:(if (i:Int) < Bt then items[((i:Nat):Int).toNat]? else none)=some items[i]:=by simp [G9,hj]
  rw [hi];refine aab (he _ hj _ _ ?_);rw [hit]
  wp_walk
  exact h
 | k+1,i,hk,Lz=>λA R s h=>by
  obtain ⟨hp,g,d,tk,os⟩:=s;obtain ⟨hl,he,h⟩:=h;have AI:i < items.size:=by omega
  have zF:(i:Int) < Bt:=by omega
  wp_walk using wpAny_loadPart' hl
  have hi:(if (i:Int) < Bt then items[((i:Nat):Int).toNat]? else none)=some items[i]:=by simp [zF,AI]
  have hc:((i:Int)+1)=((i+1:Nat):Int):=by push_cast;rfl
  rw [hi];refine aab (he _ AI _ _ ?_);rw [Lx i (by omega)]
  wp_walk
  rw [hc];refine ⟨plainId_quiet plain_index_loop _,codeAny_builtin entry_index_loop ?_⟩;rw [Around.under_plainId plain_index_loop _];exact kW hj G9 hit Lx k (i+1) (by omega) (by omega) A R _ ⟨hl,he,h⟩
theorem rZ{l:Addr}{items:Array Value}{n:Nat}{dd:Option Addr}{sl:Array (Option Value)}{x:Value}{e:Nat->Bool}{j:Nat}(hj:j < items.size)(Ju:(j:Int) < 2 ^ 63 - 1)
  (hit:e j=true) (Lx:∀m,m < j->e m=false):MeetsIn prog w (Builtin.«list.index» ⟨[.ref l,x],[]⟩)
   (λA R s=>s.heap.get? l=some {cls:= .type "list",dict:=dd,data:= .seq items n,slots:=sl}/\(∀m (hm:m < items.size),jV prog w A.in1 s items[m] x (e m))/\R (.ok (.ret (.int j s.toks))) {s with toks:=s.toks+1}):=λA R s h=>by
 obtain ⟨hp,g,d,tk,os⟩:=s;obtain ⟨hl,he,h⟩:=h
 wp_walk using wpAny_loadPart' hl
 have a1:((λi:Int=>if i < 0 then max 0 (i+(items.size:Int)) else i) ((none:Option Int).getD 0))=((0:Nat):Int):=by simp
 have a2:((λi:Int=>if i < 0 then max 0 (i+(items.size:Int)) else i) ((none:Option Int).getD (2 ^ 63 - 1)))=2 ^ 63 - 1:=by simp
 rw [a1,a2];refine ⟨plainId_quiet plain_index_loop _,codeAny_builtin entry_index_loop ?_⟩;rw [Around.under_plainId plain_index_loop _];exact kW hj Ju hit Lx _ 0 rfl (abD _) A R _ ⟨hl,he,h⟩
theorem DR{l:Addr}{xs ys:Array Value}{n n2:Nat}{dd LK:Option Addr}{sl iV:Array (Option Value)}{e:Nat->Bool}(hz:xs.size=ys.size):
  MeetsIn prog w (Builtin.«tuple.__eq__» ⟨[.ref l, .ref b],[]⟩) (λA R s=>s.heap.get? l=some {cls:= .type "tuple",dict:=dd,data:= .seq xs n,slots:=sl}/\s.heap.get? b=some {cls:= .type "tuple",dict:=LK,data:= .seq ys n2,slots:=iV}/\
   (∀j (h1:j < xs.size) (h2:j < ys.size),(List.range j).all e=true->jV prog w A.in1 s xs[j] ys[j] (e j))/\R (.ok (.ret (.bool ((List.range xs.size).all e)))) s):=λA R s h=>by
 obtain ⟨hp,g,d,tk,os⟩:=s;obtain ⟨hl,hb,he,h⟩:=h;have f2:=PySem.AutoSeq1.sub_tuple_tuple
 wp_walk using wpAny_loadPart' hl,wpAny_loadPart' hb,wpAny_forIn_list _ (λΙ b s'=>b.1=none/\s'=(⟨hp,g,d,tk,os⟩:Shared)/\∃i,Ι=(xs.toList.zip ys.toList).drop i/\i<=xs.size/\(List.range i).all e=true) _
 case turn=>
  rintro ⟨y,x⟩ Ι b s' ⟨E4,rfl,i,Hx,hi,kO⟩;have AI:i < (xs.toList.zip ys.toList).length:=by
   rcases abe i (xs.toList.zip ys.toList).length with h' | h'
   ·exact h'
   ·rw [List.drop_of_length_le h'] at Hx;cases Hx
  have hZ:(xs.toList.zip ys.toList).length=min xs.size ys.size:=by simp
  have h1:i < xs.size:=by omega
  have h2:i < ys.size:=by omega
  rw [abg AI] at Hx;injection Hx with TJ Ca
  have hy:y=xs[i]:=by have:=congrArg Prod.fst TJ;simpa using this
  have hx:x=ys[i]:=by have:=congrArg Prod.snd TJ;simpa using this
  subst hy hx;refine aab (he i h1 h2 kO _ _ ?_);cases hex:e i with
  | true=>
   wp_walk
   refine ⟨rfl,rfl,i+1,Ca,h1, ?_⟩;rw [abV,List.all_append,kO];simp [hex]
  | false=>
   have:(List.range xs.size).all e=false:=by rw [List.all_eq_false];exact ⟨i,aaL.mpr h1,by rw [hex];decide⟩
   rw [this] at h
   wp_walk
   exact h
 case fin=>
  rintro ⟨b1,b2⟩ s' ⟨E4,rfl,i,hr,hi,kO⟩;simp only at E4;subst E4;have hi:i=xs.size:=by have:=aa3 List.length hr;simp at this;omega
  subst hi;rw [kO] at h
  wp_walk
  rw [hz];simpa [Builtin.Tuple.tupleCompareSizes] using h
 case h=>
  exact ⟨rfl,rfl,0,by simp⟩
end
inductive HU(P:Program)(w:World)(K:fv)(H:Hp)(n:Nat):V->V->Bool->Prop
 | eq {x y:V} {c:Bool} (h:vO K H n x y c):HU P w K H n x y c
 | same {a:Addr}:HU P w K H n (.ref a) (.ref a) true
 | nd {a b:Addr} {Κ lR:NL} {e:Nat->Bool} (fP:a≠b) (h1:H a=some (j4 P w a Κ)) (h2:H b=some (j4 P w b lR)) (k1:dt H Κ) (k2:dt H lR) (hl:Κ.length=lR.length)
   (hn:∀j k ka v,Κ[j]? =some (k,ka,v)->eN lR k=none->e j=false) (h:∀j k ka v v',Κ[j]? =some (k,ka,v)->eN lR k=some v'->vO K H n v v' (e j)):HU P w K H n (.ref a) (.ref b) ((List.range Κ.length).all e)
 | len {a b:Addr} {Κ lR:NL} (fP:a≠b) (h1:H a=some (j4 P w a Κ)) (h2:H b=some (j4 P w b lR)) (k1:dt H Κ) (k2:dt H lR) (hl:Κ.length≠lR.length):HU P w K H n (.ref a) (.ref b) false
theorem BZ:∀{Κ:NL} {xs:List (NK×Addr×Value)},NT Κ xs->∀{j:Nat} {k:NK} {p:Addr×Value},xs[j]? =some (k,p)->∃v,Κ[j]? =some (k,p.1,v)/\Ω v p.2
 | _,_, .nil,j,k,u,h=>by simp at h
 | _,_, .cons (a:=p) (b:=q) r t,0,k,u,h=>by
  have:q=(k,u):=by simpa using h
  subst this;obtain ⟨e1,e2,e3⟩:=r;refine ⟨p.2.2, ?_,e3⟩;obtain ⟨p1,p2,p3⟩:=p;cases e1;cases e2;rfl
 | _,_, .cons r t,j+1,k,u,h=>by obtain ⟨v,e,rv⟩:=BZ t (show _=some (k,u) by simpa using h);exact ⟨v,by simpa using e,rv⟩
theorem Dz(r:NT Κ xs)(k:NK):(eN Κ k=none/\atKey xs k=none)\/∃v q,eN Κ k=some v/\atKey xs k=some q/\Ω v q.2:=by
 have:=r.val k;cases h1:eN Κ k with
 | none=>
  cases h2:atKey xs k with
  | none=>exact .inl ⟨rfl,rfl⟩
  | some u=>rw [h1,h2] at this;exact this.elim
 | some v=>
  cases h2:atKey xs k with
  | none=>rw [h1,h2] at this;exact this.elim
  | some u=>rw [h1,h2] at this;exact .inr ⟨v,u,rfl,rfl,this⟩
section
variable{σ:St}{H:Hp}
theorem B'(I:Inv X δ σ H s){x y:V}(h:HU X.prog X.w X.K H n x y c)(e:x=y):c=true:=by
 cases h with
 | eq h=>exact ow I h e
 | same=>rfl
 | nd fP=>exact aaH (V.ref.inj e) fP
 | len fP=>exact aaH (V.ref.inj e) fP
theorem IL(I:Inv X δ σ H s){x y:V}(h:HU X.prog X.w X.K H n x y c){v:Value}(ru:Ω x u)(rv:Ω y v)(hu:A.units+(n+2) < cLine):jV X.prog X.w A s u v c:=by
 cases h with
 | eq h=>exact λE Q q=>gb I h ru rv (by omega) X.prog X.w E Q q
 | same=>
  cases ru;cases rv;exact jV.same _
 | @nd a b Κ lR e fP h1 h2 k1 k2 hl hn h=>
  cases ru;cases rv;obtain ⟨_,z1,xs,r1,d1⟩:=mw I.aJ h1 k1;obtain ⟨_,z2,ys,r2,d2⟩:=mw I.aJ h2 k2;refine jV.of_refs fP λE Q q=> ?_;rw [Paired.length r1] at q;refine mO d1.typeIs d2.typeIs (by omega) (λhq=>xP (nest_room (by omega)) d1 d2 z1 z2 (by rw [<-Paired.length r1,<-Paired.length r2];exact hl) (λj k p hj=> ?_) hq) q;obtain ⟨v,hv,rv⟩:=BZ r1 hj;rcases Dz r2 k with ⟨q1,q2⟩ | ⟨v',u',q1,q2,q3⟩
  ·exact .inl ⟨q2,hn j k _ v hv q1⟩
  ·exact .inr ⟨u',q2,λE Q q=>gb I (h j k _ v v' hv q1) rv q3 (by show A.units+1+n < cLine;omega) X.prog X.w E Q q⟩
 | @len a b Κ lR fP h1 h2 k1 k2 hl=>
  cases ru;cases rv;obtain ⟨_,z1,xs,r1,d1⟩:=mw I.aJ h1 k1;obtain ⟨_,z2,ys,r2,d2⟩:=mw I.aJ h2 k2;exact jV.of_refs fP λE Q q=>mO d1.typeIs d2.typeIs (by omega) (λhq=>oO d1 d2 z1 z2 (by rw [<-Paired.length r1,<-Paired.length r2];exact hl) hq) q
def Rg(P:Program)(w:World)(K:fv)(H:Hp)(n:Nat)(x y:V)(c:Bool):Prop:=
 ∃a b xs ys,∃e:Nat->Bool,x= .ref a/\y= .ref b/\iZ K H a xs/\iZ K H b ys/\xs.length=ys.length/\(∀j u v,xs[j]? =some u->ys[j]? =some v->(List.range j).all e=true->HU P w K H n u v (e j))/\c=(List.range xs.length).all e
theorem Ja(I:Inv X δ σ H s){x y:V}(h:Rg X.prog X.w X.K H n x y c){v:Value}(ru:Ω x u)(rv:Ω y v)(hu:A.units+(n+3) < cLine):jV X.prog X.w A s u v c:=by
 obtain ⟨a,b,xs,ys,e,rfl,rfl,h1,h2,hl,he,rfl⟩:=h;cases ru;cases rv;by_cases ab:a=b
 ·subst ab;cases I.fQ h1 h2;have:∀m,m<=xs.length->(List.range m).all e=true:=λm=>by
   induction m with
   | zero=>exact λ_=>rfl
   | succ m ih=>
    intro hm;have q:=ih (Nat.le_of_succ_le hm);have g:xs[m]? =some xs[m]:=aaa hm;rw [abV,List.all_append,q];simp [B' I (he m _ _ g g q) rfl]
  rw [this _ (aal _)];exact jV.same _
 refine jV.of_refs ab λE Q q=> ?_;obtain ⟨its,r1,⟨⟨c1,X5,t1,s1⟩,g1,rfl,n1,rfl⟩,_⟩:=I.tuple h1;obtain ⟨V',r2,⟨⟨c2,LK,t2,s2⟩,g2,rfl,n2,rfl⟩,_⟩:=I.tuple h2;have M_:its.toArray.size=xs.length:=by rw [aas,<-r1.length]
 have hz:its.toArray.size=V'.toArray.size:=by rw [M_,aas,<-r2.length];exact hl
 rw [<-M_] at q;refine wpAny_richCompare_same_room (T:="tuple") ⟨_,g1,rfl⟩ ⟨_,g2,rfl⟩ PySem.F.slot_tuple_eq (call_meetsIn PySem.F.slot_tuple_eq ⟨_,g1,rfl⟩ PySem.F.entry_tuple_eq (PySem.F.args_tuple_eq_2 _ _) (DR (e:=e) hz) ⟨g1,g2,λj j1 j2 ja=> ?_,⟨λz=>(nomatch z),q⟩⟩) (by omega);have k1:j < xs.length:=by omega
 have k2:j < ys.length:=by omega
 have e1:xs[j]? =some xs[j]:=aaa k1;have e2:ys[j]? =some ys[j]:=aaa k2;obtain ⟨z1,M_,UI⟩:=aA r1 j1;obtain ⟨z2,NM,W_⟩:=aA r2 j2;exact IL I (he j _ _ M_ NM ja) UI W_ (by show A.units+1+(n+2) < cLine;omega)
def zy(P:Program)(w:World)(K:fv)(n:Nat):V->List V->Hp->VK->Prop:=λx vs H Q=>∃p xs y,∃f:Nat->Bool,∃j:Nat,x= .ref p/\vs=[y]/\eQ K H p xs/\(∀i z,xs[i]? =some z->Rg P w K H n z y (f i))/\j < xs.length/\f j=true/\(∀i,i < j->f i=false)/\Q (.int (j:Int)) H
theorem z5(hu:X.A.units+(n+4) < cLine):OR X "list.index" (zy X.prog X.w X.K n):=by
 intro δ s σ H x vs v us Q I rx rv h;obtain ⟨p,xs,y,f,j,rfl,rfl,hq,hf,hj,ft,ff,q⟩:=h;cases rx;obtain ⟨u,rfl,ru⟩:=rv.one;obtain ⟨its,r,pl,hz⟩:=I.list hq;obtain ⟨⟨cls,dd,data,sl⟩,nn,ho,hc,IV,hd⟩:=id pl;simp only at hc hd;subst hc hd;have lz:its.toArray.size=xs.length:=by rw [aas,<-r.length]
 have R5:sizeLine < 2 ^ 63 - 1:=by decide
 refine call_meetsIn F.slot_list_index ⟨_,ho,rfl⟩ F.entry_list_index (F.args_list_index_2 _ _) (rZ (e:=f) (j:=j) (by omega) (by omega) ft ff) ⟨ho,λm hm=> ?_, .int (j:Int),H,I.tok _,⟨_,rfl⟩,q⟩;obtain ⟨z,hz,rz⟩:=aA r hm;exact Ja I (hf m z hz) rz ru (by show X.A.units+1+(n+3) < cLine;omega)
end
def qy(k:NK):Dt:= .tup [.tup (k.1.map zk),zk k.2]
def Ob:V->Addr
 | .ref a=>a
 | _=>0
def Iw(ks:List NK)(vs:List V):NL:=ks.zip (((vs.take ks.length).map Ob).zip (vs.drop ks.length))
def i5(P:Program)(w:World)(ks:List NK)(ds:List Dt):MO:= .Ha (λa vs=>j4 P w a (Iw ks vs)) (ks.map qy++ds)
def dh(ks:List NK)(ds:List Dt)(k:NK):Option Dt:=((ks.zip ds).find? λx=>decide (x.1=k)).map (·.2)
def vN(ks:List NK)(k:NK):Bool:=ks.any λc=>decide (c=k)
def ko(ks:List NK)(k:NK):List NK:=if vN ks k then ks else ks++[k]
def qZ{α:Type}(ks:List NK)(k:NK)(xs:List α)(x:α):List α:=if vN ks k then xs else xs++[x]
def j5{α:Type}(ks:List NK)(k:NK)(xs:List α)(x:α):List α:=if vN ks k then List.zipWith (λc y=>if c=k then x else y) ks xs else xs++[x]
section
variable{K:fv}{G:Hp}
theorem yJ{k:Key}(h:Den K G L (zk k) v):v=kV k:=by
 cases k with
 | inl i=>exact h
 | inr x=>exact h
theorem vV:∀{ks:List Key} {vs:List V},Ε K G L (ks.map zk) vs->vs=ks.map kV
 | [],_,h=>h
 | k::ks,_,⟨v,r,e,h1,h2⟩=>by rw [e,yJ h1,vV h2];rfl
theorem nF(h:Den K G L (qy k) v):∃b,v= .ref b/\iT G k b:=by obtain ⟨a,vs,rfl,e,h⟩:=h;obtain ⟨v1,v2,rfl,h1,h2⟩:=eh h;obtain ⟨c,us,rfl,e2,h1⟩:=h1;rw [vV h1] at e2;rw [yJ h2] at e;exact ⟨a,rfl,c,e,e2⟩
theorem iT.mono{G':Hp}(s:b_ G G')(h:iT G k b):iT G' k b:=let ⟨c,h1,h2⟩:=h;⟨c,s _ _ h1,s _ _ h2⟩
theorem yZ:∀{ks:List NK} {vs:List V},Ε K G L (ks.map qy) vs->∃as:List Addr,vs=as.map V.ref/\as.length=ks.length/\∀(i:Nat) k b,ks[i]? =some k->as[i]? =some b->iT G k b
 | [],_,h=>⟨[],h,rfl,λi k b h=>by simp at h⟩
 | k::ks,_,⟨v,r,e,h1,h2⟩=>by
  obtain ⟨b,rfl,hb⟩:=nF h1;obtain ⟨as,rfl,hl,ha⟩:=yZ h2;refine ⟨b::as,e,by simp [hl],λi k' b' g1 g2=> ?_⟩;cases i with
  | zero=>cases g1;cases g2;exact hb
  | succ i=>exact ha i k' b' (by simpa using g1) (by simpa using g2)
theorem vM(as:List Addr):(as.map V.ref).map Ob=as:=by induction as with | nil=>rfl | cons a as ih=>rw [aaD,aaD,ih];rfl
theorem fT{ds:List Dt}{vs:List V}(h:Ε K G L (ks.map qy++ds) vs):∃(as:List Addr) (us:List V),vs=as.map V.ref++us/\as.length=ks.length/\(∀(i:Nat) k b,ks[i]? =some k->as[i]? =some b->iT G k b)/\Ε K G L (ks.map qy) (as.map V.ref)/\Ε K G L ds us/\Iw ks vs=ks.zip (as.zip us):=by
 have key:∀{es fs:List Dt} {vs:List V},Ε K G L (es++fs) vs->∃a b,vs=a++b/\Ε K G L es a/\Ε K G L fs b:=by
  intro es
  induction es with
  | nil=>exact λh=>⟨[],_,rfl,rfl,h⟩
  | cons d es ih=>
   rintro fs _ ⟨v,r,rfl,h1,h2⟩;obtain ⟨a,b,rfl,h3,h4⟩:=ih h2;exact ⟨v::a,b,rfl,⟨v,a,rfl,h1,h3⟩,h4⟩
 obtain ⟨a,us,rfl,h1,h2⟩:=key h;obtain ⟨as,rfl,hl,hk⟩:=yZ h1;refine ⟨as,us,rfl,hl,hk,h1,h2, ?_⟩;unfold Iw;rw [List.take_left' (by simp [hl]),List.drop_left' (by simp [hl]),vM]
end
theorem fV{H:Hp}(h:∀(i:Nat) k b,ks[i]? =some k->as[i]? =some b->iT H k b):dt H (ks.zip (as.zip us)):=λx hx=>by obtain ⟨i,hi⟩:=aba.mp hx;rw [aa0] at hi;obtain ⟨h1,h2⟩:=hi;rw [aa0] at h2;exact h i _ _ h1 h2.1
theorem yi(k:NK):∀{ks:List NK} {as:List Addr} {us:List V},as.length=ks.length->us.length=ks.length->((ks.zip (as.zip us)).find? λx=>decide (x.1=k)).isSome=vN ks k
 | [],_,_,_,_=>rfl
 | c::ks,a::as,u::us,h1,h2=>by
  rw [aa4,aa4];by_cases e:c=k
  ·rw [List.find?_cons_of_pos (by simpa using e)];simp [vN,e]
  ·rw [List.find?_cons_of_neg (by simpa using e),yi k (by simpa using h1) (by simpa using h2)];simp [vN,e]
theorem DZ(k:NK)(v:V):∀{ks:List NK} {as:List Addr} {us:List V},as.length=ks.length->us.length=ks.length->(ks.zip (as.zip us)).map (λx=>if x.1=k then (x.1,x.2.1,v) else x)=ks.zip (as.zip (List.zipWith (λc y=>if c=k then v else y) ks us))
 | [],_,_,_,_=>by simp
 | c::ks,a::as,u::us,h1,h2=>by
  rw [List.zip_cons_cons,List.zip_cons_cons,List.map_cons,List.zipWith_cons_cons,List.zip_cons_cons,List.zip_cons_cons,DZ k v (by simpa using h1) (by simpa using h2)];by_cases e:c=k
  ·simp [e]
  ·simp [e]
theorem Dx(h1:as.length=ks.length)(h2:us.length=ks.length):uG (ks.zip (as.zip us)) k b v=(ko ks k).zip ((qZ ks k as b).zip (j5 ks k us v)):=by
 unfold uG ko qZ j5;rw [yi k h1 h2];by_cases e:vN ks k=true
 ·rw [aaI e,aaI e,aaI e,aaI e,DZ k v h1 h2]
 ·rw [if_neg e,if_neg e,if_neg e,if_neg e,List.zip_append (by rw [h1,h2]),List.zip_append (by simp [h1,h2])];rfl
section
variable{K:fv}{G:Hp}
theorem ot(k:NK):∀{ks:List NK} {as:List Addr} {ds:List Dt} {us:List V},Ε K G L ds us->as.length=ks.length->us.length=ks.length->(dh ks ds k=none/\eN (ks.zip (as.zip us)) k=none)\/∃d u,dh ks ds k=some d/\eN (ks.zip (as.zip us)) k=some u/\Den K G L d u
 | [],_,_,_,_,_,_=> .inl ⟨by simp [dh],by simp [eN]⟩
 | c::ks,a::as,[],us,h,_,h2=>by cases h;simp at h2
 | c::ks,a::as,d::ds,_,⟨u,us,rfl,n0,n⟩,h1,h2=>by
  by_cases e:c=k
  ·exact .inr ⟨d,u,by simp [dh,e],by simp [eN,e],n0⟩
  ·have q1:dh (c::ks) (d::ds) k=dh ks ds k:=by simp [dh,List.find?_cons,e]
   have q2:eN ((c::ks).zip ((a::as).zip (u::us))) k=eN (ks.zip (as.zip us)) k:=by simp [eN,List.find?_cons,e]
   rw [q1,q2];exact ot k n (by simpa using h1) (by simpa using h2)
theorem Ef{k:NK}{d:Dt}{v:V}(nd:Den K G L d v):∀{ks:List NK} {ds:List Dt} {us:List V},Ε K G L ds us->Ε K G L (List.zipWith (λc y=>if c=k then d else y) ks ds) (List.zipWith (λc y=>if c=k then v else y) ks us)
 | [],_,_,_=>rfl
 | _::_,[],_,h=>by cases h;rfl
 | c::ks,e::ds,_,⟨u,us,rfl,n0,n⟩=>by
  refine ⟨_,_,rfl, ?_,Ef nd n⟩;by_cases q:c=k
  ·simp only [if_pos q];exact nd
  ·simp only [if_neg q];exact n0
end
section
variable{o e f i value:Expr}{to te tf ti tv:DE}{apos aF pos':Pos}{k':Nat}
def Of(P:Program)(w:World)(t:DE):DE:=λρ M q x=>t ρ M (λd M1=>∃k,d= .loc k/\M1[k]? =some (.EH [] [])/\q d (M1.set k (i5 P w [] []))) x
theorem J9(h:JE X R e te)(hP:X.prog=P:=by rfl)(hw:X.w=w:=by rfl):JE X R e (Of P w te):=by
 subst hP hw;exact .of (Gj h) λσ H G L ρ M q x rl n h hx=>by refine ⟨G,L,ρ,M,_,x,rl,n,h,hx,λv H1 ⟨d1,G1,L1,M1,e1,r1,n1,k,ed,hm,h1⟩=> ?_⟩;subst ed;obtain ⟨a,rfl,hk⟩:=n1;obtain ⟨_,vs,hH,_,dn⟩:=r1.gh k a _ hk hm;cases dn;exact ⟨a,rfl,hH, .loc k,G1,L1,_,e1.trans (r1.GN hk),r1.setM (m:=i5 X.prog X.w [] []) hk ⟨[],Ο,rfl⟩,⟨a,rfl,hk⟩,h1⟩
def KG(P:Program)(w:World)(to te tf:DE):DE:=λρ M q x=>to ρ M (λd M1=>(∃k ks ds,d= .loc k/\M1[k]? =some (i5 P w ks ds)/\ks.length=ds.length)/\te ρ M1 (λdk M2=>tf ρ M2 (λdx M3=>∃k ks ds key,d= .loc k/\M3[k]? =some (i5 P w ks ds)/\ks.length=ds.length/\dk=qy key/\q ((dh ks ds key).getD dx) M3) x) x) x
theorem FW(hr:bq k' X.A)(ho:JE X R o to)(he:JE X R e te)(hf:JE X R f tf)(m:M2 X o "get" apos e f aF:=by exact ⟨rfl,rfl,rfl,rfl⟩)(hP:X.prog=P:=by rfl)(hw:X.w=w:=by rfl):JE X R (.Call (.Attribute o "get" apos) [e,f] [] aF) (KG P w to te tf):=by
 subst hP hw;exact .of (Eo (sX hr (n:=2) (by decide)) ho he hf m) λσ H G L ρ M q x rl n h hx=>by
  refine ⟨G,L,ρ,M,_,x,rl,n,h,hx,λv H1 ⟨d1,G1,L1,M1,e1,r1,n1,⟨k0,Yb,Ys,T4,Qe,YB⟩,h1⟩=> ?_⟩;subst T4;obtain ⟨a,rfl,hk⟩:=n1;obtain ⟨_,X1,VW,O9⟩:=r1.gh k0 a _ hk Qe;obtain ⟨Yy,Yq,rfl,_,U7,_,_,UQ⟩:=fT O9;refine ⟨a,rfl,⟨_,VW,by rw [UQ];exact fV λi k b g1 g2=>(U7 i k b g1 g2).mono r1.sub⟩,G1,L1,ρ,M1,_,x,r1,n.mono e1,h1,hx.on e1,λv2 H2 ⟨d2,G2,L2,M2,e2,r2,n2,h2⟩=> ?_⟩;refine ⟨G2,L2,ρ,M2,_,x,r2,(n.mono e1).mono e2,h2,(hx.on e1).on e2,λv3 H3 ⟨d3,G3,L3,M3,e3,r3,n3,k,ks,ds,key,ed,hm,hl,pU,h3⟩=> ?_⟩;cases ed;subst pU;have Li:=e2.trans e3;have Lr:=Li.l.get hk;obtain ⟨_,vs,hH,dn⟩:=r3.gh k0 a _ Lr hm;obtain ⟨as,us,rfl,AM,Gn,_,dn,el⟩:=fT dn;obtain ⟨b,rfl,nb⟩:=nF (Den.mono e3.g e3.l _ _ n2);have Ow:us.length=ks.length:=by rw [<-dn.length,hl]
  have hH:=hH.trans (aa3 (λz=>some (j4 X.prog X.w a z)) el);refine ⟨b,_,key,rfl,hH,fV λi k b g1 g2=>(Gn i k b g1 g2).mono r3.sub,nb.mono r3.sub, ?_⟩;rcases ot key dn AM Ow with ⟨q1,q2⟩ | ⟨d,u,q1,q2,du⟩
  ·rw [q1] at h3;rw [q2];exact fin_same (e1.trans Li) r3 n3 h3
  ·rw [q1] at h3;rw [q2];exact fin_same (e1.trans Li) r3 du h3
def Jr(P:Program)(w:World)(to ti tv:DE):DS:=λDn ρ M=>tv ρ M (λy M1=>to ρ M1 (λd M2=>ti ρ M2 (λdi M3=>∃k ks ds key,d= .loc k/\M3[k]? =some (i5 P w ks ds)/\ks.length=ds.length/\di=qy key/\ks.length < 1000/\Dn.nx ρ (M3.set k (i5 P w (ko ks key) (j5 ks key ds y)))) Dn.x) Dn.x) Dn.x
theorem yB(hr:bq k' X.A)(ho:JE X R o to)(hi:JE X R i ti)(hv:JE X R value tv)(hs:swapsWith value (some (.Subscript o i pos')) pos.line X.env=pure false:=by rfl)(hP:X.prog=P:=by rfl)(hw:X.w=w:=by rfl):JS X R (.Assign [.Subscript o i pos'] value pos) (Jr P w to ti tv):=by
 subst hP hw;exact .of (Fs (sX hr (n:=2) (by decide)) ho hi hv hs) λσ H G L ρ M Dn rl n h hx=>by
  refine ⟨G,L,ρ,M,_,_,rl,n,h,hx,λv H1 ⟨dv,G1,L1,M1,e1,r1,n1,h1⟩=> ?_⟩;refine ⟨G1,L1,ρ,M1,_,_,r1,n.mono e1,h1,hx.on e1,λov H2 ⟨d,G2,L2,M2,e2,r2,n2,h2⟩=> ?_⟩;refine ⟨G2,L2,ρ,M2,_,_,r2,(n.mono e1).mono e2,h2,(hx.on e1).on e2,λiv H3 ⟨di,G3,L3,M3,e3,r3,n3,k,ks,ds,key,ed,hm,hl,pU,hlen,h3⟩=> ?_⟩;subst ed pU;obtain ⟨a,rfl,Gn⟩:=n2;have Lr:=e3.l.get Gn;obtain ⟨_,vs,hH,dn⟩:=r3.gh k a _ Lr hm;obtain ⟨as,us,rfl,AM,Iz,dk,dn,el⟩:=fT dn;have Li:=e2.trans e3;have TR:=Den.mono Li.g Li.l _ _ n1;obtain ⟨b,rfl,nb⟩:=nF n3;have Ow:us.length=ks.length:=by rw [<-dn.length,hl]
  have hH:=hH.trans (aa3 (λz=>some (j4 X.prog X.w a z)) el);have z:(ks.zip (as.zip us)).length < sizeLine:=by rw [abA];exact aaP (Nat.min_le_left _ _) (Nat.lt_trans hlen (by decide))
  refine ⟨a,b,_,key,rfl,rfl,hH,fV λi k b g1 g2=>(Iz i k b g1 g2).mono r3.sub,nb.mono r3.sub,z,ρ,G3,L3,_,((e1.trans e2).trans e3).trans (r3.GN Lr),r3.setM (m:=i5 X.prog X.w (ko ks key) (j5 ks key ds dv)) Lr ⟨(qZ ks key as b).map V.ref++j5 ks key us v, ?_, ?_⟩,(((n.mono e1).mono e2).mono e3).mono (r3.GN (o:= .own a) Lr),h3⟩
  ·rw [Ο,Dx AM Ow]
   congr 2
   unfold Iw;have l1:((qZ ks key as b).map V.ref).length=(ko ks key).length:=by unfold qZ ko;split <;> simp [AM]
   rw [List.take_left' l1,List.drop_left' l1,vM]
  ·refine Ε.app ?_ ?_
   ·unfold ko qZ;split
    ·exact dk
    ·rw [aav,aav];exact Ε.app dk ⟨_,_,rfl,n3,rfl⟩
   ·unfold j5;split
    ·exact Ef TR dn
    ·exact Ε.app dn ⟨_,_,rfl,TR,rfl⟩
end
inductive xY(P:Program)(w:World)(M:Ms)(n:Nat):Dt->Dt->Bool->Prop
 | eq {x y:Dt} {c:Bool} (h:gM M n x y c):xY P w M n x y c
 | same {k:Nat}:xY P w M n (.loc k) (.loc k) true
 | nd {k k2:Nat} {ks Cb:List NK} {ds AD:List Dt} {e:Nat->Bool} (fP:k≠k2) (h1:M[k]? =some (i5 P w ks ds)) (h2:M[k2]? =some (i5 P w Cb AD)) (l1:ks.length=ds.length) (l2:Cb.length=AD.length) (hl:ks.length=Cb.length)
   (hn:∀j c,ks[j]? =some c->dh Cb AD c=none->e j=false) (h:∀j c d d',ks[j]? =some c->ds[j]? =some d->dh Cb AD c=some d'->gM M n d d' (e j)):xY P w M n (.loc k) (.loc k2) ((List.range ks.length).all e)
 | len {k k2:Nat} {ks Cb:List NK} {ds AD:List Dt} (fP:k≠k2) (h1:M[k]? =some (i5 P w ks ds)) (h2:M[k2]? =some (i5 P w Cb AD)) (l1:ks.length=ds.length) (l2:Cb.length=AD.length) (hl:ks.length≠Cb.length):xY P w M n (.loc k) (.loc k2) false
def zJ(P:Program)(w:World)(M:Ms)(n:Nat)(x y:Dt)(c:Bool):Prop:=
 ∃ds es,∃e:Nat->Bool,x= .tup ds/\y= .tup es/\ds.length=es.length/\(∀j d d',ds[j]? =some d->es[j]? =some d'->(List.range j).all e=true->xY P w M n d d' (e j))/\c=(List.range ds.length).all e
section
variable{K:fv}{G:Hp}{M:Ms}{H:Hp}
theorem yG(r:Rl K G L M H){k:Nat}{ds:List Dt}(hk:L[k]? =some a)(h:M[k]? =some (i5 P w ks ds))(hl:ks.length=ds.length):∃(as:List Addr) (us:List V),as.length=ks.length/\us.length=ks.length/\Ε K G L ds us/\dt H (ks.zip (as.zip us))/\H a=some (j4 P w a (ks.zip (as.zip us))):=by obtain ⟨_,vs,hH,dn⟩:=r.gh k a _ hk h;obtain ⟨as,us,rfl,AM,Iz,_,dn,el⟩:=fT dn;exact ⟨as,us,AM,by rw [<-dn.length,hl],dn,fV λi k b g1 g2=>(Iz i k b g1 g2).mono r.sub,hH.trans (aa3 (λz=>some (j4 P w a z)) el)⟩
theorem k9(h1:as.length=ks.length)(h2:us.length=ks.length):(ks.zip (as.zip us)).length=ks.length:=by rw [abA,abA,h1,h2,abZ,abZ]
theorem Ke(r:Rl K G L M H){d d':Dt}(h:xY P w M n d d' c){v':V}(n1:Den K G L d v)(n2:Den K G L d' v'):HU P w K H n v v' c:=by
 cases h with
 | eq h=>exact .eq (qW r h n1 n2)
 | same=>
  obtain ⟨a,rfl,h1⟩:=n1;obtain ⟨b,rfl,h2⟩:=n2;cases h1.symm.trans h2;exact .same
 | @nd k k2 ks Cb ds AD e fP h1 h2 l1 l2 hl hn h=>
  obtain ⟨a,rfl,g1⟩:=n1;obtain ⟨b,rfl,g2⟩:=n2;obtain ⟨as,us,la,lu,dn,nk,hH⟩:=yG r g1 h1 l1;obtain ⟨WU,Xx,MV,MY,HE,RV,Ll⟩:=yG r g2 h2 l2;have ab:a≠b:=λe=>by subst e;exact fP ((List.getElem?_inj (aad.mp g1).1 r.nd).mp (g1.trans g2.symm))
  rw [<-k9 la lu];refine .nd ab hH Ll nk RV (by rw [k9 la lu,k9 MV MY];exact hl) (λj c ka v hj hv=> ?_) λj c ka v v' hj hv=> ?_
  ·rw [aa0] at hj;rcases ot c HE MV MY with ⟨q1,q2⟩ | ⟨d,u,q1,q2,du⟩
   ·exact hn j c hj.1 q1
   ·rw [hv] at q2;cases q2
  ·rw [aa0] at hj;obtain ⟨hc,hj⟩:=hj;rw [aa0] at hj;rcases ot c HE MV MY with ⟨q1,q2⟩ | ⟨d,u,q1,q2,du⟩
   ·rw [hv] at q2;cases q2
   ·rw [hv] at q2;cases q2;obtain ⟨d0,O1,dd⟩:=dn.back hj.2;exact qW r (h j c d0 d hc O1 q1) dd du
 | @len k k2 ks Cb ds AD fP h1 h2 l1 l2 hl=>
  obtain ⟨a,rfl,g1⟩:=n1;obtain ⟨b,rfl,g2⟩:=n2;obtain ⟨as,us,la,lu,dn,nk,hH⟩:=yG r g1 h1 l1;obtain ⟨WU,Xx,MV,MY,HE,RV,Ll⟩:=yG r g2 h2 l2;have ab:a≠b:=λe=>by subst e;exact fP ((List.getElem?_inj (aad.mp g1).1 r.nd).mp (g1.trans g2.symm))
  exact .len ab hH Ll nk RV (by rw [k9 la lu,k9 MV MY];exact hl)
theorem Ib(r:Rl K G L M H){d d':Dt}(h:zJ P w M n d d' c){v':V}(n1:Den K G L d v)(n2:Den K G L d' v'):Rg P w K H n v v' c:=by obtain ⟨ds,es,e,rfl,rfl,hl,he,rfl⟩:=h;obtain ⟨a,vs,rfl,e1,m1⟩:=n1;obtain ⟨b,us,rfl,e2,m2⟩:=n2;refine ⟨a,b,vs,us,e,rfl,rfl, .of (r.sub _ _ e1), .of (r.sub _ _ e2),by rw [<-m1.length,<-m2.length];exact hl,λj u v hu hv ja=> ?_,by rw [m1.length]⟩;obtain ⟨d,hd,dn⟩:=m1.back hu;obtain ⟨d',eJ,W9⟩:=m2.back hv;exact Ke r (he j d d' hd eJ ja) dn W9
end
section
variable{e o i:Expr}{t:DA}{to ti:DE}{apos aF:Pos}{k':Nat}
def zp(P:Program)(w:World)(n:Nat)(to:DE)(t:DA):DE:=λρ M q x=>to ρ M (λd M1=>(∃xs,fC M1 d=some xs)/\t ρ M1 (λds M2=>∃y xs,∃f:Nat->Bool,∃j:Nat,ds=[y]/\fC M2 d=some xs/\(∀i z,xs[i]? =some z->zJ P w M2 n z y (f i))/\j < xs.length/\f j=true/\(∀i,i < j->f i=false)/\q (.int (j:Int)) M2) x) x
theorem Ep(n:Nat)(hr:bq k' X.A)(ho:JE X R o to)(ha:JA X R [e] t)(hn:n+4<=64:=by decide)(ia:attributeBase o "index" X.env (eval o X.env)=eval o X.env:=by rfl)
  (w_:((backTo aF (starEach [e] X.env)).all (λx=> !x.1)&&(backToKw aF (keywordEach [] X.env)).all (λx=>x.1.isSome)
   &&decide (([e]:List Expr).length+([]:List Keyword).length+(if ([]:List Keyword).isEmpty then 0 else 1) < 30))=true:=by rfl)
  (g7:(apos.endLine==aF.line)=true:=by rfl) (hs:starEach [e] X.env=(false,eval e X.env)::starEach [] X.env:=by rfl) (jF:(backTo aF (starEach [] X.env)).any (·.1)=false:=by rfl) (hP:X.prog=P:=by rfl) (hw:X.w=w:=by rfl):
  JE X R (.Call (.Attribute o "index" apos) [e] [] aF) (zp P w n to t):=by
 subst hP hw;exact .of (BO abG PySem.F.slot_list_index PySem.F.type_list_index (r:=zy X.prog X.w X.K n) (z5 (sX hr hn)) ho ha ia w_ g7 hs jF) λσ H G L ρ M q x rl n h hx=>by refine ⟨G,L,ρ,M,_,x,rl,n,h,hx,λv H1 ⟨d1,G1,L1,M1,e1,r1,n1,⟨xs,hm⟩,h1⟩=> ?_⟩;obtain ⟨a,vs,rfl,sq,m⟩:=bU r1 n1 hm;refine ⟨.inl ⟨rfl,vs,sq⟩,G1,L1,ρ,M1,_,x,r1,n.mono e1,h1,hx.on e1,λus H2 ⟨ds,G2,L2,M2,e2,r2,n2,y,xs',f,j,ed,FU,hf,hj,ft,ff,h2⟩=> ?_⟩;subst ed;obtain ⟨u,rfl,n3⟩:=aW n2;obtain ⟨a2,JZ,ea,Lw,m2⟩:=bU r2 (Den.mono e2.g e2.l _ _ n1) FU;cases ea;refine ⟨a,JZ,u,f,j,rfl,rfl,Lw,λi z hz=> ?_,by rw [<-m2.length];exact hj,ft,ff, .int (j:Int),G2,L2,_,e1.trans e2,r2,rfl,h2⟩;obtain ⟨d,hd,dn⟩:=m2.back hz;exact Ib r2 (hf i d hd) dn n3
end
theorem Bo{α β:Type}{F:α->β->Prop}:∀{xs:List α} {ys:List β},xs.length=ys.length->(∀(i:Nat) x y,xs[i]? =some x->ys[i]? =some y->F x y)->Paired F xs ys
 | [],[],_,_=> .nil
 | x::xs,y::ys,hl,h=> .cons (h 0 x y rfl rfl) (Bo (by simpa using hl) λi a b ha hb=>h (i+1) a b (by simpa using ha) (by simpa using hb))
def e9(n:Nat):List Int:=(List.range n).map λi:Nat=>(i:Int)
section
theorem pQ:cw X (.type "range") (λxs H Q=>∃j:Int,xs=[V.int j]/\∀l,H l=none->Q (.ref l) (upd H l (.Hf 0 j))):=by intro δ s σ H xs us Q I r ⟨j,ex,q⟩;subst ex;obtain ⟨u,rfl,rx⟩:=iE r;obtain ⟨t,rfl⟩:=rx;exact call_range_1 ⟨.ref s.heap.objs.size,_,I.laid (λb o e=>aaf _ e) (aal _) (show aO X.prog X.w _ _ _ (.Hf 0 j) from ⟨_,_,_,aau _ rfl⟩),rfl,q _ (I.aJ.fresh (aal _))⟩
theorem qm(hc:X.calm=true):cw X (.type "list") (λxs H Q=>∃(a:Addr) (n:Nat),xs=[V.ref a]/\Rd H a (.Hf 0 (n:Nat))/\n<=1000/\∀p,H p=none->Q (.ref p) (upd H p (.lst ((e9 n).map V.int)))):=by
 intro δ s σ H xs us Q I r ⟨a,n,ex,e,hn,q⟩;subst ex;obtain ⟨u,rfl,rx⟩:=iE r;cases rx;obtain ⟨t,u,v,eg⟩:=e.ok I.aJ;have sz:Builtin.Range.rangeSize 0 (n:Nat) 1=(n:Int):=by rw [rangeSize_one];split <;> omega
 refine call_list_range (I.ok.hd hc) (show IsRange s.heap a 0 (n:Nat) 1 t u v from eg) (small_one (by omega) (by omega) (by omega) (by omega)) sz (by omega) λh' tk se c' kp el it=> ?_;obtain ⟨il,ip⟩:=it;have hv:Ψ ((e9 n).map V.int) se.toList:=by
  refine Bo (by unfold e9;rw [List.length_map,List.length_map,List.length_range];simpa using il.symm) λi x y hx hy=> ?_;obtain ⟨tk,rfl⟩:=ip i y (by simpa using hy);have hi:i < n:=by have:=(aad.mp hy).1;simp at this;omega
  unfold e9 at hx;rw [aah,aah,aaV hi] at hx;cases hx;exact ⟨tk,by simp⟩
 exact ⟨.ref s.heap.objs.size,_,I.laid (t':=tk) kp (Nat.le_refl _) (show aO X.prog X.w _ h' _ (.lst _) from ⟨by unfold e9;rw [List.length_map,List.length_map,List.length_range];exact Nat.le_trans hn (by decide),se.toList,c',hv,by simpa using el⟩),rfl,q _ (I.aJ.fresh (Nat.le_refl _))⟩
end
def J5:List Dt->Ms->DQ->Prop:=λds M q=>∃n:Nat,ds=[.int (n:Nat)]/\n<=1000/\q (.loc M.length) (M++[.lst ((e9 n).map Dt.int)])
section
variable{a:Expr}{t:DA}{p p2 Ei:Pos}
theorem Fi(hm:X.mg "list"=none)(FU:X.mg "range"=none)(ha:JA X R [a] t)(hg:Gl X "list":=by rfl)(RD:Gl X "range":=by rfl)(he:starEach [a] X.env=(false,eval a X.env)::starEach [] X.env:=by rfl)(eI:(backTo Ei (starEach [] X.env)).any (·.1)=false:=by rfl)(Kh:(backTo pos (starEach [] X.env)).any (·.1)=false:=by rfl)(hc:X.calm=true:=by rfl):JE X R (.Call (.Name "list" p) [.Call (.Name "range" p2) [a] [] Ei] [] pos) (wa J5 t):=
 .of (iM (qm hc) hg hm jN (sE (iM pQ RD FU boot_range ha (by decide) (by decide) he eI) wL aQ) (by decide) (by decide) aQ Kh) λσ H G L ρ M q x rl n h hx=>by refine ⟨G,L,ρ,M,_,x,rl,n,h,hx,λvs H1 ⟨ds,G1,L1,M1,e1,r1,n1,k,ek,hk,h1⟩=> ?_⟩;subst ek;obtain ⟨v,rfl,nv⟩:=aW n1;have nv:v= .int (k:Nat):=nv;subst nv;exact ⟨k,rfl,λl hl=>⟨l,k,rfl, .of Ο,hk,λp hp=>iG (e1.trans (r1.J1 hl)) (r1.CW hl) hp cY h1⟩⟩
end
def JQ(te tl:DE):DE:=λρ M q x=>te ρ M (λd M1=>tl ρ M1 (λdi M2=>∃ds n,d= .tup ds/\di= .int (n:Nat)/\n < ds.length/\q (.tup (ds.take n)) M2) x) x
theorem yM{e l:Expr}{te tl:DE}{p2:Pos}(he:JE X R e te)(hl:JE X R l tl):JE X R (.Subscript e (.Slice none (some l) none p2) pos) (JQ te tl):=
 .of (kN Bq he nB (nh hl)) λσ H G L ρ M q x rl n h hx=>by
  refine ⟨G,L,ρ,M,_,x,rl,n,h,hx,λv H1 ⟨d1,G1,L1,M1,e1,r1,n1,h1⟩=> ?_⟩;refine ⟨G1,L1,ρ,M1,_,x,r1,n.mono e1,h1,hx.on e1,λv2 H2 ⟨d2,G2,L2,M2,e2,r2,n2,ds,k,ed,ei,k1,h2⟩=> ?_⟩;subst ed ei;obtain ⟨a,vs,rfl,ea,m⟩:=Den.mono e2.g e2.l _ _ n1;have n2:v2= .int k:=n2;subst n2;have lv:=m.length;refine ⟨k,rfl,a,vs,rfl, .of (r2.sub _ _ ea),λz=> ?_,λp hp=> ?_⟩
  ·rw [HT.nD] at z;omega
  ·rw [rq];exact gq (e1.trans e2) r2 hp (j_ r2 hp (Ε.of (pk k m.pair))) h2
end L2
namespace PySem
variable{es es':Array (Int×Value)}{t:SetTable}{a:Addr}{led:Bool}{l:List Int}{prog:Program}{w:World}{A:Around}{E Q:Value->Shared->Prop}{s:Shared}{R:Result->Shared->Prop}{items:Array Value}{ep:Nat}
abbrev Hg:=Array Int×SetTable
def Mx(hs:Array Int):Array (Int×Value):=(hs.toList.map λh=>(h,Value.none)).toArray
def bY(es:Array (Int×Value)):Array Int:=(es.toList.map (·.1)).toArray
def bz(st:Hg)(h:Int):Hg:=
 let L:=layNew st.2 (Mx st.1) h .none
 if (!L.2.2.1&&L.2.1.tooFull)=true then
  let R:=relayAll L.2.1 L.1 (SetTable.grown L.1.size)
  (bY R.1,R.2.1)
 else (bY L.1,L.2.1)
def i8(st:Hg):Bool:=st.2.fits st.1.size&&(st.2.plain&&st.2.led)&&SetTable.below st.2.place 0==0&&(List.range st.1.size).all λi=>SetTable.below st.2.place (st.2.place.getD i 0+1)==i+1
def vL(led:Bool)(l:List Int):Hg:=l.foldl bz (#[], .fresh 0 0 led)
theorem AE(led:Bool)(l:List Int)(k:Int):vL led (l++[k])=bz (vL led l) k:=by unfold vL;rw [List.foldl_append];rfl
theorem bC(es:Array (Int×Value)):(bY es).size=es.size:=by simp [bY]
theorem Gf(es:Array (Int×Value)):bY (Mx (bY es))=bY es:=by simp [bY,Mx]
theorem nI:bY es=bY es'↔es.toList.map (·.1)=es'.toList.map (·.1):=by simp [bY]
theorem mN(es:Array (Int×Value))(p:Nat)(x:Int×Value):bY (SetTable.insertAt es p x)=SetTable.insertAt (bY es) p x.1:=by unfold bY SetTable.insertAt;apply Array.ext';simp [List.map_take,List.map_drop]
theorem GA{h:Int}{x x':Value}(e:bY es=bY es'):bY (layNew t es h x).1=bY (layNew t es' h x').1/\(layNew t es h x).2=(layNew t es' h x').2:=by
 have hs:es.size=es'.size:=by rw [<-bC,e,bC]
 unfold layNew;cases t.freeSlot h with
 | none=>
  refine ⟨?_,by rw [hs]⟩;rw [nI] at e⊢;simp [e]
 | some sd=>
  obtain ⟨slot,wd⟩:=sd;have hi:bY (SetTable.insertAt es (t.put slot).2 (h,x))=bY (SetTable.insertAt es' (t.put slot).2 (h,x')):=by rw [mN,mN,e]
  have hz:(SetTable.insertAt es (t.put slot).2 (h,x)).size=(SetTable.insertAt es' (t.put slot).2 (h,x')).size:=by rw [<-bC,hi,bC]
  refine ⟨hi, ?_⟩;show (_,_,_)=(_,_,_);rw [hz]
theorem e7(es:Array (Int×Value))(order:List Nat):((order.filterMap (λi=>es[i]?)).map (·.1))=order.filterMap λi=>(es.toList.map (·.1))[i]? :=by
 rw [List.map_filterMap]
 congr 1
 funext i
 simp
theorem z_{n:Nat}(e:bY es=bY es'):bY (relayAll t es n).1=bY (relayAll t es' n).1/\(relayAll t es n).2=(relayAll t es' n).2:=by
 have hs:es.size=es'.size:=by rw [<-bC,e,bC]
 have hm:es.map (·.1)=es'.map (·.1):=by apply Array.ext';rw [nI] at e;simpa using e
 unfold relayAll;rw [hm];cases t.relaid (es'.map (·.1)) n with
 | none=>exact ⟨e,by rw [hs]⟩
 | some to=>
  obtain ⟨t',order⟩:=to;have hf:bY (order.filterMap (es[·]?))=bY (order.filterMap (es'[·]?)):=by rw [nI];simp only [Array.toList_filterMap];rw [e7,e7,(nI.mp e)]
  have hz:(order.filterMap (es[·]?)).size=(order.filterMap (es'[·]?)).size:=by rw [<-bC,hf,bC]
  dsimp only;rw [hz,hs];split
  ·exact ⟨hf,rfl⟩
  ·exact ⟨e,rfl⟩
theorem i9{k:Int}(h0:0<=k)(h1:k < 4096):hashInt k=k:=by
 have e0:(k.natAbs:Int) % ((2 ^ 61 - 1:Nat):Int)=k:=by rw [Int.emod_eq_of_lt (by omega) (by omega)];omega
 have e1:(k== -1)=false:=by simp;omega
 have e:rawHash k=k:=by unfold rawHash;dsimp only;rw [e0,aaF (by omega:¬k < 0),e1];rfl
 unfold hashInt;rw [e,e1];rfl
def Heap.b4(h:Heap)(a:Addr)(led:Bool)(l:List Int):Prop:=
 ∃o es ep t,h.get? a=some o/\o.ExactSet/\o.data= .set es ep t/\(∀e∈es.toList,∃tk,e.2= .int e.1 tk)/\List.Perm (es.toList.map (·.1)) l/\(bY es,t)=vL led l/\t.fits es.size=true/\es.size < 1000
theorem Heap.b4.keep{h h':Heap}(x:h.b4 a led l)(k:∀o,h.get? a=some o->h'.get? a=some o):h'.b4 a led l:=by obtain ⟨o,es,ep,t,ho,r⟩:=x;exact ⟨o,es,ep,t,k o ho,r⟩
section
theorem AV{es:List (Int×Value)}(hv:∀e∈es,∃tk,e.2= .int e.1 tk)(hp:List.Perm (es.map (·.1)) l)(hl:∀k∈l,0<=k/\k < 4096):ElemsOf (intKind prog w) es:=λe he=>by obtain ⟨tk,e2⟩:=hv e he;have:=hl e.1 (hp.mem_iff.mp (aaj.mpr ⟨e,he,rfl⟩));refine ⟨⟨e.1,by rw [e2];simp [intKind,Value.isInt], ?_⟩,by rw [e2];rfl⟩;show e.1=hashInt e.1;rw [i9 this.1 this.2]
theorem wN{Q:Bool->Shared->Prop}{k:Int}{tk:Tok}(hS:s.heap.b4 a led l)(hl:∀k∈l,0<=k/\k < 4096)(h0:0<=k)(h1:k < 4096)(hn:l.length < 900)
  (hQ:∀h' b,Heap.SameBut a s.heap h'->h'.b4 a led (if k∈l then l else l++[k])->Q b {s with heap:=h',toks:=s.toks+1}):wpAny (model prog w) A (setAdd a (.int k tk)) Q E s:=by
 obtain ⟨o,es,ep,t,ho,hex,hd,hv,hp,hr,hf,hb⟩:=hS;have pU:(intKind prog w).is k (.int k tk)=true:=by simp [intKind,Value.isInt]
 have SM:(Value.int k tk).scannable=true:=rfl;have Tv:=AV (prog:=prog) (w:=w) hv hp hl;have hlen:es.size=l.length:=by rw [<-hp.length_eq];simp
 have T5:es.size < scanBound:=aaC hb (by decide);unfold setAdd;refine wpAny_holding (aab ((intKind prog w).pyHash pU ?_));unfold setAddHashed setAddHashedIn;refine wpAny_holding (aab (wpAny_setState_of ho hd hf ?_));dsimp only;rw [byScan_of SM T5 Tv];simp only [↓reduceIte];unfold setAddByScan;refine aab ?_;refine aab (wpAny_rule ?_);refine aab (wpAny_setScan_of pU ho hd hf Tv ?_);have hh:(intKind prog w).hash k=k:=i9 h0 h1;cases ya:List.findIdx? (λe=>(intKind prog w).is k e.2) es.toList with
 | some j=>
  dsimp only;obtain ⟨hj,WG,_⟩:=List.findIdx?_eq_some_iff_getElem.mp ya;have hm:k∈l:=by
   have me:=aaY hj;obtain ⟨WW,e2⟩:=hv _ me;obtain ⟨X0,e3⟩:=Value.isInt_shape (show Value.isInt k es.toList[j].2=true from WG);rw [e3] at e2;injection e2 with e4
   rw [e4];exact hp.mem_iff.mp (aaj.mpr ⟨_,me,rfl⟩)
  refine aae (aae ?_);have:=hQ s.heap false (Heap.SameBut.refl a s.heap) (by rw [aaI hm];exact ⟨o,es,ep,t,ho,hex,hd,hv,hp,hr,hf,hb⟩);exact this
 | none=>
  dsimp only;have hm:k∉l:=λhm=>by obtain ⟨e,he,ek⟩:=aaj.mp (hp.mem_iff.mpr hm);obtain ⟨WW,e2⟩:=hv e he;have:=List.findIdx?_eq_none_iff.mp ya e he;rw [e2,ek] at this;simp [intKind,Value.isInt] at this
  rw [hh];have qG:=layNew_perm t es k (.int k tk);have D3:=layNew_fits t es k (.int k tk);have Kr:=GA (t:=t) (es:=es) (es':=Mx (bY es)) (h:=k) (x:= .int k tk) (x':= .none) (Gf es).symm
  have RM:∀(b:Bool) {s₁:Shared} {Q':Unit->Shared->Prop},Q' () s₁->wpAny (model prog w) A (match b with | true=>rule "set.scan.the-table-gave-way" | false=>pure ()) Q' E s₁:=
   λb s₁ Q' hq=>by cases b <;> first | exact aae hq | exact wpAny_rule hq
  have o_:vL led (l++[k])=bz (bY es,t) k:=by rw [AE,<-hr]
  unfold bz at o_;dsimp only at o_;generalize Yi:layNew t (Mx (bY es)) k .none=L0 at Kr o_;generalize hL:layNew t es k (.int k tk)=L at qG D3 Kr⊢;obtain ⟨gQ,t1,vk,V7⟩:=L;obtain ⟨LR,t0,X8,g0⟩:=L0;obtain ⟨n1,n2⟩:=Kr;dsimp only at qG D3 n1 n2 o_⊢;injection n2 with n2 n3
  injection n3 with n3 n4
  subst n2 n3 n4;rw [Array.toList_push] at qG;have OS:∀e∈gQ.toList,∃tk,e.2= .int e.1 tk:=λe he=>by
   rcases aaQ.mp (qG.mem_iff.mp he) with he | he
   ·exact hv e he
   ·rw [abd.mp he];exact ⟨tk,rfl⟩
  have GK:List.Perm (gQ.toList.map (·.1)) (l++[k]):=by have:=qG.map (·.1);rw [aav] at this;exact this.trans (hp.append (List.Perm.refl _))
  have M_:gQ.size=es.size+1:=by have:=qG.length_eq;simpa using this
  have P7:gQ.size < 1000:=by omega
  refine aab (RM _ ?_)
  have key:∀(g:Bool->Sem Unit),(∀(b:Bool) {s₁:Shared} {Q':Unit->Shared->Prop},Q' () s₁->wpAny (model prog w) A (g b) Q' E s₁)->wpAny (model prog w) A (do
    storeSet a gQ t1
    if (!vk&&t1.tooFull)=true then do
      g (relayAll t1 gQ (SetTable.grown gQ.size)).2.2
      storeSet a (relayAll t1 gQ (SetTable.grown gQ.size)).1 (relayAll t1 gQ (SetTable.grown gQ.size)).2.1
      pure (some true)
     else pure (some true)) (λr s'=>r=some true/\∃h',Heap.SameBut a s.heap h'/\h'.b4 a led (l++[k])/\s'={s with heap:=h',toks:=s.toks+1}) E {s with toks:=s.toks+1}:=λg RM=>by
   refine aab (wpAny_storeSet_of ho hd ?_ (fits_of_scanBound (aaC P7 (by decide))));have hg:∀{h:Heap} {o:Obj} {LR:Array (Int×Value)} {ep:Nat} {t0:SetTable} (es':Array (Int×Value)) (t':SetTable),h.get? a=some o->o.data= .set LR ep t0->(h.update a (Obj.putSet es' t')).get? a=some {o with data:= .set es' (ep+1) t'}:=λ{h o LR ep t0} es' t' ho hd=>by have:=Heap.get?_update_self (Obj.putSet es' t') ho (by rw [putSet_of es' t' hd];rfl);rw [putSet_of es' t' hd] at this;exact this
   have Lm:=hg gQ t1 ho hd;have NI:=Heap.SameBut.update s.heap a (Obj.putSet gQ t1);by_cases c:(!vk&&t1.tooFull)=true
   ·rw [aaI c] at o_⊢;have MF:=relayAll_perm t1 gQ (SetTable.grown gQ.size);have JO:=relayAll_fits t1 gQ (SetTable.grown gQ.size);have Qg:=z_ (t:=t1) (n:=SetTable.grown gQ.size) n1;have Xv:LR.size=gQ.size:=by rw [<-bC,<-n1,bC]
    rw [Xv] at o_;generalize relayAll t1 LR (SetTable.grown gQ.size)=R0 at o_ Qg;generalize relayAll t1 gQ (SetTable.grown gQ.size)=R at MF JO Qg⊢;obtain ⟨EB,t2,g2⟩:=R;obtain ⟨XX,TF,Yo⟩:=R0;obtain ⟨q1,q2⟩:=Qg;dsimp only at MF JO q1 q2 o_⊢;injection q2 with q2 q3
    subst q2;have NM:EB.size=gQ.size:=by have:=MF.length_eq;simpa using this
    refine aab (RM _ ?_);refine aab (wpAny_storeSet_of Lm rfl ?_ (fits_of_scanBound (aaC (by omega:EB.size < 1000) (by decide))));have Lu:=hg EB t2 Lm rfl;refine aae ⟨rfl,_,NI.trans (Heap.SameBut.update _ a _),⟨_,EB,_,t2,Lu,hex,rfl,λe he=>OS e (MF.mem_iff.mp he),(MF.map _).trans GK, ?_,JO,by omega⟩,rfl⟩;rw [o_,q1]
   ·rw [aaF c] at o_⊢;refine aae ⟨rfl,_,NI,⟨_,gQ,_,t1,Lm,hex,rfl,OS,GK, ?_,D3,P7⟩,rfl⟩;rw [o_,n1]
  have fin:∀(r:Option Bool) (s':Shared),(r=some true/\∃h',Heap.SameBut a s.heap h'/\h'.b4 a led (l++[k])/\s'={s with heap:=h',toks:=s.toks+1})->wpAny (model prog w) A (match r with | some added=>pure added | none=>setAddHashedIn a (.int k tk) k 99999) Q E s':=by rintro r s' ⟨rfl,h',b1,b2,rfl⟩;exact aae (hQ h' true b1 (by rw [aaF hm];exact b2))
  split
  ·refine aab ?_;rw [hashByValue_scannable 8 SM];refine aae ?_;refine abt (key _ ?_) (λr s' PM=>fin r s' PM) λ_ _ h=>h;intro b s₁ Q' hq;cases b <;> first | exact aae hq | exact wpAny_rule hq
  ·refine aab (aae ?_);refine abt (key _ ?_) (λr s' PM=>fin r s' PM) λ_ _ h=>h;intro b s₁ Q' hq;cases b <;> first | exact aae hq | exact wpAny_rule hq
end
namespace F
theorem eu:plainId "set.update.loop"=true:=by decide+kernel
theorem iy:entryFor table "set.update.loop"=some Builtin.«set.update.loop»:=entryFor_of_fast (by kernel_rfl)
end F
def ins(l:List Int)(k:Int):List Int:=if k∈l then l else l++[k]
def dd(ns:List Int):List Int:=ns.foldl ins []
theorem sf(ns:List Int)(k:Int):dd (ns++[k])=ins (dd ns) k:=by unfold dd;rw [List.foldl_append];rfl
theorem FD{k x:Int}:x∈ins l k↔x∈l\/x=k:=by
 unfold ins;split
 ·rename_i h;exact ⟨.inl,λh'=>h'.elim id λe=>e▸h⟩
 ·simp
theorem FR(l:List Int)(k:Int):(ins l k).length<=l.length+1:=by unfold ins;split <;> simp
theorem oG(ns:List Int):(∀x,x∈dd ns↔x∈ns)/\(dd ns).length<=ns.length/\(dd ns).Nodup:=by
 have key:∀n (ys:List Int),ys.length=n->(∀x,x∈dd ys↔x∈ys)/\(dd ys).length<=ys.length/\(dd ys).Nodup:=by
  intro n
  induction n with
  | zero=>intro ys h;have:ys=[]:=abm.mp h;subst this;exact ⟨λx=>Iff.rfl,aal _,List.nodup_nil⟩
  | succ n ih=>
   intro ys h;have fP:ys≠[]:=λe=>by subst e;cases h
   obtain ⟨zs,x,rfl⟩:∃zs x,ys=zs++[x]:=⟨ys.dropLast,ys.getLast fP,(aa1 fP).symm⟩;obtain ⟨h1,h2,h3⟩:=ih zs (by simpa using h);rw [sf];refine ⟨λy=>by rw [FD,h1];simp, ?_, ?_⟩
   ·have:=FR (dd zs) x;rw [aag];show _<=zs.length+1;omega
   ·unfold ins;split
    ·exact h3
    ·rename_i q;refine List.nodup_append.mpr ⟨h3,by simp,λa ha b hb=> ?_⟩;have:b=x:=by simpa using hb
     subst this;rintro rfl;exact q ha
 exact key _ ns rfl
section
variable{I:Addr}{fp wr:List Addr}{G:Array GenState->Array GenState->Prop}{n:Nat}{P:Nat->Value->Prop}{St:Nat->Shared->Prop}
theorem k7(W:WalksS prog w A.in1 I fp wr G n P St)(hn:n < 900)(S:Addr)(Lv:S∉fp)(led:Bool)(ns:List Int)(hl:ns.length=n)(hb:∀k∈ns,0<=k/\k < 4096)(hP:∀i v,P i v->∃k tk,ns[i]? =some k/\v= .int k tk):
  ∀(k i:Nat) (s:Shared),n - i=k->i<=n->St i s->s.heap.b4 S led (dd (ns.take i))->(∀s',Moved (S::wr) G s s'->s'.heap.b4 S led (dd ns)->R (.ok (.ret .none)) s')->
  codeAny (model prog w) A (.builtin "set.update.loop" ⟨[.ref S, .ref I],[]⟩) R s:=by
 have S8:S∉wr:=λh=>Lv (W.sub _ h);have Fp:∀b∈wr,b∈S::wr:=λb hb=>aai _ hb;intro k
 induction k with
 | zero=>
  intro i s hk hi zF hS hR;have xG:i=n:=by omega
  subst xG;refine codeAny_builtin F.iy ?_;rw [Around.under_plainId F.eu _];show wpAny _ A.in1 (pyNext (.ref I) >>= _) _ _ s;refine aab (W.done s _ _ zF λs' hm=> ?_);rw [<-hl,List.take_length] at hS;exact aae (hR s' (hm.mono Fp) (hS.keep λo e=>hm.heap S o S8 e))
 | succ k ih=>
  intro i s hk hi zF hS hR;have AI:i < n:=by omega
  refine codeAny_builtin F.iy ?_;rw [Around.under_plainId F.eu _];show wpAny _ A.in1 (pyNext (.ref I) >>= _) _ _ s;refine aab (W.item i s _ _ AI zF λv s' hp RR hm=> ?_);obtain ⟨x,tk,ex,rfl⟩:=hP i v hp;have Hr:=hS.keep λo e=>hm.heap S o S8 e;have hx:=hb x (aat ex);obtain ⟨f1,f2,f3⟩:=oG (ns.take i);have Q8:ns.take (i+1)=ns.take i++[x]:=by rw [List.take_add_one,ex];rfl
  show wpAny _ A.in1 (holding [Value.int x tk] (setAdd S (.int x tk)) >>= _) _ _ _;refine aab (wpAny_holding (wN Hr (λy hy=>hb y (List.mem_of_mem_take ((f1 y).mp hy))) hx.1 hx.2 (aaP f2 (by rw [abk];omega)) λh' b sb is=> ?_));have U1:h'.b4 S led (dd (ns.take (i+1))):=by rw [Q8,sf];exact is
  refine aae ⟨plainId_quiet F.eu _,ih (i+1) _ (by omega) AI (W.frame _ s' _ _ RR (Nat.le_succ _) λb hb o e=>sb.extBut b o (λh:b=S=>Lv (by rw [<-h];exact hb)) e) U1 λHw QO P_=> ?_⟩;refine hR Hw (Moved.trans W.gtrans ((hm.mono Fp).then_heap (Nat.le_succ _) λb o hb e=> ?_) QO) P_;exact sb.extBut b o (λh:b=S=>hb (by rw [h];exact aak)) e
end
namespace F
theorem qg:isSubtype (.type "list") (.type "set")=pure false:=by rw [isSubtype_type];kernel_rfl
theorem iU:isSubtype (.type "list") (.type "frozenset")=pure false:=by rw [isSubtype_type];kernel_rfl
end F
section
theorem vt{Q:Unit->Shared->Prop}{id:String}{S l:Addr}{ns:List Int}(hh:A.handled=none)(hl:s.heap.IsList l items)(hsz:items.size=ns.length)(hit:∀(i:Nat) (v:Value),items[i]? =some v->∃k tk,ns[i]? =some k/\v=Value.int k tk)(hb:∀k∈ns,0<=k/\k < 4096)(hn:ns.length < 900)(hS:s.heap.b4 S led [])
  (hQ:∀h' tk,(∀b o,b≠S->s.heap.get? b=some o->h'.get? b=some o)->h'.b4 S led (dd ns)->s.toks<=tk->Q () {s with heap:=h',toks:=tk}):wpAny (model prog w) A (Builtin.Frozenset.updateFrom id S (.ref l)) Q E s:=by
 have Xa:S≠l:=λe=>by obtain ⟨o,es,ep,t,ho,hex,_⟩:=hS;obtain ⟨o',m_,hc,_⟩:=hl;rw [e,m_] at ho;cases ho;rw [hex.1] at hc;exact aaH hc (by decide)
 have Kz:S < s.heap.objs.size:=by obtain ⟨o,es,ep,t,ho,_⟩:=hS;exact aap ho
 have PR:l < s.heap.objs.size:=by obtain ⟨o',m_,_⟩:=hl;exact aap m_
 unfold Builtin.Frozenset.updateFrom Builtin.Frozenset.isAnySet;refine aab ?_;refine aab (wpAny_isInstance hl.typeIs F.qg ?_);show wpAny _ _ (isInstance (.ref l) (.type "frozenset")) _ _ _;refine wpAny_isInstance hl.typeIs F.iU ?_;dsimp only [Bool.false_eq_true,if_false];refine aab (wpAny_typeOf hl.typeIs ?_);rw [aaF (show¬(Value.type "list"==Value.type "dict")=true by decide)];refine aab (wpAny_pyIter_list hl ?_);have W:=(Walks.list (prog:=prog) (w:=w) (A:=A.in1) hh s.heap.objs.size l (aaG PR) items).toS;have SY:(s.heap.push {cls:= .type "list_iterator",data:= .fields #[.ref l, .int 0 0]}).b4 S led (dd (ns.take 0)):=hS.keep λo e=>aaf _ e;have Lv:S∉[s.heap.objs.size,l]:=λq=>by
  rcases aaz.mp q with q | q
  ·exact aaH q (aaG Kz)
  ·exact Xa (abd.mp q)
 refine aab (wpAny_runValue (k7 W (by omega) S Lv led ns hsz.symm hb (λi v h=>hit i v h) _ 0 _ rfl (abD _) ⟨⟨_,aau _ rfl,rfl,rfl⟩,hl.at λo e=>aaf _ e⟩ SY λs' hm is=> ?_));rw [Moved.eq_with hm];refine aae (hQ s'.heap s'.toks (λb o hb e=>hm.heap b o (λq=> ?_) (aaf _ e)) is hm.toks);rcases aaz.mp q with q | q
 ·exact hb q
 ·exact aaH (aap e) (by rw [abd.mp q];exact abl _)
end
namespace F
end F
section
abbrev aM(w:World):Bool:=w.params.followText "set-order"
theorem pW{Q₁:Value->Shared->Prop}(a:Value)
  (h:Q₁ (.ref s.heap.objs.size) {s with heap:=s.heap.push {cls:= .type "set",dict:=none,data:= .set #[] 0 (.fresh 0 0 (!aM w))}}):
  codeAny (model prog w) A (.call (.builtin "set.__new__") ⟨[.type "set",a],[]⟩) (wants Q₁ E) s:=by
 refine codeAny_of_tree ?_;show wpAny _ A.in1 (do checkBuiltinCall "set.__new__" ⟨[.type "set",a],[]⟩;again (.builtin "set.__new__" ⟨[.type "set",a],[]⟩)) _ _ s;refine aab (wpAny_of_eq (F.newCall_set_1 a) (aae ⟨plainId_quiet F.plain_set_new _,codeAny_builtin F.entry_set_new ?_⟩));rw [Around.under_plainId F.plain_set_new _];unfold Builtin.«set.__new__» Builtin.Frozenset.newClass;have Fp:=sub_set_self;obtain ⟨hp,g,d,tk,os⟩:=s;dsimp only
 wp_walk
 refine wpAny_askSetting (aae ?_);dsimp only;simp only [newObj];refine aab (wpAny_alloc (aae ?_));exact aae h
theorem mT{M:Model}{self a:Value}{Q:Unit->Shared->Prop}(hT:s.TypeIs self "set")(hQ:Q () s):
  wpAny M A (checkBuiltinCall "set.__init__" ⟨[self,a],[]⟩) Q E s:=by
 simp only [checkBuiltinCall,kind_set_init,split_set_init,sig_set_init];refine aab (wpAny_isInstance hT sub_set_self ?_);simp only [Bool.not_true,Bool.false_eq_true,if_false];unfold Bind.checkArgs;dsimp only;refine aab (m:=Bind.printed "set" true _ _) (PyProof.Rows.printed_name (by decide) ?_);refine aab (m:=Bind.printed "*" false _ _) (PyProof.Rows.printed_star (self:=self) rfl hT λshort=> ?_);have Vj:(Manifest.Receiver.self==Manifest.Receiver.none)=false:=by decide
 have hn:(if (Manifest.Receiver.self==Manifest.Receiver.none)=true then [self,a].length else [self,a].length - 1)=1:=by simp [Vj]
 rw [hn];simp only [List.map_nil];have hc:Bind.check ⟨.positional,"set","*", .self,[⟨"iterable", .posOnly,false⟩]⟩ "set" short 1 []=pure ():=by simp [Bind.check,Bind.checkCount,Bind.isPositional];exact λh=>aaH h (by decide)
 rw [hc];exact aae hQ
set_option maxHeartbeats 1000000 in
set_option maxRecDepth 100000 in
theorem pA{l:Addr}{ns:List Int}(hh:A.handled=none)(hl:s.heap.IsList l items)(hsz:items.size=ns.length)(hit:∀(i:Nat) (v:Value),items[i]? =some v->∃k tk,ns[i]? =some k/\v=Value.int k tk)(hb:∀k∈ns,0<=k/\k < 4096)(hn:ns.length < 900)
  (hQ:∀h' tk,(∀b o,s.heap.get? b=some o->h'.get? b=some o)->h'.b4 s.heap.objs.size (!aM w) (dd ns)->s.toks<=tk->Q (.ref s.heap.objs.size) {s with heap:=h',toks:=tk}):
  wpAny (model prog w) A (call (.type "set") [.ref l]) Q E s:=by
 obtain ⟨c,tl,Xb⟩:=F.called_set.mro;have TM:=F.called_set.made;have Fp:=F.called_set.sub;refine wpAny_call (codeAny_of_tree ?_);show wpAny _ _ (callAny (.type "set") _) _ _ _;refine aae ⟨Code.quiet_builtin _ (by decide+kernel),codeAny_builtin F.entry_type_call ?_⟩;rw [Around.under_plain (weight_type_call_type "set" [.ref l] []) rfl];have h1:=F.called_set.notType;have h2:=F.called_set.canCreate;have Yh:=F.typeCall_set_1 (.ref l)
 repeat (any_goals (first | assumption | wp_step))
 refine codeAny_mono (pW (E:=E) (Q₁:=λobj s₁=>obj= .ref s.heap.objs.size/\s₁={s with heap:=s.heap.push {cls:= .type "set",dict:=none,data:= .set #[] 0 (.fresh 0 0 (!aM w))}}) (.ref l) ⟨rfl,rfl⟩) λr s₁ hr=> ?_;cases r with
 | error e=>exact hr
 | ok fl=>
  cases fl with
  | ret obj=>
   obtain ⟨rfl,rfl⟩:=hr;have hS:(s.heap.push {cls:= .type "set",dict:=none,data:= .set #[] 0 (.fresh 0 0 (!aM w))}).get? s.heap.objs.size=some {cls:= .type "set",dict:=none,data:= .set #[] 0 (.fresh 0 0 (!aM w))}:=aau _ rfl;have hT:Shared.TypeIs {s with heap:=s.heap.push {cls:= .type "set",dict:=none,data:= .set #[] 0 (.fresh 0 0 (!aM w))}} (.ref s.heap.objs.size) "set":=⟨_,hS,rfl⟩;have TK:=F.called_set.init.lookup;have X7:=F.called_set.init.bind (.ref s.heap.objs.size)
   repeat (any_goals (first | assumption | wp_step))
   refine codeAny_mono (codeAny_call_builtin (R:=wants (λr s₂=>r= .none/\Q (.ref s.heap.objs.size) s₂) E) F.called_set.init.plain F.entry_set_init (mT hT ?_)) λr₂ s₂ BD=> ?_
   ·unfold Builtin.«set.__init__» noKeywords;have KP:(s.heap.push {cls:= .type "set",dict:=none,data:= .set #[] 0 (.fresh 0 0 (!aM w))}).IsList l items:=hl.at λo e=>aaf _ e;have YA:Shared.TypeIs {s with heap:=s.heap.push {cls:= .type "set",dict:=none,data:= .set #[] 0 (.fresh 0 0 (!aM w))}} (.ref l) "list":=KP.typeIs;generalize hu:Builtin.Frozenset.updateFrom=uf
    wp_walk
    subst hu;refine vt (led:= !aM w) hh KP hsz hit hb hn ⟨_, #[],0,_,hS,⟨rfl,rfl,rfl⟩,rfl,λe he=>by simp at he,by simp,rfl,rfl,by decide⟩ λh' tk kp is ht=> ?_;exact aae ⟨rfl,hQ h' tk (λb o e=>kp b o (aaG (aap e)) (aaf _ e)) is ht⟩
   ·cases r₂ with
    | error e=>exact BD
    | ok LP=>
     cases LP with
     | ret r=>
      obtain ⟨rfl,hq⟩:=BD
      repeat (any_goals (first | assumption | wp_step))
     | _=>exact BD.elim
  | _=>exact hr.elim
end
namespace F
theorem ef:Manifest.owners.lookup (String.ofList ['r', 'o', 't', 'a', 'r', 'e', 't', 'i', '_', 't', 'e', 's'].reverse)=some Manifest.sig_set_iterator:=by kernel_rfl
theorem af:Slot "set_iterator" "__next__" "set_iterator.__next__":=
 .of (owner:="set_iterator") (n:="__next__") (by rw [typeLookup_type,builtinLookup_eq_fast];kernel_rfl) (by decide+kernel) (by decide+kernel) (by decide+kernel)
  (by first | exact .inl (by decide+kernel) | exact .inr (by decide+kernel)) (by rw [isSubtype_type];kernel_rfl)
theorem cz:entryFor table "set_iterator.__next__"=some Builtin.«set_iterator.__next__»:=entryFor_of_tree (by kernel_rfl)
theorem b6(a:Value):argsOk "set_iterator.__next__" ⟨[a],[]⟩:=by unfold argsOk;rw [signature?_of (id:="set_iterator.__next__") (n:=['_', '_', 't', 'x', 'e', 'n', '_', '_']) (o:=['r', 'o', 't', 'a', 'r', 'e', 't', 'i', '_', 't', 'e', 's']) (by kernel_rfl) ef];kernel_rfl
theorem oP:entryFor table "set.__iter__"=some Builtin.«frozenset.__iter__»:=entryFor_alias (id':="frozenset.__iter__") (by kernel_rfl) rfl (by decide+kernel) (by kernel_rfl)
end F
theorem zv(h:i8 (bY es,t)=true):t.fits es.size=true/\t.plain=true/\SetTable.below t.place 0=0/\∀i,i < es.size->SetTable.below t.place (t.place.getD i 0+1)=i+1:=by unfold i8 at h;rw [aan,aan,aan,aaX,bC] at h;obtain ⟨⟨⟨a,b⟩,c⟩,d⟩:=h;exact ⟨a,(Bool.and_eq_true_iff.mp b).1,by simpa using c,λi hi=>by simpa using d i (List.mem_range.mpr hi)⟩
structure de(w:World)(h:Heap)(a:Addr)(es:Array (Int×Value))(ep:Nat)(t:SetTable):Prop where
 at':∃o,h.get? a=some o/\o.ExactSet/\o.data= .set es ep t
 fits:t.fits es.size=true
 led:aM w=false->t.led=true
 good:aM w=false->i8 (bY es,t)=true
theorem de.keep{h h':Heap}(x:de w h a es ep t)(k:∀o,h.get? a=some o->h'.get? a=some o):de w h' a es ep t:=by obtain ⟨⟨o,ho,r⟩,f,l,g⟩:=x;exact ⟨⟨o,k o ho,r⟩,f,l,g⟩
def gy(w:World)(a:Addr)(es:Array (Int×Value))(ep:Nat):Array (Int×Value):=if aM w then pickOrder (w.params.setOrder a ep) es else es
def i4(w:World)(t:SetTable):Nat->Nat
 | 0=>0
 | i+1=>if aM w then 0 else t.place.getD i 0+1
def a_(w:World)(h:Heap)(it a:Addr)(t:SetTable)(i n ep:Nat):Prop:=∃o,h.get? it=some o/\o.cls= .type "set_iterator"/\o.data= .fields #[.int (i4 w t i:Nat) 0, .int (i:Nat) 0, .ref a, .int (n:Nat) 0, .int (ep:Nat) 0]
section
theorem gc{Q:Bool->Shared->Prop}(h:Q (aM w) s):wpAny (model prog w) A setsByText Q E s:=by unfold setsByText;exact aab (wpAny_askSetting (aae h))
theorem de.typeIs(x:de w s.heap a es ep t):s.TypeIs (.ref a) "set":=by obtain ⟨⟨o,ho,hex,_⟩,_⟩:=x;exact ⟨o,ho,hex.1⟩
theorem lx(x:de w s.heap a es ep t)
  (hQ:Q (.ref s.heap.objs.size) {s with heap:=s.heap.push {cls:= .type "set_iterator",data:= .fields #[.int 0 0, .int 0 0, .ref a, .int es.size 0, .int ep 0]}}):
  wpAny (model prog w) A (pyIter (.ref a)) Q E s:=by
 obtain ⟨⟨o,ho,hex,hd⟩,hf,hl,hg⟩:=id x;refine wpAny_pyIter_slot x.typeIs F.slot_set_iter (wpAny_call_entry F.slot_set_iter x.typeIs F.oP ?_ (F.args_set_iter_1 _));unfold Builtin.«frozenset.__iter__»;refine aab (aae ?_);unfold Builtin.Frozenset.sizeOf;refine aab (aab (wpAny_setEntries_of ho hd hf (aae ?_)));unfold setDrawn;refine aab (aab (wpAny_setState_of ho hd hf ?_));refine aab (gc (aae ?_));dsimp only
 rw [aaF (by
  cases hb:aM w with
  | true=>simp
  | false=>
   have hp:=(zv (hg hb)).2.1;show¬((!false)&&(!t.plain&&decide (es.size > 1)))=true;rw [hp]
   simp)]
 refine aab (aae ?_);refine aab (wpAny_setEpoch_of ho hd hf ?_);refine aab (wpAny_newObj_type (aae ⟨_,rfl,"set_iterator",_,⟨_,aau _ rfl,rfl⟩,F.af.lookup, ?_⟩));simpa [rawInt] using hQ
theorem qe{Q:Array (Int×Value)->Shared->Prop}(x:de w s.heap a es ep t)(hb:aM w=true)(hQ:Q (gy w a es ep) s):wpAny (model prog w) A (setWalk a) Q E s:=by obtain ⟨⟨o,ho,hex,hd⟩,hf,hl,hg⟩:=id x;unfold setWalk;refine aab (wpAny_setState_of ho hd hf ?_);refine aab (gc ?_);rw [aaI hb];refine aab (wpAny_askSetting (aae ?_));unfold gy at hQ;rw [aaI hb] at hQ;exact hQ
theorem i7{i:Nat}{Q:Option (Value×Nat)->Shared->Prop}(x:de w s.heap a es ep t)(hi:i<=es.size)(hQ:Q (((gy w a es ep)[i]?).map λe=>(e.2,i4 w t (i+1))) s):
  wpAny (model prog w) A (setNext a (i4 w t i) i ep) Q E s:=by
 obtain ⟨⟨o,ho,hex,hd⟩,hf,hl,hg⟩:=id x;unfold setNext;refine aab (wpAny_setState_of ho hd hf ?_);refine aab (gc ?_);dsimp only;cases hb:aM w with
 | true=>
  simp only [if_true];rw [if_neg (by simp)];refine aab (qe x hb (aae ?_));have e:i4 w t i=i4 w t (i+1):=by
   cases i with
   | zero=>show 0=if aM w=true then 0 else _;rw [aaI hb]
   | succ i=>show (if aM w=true then 0 else _)=if aM w=true then 0 else _;rw [aaI hb,aaI hb]
  rw [e];exact hQ
 | false=>
  obtain ⟨g1,g2,g3,g4⟩:=zv (hg hb);simp only [Bool.false_eq_true,if_false]
  rw [aaF (by
   show¬(!t.plain&&decide (es.size > 1))=true
   rw [g2];simp)]
  refine aab ?_;show wpAny _ _ (if (!t.led&& !es.isEmpty)=true then unsupported "set:maker-not-led" else pure PUnit.unit) _ _ _;rw [if_neg (by rw [hl hb];simp)];refine aae ?_;have Fu:SetTable.below t.place (i4 w t i)=i:=by
   cases i with
   | zero=>exact g3
   | succ i=>
    show SetTable.below t.place (if aM w=true then 0 else t.place.getD i 0+1)=_;rw [if_neg (by rw [hb];simp)];exact g4 i (by omega)
  have X_:t.place.size=es.size:=by unfold SetTable.fits at g1;simp at g1;exact g1.1
  have m_:gy w a es ep=es:=by unfold gy;rw [if_neg (by rw [hb];simp)]
  have OQ:i4 w t (i+1)=t.place.getD i 0+1:=by show (if aM w=true then 0 else _)=_;rw [if_neg (by rw [hb];simp)]
  rw [Fu];rw [m_,OQ] at hQ;refine aae ?_;rcases abe i es.size with q | q
  ·have q2:i < t.place.size:=by omega
   rw [abh q] at hQ⊢;rw [abh q2];have e:t.place.getD i 0=t.place[i]:=by simp [q2]
   rw [e] at hQ;exact hQ
  ·rw [abH q] at hQ⊢;exact hQ
theorem a_.typeIs{it:Addr}{i n:Nat}(x:a_ w s.heap it a t i n ep):s.TypeIs (.ref it) "set_iterator":=by obtain ⟨o,ho,hc,_⟩:=x;exact ⟨o,ho,hc⟩
theorem lG{it:Addr}{i:Nat}{Q:Option Value->Shared->Prop}(x:de w s.heap a es ep t)(hit:a_ w s.heap it a t i es.size ep)(hi:i < es.size){e:Int×Value}(he:(gy w a es ep)[i]? =some e)
  (hQ:∀h',a_ w h' it a t (i+1) es.size ep->Heap.SameBut it s.heap h'->Q (some e.2) {s with heap:=h'}):wpAny (model prog w) A (pyNext (.ref it)) Q E s:=by
 obtain ⟨⟨o,ho,hex,hd⟩,hf,hl,hg⟩:=id x;obtain ⟨oi,Lb,S3,FK⟩:=id hit;unfold pyNext
 refine aab (wpAny_attempt (wpAny_callSpecial?_slot (name:=Str.ofString "__next__") hit.typeIs F.af
  (wpAny_call_entry F.af hit.typeIs F.cz ?_ (F.b6 _))))
 unfold Builtin.«set_iterator.__next__»;refine aab (aae ?_);refine aab (wpAny_fieldsOf Lb FK ?_);dsimp only;refine aab (wpAny_setEntries_of ho hd hf ?_);rw [if_neg (by simp)];simp only [Int.toNat_natCast];refine aab (i7 x (abR hi) ?_);rw [he];dsimp only [Option.map];refine wpAny_bind (wpAny_setField Lb FK (by simp) ?_);have Lm:=Heap.get?_update_self (Obj.mapFields (·.setIfInBounds 0 (rawInt ((i4 w t (i+1):Nat):Int)))) Lb (Obj.isFreed_of_fields (Obj.data_mapFields FK _));have Qq:(Obj.mapFields (·.setIfInBounds 0 (rawInt ((i4 w t (i+1):Nat):Int))) oi).data=_:=Obj.data_mapFields FK _;refine wpAny_bind (wpAny_setField Lm Qq (by simp) ?_)
 have AZ:a_ w ((s.heap.update it (Obj.mapFields (·.setIfInBounds 0 (rawInt ((i4 w t (i+1):Nat):Int))))).update it (Obj.mapFields (·.setIfInBounds 1 (rawInt ((i:Int)+1))))) it a t (i+1) es.size ep:=
  ⟨_,Heap.get?_update_self _ Lm (Obj.isFreed_of_fields (Obj.data_mapFields Qq _)),(Obj.cls_mapFields ..).trans ((Obj.cls_mapFields ..).trans S3),by rw [Obj.data_mapFields Qq];simp [rawInt]⟩
 exact aae ⟨_,rfl,aae (hQ _ AZ ((Heap.SameBut.update ..).trans (Heap.SameBut.update ..)))⟩
theorem g6{it:Addr}{Q:Option Value->Shared->Prop}(hh:A.handled=none)(x:de w s.heap a es ep t)(hit:a_ w s.heap it a t es.size es.size ep)(hz:(gy w a es ep).size=es.size)
  (hQ:∀h',Heap.ExtBut it s.heap h'->Q none {s with heap:=h'}):wpAny (model prog w) A (pyNext (.ref it)) Q E s:=by
 obtain ⟨⟨o,ho,hex,hd⟩,hf,hl,hg⟩:=id x;obtain ⟨oi,Lb,S3,FK⟩:=id hit;unfold pyNext
 refine aab (wpAny_attempt (wpAny_callSpecial?_slot (name:=Str.ofString "__next__") hit.typeIs F.af
  (wpAny_call_entry F.af hit.typeIs F.cz ?_ (F.b6 _))))
 unfold Builtin.«set_iterator.__next__»;refine aab (aae ?_);refine aab (wpAny_fieldsOf Lb FK ?_);dsimp only;refine aab (wpAny_setEntries_of ho hd hf ?_);rw [if_neg (by simp)];simp only [Int.toNat_natCast];refine aab (i7 x (aal _) ?_);rw [abH (by omega)];dsimp only [Option.map];refine wpAny_bind (wpAny_setField Lb FK (by simp) ?_);refine aab ?_;simp only [newExc,newTuple];refine aab (wpAny_newObj_type ?_ (by size_fits));refine wpAny_bind (m:=firstArgMember _ _) (wpAny_of_eq (a:=Value.none) (by first | rfl | (simp only [firstArgMember];rfl)) ?_);refine wpAny_newObj_type ?_ (by size_fits);simp only [raiseNew];refine aab (wpAny_handled ?_);rw [show A.in1.handled=none from hh];refine aab (aae (wpAny_throw ?_));refine aab (wpAny_isInstance (T:="StopIteration") (b:=true) ⟨_,aau _ rfl,rfl⟩ isSubtype_stop ?_);exact aae (hQ _ (((Heap.SameBut.update ..).extBut.push _).push _))
end
namespace F
theorem cJ:Slot "set_iterator" "__iter__" "set_iterator.__iter__":=
 .of (owner:="set_iterator") (n:="__iter__") (by rw [typeLookup_type,builtinLookup_eq_fast];kernel_rfl) (by decide+kernel) (by decide+kernel) (by decide+kernel)
  (by first | exact .inl (by decide+kernel) | exact .inr (by decide+kernel)) (by rw [isSubtype_type];kernel_rfl)
theorem fR:entryFor table "set_iterator.__iter__"=some Builtin.«dict_keyiterator.__iter__»:=entryFor_alias (id':="dict_keyiterator.__iter__") (by kernel_rfl) rfl (by decide+kernel) (by kernel_rfl)
theorem fA(a:Value):argsOk "set_iterator.__iter__" ⟨[a],[]⟩:=by unfold argsOk;rw [signature?_of (id:="set_iterator.__iter__") (n:=['_', '_', 'r', 'e', 't', 'i', '_', '_']) (o:=['r', 'o', 't', 'a', 'r', 'e', 't', 'i', '_', 't', 'e', 's']) (by kernel_rfl) ef];kernel_rfl
end F
theorem yp{α:Type}(next:Nat->Nat):∀(n k:Nat) (left:List α) (out:Array α),left.length=n->(pickOrder.go next n k left out).toList.Perm (out.toList++left)
 | 0,k,left,out,h=>by have:left=[]:=abm.mp h;subst this;show out.toList.Perm _;rw [aaU]
 | n+1,k,left,out,h=>by
  have hi:next k % left.length < left.length:=Nat.mod_lt _ (by omega)
  unfold pickOrder.go;rw [aaa hi];have ih:=yp next n (k+1) (left.eraseIdx (next k % left.length)) (out.push left[next k % left.length]) (by rw [List.length_eraseIdx_of_lt hi];omega)
  refine ih.trans ?_;rw [Array.toList_push,aa8];refine List.Perm.append_left _ ?_;show (left[next k % left.length]::left.eraseIdx (next k % left.length)).Perm left;generalize next k % left.length=j at *
  have e:left=left.take j++left[j]::left.drop (j+1):=by rw [<-abg hi,List.take_append_drop]
  rw [List.eraseIdx_eq_take_drop_succ]
  conv=>rhs;rw [e]
  exact List.perm_middle.symm
theorem AB{α:Type}(next:Nat->Nat)(xs:Array α):(pickOrder next xs).toList.Perm xs.toList:=by
 have:=yp next xs.size 0 xs.toList #[] (by simp)
 exact this
theorem qN(w:World)(a:Addr)(es:Array (Int×Value))(ep:Nat):(gy w a es ep).toList.Perm es.toList:=by
 unfold gy;split
 ·exact AB _ _
 ·exact List.Perm.refl _
theorem lY(w:World)(a:Addr)(es:Array (Int×Value))(ep:Nat):(gy w a es ep).size=es.size:=by have:=(qN w a es ep).length_eq;simpa using this
section
theorem a_.at{h h':Heap}{it:Addr}{i n:Nat}(x:a_ w h it a t i n ep)(e:∀o,h.get? it=some o->h'.get? it=some o):a_ w h' it a t i n ep:=by obtain ⟨o,ho,r⟩:=x;exact ⟨o,e o ho,r⟩
theorem Walks.Je(hh:A.handled=none)(I a:Addr)(fP:a≠I)(es:Array (Int×Value))(ep:Nat)(t:SetTable):
  Walks prog w A I [I,a] [I] es.size (λi v=>∃e,(gy w a es ep)[i]? =some e/\v=e.2) (λi h=>a_ w h I a t i es.size ep/\de w h a es ep t) where
 sub:=λb hb=>by simp at hb;simp [hb]
 frame:=λ_ _ _ st hk=>⟨st.1.at λo e=>hk I (by simp) o e,st.2.keep λo e=>hk a (by simp) o e⟩
 item:=λi s Q E hi st hQ=>by obtain ⟨e,he⟩:∃e,(gy w a es ep)[i]? =some e:=⟨_,abh (by rw [lY];exact hi)⟩;refine lG st.2 st.1 hi he λh' AZ OQ=> ?_;exact hQ _ h' s.toks ⟨e,he,rfl⟩ ⟨AZ,st.2.keep λo e=>OQ.extBut a o fP e⟩ λb o hb e=>OQ.extBut b o (λh=>hb (by simp [h])) e
 done:=λs Q E st hQ=>g6 hh st.2 st.1 (lY ..) λh' Lp=>hQ h' s.toks λb o hb e=>Lp b o (λh=>hb (by simp [h])) e
 self:=λi s Q E st hQ=>by refine wpAny_pyIter_slot st.1.typeIs F.cJ (wpAny_call_entry F.cJ st.1.typeIs F.fR ?_ (F.fA _));show wpAny _ _ (ret (.ref I)) _ _ s;exact aae ⟨_,rfl,"set_iterator",_,st.1.typeIs,F.af.lookup,hQ⟩
theorem CA{Q:Bool->Shared->Prop}(x:de w s.heap a es ep t)(h:Q false s):wpAny (model prog w) A (Builtin.List.listLengthHint (.ref a)) Q E s:=by
 unfold Builtin.List.listLengthHint;refine aab (wpAny_specialOf x.typeIs F.slot_set_len.lookup ?_);generalize Tp:("set.__len__":String)=Vl
 wp_delta
 rw [show splitId Vl=some ("set","__len__") from by subst Tp;decide+kernel];subst Tp;refine aab (wpAny_isInstance x.typeIs sub_set_self ?_);refine wpAny_ite_split (λFE=>aaH FE (by decide)) (λ_=> ?_);refine wpAny_ite_split (λ_=> ?_) (λFE=>aaH (by decide+kernel) FE);refine aab (wpAny_typeOf x.typeIs ?_);exact aae h
theorem wY(hh:A.handled=none)(x:de w s.heap a es ep t)(hlen:es.size<=sizeLine)(S:Addr)(res:Value)(c₀:Nat)(hS:s.heap.get? S=some {cls:= .type "list",data:= .seq #[] c₀})
  (hR:∀h' tk se c',(∀b o,b≠S->s.heap.get? b=some o->h'.get? b=some o)->h'.get? S=some {cls:= .type "list",dict:=none,data:= .seq se c',slots:= #[]}->s.toks<=tk->
   ItemsOf (λi v=>∃e,(gy w a es ep)[i]? =some e/\v=e.2) se es.size->R (.ok (.ret res)) {s with heap:=h',toks:=tk}):
  wpAny (model prog w) A.in1 (Builtin.List.listExtendWith (.ref S) (.ref a) res)
   (λfin s'=>match fin with | .done f=>R (.ok f) s' | .again c'=>c'.quiet=true/\codeAny (model prog w) A c' R s') (λe s'=>R (.error e) s') s:=by
 have QS:S≠a:=λe=>by obtain ⟨⟨o,ho,hex,_⟩,_⟩:=x;rw [<-e,hS] at ho;cases ho;exact absurd hex.1 (by simp)
 have Kz:S < s.heap.objs.size:=aap hS;have WY:a≠s.heap.objs.size:=by obtain ⟨⟨o,ho,_⟩,_⟩:=x;exact aaG (aap ho)
 have SI:S≠s.heap.objs.size:=aaG Kz;have Lv:S∉[s.heap.objs.size,a]:=λq=>by
  rcases aaz.mp q with q | q
  ·exact SI q
  ·exact QS (abd.mp q)
 have W:=(Walks.Je (prog:=prog) (w:=w) (A:=A.in1) hh s.heap.objs.size a WY es ep t).toS
 have key:∀(h:Heap) (c₁ tk:Nat),s.toks<=tk->a_ w h s.heap.objs.size a t 0 es.size ep->de w h a es ep t->(∀b o,b≠S->s.heap.get? b=some o->h.get? b=some o)->
   h.get? S=some {cls:= .type "list",data:= .seq #[] c₁}->codeAny (model prog w) A (.builtin "list.extend.loop" ⟨[.ref S, .ref s.heap.objs.size,res],[]⟩) R {s with heap:=h,toks:=tk}:=by
  intro h c₁ tk Gr hit HZ hk pq;refine codeAny_extend_loopS W hlen S Lv res es.size 0 _ #[] c₁ rfl (abD _) ⟨hit,HZ⟩ pq (ItemsOf.nil _) λs' se c' hm Hr oK=> ?_;rw [Moved.eq_with hm];refine hR s'.heap s'.toks se c' (λb o hb e=>hm.heap b o (λJ'=> ?_) (hk b o hb e)) Hr (aam Gr hm.toks) oK;rcases aaz.mp J' with e' | J'
  ·exact hb e'
  ·exact aaH (aap e) (by rw [abd.mp J'];exact abl _)
 have hT:=x.typeIs;unfold Builtin.List.listExtendWith;refine aab (wpAny_typeOf hT ?_);have h1:Builtin.List.listSameRef (.ref S) (.ref a)=false:=by simp [Builtin.List.listSameRef,QS]
 have h2:(Value.type "set"==Value.type "list")=false:=by decide
 have h3:(Value.type "set"==Value.type "tuple")=false:=by decide
 simp only [h1,h2,h3,Bool.or_false,Bool.false_eq_true,if_false];refine aab (lx x ?_);have x1:=x.keep (h':=s.heap.push {cls:= .type "set_iterator",data:= .fields #[.int 0 0, .int 0 0, .ref a, .int es.size 0, .int ep 0]}) λo e=>aaf _ e;refine aab (wpAny_holding (CA x1 ?_));have DM:a_ w (s.heap.push {cls:= .type "set_iterator",data:= .fields #[.int 0 0, .int 0 0, .ref a, .int es.size 0, .int ep 0]}) s.heap.objs.size a t 0 es.size ep:=⟨_,aau _ rfl,rfl,rfl⟩;have pq:=aaf {cls:= .type "set_iterator",data:= .fields #[.int 0 0, .int 0 0, .ref a, .int es.size 0, .int ep 0]} hS;refine wpAny_ite_split (λ_=> ?_) (λ_=>aae ⟨plainId_quiet F.plain_extend_loop _,key _ c₀ _ (aal _) DM x1 (λb o _ e=>aaf _ e) pq⟩);refine aab (wpAny_rule ?_);refine aab ?_;show wpAny _ _ (updateSeq S (·.push .none) >>= λ_=>updateSeq S (·.pop)) _ _ _;refine aab (wpAny_updateSeq pq rfl ?_);have GZ:=Heap.get?_update_self (Obj.mapSeq (·.push Value.none)) pq rfl;refine wpAny_updateSeq (hz:=by seq_fits) GZ rfl ?_;have OH:=Heap.get?_update_self (Obj.mapSeq (·.pop)) GZ rfl;have Cw:∀b o,b≠S->(s.heap.push {cls:= .type "set_iterator",data:= .fields #[.int 0 0, .int 0 0, .ref a, .int es.size 0, .int ep 0]}).get? b=some o->(((s.heap.push {cls:= .type "set_iterator",data:= .fields #[.int 0 0, .int 0 0, .ref a, .int es.size 0, .int ep 0]}).update S (Obj.mapSeq (·.push Value.none))).update S (Obj.mapSeq (·.pop))).get? b=some o:=λb o hb e=>(Heap.get?_update_other _ _ (Ne.symm hb)).trans ((Heap.get?_update_other _ _ (Ne.symm hb)).trans e);exact aae ⟨plainId_quiet F.plain_extend_loop _,key _ _ _ (aal _) (DM.at λo e=>Cw _ o (Ne.symm SI) e) (x1.keep λo e=>Cw _ o (Ne.symm QS) e) (λb o hb e=>Cw b o hb (aaf _ e)) OH⟩
theorem uT{Q:List Value->Shared->Prop}(hh:A.handled=none)(x:de w s.heap a es ep t)(hlen:es.size<=sizeLine)
  (hQ:∀h' tk ae,(∀b o,s.heap.get? b=some o->h'.get? b=some o)->s.heap.objs.size < h'.objs.size->s.toks<=tk->ItemsOf (λi v=>∃e,(gy w a es ep)[i]? =some e/\v=e.2) ae es.size->Q ae.toList {s with heap:=h',toks:=tk}):wpAny (model prog w) A (collect (.ref a)) Q E s:=by
 unfold collect;refine aab (wpAny_runValue (codeAny_builtin F.entry_proto_collect ?_));rw [Around.under_plainId F.plain_proto_collect _];show wpAny _ A.in1 (newList [] >>= λl=>again (.builtin "list.__iadd__" ⟨[l, .ref a],[]⟩)) _ _ s;refine aab (wpAny_newObj_type ?_);refine aae ⟨plainId_quiet F.plain_list_iadd _,codeAny_builtin F.entry_list_iadd ?_⟩;rw [Around.under_plainId F.plain_list_iadd _];have pq:(s.heap.push {cls:= .type "list",data:= .seq ([]:List Value).toArray}).get? s.heap.objs.size=some {cls:= .type "list",data:= .seq ([]:List Value).toArray}:=aau _ rfl;show wpAny _ A.in1 (Builtin.List.listExtendWith (.ref s.heap.objs.size) (.ref a) (.ref s.heap.objs.size)) _ _ _;refine wY (R:=λr s'=>match r with | .ok (.ret v)=>wpAny (model prog w) A (match v with | .ref a=>(do match (<-load a).data with | .seq xs _=>pure xs.toList | _=>unsupported "internal:collect") | _=>unsupported "internal:collect") Q E s' | .ok _=>False | .error e=>E e s') (s:={s with heap:=s.heap.push {cls:= .type "list",data:= .seq ([]:List Value).toArray}}) hh (x.keep λo e=>aaf _ e) hlen s.heap.objs.size (.ref s.heap.objs.size) 0 pq λh' tk se c' kp Hr Gr oK=> ?_;dsimp only;refine aab (wpAny_load Hr ?_);exact aae (hQ h' tk se (λb o e=>kp b o (aaG (aap e)) (aaf _ e)) (aap Hr) Gr oK)
end
open PyProof.Rows
section
theorem xg(hh:A.handled=none)(x:de w s.heap a es ep t)(hv:∀e∈es.toList,∃tk,e.2= .int e.1 tk)(hp:List.Perm (es.toList.map (·.1)) l)(Ik:l.length < 64)
  (hQ:∀h' tk p vs ns' c,(∀b o,s.heap.get? b=some o->h'.get? b=some o)->s.heap.objs.size<=p->h'.get? p=some {cls:= .type "list",dict:=none,data:= .seq vs c,slots:= #[]}->IntsAre vs.toList ns'->ns'.Perm l->ns'.Pairwise (· <= ·)->Q (.ref p) {s with heap:=h',toks:=tk}):
  wpAny (model prog w) A (call (.builtin "sorted") [.ref a]) Q E s:=by
 have hz:es.size=l.length:=by rw [<-hp.length_eq];simp
 refine Calls.call_function_entry kind_sorted plain_sorted entry_sorted (args_sorted1 _) ?_;unfold Builtin.«sorted»;refine aab (m:=checkCount "sorted" 1 1 _) (aae ?_);refine aab (uT hh x (by rw [hz];exact aam (abR Ik) (by decide)) λh1 W0 ae Ve Vk Gr oK=> ?_);obtain ⟨as,ai⟩:=oK;have av:ae.toList=(gy w a es ep).toList.map (·.2):=by
  apply abB;intro i;rw [aah];rcases abe i es.size with q | q
  ·have q1:i < ae.size:=by omega
   obtain ⟨e,h1,h2⟩:=ai i ae[i] (abh q1);rw [aa9,abh q1,aa9,h1,h2];rfl
  ·rw [aa9,abH (by omega),aa9,abH (by rw [lY];exact q)];rfl
 have pm:=qN w a es ep;have hI:IntsAre ae.toList ((gy w a es ep).toList.map (·.1)):=by
  rw [av];have yn:∀e∈(gy w a es ep).toList,∃tk,e.2= .int e.1 tk:=λe he=>hv e (pm.mem_iff.mp he);generalize (gy w a es ep).toList=ls at yn
  induction ls with
  | nil=>exact .nil
  | cons e ls ih=>
   obtain ⟨tk,h⟩:=yn e aak;rw [aaD,aaD,h];exact .cons _ _ (ih λe he=>yn e (aai _ he))
 have Nn:List.Perm ((gy w a es ep).toList.map (·.1)) l:=(pm.map _).trans hp;have QU:ae.toList.length < 64:=by rw [aa5,as,hz];exact Ik
 refine aab (wpAny_newList ?_);have Nz:(h1.push (seqObj "list" ae.toList.toArray 0)).get? h1.objs.size=some (seqObj "list" ae.toList.toArray 0):=aau _ rfl;refine aab (wpAny_holding (wpAny_call_entry slot_list_sort ⟨_,Nz,rfl⟩ entry_list_sort (list_sort_tree Nz hI QU λout ns' a1 a2 a3=>⟨_,rfl, ?_⟩) (args_list_sort _)));obtain ⟨c,hc⟩:=sortedHeap_at (h:=h1.push (seqObj "list" ae.toList.toArray 0)) (out:=out) Nz;refine aae ⟨_,rfl,hQ _ W0 h1.objs.size out ns' c (λb o e=> ?_) ?_ hc a1 (a2.trans Nn) a3⟩
 ·have e1:=Ve b o e;have lt:=aap e1;rw [sortedHeap_old (aaG lt) (by rw [size_push'];exact Nat.lt_succ_of_lt lt),Heap.get?_push_ne _ _ _ (aaG lt)];exact e1
 ·exact abR Vk
end
end PySem
namespace L2
open PySem PySem.Spec PyProof.Rows
def IS(a:Addr)(led:Bool)(l:List Int):HO:= .ext λh=>h.b4 a led l
theorem Jn{P:Program}{w:World}{H:Hp}{h:Heap}{a:Addr}{led:Bool}{l:List Int}(x:h.b4 a led l):aO P w H h a (IS a led l):=by refine ⟨x, ?_,λh1 h2 y k=>y.keep k⟩;obtain ⟨o,_,_,_,ho,_⟩:=x;exact ⟨o,ho⟩
section
variable{X:Cx}
theorem uP(hc:X.calm=true):cw X (.type "set") (λxs H Q=>∃(p:Addr) (ns:List Int),xs=[V.ref p]/\eQ X.K H p (ns.map V.int)/\(∀k∈ns,0<=k/\k < 4096)/\ns.length < 900/\∀a,H a=none->Q (.ref a) (upd H a (IS a (!aM X.w) (dd ns)))):=by
 intro δ s σ H xs us Q I r ⟨p,ns,ex,hq,hb,hn,q⟩;subst ex;obtain ⟨u,rfl,rx⟩:=iE r;cases rx;obtain ⟨its,rv,pl,hz⟩:=I.list hq;obtain ⟨ts,rfl,rfl⟩:=lK rv;refine pA (I.ok.hd hc) pl.isList (by simp) (λi v hv=> ?_) hb hn λh' tk kp is ht=> ?_
 ·rw [List.getElem?_toArray,aah] at hv;obtain ⟨x,ex,rfl⟩:=aaO.mp hv;exact ⟨x.1,x.2,by rw [aah,ex];rfl,rfl⟩
 ·exact ⟨.ref s.heap.objs.size,_,I.laid (t':=tk) kp (aal _) (Jn is),rfl,q _ (I.aJ.fresh (aal _))⟩
theorem qY:∀{vs:List Value} {ns:List Int},IntsAre vs ns->Ψ (ns.map V.int) vs
 | _,_, .nil=> .nil
 | _,_, .cons n t h=> .cons ⟨t,rfl⟩ (qY h)
theorem oy(hc:X.calm=true):cw X (.builtin "sorted") (λxs H Q=>∃(a:Addr) (l:List Int),xs=[V.ref a]/\H a=some (IS a (!aM X.w) l)/\l.length < 64/\i8 (vL true l)=true/\∀ns':List Int,ns'.Perm l->ns'.Pairwise (· <= ·)->∀p,H p=none->Q (.ref p) (upd H p (.lst (ns'.map V.int)))):=by
 intro δ s σ H xs us Q I r ⟨a,l,ex,ha,Ik,hg,q⟩;subst ex;obtain ⟨u,rfl,rx⟩:=iE r;cases rx;obtain ⟨is,_⟩:=I.aJ a _ ha;obtain ⟨o,es,ep,t,ho,hex,hd,hv,hp,hr,hf,hb⟩:=is;have Pn:aM X.w=false->i8 (bY es,t)=true:=λhb=>by rw [hr,hb];exact hg
 have x:de X.w s.heap a es ep t:=⟨⟨o,ho,hex,hd⟩,hf,λhb=>by
  have:=Pn hb;unfold i8 at this;rw [aan,aan,aan,aan] at this
  exact this.1.1.2.2,Pn⟩
 refine xg (I.ok.hd hc) x hv hp Ik λh' tk p vs ns' c kp hle el a1 a2 a3=> ?_;have hl:ns'.length=l.length:=a2.length_eq;exact ⟨.ref p,_,I.laid (t':=tk) kp hle (show aO X.prog X.w _ h' _ (.lst _) from ⟨by rw [List.length_map,hl];exact Nat.le_trans (Nat.le_of_lt Ik) (by decide),vs.toList,c,qY a1,by simpa using el⟩),rfl,q ns' a2 a3 _ (I.aJ.fresh hle)⟩
end
def JB:List Dt->Ms->DQ->Prop:=λds M q=>∃(d:Dt) (ns:List Int),ds=[d]/\fC M d=some (ns.map Dt.int)/\(∀k∈ns,0<=k/\k < 4096)/\ns.length < 64/\i8 (vL true (dd ns))=true/\∀ns':List Int,ns'.Perm (dd ns)->ns'.Pairwise (· <= ·)->q (.loc M.length) (M++[.lst (ns'.map Dt.int)])
section
variable{X:Cx}{R:St->XK}{a:Expr}{t:DA}{p p2 pos Ei:Pos}
theorem A0:bootBuiltins "set"=some (.type "set"):=by decide+kernel
theorem sV:bootBuiltins "sorted"=some (.builtin "sorted"):=by decide+kernel
theorem GF(hm:X.mg "sorted"=none)(FU:X.mg "set"=none)(ha:JA X R [a] t)(hg:Gl X "sorted":=by rfl)(RD:Gl X "set":=by rfl)(he:starEach [a] X.env=(false,eval a X.env)::starEach [] X.env:=by rfl)(eI:(backTo Ei (starEach [] X.env)).any (·.1)=false:=by rfl)(Kh:(backTo pos (starEach [] X.env)).any (·.1)=false:=by rfl)(hc:X.calm=true:=by rfl):JE X R (.Call (.Name "sorted" p) [.Call (.Name "set" p2) [a] [] Ei] [] pos) (wa JB t):=
 .of (vE (oy hc) hg hm sV (sE (iM (uP hc) RD FU A0 ha (by decide) (by decide) he eI) wL aQ) (by decide) (by decide) aQ Kh) λσ H G L ρ M q x rl n h hx=>by refine ⟨G,L,ρ,M,_,x,rl,n,h,hx,λvs H1 ⟨ds,G1,L1,M1,e1,r1,n1,d,ns,ed,hl,hb,Ik,Pn,h1⟩=> ?_⟩;subst ed;obtain ⟨v,rfl,nv⟩:=aW n1;obtain ⟨p,vs,rfl,sq,m⟩:=bU r1 nv hl;rw [jZ m] at sq;refine ⟨p,ns,rfl,sq,hb,by omega,λa ha=> ?_⟩;exact ⟨a,dd ns,rfl,Ο,aaP (oG ns).2.1 Ik,Pn,λns' pm pw p hp=>iG (e1.trans (r1.J1 ha)) (r1.CW ha) hp cY (h1 ns' pm pw)⟩
end
end L2
namespace PySem
section
variable{prog:Program}{w:World}{A:Around}{E:Value->Shared->Prop}{s:Shared}
theorem vq{d:Addr}{o:Obj}(ho:s.heap.get? d=some o)(hc:o.ExactDict):s.TypeIs (.ref d) "dict":=⟨o,ho,hc.1⟩
theorem tw{d:Addr}{o:Obj}{es:Array DictEntry}{ep:Nat}{Q:Value->Shared->Prop}(hd:(d==sysModules)=false)(ho:s.heap.get? d=some o)(hc:o.ExactDict)(sJ:o.data= .dict es ep)
  (hQ:Q (.ref s.heap.objs.size) {s with heap:=s.heap.push {cls:= .type "dict_keyiterator",data:= .fields #[.ref d, .int 0 0, .int es.size 0, .int ep 0]}}):
  wpAny (model prog w) A (pyIter (.ref d)) Q E s:=by
 have hT:s.TypeIs (.ref d) "dict":=vq ho hc;refine wpAny_pyIter_slot hT F.slot_dict_iter (wpAny_call_entry F.slot_dict_iter hT F.entry_dict_iter ?_ (F.args_dict_iter_1 _));unfold Builtin.«dict.__iter__»;refine aab ?_;unfold Builtin.Dict.dictSlotNone;refine aab (wpAny_notOrdered_dict hT ?_);show wpAny _ _ (pure (Value.ref d)) _ _ s;refine aae ?_;show wpAny _ _ (Builtin.Dict.showsAll d >>= _) _ _ s;unfold Builtin.Dict.showsAll;rw [aaF (by rw [hd];exact aar)];refine aab (aae ?_);refine aab (wpAny_dictEntries ho sJ ?_);refine aab (wpAny_dictEpoch ho sJ ?_);refine aab (wpAny_newObj_type (aae ⟨_,rfl,"dict_keyiterator",_,⟨_,aau _ rfl,rfl⟩,F.slot_dict_keyiterator_next.lookup, ?_⟩));simpa [rawInt] using hQ
theorem rT{it d:Addr}{i ep:Nat}{od:Obj}{es:Array DictEntry}{e:DictEntry}{Q:Option Value->Shared->Prop}(hit:s.heap.IsKeyIter it d i es.size ep)(Ni:s.heap.get? d=some od)(IV:od.data= .dict es ep)(hx:es[i]? =some e)
  (hQ:∀h',h'.IsKeyIter it d (i+1) es.size ep->Heap.SameBut it s.heap h'->Q (some e.key) {s with heap:=h'}):wpAny (model prog w) A (pyNext (.ref it)) Q E s:=by
 obtain ⟨o,ho,hc,hd⟩:=id hit;unfold pyNext
 refine aab (wpAny_attempt (wpAny_callSpecial?_slot (name:=Str.ofString "__next__") hit.typeIs F.slot_dict_keyiterator_next
  (wpAny_call_entry F.slot_dict_keyiterator_next hit.typeIs F.entry_dict_keyiterator_next ?_ (F.args_dict_keyiterator_next_1 _))))
 refine aab (aae ?_);refine aab ?_;refine aab ?_
 first | refine aab (wpAny_typeNameOfWhole_keyiter hit.typeIs (aae ?_)) | refine aab (wpAny_typeNameOf_keyiter hit.typeIs (aae ?_))
 refine aab (wpAny_fieldsOf ho hd ?_);have HY:Builtin.Dict_items.ownsTuple "dict_keyiterator"=false:=by decide
 simp only [HY,Bool.false_eq_true,if_false];show wpAny _ _ (if (Value.ref d==Value.none)=true then _ else _) _ _ s;rw [aaF (show¬((Value.ref d==Value.none)=true) from aar)];refine aab (aae ?_);refine aab (wpAny_dictEntries Ni IV ?_);rw [if_neg (by simp)];refine aab (aae ?_);refine aab (wpAny_dictEpoch Ni IV ?_);rw [if_neg (by simp)];refine aae ?_;simp only [show¬((i:Int) < 0) from by omega,if_false,Int.toNat_natCast,hx];refine aab ?_
 first | refine aab (wpAny_typeNameOfWhole_keyiter hit.typeIs (aae ?_)) | refine aab (wpAny_typeNameOf_keyiter hit.typeIs (aae ?_))
 refine aab (wpAny_isOneOf_keyiter hit.typeIs ?_);show wpAny _ _ (setField (.ref it) 1 (rawInt ((i:Int)+1)) >>= _) _ _ s;refine wpAny_bind (wpAny_setField ho hd (by simp) ?_)
 have AZ:(s.heap.update it (Obj.mapFields (·.setIfInBounds 1 (rawInt ((i:Int)+1))))).IsKeyIter it d (i+1) es.size ep:=
  ⟨_,Heap.get?_update_self _ ho (Obj.isFreed_of_fields (Obj.data_mapFields hd _)),(Obj.cls_mapFields ..).trans hc,by rw [Obj.data_mapFields hd];simp [rawInt]⟩
 refine aab (wpAny_holding ?_);refine aab (wpAny_isOneOf_keyiter (s:={s with heap:=s.heap.update it (Obj.mapFields (·.setIfInBounds 1 (rawInt ((i:Int)+1))))}) AZ.typeIs ?_);show wpAny _ _ (pure e.key) _ _ _;exact aae (aae ⟨_,rfl,aae (hQ _ AZ (Heap.SameBut.update ..))⟩)
theorem lh{it d:Addr}{i ep:Nat}{od:Obj}{es:Array DictEntry}{Q:Option Value->Shared->Prop}(hh:A.handled=none)(hit:s.heap.IsKeyIter it d i es.size ep)(Ni:s.heap.get? d=some od)(IV:od.data= .dict es ep)(Xr:es.size<=i)
  (hQ:∀h',Heap.ExtBut it s.heap h'->Q none {s with heap:=h'}):wpAny (model prog w) A (pyNext (.ref it)) Q E s:=by
 obtain ⟨o,ho,hc,hd⟩:=id hit;unfold pyNext
 refine aab (wpAny_attempt (wpAny_callSpecial?_slot (name:=Str.ofString "__next__") hit.typeIs F.slot_dict_keyiterator_next
  (wpAny_call_entry F.slot_dict_keyiterator_next hit.typeIs F.entry_dict_keyiterator_next ?_ (F.args_dict_keyiterator_next_1 _))))
 refine aab (aae ?_);refine aab ?_;refine aab ?_
 first | refine aab (wpAny_typeNameOfWhole_keyiter hit.typeIs (aae ?_)) | refine aab (wpAny_typeNameOf_keyiter hit.typeIs (aae ?_))
 refine aab (wpAny_fieldsOf ho hd ?_);have HY:Builtin.Dict_items.ownsTuple "dict_keyiterator"=false:=by decide
 simp only [HY,Bool.false_eq_true,if_false];show wpAny _ _ (if (Value.ref d==Value.none)=true then _ else _) _ _ s;rw [aaF (show¬((Value.ref d==Value.none)=true) from aar)];refine aab (aae ?_);refine aab (wpAny_dictEntries Ni IV ?_);rw [if_neg (by simp)];refine aab (aae ?_);refine aab (wpAny_dictEpoch Ni IV ?_);rw [if_neg (by simp)];refine aae ?_;simp only [show¬((i:Int) < 0) from by omega,if_false,Int.toNat_natCast,Array.getElem?_eq_none Xr];refine aab ?_
 first | refine aab (wpAny_typeNameOfWhole_keyiter hit.typeIs (aae ?_)) | refine aab (wpAny_typeNameOf_keyiter hit.typeIs (aae ?_))
 show wpAny _ _ (setField (.ref it) 0 .none >>= _) _ _ s;refine wpAny_bind (wpAny_setField ho hd (by simp) ?_);show wpAny _ _ (newExc (.type "StopIteration") [] >>= _) _ _ _;refine aab ?_;simp only [newExc,newTuple];refine aab (wpAny_newObj_type ?_ (by size_fits));refine wpAny_bind (m:=firstArgMember _ _) (wpAny_of_eq (a:=Value.none) (by first | rfl | (simp only [firstArgMember];rfl)) ?_);refine wpAny_newObj_type ?_ (by size_fits);simp only [raiseNew];refine aab (wpAny_handled ?_);rw [show A.in1.handled=none from hh];refine aab (aae (wpAny_throw ?_));refine aab (wpAny_isInstance (T:="StopIteration") (b:=true) ⟨_,aau _ rfl,rfl⟩ isSubtype_stop ?_);exact aae (hQ _ (((Heap.SameBut.update ..).extBut.push _).push _))
end
end PySem
namespace L2
open PySem PySem.Spec PyProof.Rows
variable{P:Program}{w:World}{a:Addr}{Κ:NL}{ep:Nat}{X:Cx}{δ:List (Addr×Obj)}{tg:Expr}{pos:Pos}{R:St->XK}
def xE(P:Program)(w:World)(a:Addr)(Κ:NL)(ep:Nat)(h:Heap):Prop:=Κ.length<=sizeLine/\(a==sysModules)=false/\∃xs,NT Κ xs/\
 ∃o es,h.get? a=some o/\o.ExactDict/\o.data= .dict es ep/\es.toList=xs.map (entryOfKey (cL (aY P w)))/\(xs.map (·.1)).Nodup
def rO(P:Program)(w:World)(a:Addr)(Κ iQ:NL)(ep:Nat):HO:= .ext λh=>xE P w a Κ ep h/\Κ=iQ
section
variable{P':Program}{w':World}{H:Hp}{h:Heap}{iQ:NL}
theorem xE.nd(x:xE P w a Κ ep h):DP P w a Κ h:=by obtain ⟨z,hd,xs,r,o,es,c⟩:=x;exact ⟨z,hd,xs,r,o,es,ep,c⟩
theorem Dd(ok:iW P w H h)(e:H a=some (rO P' w' a Κ iQ ep)):xE P' w' a Κ ep h/\Κ=iQ:=(ok a _ e).1
theorem Ir(x:xE P' w' a Κ ep h):aO P w H h a (rO P' w' a Κ Κ ep):=by
 refine ⟨⟨x,rfl⟩, ?_,λh1 h2 y k=> ?_⟩
 ·obtain ⟨_,_,xs,_,o,es,e,_⟩:=x;exact ⟨o,e⟩
 ·obtain ⟨⟨z,hd,xs,r,o,es,e,c⟩,q⟩:=y;exact ⟨⟨z,hd,xs,r,o,es,k _ e,c⟩,q⟩
end
section
variable{σ:St}{H:Hp}{s:Shared}{iQ:NL}
theorem Inv.GJ(I:Inv X δ σ H s)(mu:Ls (H a))(x:xE X.prog X.w a Κ ep s.heap):Inv X δ σ (upd H a (rO X.prog X.w a Κ Κ ep)) s:=by
 have he:∃u,s.heap.get? a=some u:=let ⟨_,_,_,_,o,_,e,_⟩:=x;⟨o,e⟩
 exact I.write (x:=a) (e:=a) (h':=s.heap) (t':=s.toks) mu (.inl rfl) (λb u _ q=>q) he (Ir x)
theorem Inv.uZ(I:Inv X δ σ H s)(e:H a=some (rO X.prog X.w a Κ iQ ep)):Inv X δ σ (upd H a (j4 X.prog X.w a Κ)) s:=by
 have x:=(Dd I.aJ e).1;have he:∃u,s.heap.get? a=some u:=let ⟨_,_,_,_,o,_,e,_⟩:=x;⟨o,e⟩
 exact I.write (x:=a) (e:=a) (h':=s.heap) (t':=s.toks) (by rw [e];exact True.intro) (.inl rfl) (λb u _ q=>q) he (xX x.nd)
end
def Pu(P:Program)(w:World)(a:Addr)(Κ:NL)(ep:Nat):It:=
 ⟨λi H=>(∃k1,H a=some (rO P w a k1 Κ ep))/\i < Κ.length,λi H x H'=>H'=H/\∃kv,Κ[i]? =some kv/\x= .ref kv.2.1,λi H=>(∃k1,H a=some (rO P w a k1 Κ ep))/\Κ.length<=i⟩
theorem JG{xs:List (NK×Addr×Value)}{es:Array DictEntry}(r:NT Κ xs)(he:es.toList=xs.map (entryOfKey (cL (aY P w)))){i:Nat}{kv:NK×Addr×V}(h:Κ[i]? =some kv):∃e,es[i]? =some e/\e.key= .ref kv.2.1:=by obtain ⟨q,hq,r1,r2,r3⟩:=B2 r h;refine ⟨entryOfKey (cL (aY P w)) q,by rw [<-aa9,he,aah,hq];rfl, ?_⟩;show Value.ref q.2.1=_;rw [r2]
theorem FH{K:fv}(a it:Addr)(Κ:NL)(ep:Nat):uF P w K tg (Pu P w a Κ ep) [it] it (λi h=>h.IsKeyIter it a i Κ.length ep) where
 mem:=by simp
 obj:=λi h st b hb=>by
  have e:b=it:=by simpa using hb
  subst e;obtain ⟨o,e,c,d⟩:=st;exact ⟨o,e,λv z=>by rw [d] at z;cases z⟩
 keep:=λi h h' st k=>by obtain ⟨o,e,r⟩:=st;exact ⟨o,k it (by simp) o e,r⟩
 item:=by
  intro X hP hw hK hc i δ s σ H E I hf st hg;subst hP hw hK;obtain ⟨⟨k1,hq⟩,hi⟩:=hg;obtain ⟨⟨z,hd,xs,rel,od,es,ho,hex,sJ,he,hn⟩,ek⟩:=Dd I.aJ hq;rw [ek] at rel;obtain ⟨f0,f1,f2,f3,f4,f5⟩:=hf it (by simp);have hx:Κ[i]? =some Κ[i]:=aaa hi;obtain ⟨en,UU,hk⟩:=JG rel he hx;have hz:es.size=Κ.length:=by rw [Paired.length rel,<-aa5,he,aac]
  have pY:s.heap.IsKeyIter it a i es.size ep:=by rw [hz];exact st
  refine rT pY ho sJ UU λh' sZ sb=> ?_;have sZ:h'.IsKeyIter it a (i+1) Κ.length ep:=by rw [<-hz];exact sZ
  have I1:Inv X δ σ H {s with heap:=h'}:=I.turned (t':=s.toks) (λb o hb e=>(sb.2 b hb).trans e) f0 f1 f3 f4 f5;obtain ⟨o,e,c,d⟩:=id sZ;exact ⟨en.key,rfl,qT (s:={s with heap:=h'}) e c d (by decide) ⟨.ref Κ[i].2.1,H,I1,hk,⟨rfl,Κ[i],hx,rfl⟩,sZ,λb hb=>(hf b hb).1⟩⟩
 done:=by
  intro X hP hw hK hc i δ s σ H E I hf st hg;subst hP hw hK;obtain ⟨⟨k1,hq⟩,hi⟩:=hg;obtain ⟨⟨z,hd,xs,rel,od,es,ho,hex,sJ,he,hn⟩,ek⟩:=Dd I.aJ hq;rw [ek] at rel;obtain ⟨f0,f1,f2,f3,f4,f5⟩:=hf it (by simp);have hz:es.size=Κ.length:=by rw [Paired.length rel,<-aa5,he,aac]
  have pY:s.heap.IsKeyIter it a i es.size ep:=by rw [hz];exact st
  exact lh (I.ok.hd hc) pY ho sJ (by rw [hz];exact hi) λh' eb=>⟨rfl,I.turned (t':=s.toks) (λb o hb e=>eb b o hb e) f0 f1 f3 f4 f5⟩
 self:=λ_ _ _ _ _ st h=>wpAny_pyIter_keyiter st h
section
variable{σ:St}{H:Hp}{s:Shared}{Q:It->Hp->Prop}{E:Value->Shared->Prop}
theorem Oj(I:Inv X δ σ H s)(e:H a=some (j4 X.prog X.w a Κ))(q:∀ep,Q (Pu X.prog X.w a Κ ep) (upd H a (rO X.prog X.w a Κ Κ ep))):wpAny (model X.prog X.w) X.A (pyIter (.ref a)) (EA X δ σ tg Q) E s:=by
 obtain ⟨z,hd,xs,rel,o,es,ep,ho,hex,sJ,he,hn⟩:=(show DP X.prog X.w a Κ s.heap from (I.aJ a _ e).1);have hz:es.size=Κ.length:=by rw [Paired.length rel,<-aa5,he,aac]
 refine tw hd ho hex sJ ?_;have I1:=I.GJ (by rw [e];exact True.intro) (show xE X.prog X.w a Κ ep s.heap from ⟨z,hd,xs,rel,o,es,ho,hex,sJ,he,hn⟩);refine ⟨s.heap.objs.size,[s.heap.objs.size],_,_,_,rfl,I1.kept (t':=s.toks) λb o e=>aaf _ e,FH a _ Κ ep,⟨_,aau _ rfl,rfl,by rw [hz];rfl⟩,λb hb=> ?_,q ep⟩;have e:b=s.heap.objs.size:=by simpa using hb
 subst e;exact I1.zE (aal _) (I1.aJ.fresh (aal _))
end
def K0(P:Program)(w:World)(t:TE):TI:=λσ H R=>t σ H λv H1=>∃a Κ,v= .ref a/\H1 a=some (j4 P w a Κ)/\∀ep,R (Pu P w a Κ ep) (upd H1 a (rO P w a Κ Κ ep))
theorem MZ{e:Expr}{t:TE}(h:PE X e t):PI X tg e (K0 X.prog X.w t):=by intro δ s σ H R I ht;refine bD (h δ s σ H _ I ht) λu s1 ⟨v,H1,I1,rv,a,Κ,ev,ha,q⟩=> ?_;subst ev;obtain rfl:u=Value.ref a:=rv;exact Oj I1 ha q
def Ur(P:Program)(w:World)(D:uE):St->Hp->Prop:=λσ H=>∃a Κ iQ ep,H a=some (rO P w a Κ iQ ep)/\D.nx σ (upd H a (j4 P w a Κ))
theorem wJ{st:Stmt}{t:TS}(h:PS X st t):PS X st (λD σ H=>t {D with nx:=Ur X.prog X.w D} σ H):=by
 intro δ s σ H D I h';refine bD (h δ s σ H _ I h') λf s' sp=> ?_;cases f with
 | next=>
  obtain ⟨σ',H',I',a,Κ,iQ,ep,e,q⟩:=sp;exact ⟨σ',_,I'.uZ e,q⟩
 | brk=>exact sp
 | cont=>exact sp
 | ret u=>exact sp
def Jz(P:Program)(w:World)(td ty:TE):TE:=λσ H Q=>td σ H λx H1=>ty σ H1 λy H2=>∃a b Κ iQ ep k v,x= .ref a/\y= .ref b/\H2 a=some (rO P w a Κ iQ ep)/\dt H2 Κ/\iT H2 k b/\eN Κ k=some v/\Q v H2
section
variable{o i:Expr}{td ty:TE}
theorem Bp(hu:X.A.units+2 < cLine)(ho:PE X o td)(hi:PE X i ty)(hs:JC i):PE X (.Subscript o i pos) (Jz X.prog X.w td ty):=by
 intro δ s σ H Q I h;refine EJ PySem.F.slot_dict_getitem.lookup hs (bD (ho δ s σ H _ I h) λu s1 ⟨x,H1,I1,rx,q1⟩=>bD (hi δ s1 σ H1 _ I1 q1) λiv s2 ⟨y,H2,I2,ry,a,b,Κ,iQ,ep,k,v,ex,ey,e,nk,eb,l,q2⟩=> ?_);subst ex ey;obtain rfl:u=Value.ref a:=rx;obtain rfl:iv=Value.ref b:=ry;have I3:=I2.uZ e;have ha:upd H2 a (j4 X.prog X.w a Κ) a=some (j4 X.prog X.w a Κ):=Ο;have ne:∀{c:Addr} {xs:List V},H2 c=some (.tup xs)->c≠a:=λhc z=>by rw [z,e] at hc;cases hc
 have mk:∀{k:NK} {b:Addr},iT H2 k b->iT (upd H2 a (j4 X.prog X.w a Κ)) k b:=λ⟨c,h1,h2⟩=>⟨c,by rw [Β (ne h1)];exact h1,by rw [Β (ne h2)];exact h2⟩;have U6:dt (upd H2 a (j4 X.prog X.w a Κ)) Κ:=λx hx=>mk (nk x hx);obtain ⟨z,hd,xs,rel,dd⟩:=mw I3.aJ ha U6;obtain ⟨w',hw,E9⟩:=iY.some_of (v:=v) (o:=(atKey xs k).map (·.2)) (by rw [<-l];exact rel.val k);obtain ⟨p,hp,Nn⟩:=aaO.mp hw;refine ⟨dd.typeIs,wpAny_getItem_heap (nest_room hu) (nG I3.aJ (mk eb)) dd hp ?_⟩;rw [Nn];exact ⟨v,H2,I2.tok _,E9,q2⟩
end
def xA(P:Program)(w:World)(ks:List NK)(ds:List Dt)(iQ:NL)(ep:Nat):MO:= .Ha (λa vs=>rO P w a (Iw ks vs) iQ ep) (ks.map qy++ds)
section
variable{K:fv}{G:Hp}{L:List Addr}{M:Ms}{H:Hp}
theorem N5(r:Rl K G L M H){k:Nat}{ks:List NK}{ds:List Dt}{iQ:NL}(hk:L[k]? =some a)(h:M[k]? =some (xA P w ks ds iQ ep))(hl:ks.length=ds.length):∃(as:List Addr) (us:List V),as.length=ks.length/\us.length=ks.length/\Ε K G L (ks.map qy) (as.map V.ref)/\Ε K G L ds us/\dt H (ks.zip (as.zip us))/\H a=some (rO P w a (ks.zip (as.zip us)) iQ ep):=by obtain ⟨_,vs,hH,dn⟩:=r.gh k a _ hk h;obtain ⟨as,us,rfl,AM,Iz,dk,dn,el⟩:=fT dn;exact ⟨as,us,AM,by rw [<-dn.length,hl],dk,dn,fV λi k b g1 g2=>(Iz i k b g1 g2).mono r.sub,hH.trans (aa3 (λz=>some (rO P w a z iQ ep)) el)⟩
end
def C0(P:Program)(w:World)(i:Nat)(to te:DE)(Θ:List Nat):DS:=λDn ρ M=>to ρ M (λd M1=>∃k ks ds,d= .loc k/\M1[k]? =some (i5 P w ks ds)/\ks.length=ds.length/\ks.length<=sizeLine/\∀iQ ep,gI te (lF Θ ρ) (λM'=>M'[k]? =some (xA P w ks ds iQ ep)) (ks.map qy) [] (M1.set k (xA P w ks ds iQ ep)) λys M2=>M2[k]? =some (xA P w ks ds iQ ep)/\Dn.nx (ρ.set i (some (.lst ys))) (M2.set k (i5 P w ks ds))) Dn.x
def Cg(P:Program)(w:World)(to ti:DE):DE:=λρ M q x=>to ρ M (λd M1=>ti ρ M1 (λdk M2=>∃k ks ds iQ ep key dv,d= .loc k/\M2[k]? =some (xA P w ks ds iQ ep)/\ks.length=ds.length/\dk=qy key/\dh ks ds key=some dv/\q dv M2) x) x
section
variable{elt iter o i:Expr}{x:Str}{px:Pos}{scope:Scope}{to te ti:DE}{ys:List Str}{Θ:List Nat}{k':Nat}
theorem Gm(hr:bq k' X.A)(ho:JE X R o to)(hi:JE X R i ti)(hs:JC i:=by intro _ _;rfl)(hP:X.prog=P:=by rfl)(hw:X.w=w:=by rfl):JE X R (.Subscript o i pos) (Cg P w to ti):=by
 subst hP hw;exact .of (Bp (sX hr (n:=2) (by decide)) ho hi hs) λσ H G L ρ M q x rl n h hx=>by
  refine ⟨G,L,ρ,M,_,x,rl,n,h,hx,λv H1 ⟨d1,G1,L1,M1,e1,r1,n1,h1⟩=> ?_⟩;refine ⟨G1,L1,ρ,M1,_,x,r1,n.mono e1,h1,hx.on e1,λv2 H2 ⟨d2,G2,L2,M2,e2,r2,n2,k,ks,ds,iQ,ep,key,dv,ed,hm,hl,pU,hg,h2⟩=> ?_⟩;subst ed pU;obtain ⟨a,rfl,hk⟩:=n1;obtain ⟨as,us,la,lu,_,dn,nk,hH⟩:=N5 r2 (e2.l.get hk) hm hl;obtain ⟨b,rfl,nb⟩:=nF n2;rcases ot key dn la lu with ⟨q1,q2⟩ | ⟨d,u,q1,q2,du⟩
  ·rw [hg] at q1;cases q1
  ·rw [hg] at q1;cases q1;exact ⟨a,b,_,iQ,ep,key,u,rfl,rfl,hH,nk,nb.mono r2.sub,q2,fin_same (e1.trans e2) r2 du h2⟩
theorem v9{i:Nat}{y:Str}{py h7:Pos}(hN:X.N.Nodup)(Dh:X.N[i]? =some y)(hy:Loc X.env.scope y)(S:aj X scope [x] ys Θ)(hi:JE X R iter to)(he:∀C s H fp,JE (Cx.comp X (x::ys) scope C s H fp) (λ_=>E0) elt te)(hc:X.calm=true:=by rfl)(Es:swapsWith (.ListComp elt [⟨.Name x px,iter,[],0⟩] scope pos) (some (.Name y py)) h7.line X.env=pure true:=by rfl)(hs:∀x,foldedSetIterable iter X.env x=pure x:=by intro _;rfl)(hf:X.fn y=true\/X.env.scope.names.lookup y=some .local:=by first | exact .inl rfl | exact .inr rfl | assumption)(hP:X.prog=P:=by rfl)(hw:X.w=w:=by rfl):JS X R (.Assign [.Name y py] (.ListComp elt [⟨.Name x px,iter,[],0⟩] scope pos) h7) (C0 P w i to te Θ):=by
 subst hP hw;exact .of (wJ (mG (tc:=wV X.K (λ_=>E0) qL) (te:=rQ X.K (λ_=>E0) te) hN Dh hy S hc (MZ hi) (eC S (i:=0) rfl) (cn (Nat.zero_lt_succ 0)) (λ_ _ _ _=>iL) he Es hs hf)) λσ H G L ρ M Dn rl n h hx=>by
  refine ⟨G,L,ρ,M,_,_,rl,n,h,hx,λv H1 ⟨d,G1,L1,M1,e1,r1,n1,k,ks,ds,ed,hk,hl,hz,h1⟩=> ?_⟩;subst ed;obtain ⟨a,rfl,Gn⟩:=n1;obtain ⟨vs,hH,O9⟩:=(r1.gh k a _ Gn hk).2;obtain ⟨as,us,rfl,AM,Iz,dk,dn,el⟩:=fT O9;have Ow:us.length=ks.length:=by rw [<-dn.length,hl]
  have Wg:H1 a=some (j4 X.prog X.w a (ks.zip (as.zip us))):=hH.trans (aa3 (λz=>some (j4 X.prog X.w a z)) el);refine ⟨a,_,rfl,Wg,λep D hD=> ?_⟩;have h1:=h1 (ks.zip (as.zip us)) ep;have Xk:upd H1 a (rO X.prog X.w a (ks.zip (as.zip us)) (ks.zip (as.zip us)) ep) a=some (rO X.prog X.w a (Iw ks (as.map V.ref++us)) (ks.zip (as.zip us)) ep):=by rw [Ο,el]
  have r2:Rl X.K G1 L1 (M1.set k (xA X.prog X.w ks ds (ks.zip (as.zip us)) ep)) (upd H1 a (rO X.prog X.w a (ks.zip (as.zip us)) (ks.zip (as.zip us)) ep)):=r1.setM (m:=xA X.prog X.w ks ds (ks.zip (as.zip us)) ep) Gn ⟨as.map V.ref++us,Xk,O9⟩;have e2:Ex G1 L1 H1 G1 L1 (upd H1 a (rO X.prog X.w a (ks.zip (as.zip us)) (ks.zip (as.zip us)) ep)):=r1.GN Gn;have zl:(ks.zip (as.zip us)).length=ks.length:=k9 AM Ow;generalize Xs:ks.zip (as.zip us)=kz at h1 r2 e2 hD zl⊢;generalize Ll:upd H1 a (rO X.prog X.w a kz kz ep)=H2 at r2 e2 hD;have rd:∀{G':Hp} {L':List Addr} {M':Ms} {H':Hp},Pre L1 L'->Rl X.K G' L' M' H'->M'[k]? =some (xA X.prog X.w ks ds kz ep)->∃k1,H' a=some (rO X.prog X.w a k1 kz ep):=λl r' aJ=>by obtain ⟨Yv,hh,_⟩:=(r'.gh k a _ (l.get Gn) aJ).2;exact ⟨_,hh⟩
  have yl:JJ X.K (Pu X.prog X.w a kz ep) (ks.map qy) (λM'=>M'[k]? =some (xA X.prog X.w ks ds kz ep)) G1 L1:=by
   refine ⟨λi G' L' M' H' d g l r' aJ hd=> ?_,λi G' L' M' H' g l r' aJ hd=> ?_⟩
   ·have hi:i < ks.length:=by have:=(aad.mp hd).1;rwa [aac] at this
    refine ⟨⟨rd l r' aJ,by omega⟩,λv H3 hy=> ?_⟩;obtain ⟨rfl,kv,Pj,rfl⟩:=hy;rw [<-Xs,aa0,aa0] at Pj;obtain ⟨v',yn,dv⟩:=dk.get hd;rw [aah,Pj.2.1] at yn;have yn:V.ref kv.2.1=v':=aaA yn;rw [<-yn] at dv;exact ⟨G', .refl _ _ _,r',Den.mono g l _ _ dv⟩
   ·rw [aac] at hd;exact ⟨rd l r' aJ,by omega⟩
  rw [kI] at h1;refine oS bo r2 ((n.mono e1).mono e2) yl hD (by rw [aac];exact hz) h1 λG3 L3 M3 H3 Bb vs e3 r3 g3 l3 QK n3 ⟨hm,hq⟩=> ?_;have JL:=e3.l.get Gn;obtain ⟨TY,OK,XU⟩:=(r3.gh k a _ JL hm).2;refine ⟨a,Iw ks TY,kz,ep,OK, ?_⟩;have ne:D≠a:=λz=>by rw [z,OK] at QK;cases QK
  obtain ⟨d4,G4,L4,M4,e4,r4,n4,h4⟩:=zo (q:=λd M=>Dn.nx (ρ.set i (some d)) M) (e3.trans (r3.GN JL)) (r3.setM (m:=i5 X.prog X.w ks ds) JL ⟨TY,Ο,XU⟩) hD g3 l3 (by rw [Β ne];exact QK) n3 hq;have TB:=(e1.trans e2).trans e4;exact ⟨_,G4,L4,M4,TB,r4,(n.mono TB).set i n4,h4⟩
end
structure OA(K:fv)(C:Addr):Prop where
 cl:xa K C
 ha:PySem.W.findIn K (.ref C) "__class__"=some (some (.builtin "object.__class__"))
 hn:PySem.W.specialIn K (.builtin "object.__class__") "__get__"=some (some (.builtin "getset_descriptor.__get__"))
 Gr:PySem.W.takesIn K (.builtin "object.__class__")=some true
 hm:PySem.W.mroIn K C (.type "object")=some true
def Hs(K:fv):List Dt->Ms->DQ->Prop:=λds M q=>∃C ns es C' b,ds=[.obj C ns es, .ref C']/\OA K C/\PySem.W.kitOne K (.ref C) (.ref C')=some b/\q (.bl b) M
theorem N0{K:fv}:Dj K (λxs H Q=>∃x c t t' b,xs=[x,c]/\iA K H x t/\C1 c=some t'/\PySem.W.kitOne K t t'=some b/\Q (.bl b) H) (Hs K):=by intro G0 L0 H0 G L M H vs ds q e r n ⟨C,ns,es,C',b,ed,hc,hb,h⟩;subst ed;obtain ⟨v,u,rfl,n1,n2⟩:=eh n;obtain ⟨a,dx,ws,rfl,ea,_,_⟩:=n1;exact ⟨_,u, .ref C, .ref C',b,rfl, .ins (r.sub _ _ ea) hc.cl hc.ha hc.hn hc.Gr hc.hm,zr n2 rfl,hb,bE e r h⟩
section
variable{e e2:Expr}{t:DA}{p:Pos}
theorem IE(K:fv)(hm:X.mg "isinstance"=none)(ha:JA X R [e,e2] t)(he:starEach [e,e2] X.env=(false,eval e X.env)::starEach [e2] X.env:=by rfl)(eI:(backTo pos (starEach [e2] X.env)).any (·.1)=false:=by rfl)(hg:Gl X "isinstance":=by rfl)(hK:X.K=K:=by rfl):JE X R (.Call (.Name "isinstance" p) [e,e2] [] pos) (wa (Hs K) t):=by subst hK;exact gG mF N0 hm fG ha hg (by decide) (by decide) he eI
end
def L6(K:fv)(n:Nat):R2:=λx y H Q=>∃p xs,∃f:Nat->Bool,y= .ref p/\eQ K H p xs/\(∀j z,xs[j]? =some z->vO K H n z x (f j))/\Q (.bl (!(List.range xs.length).any f)) H
theorem Kv{n:Nat}(hu:X.A.units+(n+1) < cLine):ij X (compareOp .NotIn) (L6 X.K n):=by
 intro δ s σ H x y v u Q I rx ry h;obtain ⟨p,xs,f,rfl,hq,hf,q⟩:=h;cases ry;obtain ⟨its,r,pl,hz⟩:=I.list hq
 classical
 have EE:X.A.in1.units+n < cLine:=by show X.A.units+1+n < cLine;omega
 refine SeqAt.notIn_listAt (λw=>decide (∃j z,xs[j]? =some z/\Ω z w/\f j=true)) pl.isList (λw hw=> ?_) ⟨.bl _,H,I,rfl, ?_⟩
 ·obtain ⟨j,hj,rfl⟩:=Array.mem_iff_getElem.mp hw;obtain ⟨z,hz,rz⟩:=aA r hj;by_cases c:∃j' z,xs[j']? =some z/\Ω z its.toArray[j]/\f j'=true
  ·rw [aaq c];obtain ⟨j',z',h1,h2,h3⟩:=c;exact h3▸gb I (hf j' z' h1) h2 rx EE
  ·rw [aaK c];have:f j=false:=by
    cases e:f j with
    | false=>rfl
    | true=>exact aaH ⟨j,z,hz,rz,e⟩ c
   exact this▸gb I (hf j z hz) rz rx EE
 ·have:its.toArray.any (λw=>decide (∃j z,xs[j]? =some z/\Ω z w/\f j=true))=(List.range xs.length).any f:=by
   rw [abc,Array.any_eq_true,abQ];refine ⟨λ⟨i,hi,h⟩=> ?_,λ⟨j,hj,h⟩=> ?_⟩
   ·obtain ⟨j,z,h1,_,h3⟩:=aaB h;exact ⟨j,aaL.mpr (aad.mp h1).1,h3⟩
   ·have hj:=aaL.mp hj;have hi:j < its.toArray.size:=by rw [aas,<-r.length];exact hj
    obtain ⟨z,hz,rz⟩:=aA r hi;exact ⟨j,hi,aaq ⟨j,z,hz,rz,h⟩⟩
  rw [this];exact q
def NC(n:Nat):Dt->Dt->Ms->DQ->Prop:=λd e M q=>∃xs,∃f:Nat->Bool,fC M e=some xs/\(∀j z,xs[j]? =some z->gM M n z d (f j))/\q (.bl (!(List.range xs.length).any f)) M
theorem Ru{K:fv}{n:Nat}:pJ K (L6 K n) (NC n):=by intro G0 L0 H0 G L M H v1 v2 d1 d2 q e r n1 n2 ⟨xs,f,h1,h2,hq⟩;obtain ⟨a,vs,rfl,sq,m⟩:=bU r n2 h1;refine ⟨a,vs,f,rfl,sq,λj z hz=> ?_,by rw [<-m.length];exact bE e r hq⟩;obtain ⟨d,hd,dn⟩:=m.back hz;exact qW r (h2 j d hd) dn n1
section
variable{a b:Expr}{ta tb:DE}{k':Nat}
theorem KI(n:Nat)(hr:bq k' X.A)(ja:JE X R a ta)(jb:JE X R b tb)(hn:n+1<=64:=by decide)(hm:behindInMarks .NotIn b=false:=by rfl):JT X R (.Compare a [.NotIn] [b] pos) (mP (iH (NC n) ta tb)):=g9 (Kv (sX hr hn)) Ru ja jb hm
end
end L2
namespace Fr0
variable{b t:Int}
def g(a b:Int):Int:=(Int.gcd a b:Nat)
theorem uK{a:Int}(h:b≠0):0 < g a b:=by have:=Int.gcd_pos_of_ne_zero_right a h;unfold g;omega
theorem B9{a:Int}(h:0<=a):g a 0=a:=by unfold g;rw [Int.gcd_zero_right];omega
theorem D0{a:Int}(hb:0 < b):g b (a.fmod b)=g a b:=by
 unfold g;rw [abr a (aaT hb),Int.gcd_comm a b]
 congr 1
 refine Int.gcd_right_eq_iff.mpr λc hc=> ?_;rw [Int.emod_def];constructor
 ·intro h;have:=Int.dvd_add h (Int.dvd_mul_of_dvd_left (c:=a / b) hc);rwa [Int.sub_add_cancel] at this
 ·intro h;exact Int.dvd_sub h (Int.dvd_mul_of_dvd_left (c:=a / b) hc)
theorem Hu(a b:Int):g (if a < 0 then -a else a) (if b < 0 then -b else b)=g a b:=by unfold g;split <;> split <;> simp
def dv(t b:Int):Int:=if b < 0 then -(g t b) else g t b
def ag(t b:Int):Int×Int:=(t.fdiv (dv t b),b.fdiv (dv t b))
theorem zb(h:b≠0):dv t b≠0:=by have:=uK (a:=t) h;unfold dv;split <;> omega
theorem uR{k p:Int}(h:k≠0):(k * p).fdiv k=p:=by rw [abT];exact Int.mul_fdiv_cancel p h
theorem CI(h:b≠0):∃p q:Int,t=dv t b * p/\b=dv t b * q/\0 < q/\Int.gcd p q=1:=by
 have hg:=uK (a:=t) h;have h0:0 < Int.gcd t b:=Int.gcd_pos_of_ne_zero_right t h;obtain ⟨p,hp⟩:=Int.gcd_dvd_left t b;obtain ⟨q,hq⟩:=Int.gcd_dvd_right t b;have hc:Int.gcd p q=1:=by
  have e:=Int.gcd_ediv_gcd_ediv_gcd h0;have n0:(Int.gcd t b:Int)≠0:=by omega
  have e1:t / (Int.gcd t b:Int)=p:=by
   conv=>lhs;arg 1;rw [hp]
   exact abC p n0
  have e2:b / (Int.gcd t b:Int)=q:=by
   conv=>lhs;arg 1;rw [hq]
   exact abC q n0
  rwa [e1,e2] at e
 have LO:t=g t b * p:=hp;have A8:b=g t b * q:=hq;by_cases hb:b < 0
 ·have hd:dv t b= -(g t b):=by unfold dv;rw [if_pos hb]
  refine ⟨-p, -q, ?_, ?_, ?_, ?_⟩
  ·rw [hd,Int.neg_mul_neg];exact LO
  ·rw [hd,Int.neg_mul_neg];exact A8
  ·have:g t b * q < 0:=by rw [<-A8];exact hb
   by_cases q0:0<=q
   ·exact aaH (Int.mul_nonneg (aaT hg) q0) (by omega)
   ·omega
  ·simpa using hc
 ·have hd:dv t b=g t b:=by unfold dv;rw [if_neg hb]
  refine ⟨p,q,by rw [hd];exact LO,by rw [hd];exact A8, ?_,hc⟩;have:0 < g t b * q:=by rw [<-A8];omega
  exact Int.pos_of_mul_pos_right this hg
theorem dN  (h : b ≠ 0) : ∃ p q : Int, ag t b = (p, q) /\ 0 < q /\ Int.gcd p q = 1 /\ t = dv t b * p /\ b = dv t b * q := by
  obtain ⟨p, q, hp, hq, h0, hc⟩ := CI (t := t) h;have n0 := zb (t := t) h;refine ⟨p, q, ?_, h0, hc, hp, hq⟩;unfold ag
  have e1 : t.fdiv (dv t b) = p := by conv => lhs; arg 1; rw [hp]
                                      exact uR n0
  have e2 : b.fdiv (dv t b) = q := by conv => lhs; arg 1; rw [hq]
                                      exact uR n0
  rw [e1, e2]
theorem ck(h:b≠0):t * (ag t b).2=b * (ag t b).1:=by
 obtain ⟨p,q,e,_,_,hp,hq⟩:=dN (t:=t) h;rw [e];show t * q=b * p
 calc t * q=dv t b * p * q:=by rw [<-hp]
  _=dv t b * q * p:=by rw [abK,abT p q,<-abK]
  _=b * p:=by rw [<-hq]
theorem bQ(h:b≠0):0 < (ag t b).2:=by obtain ⟨p,q,e,h0,_⟩:=dN (t:=t) h;rw [e];exact h0
theorem oh(h:b≠0):Int.gcd (ag t b).1 (ag t b).2=1:=by obtain ⟨p,q,e,_,hc,_⟩:=dN (t:=t) h;rw [e];exact hc
theorem mL{k m n:Int}(h:k∣m * n)(hc:Int.gcd k m=1):k∣n:=by have:=(Int.dvd_gcd_mul_iff_dvd_mul (k:=k) (n:=m) (m:=n)).mpr h;rw [hc] at this;simpa using this
theorem wQ{p q p' q':Int}(hq:0 < q)(A8:0 < q')(h:Int.gcd p q=1)(h':Int.gcd p' q'=1)(e:p * q'=p' * q):p=p'/\q=q':=by
 have d1:q∣q':=by have:q∣p * q':=⟨p',by rw [e,abT]⟩;exact mL this (by rw [Int.gcd_comm];exact h)
 have d2:q'∣q:=by have:q'∣p' * q:=⟨p,by rw [<-e,abT]⟩;exact mL this (by rw [Int.gcd_comm];exact h')
 have eq:q=q':=Int.le_antisymm (Int.le_of_dvd A8 d1) (Int.le_of_dvd hq d2);subst eq;exact ⟨Int.eq_of_mul_eq_mul_right (by omega) e,rfl⟩
theorem ue{p q:Int}(h:b≠0)(hq:0 < q)(hc:Int.gcd p q=1)(e:t * q=b * p):ag t b=(p,q):=by
 have h1:=ck (t:=t) h;have h2:=bQ (t:=t) h;have h3:=oh (t:=t) h;have h4:(ag t b).1 * q=p * (ag t b).2:=by
  have:b * ((ag t b).1 * q)=b * (p * (ag t b).2):=by rw [<-abK,<-h1,Int.mul_right_comm,e,abK]
  exact abx h this
 have:=wQ h2 hq h3 hc h4;exact Prod.ext this.1 this.2
theorem tO(h:b≠0):(dv t b).natAbs<=b.natAbs:=by
 have e:(dv t b).natAbs=Int.gcd t b:=by unfold dv g;split <;> omega
 rw [e];exact Int.gcd_le_natAbs_right t h
theorem oE  (h : b ≠ 0) : (ag t b).1.natAbs <= t.natAbs := by
  obtain ⟨p, q, e, _, _, hp, _⟩ := dN (t := t) h;have n0 := zb (t := t) h;rw [e];show p.natAbs <= t.natAbs
  have : t.natAbs = (dv t b).natAbs * p.natAbs := by conv => lhs; rw [hp]
                                                     exact abO _ _
  rw [this];exact Nat.le_mul_of_pos_left _ (by omega)
theorem kC  (h : b ≠ 0) : (ag t b).2.natAbs <= b.natAbs := by
  obtain ⟨p, q, e, _, _, _, hq⟩ := dN (t := t) h;have n0 := zb (t := t) h;rw [e];show q.natAbs <= b.natAbs
  have : b.natAbs = (dv t b).natAbs * q.natAbs := by conv => lhs; rw [hq]
                                                     exact abO _ _
  rw [this];exact Nat.le_mul_of_pos_left _ (by omega)
theorem E7(h:0 < b):ag t b=(t.fdiv (g t b),b.fdiv (g t b)):=by unfold ag dv;rw [aaF (by omega)]
end Fr0
namespace Tx
open PySem PySem.NumText
end Tx
namespace Bz
end Bz
namespace N51
section
variable{κ α:Type} [DecidableEq κ]
def get(ks:List κ)(vs:List α)(k:κ):Option α:=((ks.zip vs).find? λx=>decide (x.1=k)).map (·.2)
def has(ks:List κ)(k:κ):Bool:=ks.any λc=>decide (c=k)
def putK(ks:List κ)(k:κ):List κ:=if has ks k then ks else ks++[k]
def tZ(ks:List κ)(k:κ)(vs:List α)(v:α):List α:=if has ks k then List.zipWith (λc y=>if c=k then v else y) ks vs else vs++[v]
theorem gx{ks:List κ}{k:κ}:has ks k=true↔k∈ks:=by unfold has;rw [abQ];exact ⟨λ⟨c,h,e⟩=>aaB e▸h,λh=>⟨k,h,aaq rfl⟩⟩
theorem da{c k:κ}{v:α}{ks:List κ}{vs:List α}:get (c::ks) (v::vs) k=if c=k then some v else get ks vs k:=by
 unfold get;rw [aa4];by_cases e:c=k
 ·rw [if_pos e,List.find?_cons_of_pos (by simpa using e)];rfl
 ·rw [if_neg e,List.find?_cons_of_neg (by simpa using e)]
theorem dj{k:κ}:∀{ks:List κ} {vs:List α},vs.length=ks.length->((get ks vs k).isSome=true↔k∈ks)
 | [],vs,_=>by simp [get]
 | c::ks,v::vs,h=>by
  rw [da];by_cases e:c=k
  ·simp [e]
  ·rw [if_neg e,dj (by simpa using h)];simp [Ne.symm e]
theorem pD{k:κ}{v:α}:∀{ks:List κ} {vs:List α} {j:Nat},ks.Nodup->ks[j]? =some k->vs[j]? =some v->get ks vs k=some v
 | [],_,j,_,h,_=>by simp at h
 | _::_,[],j,_,_,h=>by simp at h
 | c::ks,u::vs,0,_,h1,h2=>by rw [da];simp at h1 h2;rw [aaI h1,h2]
 | c::ks,u::vs,j+1,hn,h1,h2=>by rw [abp] at hn;simp at h1 h2;rw [da,aaF (λe=>hn.1 (by rw [e];exact aat h1))];exact pD hn.2 h1 h2
theorem CQ{ks:List κ}{k:κ}{vs:List α}{v:α}(h:vs.length=ks.length):(tZ ks k vs v).length=(putK ks k).length:=by
 unfold tZ putK;split
 ·rw [List.length_zipWith,h,abZ]
 ·simp [h]
theorem w6{ks:List κ}{k:κ}(h:ks.Nodup):(putK ks k).Nodup:=by
 unfold putK;split
 ·exact h
 ·rename_i q;rw [List.nodup_append];refine ⟨h,by simp,λa ha b hb=> ?_⟩;have:b=k:=by simpa using hb
  subst this;rintro rfl;exact q (gx.mpr ha)
theorem Ew{ks:List κ}{k c:κ}:c∈putK ks k↔c∈ks\/c=k:=by
 unfold putK;split
 ·rename_i q;exact ⟨.inl,λh=>h.elim id λe=>e▸gx.mp q⟩
 ·simp
theorem yD{k c:κ}{v:α}:∀{ks:List κ} {vs:List α},vs.length=ks.length->get ks (List.zipWith (λc y=>if c=k then v else y) ks vs) c=if c=k/\k∈ks then some v else get ks vs c
 | [],vs,_=>by simp [get]
 | d::ks,u::vs,h=>by
  rw [List.zipWith_cons_cons,da,da,yD (by simpa using h)];by_cases e:d=c
  ·subst e;by_cases q:d=k
   ·simp [q]
   ·simp [q]
  ·rw [aaF e,aaF e];by_cases q:c=k
   ·subst q;simp [Ne.symm e]
   ·simp [q]
theorem zt{k c:κ}{v:α}:∀{ks:List κ} {vs:List α},vs.length=ks.length->get (ks++[k]) (vs++[v]) c=(get ks vs c).or (if k=c then some v else none)
 | [],vs,h=>by
  have:vs=[]:=by simpa using h
  subst this;show get [k] [v] c=_;rw [da];simp [get]
 | d::ks,u::vs,h=>by
  rw [List.cons_append,List.cons_append,da,da,zt (by simpa using h)];by_cases e:d=c
  ·simp [e]
  ·simp [e]
theorem EM{k c:κ}{v:α}{ks:List κ}{vs:List α}(h:vs.length=ks.length):get (putK ks k) (tZ ks k vs v) c=if c=k then some v else get ks vs c:=by
 unfold putK tZ;by_cases q:has ks k=true
 ·rw [aaI q,aaI q,yD h];have:=gx.mp q;simp [this]
 ·rw [aaF q,aaF q,zt h];have nk:¬k∈ks:=λz=>q (gx.mpr z);by_cases e:c=k
  ·subst e;have:get ks vs c=none:=by
    cases g:get ks vs c with
    | none=>rfl
    | some w=>exact aaH ((dj h).mp (by rw [g];rfl)) nk
   simp [this]
  ·rw [aaF e,aaF (Ne.symm e)];cases get ks vs c <;> rfl
theorem lH:∀{ks ls:List κ},ks.Nodup->(∀c∈ks,c∈ls)->ks.length<=ls.length
 | [],_,_,_=>abD _
 | c::ks,ls,n,s=>by rw [abp] at n;have hc:=s c aak;have h:=lH (ls:=ls.erase c) n.2 λd hd=>(List.mem_erase_of_ne (a:=d) (b:=c) (λe:d=c=>n.1 (e▸hd))).mpr (s d (aai _ hd));rw [List.length_erase_of_mem hc] at h;have:=abI hc;rw [aaN];omega
theorem AG [DecidableEq α]{ks ls:List κ}{vs us:List α}(h1:vs.length=ks.length)(h2:us.length=ls.length)(n1:ks.Nodup)(n2:ls.Nodup):
  (ks.length=ls.length/\∀(j:Nat) k v,ks[j]? =some k->vs[j]? =some v->get ls us k=some v)↔∀k,get ks vs k=get ls us k:=by
 constructor
 ·rintro ⟨hl,h⟩ k;have sub:∀c∈ks,c∈ls:=λc hc=>by
   obtain ⟨j,hj⟩:=aba.mp hc;have lt:j < vs.length:=by rw [h1];exact (aad.mp hj).1
   exact (dj h2).mp (by rw [h j c vs[j] hj (aaa lt)];rfl)
  have sup:∀c∈ls,c∈ks:=λc hc=>Classical.byContradiction λq=>by have:=lH (ks:=c::ks) (ls:=ls) (abp.mpr ⟨q,n1⟩) λd hd=>(aaz.mp hd).elim (λe=>e▸hc) (sub d);rw [aaN] at this;omega
  cases g:get ks vs k with
  | none=>
   cases g2:get ls us k with
   | none=>rfl
   | some w=>
    have:=(dj h1).mpr (sup k ((dj h2).mp (by rw [g2];rfl)));rw [g] at this;cases this
  | some v=>
   have hk:=(dj h1).mp (by rw [g];rfl);obtain ⟨j,hj⟩:=aba.mp hk;have lt:j < vs.length:=by rw [h1];exact (aad.mp hj).1
   have e:=pD n1 hj (aaa lt);rw [g] at e;cases e;exact (h j k _ hj (aaa lt)).symm
 ·intro h;refine ⟨?_,λj k v hj hv=>by rw [<-h];exact pD n1 hj hv⟩;have p1:∀c,c∈ks↔c∈ls:=λc=>by rw [<-dj h1,<-dj h2,h]
  exact Nat.le_antisymm (lH n1 λc hc=>(p1 c).mp hc) (lH n2 λc hc=>(p1 c).mpr hc)
end
section
variable{κ α β:Type} [DecidableEq κ]
def Hi(op:α->β->α)(z:α)(D:List κ×List α)(x:κ×β):List κ×List α:=(putK D.1 x.1,tZ D.1 x.1 D.2 (op ((get D.1 D.2 x.1).getD z) x.2))
def k8(op:α->β->α)(z:α)(xs:List (κ×β)):List κ×List α:=xs.foldl (Hi op z) ([],[])
def HC(op:α->β->α)(z:α)(xs:List (κ×β))(k:κ):α:=xs.foldl (λa x=>if x.1=k then op a x.2 else a) z
theorem oR(op:α->β->α)(z:α)(xs:List (κ×β))(x:κ×β):k8 op z (xs++[x])=Hi op z (k8 op z xs) x:=by unfold k8;rw [List.foldl_append];rfl
theorem vd(op:α->β->α)(z:α)(xs:List (κ×β))(x:κ×β)(k:κ):HC op z (xs++[x]) k=if x.1=k then op (HC op z xs k) x.2 else HC op z xs k:=by unfold HC;rw [List.foldl_append];rfl
theorem fN(op:α->β->α)(z:α)(xs:List (κ×β)):(k8 op z xs).2.length=(k8 op z xs).1.length/\(k8 op z xs).1.Nodup/\(∀k,k∈(k8 op z xs).1↔k∈xs.map (·.1))/\∀k,(get (k8 op z xs).1 (k8 op z xs).2 k).getD z=HC op z xs k:=by
 have key:∀n (ys:List (κ×β)),ys.length=n->(k8 op z ys).2.length=(k8 op z ys).1.length/\(k8 op z ys).1.Nodup/\(∀k,k∈(k8 op z ys).1↔k∈ys.map (·.1))/\∀k,(get (k8 op z ys).1 (k8 op z ys).2 k).getD z=HC op z ys k:=by
  intro n
  induction n with
  | zero=>
   intro ys h;have:ys=[]:=abm.mp h;subst this;exact ⟨rfl,List.nodup_nil,λk=>Iff.rfl,λk=>rfl⟩
  | succ n ih=>
   intro ys h;have fP:ys≠[]:=λe=>by subst e;cases h
   obtain ⟨zs,x,rfl⟩:∃zs x,ys=zs++[x]:=⟨ys.dropLast,ys.getLast fP,(aa1 fP).symm⟩;obtain ⟨h1,h2,h3,h4⟩:=ih zs (by simpa using h);rw [oR];refine ⟨CQ h1,w6 h2,λk=> ?_,λk=> ?_⟩
   ·show k∈putK _ _↔_;rw [Ew,h3,aav,aaQ];simp
   ·show (get (putK _ _) (tZ _ _ _ _) k).getD z=_;rw [EM h1,vd];by_cases e:k=x.1
    ·subst e;rw [aaI rfl,aaI rfl,h4];rfl
    ·rw [aaF e,aaF (λq=>e q.symm),h4]
 exact key _ xs rfl
end
variable{s:Nat->Nat->Bool}
structure Cl(n:Nat)(c:Nat->Nat):Prop where
 le:∀i,i < n->c i<=i
 fx:∀i,i < n->c (c i)=c i
def cC(n:Nat)(c:Nat->Nat):List Nat:=(List.range n).filter λi=>decide (c i=i)
theorem bh{n i:Nat}{c:Nat->Nat}:i∈cC n c↔i < n/\c i=i:=by unfold cC;rw [List.mem_filter,aaL];exact ⟨λh=>⟨h.1,aaB h.2⟩,λh=>⟨h.1,aaq h.2⟩⟩
theorem xr(n:Nat)(c:Nat->Nat):(cC n c).Nodup:=List.Nodup.sublist List.filter_sublist List.nodup_range
theorem r_(n:Nat)(c:Nat->Nat):(cC n c).length<=n:=by have:=List.length_filter_le (λi=>decide (c i=i)) (List.range n);rw [abY] at this;exact this
theorem MW{n:Nat}{c d:Nat->Nat}(hc:Cl n c)(hd:Cl n d)(r:∀i,i < n->c (d i)=c i){i:Nat}(hi:i < n)(ne:d i≠c i):(cC n c).length < (cC n d).length:=by
 have sub:∀j∈cC n c,j∈cC n d:=λj hj=>by obtain ⟨h1,h2⟩:=bh.mp hj;have a:=hd.le j h1;have b:=hc.le (d j) (by omega);rw [r j h1,h2] at b;exact bh.mpr ⟨h1,by omega⟩
 have FK:d i < n:=aaP (hd.le i hi) hi;have m1:d i∈cC n d:=bh.mpr ⟨FK,hd.fx i hi⟩;have m2:d i∉cC n c:=λh=>ne (by rw [<-r i hi,(bh.mp h).2]);exact lH (ks:=d i::cC n c) (abp.mpr ⟨m2,xr n c⟩) λx hx=>(aaz.mp hx).elim (λe=>e▸m1) (sub x)
def least(s:Nat->Nat->Bool)(i:Nat):Nat:=((List.range i).find? λj=>s j i).getD i
theorem least_le(s:Nat->Nat->Bool)(i:Nat):least s i<=i:=by
 unfold least;cases h:(List.range i).find? λj=>s j i with
 | none=>exact aal _
 | some j=>exact abR (aaL.mp (List.mem_of_find?_eq_some h))
theorem kR{i:Nat}(rf:s i i=true):s (least s i) i=true:=by
 unfold least;cases h:(List.range i).find? λj=>s j i with
 | none=>exact rf
 | some j=>exact (List.find?_some (p:=λj=>s j i) h)
theorem rA{i j:Nat}(h:s j i=true):least s i<=j:=by
 rcases abe j i with q | q
 ·unfold least;cases g:(List.range i).find? λj=>s j i with
  | none=>
   rw [List.find?_eq_none] at g;exact aaH h (g j (aaL.mpr q))
  | some k=>
   rw [List.find?_range_eq_some] at g;rcases abe j k with z | z
   ·have:=g.2.2 j z;rw [h] at this;cases this
   ·exact z
 ·exact aam (least_le s i) q
theorem vA{n:Nat}(rf:∀i,i < n->s i i=true)(tr:∀i j k,i < n->j < n->k < n->s i j=true->s j k=true->s i k=true):Cl n (least s) where
 le:=λi _=>least_le s i
 fx:=λi hi=>by have l:=least_le s i;have l2:=least_le s (least s i);have a:=kR (rf i hi);have b:=kR (rf (least s i) (by omega));have:=rA (tr _ _ _ (by omega) (by omega) hi b a);omega
end N51
seal L2.JE L2.JT L2.JW L2.JA L2.JS L2.zT L2.JI L2.JK
local macro_rules | `(tactic| walk_at "vc")=>`(tactic| dsimp only [L2.gN,L2.LD,L2.xH,L2.Pa,L2.L8,L2.Hz,L2.TV,L2.K3,L2.zB,L2.HV,L2.yo,L2.wa,L2.iH,L2.Le,L2.d8,L2.dC,L2.jO,L2.dY,L2.wG,L2.Im,L2.mP,L2.Nw,L2.SN,L2.Na,L2.NA,L2.SR,L2.Td,L2.lM,List.map_cons,List.map_nil,List.length_cons,List.length_nil,List.cons_append,List.nil_append,List.replicate,List.getElem?_cons_zero,List.getElem?_cons_succ,List.set_cons_zero,List.set_cons_succ,Nat.reduceSub,Nat.reduceAdd,Nat.zero_add])
namespace Pg
open PySem L2
variable{P:Program}{w:World}{mg:Str->Option Value}{f C bI d_ kT aT cm:Addr}{fd bG eF km aR cg:FuncData}{j i n k y:Nat}{M:Ms}{d:Dt}{xs ds:List Dt}{ρ:En}{x:DX}{b S t size:Int}{ns:List Int}{c c':Nat->Nat}{ls l:List Nat}
def top(i:Nat):Stmt:=PySem.Challenge.pw_chanceduel_k52_put_together.main.body.getD i (.Pass ⟨0,0,0,0⟩)
def cls(i j:Nat):Stmt:=match top i with
 | .ClassDef _ _ _ b _ _ _ _ _ _ _=>b.getD j (.Pass ⟨0,0,0,0⟩)
 | _=> .Pass ⟨0,0,0,0⟩
abbrev d7:Stmt:=top 7
abbrev lA:Stmt:=top 8
abbrev B7:Stmt:=top 9
abbrev nP:Stmt:=top 14
abbrev lS:Stmt:=top 15
abbrev fi:Stmt:=top 16
abbrev gD:Stmt:=top 17
abbrev jC:Stmt:=top 18
abbrev pO:Stmt:=top 19
abbrev jE:Stmt:=top 20
abbrev jD:Stmt:=top 24
abbrev jW:Stmt:=top 27
abbrev fo:Stmt:=top 28
abbrev oo:Stmt:=top 29
abbrev gj:Stmt:=top 30
abbrev tS:Stmt:=top 31
abbrev jU:Stmt:=top 32
abbrev l_:Stmt:=top 33
abbrev rM:Stmt:=top 35
abbrev jz:Stmt:=top 36
abbrev oN:Stmt:=top 37
abbrev jq:Stmt:=top 38
abbrev sY:Stmt:=top 39
abbrev dq:Stmt:=top 40
abbrev pI:Stmt:=top 41
abbrev jK:Stmt:=top 42
abbrev lE:Stmt:=top 43
abbrev oj:Stmt:=top 44
abbrev jY:Stmt:=top 45
abbrev jL:Stmt:=top 46
abbrev l9:Stmt:=top 47
abbrev rW:Stmt:=top 48
abbrev Kb:Stmt:=top 49
abbrev js:Stmt:=cls 25 0
abbrev jS:Stmt:=cls 25 1
abbrev ig:Stmt:=cls 25 2
abbrev ju:Stmt:=cls 25 3
abbrev ir:Stmt:=cls 25 4
abbrev lP:Stmt:=cls 25 5
abbrev j0:Stmt:=cls 25 6
open PySem L2 Fr0 Tx
structure Ev(K:fv)(mg:Str->Option Value)(Cm:Addr):Prop where
 bx:mg "len"=none
 pK:mg "abs"=none
 bj:mg "isinstance"=none
 zu:mg "int"=none
 uC:mg "bool"=none
 DL:mg "str"=none
 ni:mg "tuple"=none
 gB:mg "list"=none
 bb:mg "range"=none
 fe:mg "enumerate"=none
 yg:mg "any"=none
 y9:mg "all"=none
 vZ:mg "sum"=none
 Cc:mg "zip"=none
 kS:mg "sorted"=none
 yH:mg "set"=none
 ib:PySem.W.kitOne K (.type "int") (.type "bool")=some false
 VJ:PySem.W.kitOne K (.type "int") (.type "str")=some false
 VQ:PySem.W.kitOne K (.type "tuple") (.type "str")=some false
 XF:PySem.W.kitOne K (.type "tuple") (.type "int")=some false
 Ue:PySem.W.kitOne K (.type "list") (.type "str")=some false
 T_:PySem.W.kitOne K (.type "list") (.type "int")=some false
 Uk:PySem.W.kitOne K (.type "tuple") (.type "list")=some false
 klt:PySem.W.kitOne K (.type "list") (.type "tuple")=some false
 cH:xa K Cm
 C4:mg "Floor"=some (.ref Cm)
 yC:OA K Cm
 bH:fh K Cm "kept_rows"
 fq:fh K Cm "kept_share"
 DU:∃a o its n,mg "HANDS"=some (.ref a)/\K.lookup a=some o/\o.cls= .type "tuple"/\o.data= .seq its n/\its.size<=sizeLine/\Paired (λ(z:Str) (u:Value)=>∃tk,u= .str z tk) ["one","other"] its.toList
 mE:∃tk,mg "MOST_DOORS"=some (.int 6 tk)
 gz:∃tk,mg "MOST_BOTTOM"=some (.int 1000000 tk)
 kq:∃tk,mg "MOST_PLACES"=some (.int 12 tk)
 eA:∃tk,mg "MOST_SHARE_BOTTOM"=some (.int 1000 tk)
theorem xI{K:fv}{T:String}:PySem.W.kitOne K (.type T) (.type T)=some true:=by unfold PySem.W.kitOne;rw [aaI (abP _)]
section
variable{K:fv}{base:Heap}{Cm:Addr}
def C9:DF:=λds M q _=>match ds with
 | [.int a, .int b]=>q (.int (g a b)) M
 | _=>False
theorem aZ:ψ ["one","other","great","small","rest"] ["one","other"] (ο d7):= .of rfl
theorem lJ(F:dH K "common_divisor" "common_divisor" d7 f fd)(E:Ev K mg Cm):aB P w K mg base (cQ P w) 1 f fd ["one","other"] (dw K C9):=by
 refine F.fZ aZ (λds M q x h=> ?_) (λbK A outer s H E' hr=>⟨_,(η (τ 2 aZ.nd (y6 E.pK (Υ (jv 0) ε)))
   (η (τ 3 aZ.nd (y6 E.pK (Υ (jv 1) ε)))
   (η (pG (ml hr (jv 3) ι) (η (τ 4 aZ.nd (aD (jv 2) (jv 3)))
   (η (τ 2 aZ.nd (jv 3))
   (μ (τ 3 aZ.nd (jv 4))))))
   (μ (χ (jv 2)))))),λds M q x h=> ?_⟩)
 ·unfold C9 at h;split at h; · rfl
  ·exact h.elim
 ·unfold C9 at h;split at h
  ·rename_i a b;refine ⟨λm ρ M'=>M'=M/\∃(x y:Int) (r:Option Dt),ρ=[some (.int a),some (.int b),some (.int x),some (.int y),r]/\0<=x/\0<=y/\g x y=g a b/\m=y.toNat,⟨_,rfl,_,_,_,rfl,by split <;> omega,by split <;> omega,Hu a b,rfl⟩, ?_⟩;rintro m ρ M' ⟨rfl,x,y,r,rfl,hx,hy,e,rfl⟩;refine ⟨λhb=> ?_,λhb=> ?_⟩
   ·have Gh:y≠0:=by simpa using hb
    refine ⟨_,λρ' M2 h2=>h2, ?_⟩;refine ⟨by omega,(x % y).toNat, ?_,rfl,y,x % y,_,rfl,hy,aaM _ Gh, ?_,rfl⟩
    ·have:=aaJ x (show 0 < y by omega);have:=aaM x Gh;omega
    ·rw [<-abr x hy,D0 (by omega)];exact e
   ·have Gh:y=0:=by simpa using hb
    subst Gh;rw [B9 hx] at e;subst e;exact h
  ·exact h.elim
theorem zH{i j:Int}(h:gA j)(l:i.natAbs<=j.natAbs):gA i:=aaP l h
def yO:DF:=λds M q _=>match ds with
 | [.int t, .int b]=>gA b/\(b=0->False)/\(b≠0->q (.tup [.int (ag t b).1, .int (ag t b).2]) M)
 | _=>False
theorem jB:ψ ["top","bottom","divisor"] ["top","bottom"] (ο lA):= .of rfl
theorem vp(F:dH K "fraction" "fraction" lA f fd)(E:Ev K mg Cm){eE:Addr}{dZ:FuncData}(ba:aL P w K mg base 1 "common_divisor" ["one","other"] C9 eE dZ):aB P w K mg base (cQ P w) 2 f fd ["top","bottom"] (dw K yO):=by
 refine F.fZ jB (λds M q x h=> ?_) (λbK A outer s H E' hr=>⟨_,(η (aC (cb hr (jv 1) ι) (μ kL) Λ)
   (η (τ 2 jB.nd (ax ba hr ξ (Υ (jv 0) (Υ (jv 1) ε))))
   (η (h_ (aC (qK (jv 1) ι) (μ (τ 2 jB.nd (qS (jv 2)))) Λ))
   (μ (χ (aq (ζ (Bf (jv 0) (jv 2)) (ζ (Bf (jv 1) (jv 2)) ε aN) aN))))))),λds M q x h=> ?_⟩)
 ·unfold yO at h;split at h; · rfl
  ·exact h.elim
 ·unfold yO at h;split at h
  ·rename_i t b;obtain ⟨hB,h0,h1⟩:=h;refine ⟨λhb=> ?_,λhb=> ?_⟩
   ·exact h0 (by simpa using hb)
   ·have HX:b≠0:=by simpa using hb
    refine ⟨λρ M'=>M'=M/\ρ=[some (.int t),some (.int b),some (.int (dv t b))],⟨λhn=> ?_,λhn=> ?_⟩, ?_⟩
    ·have JY:b < 0:=by simpa using hn
     exact ⟨rfl,by unfold dv;rw [if_pos JY];rfl⟩
    ·have JY:¬b < 0:=by simpa using hn
     exact ⟨rfl,by unfold dv;rw [if_neg JY];rfl⟩
    ·rintro ρ M' ⟨rfl,rfl⟩;have hd:=zb (t:=t) HX;have TC:gA (dv t b):=zH hB (tO HX);exact ⟨⟨hd,TC⟩,⟨hd,TC⟩,fI,h1 HX⟩
  ·exact h.elim
abbrev Fr:=Int×Int
def Τ(p:Fr):Dt:= .tup [.int p.1, .int p.2]
def bM(p:Fr):Bool:=decide ((if p.1 < 0 then -p.1 else p.1)<=10 ^ 30)&&decide (p.2<=1000000)
def pE:DF:=λds M q _=>∃p,ds=[Τ p]/\q (.bl (bM p)) M
theorem Al:ψ ["pay"] ["pay"] (ο nP):= .of rfl
theorem xQ(F:dH K "fits_pay" "fits_pay" nP f fd)(E:Ev K mg Cm):aB P w K mg base (cQ P w) 1 f fd ["pay"] (dw K pE):=by
 refine F.fZ Al (λds M q x h=> ?_) (λbK A outer s H E' hr=>⟨_,(μ (χ (dU (wZ (y6 E.pK (ζ (Γ (jv 0) ι) ε az)) (fM ι ι)) (g8 (wZ (Γ (jv 0) ι) (oM E.gz)))))),λds M q x h=> ?_⟩)
 ·obtain ⟨p,rfl,_⟩:=h;rfl
 ·obtain ⟨p,rfl,h⟩:=h;refine ⟨⟨by decide,by decide,by decide⟩,λh1=> ?_,λh1=> ?_⟩
  ·have e:bM p=decide (p.2<=1000000):=by unfold bM;rw [show decide ((if p.1 < 0 then -p.1 else p.1)<=10 ^ 30)=true from h1];rfl
   rw [e] at h;exact h
  ·have e:bM p=false:=by unfold bM;rw [show decide ((if p.1 < 0 then -p.1 else p.1)<=10 ^ 30)=false from h1];rfl
   rw [e] at h;exact h
theorem nE{ok:Ms->Prop}(h:i0 M d=some (xs,ok)):ok M:=by
 cases d with
 | lst ds=>cases h;trivial
 | cT ns=>cases h;trivial
 | loc k=>
  have h:(match M[k]? with | some (.lst xs)=>some (xs,λM':Ms=>M'[k]? =some (.lst xs)) | _=>none)=some (xs,ok):=h;split at h
  ·rename_i ys hm;cases h;exact hm
  ·cases h
 | _=>cases h
theorem n9{ok:Ms->Prop}(h:i0 M d=some (xs,ok)):ph M d=some (xs,ok):=by
 cases d with
 | lst ds=>cases h;rfl
 | cT ns=>cases h;rfl
 | loc k=>exact h
 | _=>cases h
theorem aP{ok:Ms->Prop}{q:List Dt->(Ms->Prop)->Ms->Prop}(hv:ρ[i]? =some (some d))(hl:i0 M d=some (xs,ok))(h:q xs ok M):dX (d8 i) ρ M q x:=by unfold dX d8;rw [hv];show (match ph M d with | some (xs,ok)=>q xs ok M | none=>False);rw [n9 hl];exact h
theorem bg{n:Int}(h:n.natAbs < 2 ^ k)(hk:k<=8000:=by decide):gA n:=aaC h (Nat.pow_le_pow_right (by decide) hk)
def ah(t:Int)(p:Fr)(size:Int):Bool:=decide (0<=t)&&(decide (t < size)&&bM p)
def rh:DF:=λds M q _=>∃t p r size,ds=[.tup (.int t::Τ p::r), .int size]/\q (.bl (ah t p size)) M
theorem wO:ψ ["door","size"] ["door","size"] (ο lS):= .of rfl
theorem uQ(F:dH K "fits_door" "fits_door" lS f fd)(E:Ev K mg Cm){nM:Addr}{nY:FuncData}(dQ:aL P w K mg base 1 "fits_pay" ["pay"] pE nM nY):aB P w K mg base (cQ P w) 2 f fd ["door","size"] (dw K rh):=by
 refine F.fZ wO (λds M q x h=> ?_) (λbK A outer s H E' hr=>⟨_,(μ (χ (dU (wZ ι (Γ (jv 0) ι)) (dU (FQ (Γ (jv 0) ι) (jv 1)) (g8 (ax dQ hr ξ (ζ (Γ (jv 0) ι) ε az))))))),λds M q x h=> ?_⟩)
 ·obtain ⟨t,p,r,size,rfl,_⟩:=h;rfl
 ·obtain ⟨t,p,r,size,rfl,h⟩:=h;walk_at "vc";refine π rfl ao ?_;refine ⟨λh1=> ?_,λh1=> ?_⟩
  ·refine π rfl ao ⟨λh2=> ?_,λh2=> ?_⟩
   ·refine π rfl (Ζ (j:=1) rfl) ⟨p,rfl, ?_⟩;have e:ah t p size=bM p:=by unfold ah;rw [h1,h2];rfl
    rw [<-e];exact h
   ·have e:ah t p size=false:=by unfold ah;rw [h1,h2];rfl
    rw [<-e];exact h
  ·have e:ah t p size=false:=by unfold ah;rw [h1];rfl
   rw [<-e];exact h
abbrev bT:=Int×Fr×List Fr
def aH(d:bT):Dt:= .tup (.int d.1::Τ d.2.1::d.2.2.map Τ)
def ω(ds:List bT)(size:Int):Bool:=decide (1<=ds.length)&&decide (ds.length<=6)&&ds.all λd=>ah d.1 d.2.1 size
def nV:DF:=λas M q _=>∃d size ds ok,as=[d, .int size]/\i0 M d=some (ds.map aH,ok)/\ds.length<=100/\q (.bl (ω ds size)) M
theorem mC:ψ ["doors","size"] ["doors","size"] (ο jC):= .of rfl
theorem sA(F:dH K "fits_doors" "fits_doors" jC f fd)(E:Ev K mg Cm){zL:Addr}{Aw:FuncData}(jJ:aL P w K mg base 2 "fits_door" ["door","size"] rh zL Aw):aB P w K mg base (cQ P w) 3 f fd ["doors","size"] (dw K nV):=by
 refine F.fZ mC (λds M q x h=> ?_) (λbK A outer s H E' hr=>⟨_,(η (aC (JW.jt (mq (qK (bL E.bx (Υ (jv 0) ε)) ι) (kZ (Hq (bL E.bx (Υ (jv 0) ε)) (oM E.mE))))) (μ (χ Il)) Λ)
   (μ (χ (N4 E.y9 (ζ (dG (ys:=["size"]) (Θ:=[1]) (.of mC rfl rfl rfl) (bF (jv 0)) (λC s H fp=>(ax jJ hr (cM (P:=P) (w:=w)) (Υ (jv 0) (Υ (jv 1) ε))))) ε))))),λds M q x h=> ?_⟩)
 ·obtain ⟨d,size,ds,ok,rfl,_⟩:=h;rfl
 ·obtain ⟨d,size,ds,ok,rfl,hl,hz,h⟩:=h;have hs:=kD hl;walk_at "vc";refine Φ hs ⟨λh1=> ?_,λh1=> ?_⟩
  ·refine ⟨λ_=> ?_,λz=>(nomatch z)⟩;have e:ω ds size=false:=by
    have:(ds.length:Int) < 1:=by simpa using h1
    unfold ω;rw [aaK (by omega)];rfl
   rw [<-e];exact h
  ·have h1:¬(ds.length:Int) < 1:=by simpa using h1
   refine Φ hs ⟨λh2=> ?_,λh2=> ?_⟩
   ·have e:ω ds size=false:=by
     have:6 < (ds.length:Int):=by simpa using h2
     unfold ω;rw [aaK (p:=ds.length<=6) (by omega),Bool.and_false];rfl
    rw [<-e];exact h
   ·have h2:¬6 < (ds.length:Int):=by simpa using h2
    refine aP rfl hl ⟨by rw [aac];exact aam hz (by decide), ?_⟩;refine cy (f:=λd=> .bl (match d with | .tup (.int t:: .tup [.int a, .int b]::_)=>ah t (a,b) size | _=>false)) (nE hl) (λx hx q hq=> ?_) ?_
    ·obtain ⟨y,_,rfl⟩:=aaj.mp hx;exact ⟨y.1,y.2.1,y.2.2.map Τ,size,rfl,hq⟩
    ·refine ⟨ds.map λd=>ah d.1 d.2.1 size, ?_, ?_⟩
     ·rw [aay,aaS,aay];rfl
     ·have e:ω ds size=(ds.map λd=>ah d.1 d.2.1 size).all id:=by unfold ω;rw [aaq (show 1<=ds.length by omega),aaq (show ds.length<=6 by omega),List.all_map];rfl
      rw [<-e];exact h
def h8(cs:List Fr):Int:=cs.foldl (λb c=>b * c.2 / g b c.2) 1
theorem gY{c:Int}(hb:0 < b)(hc:0 < c):0 < b * c / g b c/\b * c / g b c<=b * c/\0 < g b c/\g b c<=c:=by
 have hg:0 < g b c:=uK (by omega);have UT:0 < b * c:=Int.mul_pos hb hc;have hd:g b c∣c:=Int.gcd_dvd_right ..;have hle:g b c<=c:=Int.le_of_dvd hc hd;have h1:c<=b * c:=by have:=Int.mul_le_mul_of_nonneg_right (show 1<=b by omega) (show 0<=c by omega);simpa using this
 refine ⟨Int.ediv_pos_of_pos_of_dvd UT (by omega) (Int.dvd_mul_of_dvd_right hd), ?_,hg,hle⟩;exact Int.ediv_le_self _ (by omega)
def MR(cs:List Fr):Prop:=cs.length<=12/\∀c∈cs,0 < c.2/\c.2 < 2 ^ 200/\c.1.natAbs < 2 ^ 200
def Ux(cs:List Fr):Prop:=cs.length<=13/\∀c∈cs,0 < c.2/\c.2 < 2 ^ 200
theorem lI:∀(cs:List Fr) (b:Int) (k:Nat),0 < b->b<=2 ^ (200 * k)->(∀c∈cs,0 < c.2/\c.2 < 2 ^ 200)->0 < cs.foldl (λb c=>b * c.2 / g b c.2) b/\cs.foldl (λb c=>b * c.2 / g b c.2) b<=2 ^ (200 * (k+cs.length))
 | [],b,k,h0,h1,_=>⟨h0,h1⟩
 | c::cs,b,k,h0,h1,hc=>by
  obtain ⟨c0,c1⟩:=hc c aak;obtain ⟨s0,s1,_⟩:=gY h0 c0;have AI:b * c.2 / g b c.2<=2 ^ (200 * (k+1)):=by refine Int.le_trans s1 ?_;rw [show 200 * (k+1)=200 * k+200 by omega,Int.pow_add];exact Int.mul_le_mul h1 (aaT c1) (aaT c0) (aaT (Int.pow_pos (by decide)))
  have:=lI cs _ (k+1) s0 AI λd hd=>hc d (aai _ hd);rw [List.foldl_cons,aaN,show k+(cs.length+1)=k+1+cs.length by omega];exact this
theorem NW{n:Int}(h0:0<=n)(h:n<=2 ^ k)(hk:k < 8000):gA n:=by
 refine bg (k:=k+1) ?_ hk;have:(n.natAbs:Int) < ((2 ^ (k+1):Nat):Int):=by rw [abN h0,Int.natCast_pow,Int.pow_succ];have:(0:Int) < 2 ^ k:=Int.pow_pos (by decide);show n < 2 ^ k * 2;omega
 exact Int.ofNat_lt.mp this
theorem jh:∀(cs:List Fr) (b:Int),0 < b->(∀c∈cs,0 < c.2)->0 < cs.foldl (λb c=>b * c.2 / g b c.2) b
 | [],_,h0,_=>h0
 | c::cs,b,h0,hc=>jh cs _ (gY h0 (hc c aak)).1 λd hd=>hc d (aai _ hd)
theorem BJ{n:Int}(h0:0<=n)(h:n < 2 ^ k)(hk:k<=8000):gA n:=by
 refine bg (k:=k) ?_ hk;have:(n.natAbs:Int) < ((2 ^ k:Nat):Int):=by rw [abN h0,Int.natCast_pow];exact h
 exact Int.ofNat_lt.mp this
def i6:DF:=λds M q _=>∃cs:List Fr,ds=[.lst (cs.map Τ)]/\Ux cs/\q (.int (h8 cs)) M
theorem cK:ψ ["chances","bottom","chance"] ["chances"] (ο fi):= .of rfl
theorem mY(F:dH K "common_bottom" "common_bottom" fi f fd)(E:Ev K mg Cm){eE:Addr}{dZ:FuncData}(ba:aL P w K mg base 1 "common_divisor" ["one","other"] C9 eE dZ):aB P w K mg base (cQ P w) 2 f fd ["chances"] (dw K i6):=by
 refine F.fZ cK (λds M q x h=> ?_) (λbK A outer s H E' hr=>⟨_,(η (τ 1 cK.nd ι)
   (η (j9 (bF (jv 0)) (au (i:=2) cK.nd rfl (Or.inl rfl)) bo (μ (τ 1 cK.nd (bO (br (jv 1) (Γ (jv 2) ι)) (ax ba hr ξ (Υ (jv 1) (ζ (Γ (jv 2) ι) ε az)))))))
   (μ (χ (jv 1))))),λds M q x h=> ?_⟩)
 ·obtain ⟨cs,rfl,_⟩:=h;rfl
 ·obtain ⟨cs,rfl,⟨hz,hc⟩,h⟩:=h;walk_at "vc";refine aP (i:=0) rfl rfl ?_;refine fJ (λxs ρ M'=>M'=M/\∃El Ι r,cs=El++Ι/\xs=Ι.map Τ/\ρ=[some (.lst (cs.map Τ)),some (.int (h8 El)),r]) (λ_ _ _ _=>trivial) (λx xs ρ M' hj AF=> ?_) (λρ M' hj=> ?_) _ _ _ ⟨rfl,[],cs,none,rfl,rfl,rfl⟩
  ·obtain ⟨rfl,El,Ι,r,e,ex,rfl⟩:=hj;cases Ι with
   | nil=>cases ex
   | cons c Ι=>
    cases ex;have hd:∀d∈El,0 < d.2/\d.2 < 2 ^ 200:=λd hd=>by obtain ⟨a,b⟩:=hc d (by rw [e];exact aaW _ hd);exact ⟨a,b⟩
    obtain ⟨c0,c1⟩:=hc c (by rw [e];exact aax _ aak);obtain ⟨b0,b1⟩:=lI El 1 0 (by decide) (by decide) hd;have hl:El.length<=13:=by have:=aa3 List.length e;rw [aag] at this;omega
    obtain ⟨s0,s1,g0,g1⟩:=gY b0 c0;refine ⟨⟨NW (aaT b0) b1 (by omega),BJ (aaT c0) c1 (by decide)⟩,⟨g0,BJ (aaT g0) (Int.lt_of_le_of_lt g1 c1) (by decide)⟩, ?_⟩;refine AF _ _ ⟨rfl,El++[c],Ι,some (Τ c),by rw [e];simp,rfl, ?_⟩;have e2:h8 (El++[c])=h8 El * c.2 / g (h8 El) c.2:=by unfold h8;rw [List.foldl_append];rfl
    rw [e2];rfl
  ·obtain ⟨rfl,El,Ι,r,e,ex,rfl⟩:=hj;cases Ι with
   | nil=>rw [aaU] at e;subst e;exact h
   | cons c Ι=>cases ex
def Η(cs:List Fr):Bool:= !(cs.any λc=>decide (c.1<=0))&&(decide ((cs.map λc=>c.1 * (h8 cs / c.2)).sum=h8 cs)&&decide (h8 cs<=1000000))
def kj:DF:=λds M q _=>∃cs:List Fr,ds=[.lst (cs.map Τ)]/\MR cs/\q (.bl (Η cs)) M
theorem b5:ψ ["chances","bottom","whole"] ["chances"] (ο gD):= .of rfl
theorem pF(F:dH K "fits_chances" "fits_chances" gD f fd)(E:Ev K mg Cm){qo:Addr}{pR:FuncData}(eB:aL P w K mg base 2 "common_bottom" ["chances"] i6 qo pR):aB P w K mg base (cQ P w) 3 f fd ["chances"] (dw K kj):=by
 refine F.fZ b5 (λds M q x h=> ?_) (λbK A outer s H E' hr=>⟨_,(η (aC (eG (N_ E.yg (ζ (dG (ys:=[]) (Θ:=[]) (.of b5 rfl rfl rfl) (bF (jv 0)) (λC s H fp=>(wZ (Γ (jv 0) ι) ι))) ε))) (μ (χ Il)) Λ)
   (η (τ 1 b5.nd (ax eB hr ξ (Υ (jv 0) ε)))
   (η (τ 2 b5.nd (HA E.vZ (ζ (dG (ys:=["bottom"]) (Θ:=[1]) (.of b5 rfl rfl rfl) (bF (jv 0)) (λC s H fp=>(br (Γ (jv 0) ι) (bO (jv 1) (Γ (jv 0) ι))))) ε)))
   (μ (χ (dU (N6 hr (jv 2) (jv 1)) (g8 (wZ (jv 1) (oM E.gz))))))))),λds M q x h=> ?_⟩)
 ·obtain ⟨cs,rfl,_⟩:=h;rfl
 ·obtain ⟨cs,rfl,RU,h⟩:=h;obtain ⟨hz,hc⟩:=id RU;have NM:(cs.map Τ).length<=sizeLine:=by rw [aac];exact aam hz (by decide)
  obtain ⟨b0,b1⟩:=lI cs 1 0 (by decide) (by decide) λc h=>⟨(hc c h).1,(hc c h).2.1⟩;walk_at "vc";refine aP (i:=0) rfl rfl ⟨NM, ?_⟩;refine cy (f:=λd=> .bl (match d with | .tup [.int a, .int b]=>decide (a<=0) | _=>false)) trivial (λx hx q hq=> ?_) ?_
  ·obtain ⟨y,_,rfl⟩:=aaj.mp hx;exact hq
  ·refine ⟨cs.map λc=>decide (c.1<=0),by rw [aay,aaS,aay];rfl,λ_ z=>(nomatch z),λ_ z=>(nomatch z), ?_⟩;have ea:(cs.map λc=>decide (c.1<=0)).any id=cs.any λc=>decide (c.1<=0):=by rw [List.any_map];rfl
   rw [ea];refine ⟨λh1=> ?_,λh1=> ?_⟩
   ·have e:Η cs=false:=by unfold Η;rw [h1];rfl
    rw [<-e];exact h
   ·refine ⟨cs,rfl,⟨by omega,λc h=>⟨(hc c h).1,(hc c h).2.1⟩⟩, ?_⟩;walk_at "vc";refine aP (i:=0) rfl rfl ⟨NM, ?_⟩;refine cy (f:=λd=> .int (match d with | .tup [.int a, .int b]=>a * (h8 cs / b) | _=>0)) trivial (λx hx q hq=> ?_) ?_
    ·obtain ⟨y,hy,rfl⟩:=aaj.mp hx;obtain ⟨y0,y1,y2⟩:=hc y hy;refine ⟨⟨y0,BJ (aaT y0) y1 (by decide)⟩,⟨bg y2, ?_⟩,hq⟩;refine NW (k:=200 * (0+cs.length)) (Int.ediv_nonneg (aaT b0) (aaT y0)) (Int.le_trans (Int.ediv_le_self _ (aaT b0)) b1) (by omega)
    ·refine ⟨cs.map λc=>c.1 * (h8 cs / c.2),by rw [aay,aaS,aay];rfl,⟨_,_,rfl⟩, ?_⟩;refine ⟨λh2=> ?_,λh2=> ?_⟩
     ·have e:Η cs=decide (h8 cs<=1000000):=by unfold Η;rw [h1,h2];rfl
      rw [e] at h;exact h
     ·have e:Η cs=false:=by unfold Η;rw [h1,h2];rfl
      rw [<-e];exact h
inductive Rw where
 | fin (p:Fr)
 | ν (k:Str) (ds:List bT)
def θ(d:bT):Fr:=d.2.2.headD (0,1)
def b8:Rw->Prop
 | .fin p=>0 < p.2
 | .ν k ds=>k≠"end"/\ds.length<=12/\(k="chance"->(∀d∈ds,d.2.2=[θ d])/\MR (ds.map θ))/\∀d∈ds,d.2.2.length<=1/\0 < d.2.1.2
def hV(M:Ms)(d:Dt):Rw->Prop
 | .fin p=>d= .tup [.str "end",Τ p]
 | .ν k ds=>∃e ok,d= .tup [.str k,e]/\i0 M e=some (ds.map aH,ok)
def Μ:Rw->Dt
 | .fin p=> .tup [.str "end",Τ p]
 | .ν k ds=> .tup [.str k, .lst (ds.map aH)]
theorem yW(M:Ms)(r:Rw):hV M (Μ r) r:=by
 cases r with
 | fin p=>rfl
 | ν k ds=>exact ⟨_,_,rfl,rfl⟩
theorem sI(p:Fr):(Τ p).under n:=⟨trivial,trivial,trivial⟩
theorem zc{n:Nat}:∀(ps:List Fr),Dt.aV n (ps.map Τ)
 | []=>trivial
 | p::ps=>⟨sI p,zc ps⟩
theorem K6(d:bT):(aH d).under n:=⟨trivial,sI _,zc _⟩
theorem dD{n:Nat}:∀(ds:List bT),Dt.aV n (ds.map aH)
 | []=>trivial
 | d::ds=>⟨K6 d,dD ds⟩
theorem kF(r:Rw):(Μ r).under n:=by
 cases r with
 | fin p=>exact ⟨trivial,sI p,trivial⟩
 | ν k ds=>exact ⟨trivial,dD ds,trivial⟩
def bu(k:Str):Bool:=k=="one" || k=="other"
def eP(r:Rw)(size:Int):Bool:=match r with
 | .fin p=>bM p
 | .ν k ds=>if bu k then ω ds size else if k="chance" then ω ds size&&Η (ds.map θ) else false
theorem CV{j:Int}{ok:Ms->Prop}{q:List Dt->(Ms->Prop)->Ms->Prop}(hv:ρ[i]? =some (some (.tup ds)))(hj:gS ds j=some d)(hl:i0 M d=some (xs,ok))(h:q xs ok M):dX (iH cN (d8 i) (dC (.int j))) ρ M q x:=by unfold dX iH d8;rw [hv];show cN (.tup ds) (.int j) M (λd M1=>match ph M1 d with | some (xs,ok)=>q xs ok M1 | none=>False);refine π rfl hj ?_;show (match ph M d with | some (xs,ok)=>q xs ok M | none=>False);rw [n9 hl];exact h
theorem Dv{k:Str}:OO (.str k) [.str "one", .str "other"]=bu k:=by show ((("one":Str)==k) || ((("other":Str)==k) || false))=(k=="one" || k=="other");rw [Bool.or_false,BEq.comm (a:=("one":Str)),BEq.comm (a:=("other":Str))]
def vh:DF:=λas M q _=>∃d r size,as=[d, .int size]/\hV M d r/\b8 r/\q (.bl (eP r size)) M
theorem mf:ψ ["row","size","kind"] ["row","size"] (ο pO):= .of rfl
theorem xD   (F:dH K "fits_row" "fits_row" pO f fd) (E:Ev K mg Cm) {nM:Addr} {nY:FuncData} (dQ:aL P w K mg base 1 "fits_pay" ["pay"] pE nM nY) {xU:Addr} {wB:FuncData} (fc:aL P w K mg base 3 "fits_doors" ["doors","size"] nV xU wB) {tV:Addr} {sH:FuncData} (fm:aL P w K mg base 3 "fits_chances" ["chances"] kj tV sH):aB P w K mg base (cQ P w) 4 f fd ["row","size"] (dw K vh):=by
 refine F.fZ mf (λds M q x h=> ?_) (λbK A outer s H E' hr=>⟨_,(η (τ 2 mf.nd (Γ (jv 0) ι))
   (η (aC (cb hr (jv 2) fE) (μ (χ (ax dQ hr ξ (ζ (Γ (jv 0) ι) ε az)))) Λ)
   (η (aC (JM (jv 2) (LQ E.DU)) (μ (χ (ax fc hr ξ (ζ (Γ (jv 0) ι) (Υ (jv 1) ε) az)))) Λ)
   (η (aC (cb hr (jv 2) fE) (μ (χ (dU (ax fc hr ξ (ζ (Γ (jv 0) ι) (Υ (jv 1) ε) az)) (g8 (ax fm hr ξ (ζ (dG (ys:=[]) (Θ:=[]) (.of mf rfl rfl rfl) (bF (Γ (jv 0) ι)) (λC s H fp=>(Γ (jv 0) ι))) ε)))))) Λ)
   (μ (χ Il)))))),λds M q x h=> ?_⟩)
 ·obtain ⟨d,r,size,rfl,_⟩:=h;rfl
 ·obtain ⟨d,r,size,rfl,ra,ro,h⟩:=h;cases r with
  | fin p=>
   have ra:d= .tup [.str "end",Τ p]:=ra;subst ra;exact ⟨λ_=>⟨p,rfl,h⟩,λz=>(nomatch z)⟩
  | ν k ds=>
   obtain ⟨e,ok,rfl,hl⟩:=ra;obtain ⟨hk,hz,yt,_⟩:=ro;refine ⟨λz=>aaH (aaB z) hk,λ_=> ?_⟩;refine ⟨.str k,[.str "one", .str "other"],[.str "one", .str "other"],rfl,rfl,rfl, ?_⟩;rw [Dv];refine ⟨λh1=> ?_,λh1=> ?_⟩
   ·refine ⟨e,size,ds,ok,rfl,hl,by omega, ?_⟩;have e1:eP (.ν k ds) size=ω ds size:=by show (if bu k then _ else _)=_;rw [aaI h1]
    rw [<-e1];exact h
   ·have e1:eP (.ν k ds) size=if k="chance" then ω ds size&&Η (ds.map θ) else false:=by show (if bu k then _ else _)=_;rw [aaF (by rw [h1];decide)]
    rw [e1] at h;refine ⟨λh2=> ?_,λh2=> ?_⟩
    ·have h2:k="chance":=aaB h2;rw [aaI h2] at h;obtain ⟨Ma,RU⟩:=yt h2;refine ⟨e,size,ds,ok,rfl,hl,by omega,λh3=> ?_,λh3=> ?_⟩
     ·rw [h3,Bool.true_and] at h;show dX _ _ _ _ _;refine CV (i:=0) (j:=1) (ds:=[.str k,e]) rfl (Ζ (j:=1) rfl) hl ⟨by rw [aac];exact aam hz (by decide), ?_⟩;refine cy (f:=λd=>match d with | .tup [_,_,c]=>c | _=> .bf) (nE hl) (λx hx q hq=> ?_) ?_
      ·obtain ⟨y,hy,rfl⟩:=aaj.mp hx;have ey:aH y= .tup [.int y.1,Τ y.2.1,Τ (θ y)]:=by unfold aH;rw [Ma y hy];rfl
       rw [ey] at hq⊢;exact hq
      ·refine ⟨ds.map θ, ?_,RU,h⟩;rw [aaS,aay,aay];have:∀y∈ds,((λd=>match d with | Dt.tup [_,_,c]=>c | _=>Dt.bf) ∘ aH) y=(Τ ∘ θ) y:=λy hy=>by
        have ey:aH y= .tup [.int y.1,Τ y.2.1,Τ (θ y)]:=by unfold aH;rw [Ma y hy];rfl
        show (match aH y with | Dt.tup [_,_,c]=>c | _=>Dt.bf)=Τ (θ y);rw [ey]
       rw [aaR this]
     ·rw [h3,Bool.false_and] at h;exact h
    ·have h2:k≠"chance":=abJ h2;rw [aaF h2] at h;exact h
def jr:DF:=λas M q _=>∃d r,as=[d]/\hV M d r/\b8 r/\match r with
 | .fin p=>q (.tup [.str "end",Τ p]) M
 | .ν k ds=>q (.tup [.str k, .loc M.length]) (M++[.lst (ds.map aH)])
theorem uM:ψ ["row"] ["row"] (ο jE):= .of rfl
theorem ur(F:dH K "copied_row" "copied_row" jE f fd)(E:Ev K mg Cm):aB P w K mg base (cQ P w) 1 f fd ["row"] (dw K jr):=by
 refine F.fZ uM (λds M q x h=> ?_) (λbK A outer s H E' hr=>⟨_,(η (aC (cb hr (Γ (jv 0) ι) fE) (μ (χ (aq (ζ (Γ (jv 0) ι) (ζ (Γ (jv 0) ι) ε az) az)))) Λ)
   (μ (χ (aq (ζ (Γ (jv 0) ι) (ζ (su E.gB (ζ (Γ (jv 0) ι) ε az)) ε aQ) az))))),λds M q x h=> ?_⟩)
 ·obtain ⟨d,r,rfl,_⟩:=h;rfl
 ·obtain ⟨d,r,rfl,ra,ro,h⟩:=h;cases r with
  | fin p=>
   have ra:d= .tup [.str "end",Τ p]:=ra;subst ra;exact ⟨λ_=>⟨fI,h⟩,λz=>(nomatch z)⟩
  | ν k ds=>
   obtain ⟨e,ok,rfl,hl⟩:=ra;refine ⟨λz=>aaH (aaB z) ro.1,λ_=> ?_⟩;show (match gu M e with | some xs=>_ | none=>False);rw [kD hl];exact ⟨fI,h⟩
def c5(p:Fr):Bool:=decide (0<=p.1)&&(decide (p.1 < p.2)&&decide (p.2<=1000))
def pN:DF:=λas M q _=>∃p,as=[Τ p]/\q (.bl (c5 p)) M
theorem vn:ψ ["share"] ["share"] (ο jD):= .of rfl
theorem sk(F:dH K "fits_share" "fits_share" jD f fd)(E:Ev K mg Cm):aB P w K mg base (cQ P w) 1 f fd ["share"] (dw K pN):=by
 refine F.fZ vn (λds M q x h=> ?_) (λbK A outer s H E' hr=>⟨_,(μ (χ (dU (wZ ι (Γ (jv 0) ι)) (dU (FQ (Γ (jv 0) ι) (Γ (jv 0) ι)) (g8 (wZ (Γ (jv 0) ι) (oM E.eA))))))),λds M q x h=> ?_⟩)
 ·obtain ⟨p,rfl,_⟩:=h;rfl
 ·obtain ⟨p,rfl,h⟩:=h;unfold c5 at h;refine ⟨λh1=>⟨λh2=> ?_,λh2=> ?_⟩,λh1=> ?_⟩
  ·rw [show decide (0<=p.1)=true from h1,show decide (p.1 < p.2)=true from h2] at h;exact h
  ·rw [show decide (0<=p.1)=true from h1,show decide (p.1 < p.2)=false from h2] at h;exact h
  ·rw [show decide (0<=p.1)=false from h1] at h;exact h
theorem GX{c:Int}(hb:b∣S)(hc:c∣S)(HX:0 < b)(Wa:0 < c):b * c / g b c∣S/\b∣b * c / g b c/\c∣b * c / g b c:=by
 have e:b * c / g b c=(Int.lcm b c:Nat):=by
  have h:=Int.gcd_mul_lcm b c;have hg:0 < g b c:=uK (by omega);have h2:((Int.gcd b c:Nat):Int) * ((Int.lcm b c:Nat):Int)=b * c:=by rw [<-Int.natCast_mul,h,Int.natCast_mul,abN (aaT HX),abN (aaT Wa)]
  rw [<-h2];exact Int.mul_ediv_cancel_left _ (by unfold g at hg;omega)
 rw [e];exact ⟨Int.coe_lcm_dvd hb hc,Int.dvd_lcm_left ..,Int.dvd_lcm_right ..⟩
theorem oH:∀(cs:List Fr) (b S:Int),0 < b->b∣S->(∀c∈cs,0 < c.2/\c.2∣S)->cs.foldl (λb c=>b * c.2 / g b c.2) b∣S/\b∣cs.foldl (λb c=>b * c.2 / g b c.2) b/\∀c∈cs,c.2∣cs.foldl (λb c=>b * c.2 / g b c.2) b
 | [],b,S,_,h,_=>⟨h,Int.dvd_refl b,λc hc=>nomatch hc⟩
 | c::cs,b,S,h0,h,hc=>by
  obtain ⟨c0,cS⟩:=hc c aak;obtain ⟨d1,d2,d3⟩:=GX h cS h0 c0;obtain ⟨i1,i2,i3⟩:=oH cs _ S (gY h0 c0).1 d1 λx hx=>hc x (aai _ hx);rw [List.foldl_cons];refine ⟨i1,Int.dvd_trans d2 i2,λx hx=> ?_⟩;rcases aaz.mp hx with rfl | hx
  ·exact Int.dvd_trans d3 i2
  ·exact i3 x hx
theorem mM(m:Int)(f:Int->Int):∀(ws:List Int),(ws.map λw=>m * f w).sum=m * (ws.map f).sum
 | []=>by simp
 | w::ws=>by simp only [List.map_cons,List.sum_cons];rw [mM m f ws,Int.mul_add]
theorem Bm(h:0 < b):(ag t b).2∣b:=by obtain ⟨p,q,e,_,_,_,eb⟩:=dN (t:=t) (show b≠0 by omega);rw [e];exact ⟨dv t b,by show b=q * dv t b;rw [abT];exact eb⟩
theorem uN(ht:0 < t)(h:0 < b):0 < (ag t b).1:=by have hc:=ck (t:=t) (show b≠0 by omega);have hp:=bQ (t:=t) (show b≠0 by omega);have h1:0 < t * (ag t b).2:=Int.mul_pos ht hp;rw [hc] at h1;exact Int.pos_of_mul_pos_right h1 h |> λz=>z
theorem jw{ws:List Int}(hS:ws.sum=S)(hw:∀w∈ws,0 < w)(hn:ws≠[])(SY:S<=1000000)(hz:ws.length<=12):Η (ws.map λw=>ag w S)=true/\MR (ws.map λw=>ag w S):=by
 have pos:∀{l:List Int},(∀w∈l,0 < w)->0<=l.sum/\(l≠[]->0 < l.sum)/\∀w∈l,w<=l.sum:=by
  intro l
  induction l with
  | nil=>exact λ_=>⟨by simp,λz=>absurd rfl z,λw hw=>nomatch hw⟩
  | cons a l ih=>
   intro h;obtain ⟨i1,i2,i3⟩:=ih λw hw=>h w (aai _ hw);have:=h a aak;rw [abi];refine ⟨by omega,λ_=>by omega,λw hw=> ?_⟩;rcases aaz.mp hw with rfl | hw
   ·omega
   ·have:=i3 w hw;omega
 obtain ⟨_,p2,p3⟩:=pos hw;have S0:0 < S:=by rw [<-hS];exact p2 hn
 have Lh:S≠0:=by omega
 have hd:∀c∈ws.map (λw=>ag w S),0 < c.2/\c.2∣S:=λc hc=>by obtain ⟨w,_,rfl⟩:=aaj.mp hc;exact ⟨bQ Lh,Bm S0⟩
 obtain ⟨⟨m,hm⟩,_,hB⟩:=oH (ws.map λw=>ag w S) 1 S (by decide) (Int.one_dvd _) hd;have B0:0 < h8 (ws.map λw=>ag w S):=by refine (jh (ws.map λw=>ag w S) 1 (by decide) λc hc=>(hd c hc).1)
 generalize QT:h8 (ws.map λw=>ag w S)=B at *
 have hm:S=B * m:=by rw [<-QT];exact hm
 have m0:0 < m:=by
  rcases Int.lt_trichotomy m 0 with h | h | h
  ·have:=Int.mul_neg_of_pos_of_neg B0 h;omega
  ·rw [h,Int.mul_zero] at hm;omega
  ·exact h
 have key:((ws.map λw=>ag w S).map λc=>c.1 * (B / c.2)).sum=B:=by
  have e1:∀w∈ws,m * ((ag w S).1 * (B / (ag w S).2))=w:=λw hw=>by
   have hb:(ag w S).2∣B:=by rw [<-QT];exact hB _ (aaj.mpr ⟨w,hw,rfl⟩)
   obtain ⟨k,hk⟩:=hb;have q0:=bQ (t:=w) Lh;have e2:B / (ag w S).2=k:=by rw [hk];exact abC _ (by omega)
   have hc:=ck (t:=w) Lh;rw [e2];have Hr:S=(ag w S).2 * k * m:=by rw [<-hk];exact hm
   generalize (ag w S).1=x at *
   generalize (ag w S).2=y at *
   have e4:S * x=y * (m * (x * k)):=by rw [Hr];simp only [Int.mul_assoc,Int.mul_comm,Int.mul_left_comm]
   have e3:y * (m * (x * k))=y * w:=by rw [<-e4,<-hc,abT]
   exact abx (by omega) e3
  have e5:m * ((ws.map λw=>ag w S).map λc=>c.1 * (B / c.2)).sum=m * B:=by rw [aay];show m * (ws.map λw=>(ag w S).1 * (B / (ag w S).2)).sum=m * B;rw [<-mM,aaR e1,List.map_id',hS,hm,abT]
  exact abx (by omega) e5
 refine ⟨?_,⟨by rw [aac];exact hz,λc hc=> ?_⟩⟩
 ·unfold Η;rw [QT,key];have ha:((ws.map λw=>ag w S).any λc=>decide (c.1<=0))=false:=by rw [List.any_eq_false];intro c hc;obtain ⟨w,OW,rfl⟩:=aaj.mp hc;have:=uN (hw w OW) S0;simpa using this
  have hle:B<=S:=by have:=Int.mul_le_mul_of_nonneg_left (show 1<=m by omega) (aaT B0);rw [Int.mul_one,<-hm] at this;exact this
  rw [ha,aaq rfl,aaq (show B<=1000000 by omega)];rfl
 ·obtain ⟨w,OW,rfl⟩:=aaj.mp hc;have q0:=bQ (t:=w) Lh;have l1:=oE (t:=w) Lh;have l2:=kC (t:=w) Lh;have:=p3 w OW;have w0:=hw w OW;have big:(1000000:Int) < 2 ^ 200:=by decide
  have Xm:1000000 < 2 ^ 200:=by decide
  exact ⟨q0,by omega,by omega⟩
theorem oX{α:Type}{te:DE}{cs:En}{ok:Ms->Prop}{F:Dt->α->Prop}{f:α->Dt}{M:Ms}{k:List Dt->Ms->Prop}(ho:ok M)(ht:∀x a,F x a->∀q:DQ,q (f a) M->te (some x::cs) M q jj):∀{xs:List Dt} {as:List α} {ae:List Dt},Paired F xs as->k (ae++as.map f) M->gI te cs ok xs ae M k
 | _,_,ae, .nil,h=>⟨ho,by simpa using h⟩
 | _,_,ae, .cons r t,h=>⟨ho,ht _ _ r _ (oX ho ht t (by simpa using h))⟩
theorem vF{C':Addr}{ns ns':List Str}{xs':List Dt}{e:Dt}{ys:List Dt}{ok:Ms->Prop}(hk:M[k]? =some (.ins C ns xs))(h:i0 M e=some (ys,ok)):i0 (M.set k (.ins C' ns' xs')) e=some (ys,ok):=by
 cases e with
 | lst ds=>exact h
 | cT ns=>exact h
 | loc j=>
  have h:(match M[j]? with | some (.lst xs)=>some (xs,λM':Ms=>M'[j]? =some (.lst xs)) | _=>none)=some (ys,ok):=h;have ne:k≠j:=λz=>by subst z;rw [hk] at h;cases h
  show (match (M.set k (.ins C' ns' xs'))[j]? with | some (.lst xs)=>some (xs,λM':Ms=>M'[j]? =some (.lst xs)) | _=>none)=some (ys,ok);rw [aa2 ne];exact h
 | _=>cases h
theorem Ay{C':Addr}{ns ns':List Str}{xs':List Dt}{r:Rw}(hk:M[k]? =some (.ins C ns xs))(h:hV M d r):hV (M.set k (.ins C' ns' xs')) d r:=by
 cases r with
 | fin p=>exact h
 | ν k' ds=>
  obtain ⟨e,ok,h1,h2⟩:=h;exact ⟨e,ok,h1,vF hk h2⟩
theorem zY{f:Str}{v:Dt}{ns:List Str}{ok:Ms->Prop}{q:List Dt->(Ms->Prop)->Ms->Prop}(hv:ρ[i]? =some (some d))(ho:E5 C M d ns ds)(hf:(ns.zip ds).lookup f=some v)(hl:i0 M v=some (xs,ok))(h:q xs ok M):dX (Jf C f (d8 i)) ρ M q x:=by unfold dX Jf d8;rw [hv];refine ⟨ns,ds,v,ho,hf, ?_⟩;show (match ph M v with | some (xs,ok)=>q xs ok M | none=>False);rw [n9 hl];exact h
def Χ(C:Addr)(υ:Fr)(γ:List Rw):Dt:= .obj C ["kept_share","kept_rows"] [Τ υ, .lst (γ.map Μ)]
def C2(Cm:Addr):DF:=λas M q _=>∃k d υ ds γ ok,as=[.loc k,Τ υ,d]/\M[k]? =some (.ins Cm [] [])/\i0 M d=some (ds,ok)/\Paired (hV M) ds γ/\c5 υ=true/\1<=γ.length/\γ.length<=12/\
 (∀r∈γ,b8 r/\eP r γ.length=true)/\q .bf (M.set k (.ins Cm ["kept_share","kept_rows"] [Τ υ, .lst (γ.map Μ)]))
theorem eW:ψ ["self","share","rows","place","row"] ["self","share","rows"] (ο js):= .of rfl
theorem uo(F:dH K "__init__" "Floor.__init__" js f fd)(E:Ev K mg Cm){xW:Addr}{xu:FuncData}(h9:aL P w K mg base 1 "fits_share" ["share"] pN xW xu){Bx:Addr}{BM:FuncData}(lq:aL P w K mg base 4 "fits_row" ["row","size"] vh Bx BM){jy:Addr}{jM:FuncData}(cu:aL P w K mg base 1 "copied_row" ["row"] jr jy jM):aB P w K mg base (cQ P w) 5 f fd ["self","share","rows"] (dw K (C2 Cm)):=by
 refine F.fZ eW (λds M q x h=> ?_) (λbK A outer s H E' hr=>⟨_,(η (aC (lL (eG (ax h9 hr ξ (Υ (jv 1) ε)))) (μ kL) Λ)
   (η (aC (JW.jt (mq (qK (bL E.bx (Υ (jv 2) ε)) ι) (kZ (Hq (bL E.bx (Υ (jv 2) ε)) (oM E.kq))))) (μ kL) Λ)
   (η (j9 (Gy E.fe (Υ (jv 2) ε)) (lN rfl (bB (au (i:=3) eW.nd rfl (Or.inl rfl)) (bB (au (i:=4) eW.nd rfl (Or.inl rfl)) iK))) IC (μ (aC (lL (eG (ax lq hr ξ (Υ (jv 4) (ζ (bL E.bx (Υ (jv 2) ε)) ε aQ))))) (μ kL) Λ)))
   (η (yw E.cH E.fq (jv 0) (jv 1))
   (μ (yw E.cH E.bH (jv 0) (dG (ys:=[]) (Θ:=[]) (.of eW rfl rfl rfl) (bF (jv 2)) (λC s H fp=>(bN (ax cu hr (cM (P:=P) (w:=w)) (Υ (jv 0) ε))))))))))),λds M q x h=> ?_⟩)
 ·obtain ⟨k,d,υ,ds,γ,ok,rfl,_⟩:=h;rfl
 ·obtain ⟨k,d,υ,ds,γ,ok,rfl,hk,hl,hp,hs,h1,S4,NB,h⟩:=h;have hlen:ds.length=γ.length:=Paired.length hp;walk_at "vc";refine ⟨υ,rfl,λz=> ?_,λ_=> ?_⟩
  ·rw [hs] at z;exact nomatch z
  have Rm:=kD hl;refine Φ Rm ⟨λz=> ?_,λ_=> ?_⟩
  ·have:(ds.length:Int) < 1:=by simpa using z
   omega
  refine Φ Rm ⟨λz=> ?_,λ_=> ?_⟩
  ·have:12 < (ds.length:Int):=by simpa using z
   omega
  refine ⟨d,ds,ok,rfl,hl, ?_⟩;refine fJ (λxs ρ M'=>M'=M/\∃n Bb mj a b,xs=jc n Bb/\Paired (hV M) Bb mj/\(∀r∈mj,r∈γ)/\ρ=[some (.loc k),some (Τ υ),some d,a,b]) (λxs ρ M' hj=>by obtain ⟨rfl,_⟩:=hj;exact nE hl) (λx xs ρ M' hj AF=> ?_) (λρ M' hj=> ?_) _ _ _ ⟨rfl,0,ds,γ,none,none,rfl,hp,λ_ h=>h,rfl⟩
  ·obtain ⟨rfl,n,Bb,mj,a,b,ex,LO,xG,rfl⟩:=hj;cases LO with
   | nil=>cases ex
   | cons ra t=>
    rename_i d1 r1 Xu Nf;cases ex;refine Φ Rm ⟨d1,r1,ds.length,rfl,ra,(NB r1 (xG r1 aak)).1,λz=> ?_,λ_=> ?_⟩
    ·rw [hlen,(NB r1 (xG r1 aak)).2] at z;exact nomatch z
    ·exact AF _ _ ⟨rfl,n+1,Xu,Nf,_,_,rfl,t,λr hr=>xG r (aai _ hr),rfl⟩
  ·obtain ⟨rfl,n,Bb,mj,a,b,ex,LO,xG,rfl⟩:=hj;have XW:k < M'.length:=(aad.mp hk).1;refine ⟨k,[],[],rfl,hk,(λz=>(nomatch z)),by decide, ?_⟩;have KP:=vF (C':=Cm) (ns':=["kept_share"]) (xs':=[Τ υ]) hk hl;dsimp only [Ho,List.nil_append];show dX _ _ _ _ _;refine aP (i:=2) rfl KP ⟨by rw [hlen];exact aam S4 (by decide), ?_⟩;have Nn:Paired (λx a=>hV (M'.set k (.ins Cm ["kept_share"] [Τ υ])) x a/\b8 a) ds γ:=by
    have:∀{xs:List Dt} {rs:List Rw},Paired (hV M') xs rs->(∀r∈rs,b8 r)->Paired (λx a=>hV (M'.set k (.ins Cm ["kept_share"] [Τ υ])) x a/\b8 a) xs rs:=by
     intro xs rs hp
     induction hp with
     | nil=>exact λ_=> .nil
     | cons r t ih=>exact λh=> .cons ⟨Ay hk r,h _ aak⟩ (ih λy hy=>h y (aai _ hy))
    exact this hp λr hr=>(NB r hr).1
   refine oX (f:=Μ) (nE KP) (λx a ha q' hq=> ?ht) Nn ?fin
   case ht=>
    obtain ⟨ha,ho⟩:=ha;refine ⟨x,a,rfl,ha,ho, ?_⟩;cases a with
    | fin p=>exact GC ⟨trivial,sI p,trivial⟩ hq
    | ν k2 AD=>exact jn (.tup (.cons (.old trivial) (.cons (.AA (Nat.le_refl _) (by simp) (fF.old (dD AD))) .nil))) hq
   case fin=>
    refine ⟨k,["kept_share"],[Τ υ],rfl,by rw [aa7 XW],by decide,by decide, ?_⟩;rw [List.set_set];exact h
def kindOf:Rw->Str
 | .fin _=>"end"
 | .ν k _=>k
def bW:Rw->List bT
 | .fin _=>[]
 | .ν _ ds=>ds
def G_:Rw->Dt
 | .fin p=>Τ p
 | .ν _ _=> .bf
def je:Nat->List Rw->List Dt
 | _,[]=>[]
 | n, .fin p::r=> .tup [.str "end",Τ p]::je n r
 | n, .ν k _::r=> .tup [.str k, .loc n]::je (n+1) r
def gJ:List Rw->Ms
 | []=>[]
 | .fin _::r=>gJ r
 | .ν _ ds::r=> .lst (ds.map aH)::gJ r
theorem tP{γ:List Rw}{r:Rw}(h:γ[i]? =some r):(γ.map Μ)[i]? =some (Μ r):=by rw [aah,h];rfl
theorem J0{r:Rw}:∃e,Μ r= .tup [.str (kindOf r),e]:=by
 cases r with
 | fin p=>exact ⟨_,rfl⟩
 | ν k ds=>exact ⟨_,rfl⟩
def yY(C:Addr):DF:=λas M q _=>∃υ γ,as=[Χ C υ γ]/\q (.int γ.length) M
theorem vi:ψ ["self"] ["self"] (ο jS):= .of rfl
theorem sG(F:dH K "size" "Floor.size" jS f fd)(E:Ev K mg Cm):aB P w K mg base (cQ P w) 1 f fd ["self"] (dw K (yY Cm)):=by
 refine F.fZ vi (λds M q x h=> ?_) (λbK A outer s H E' hr=>⟨_,(μ (χ (bL E.bx (ζ (rB E.cH E.bH (jv 0)) ε)))),λds M q x h=> ?_⟩)
 ·obtain ⟨υ,γ,rfl,_⟩:=h;rfl
 ·obtain ⟨υ,γ,rfl,h⟩:=h;refine ⟨_,_,_, .inl rfl,rfl, ?_⟩;show dJ [.lst (γ.map Μ)] M _;refine Φ (xs:=γ.map Μ) rfl ?_;rw [aac];exact h
def xl(C:Addr):DF:=λas M q _=>∃υ γ,as=[Χ C υ γ]/\q (Τ υ) M
theorem tq:ψ ["self"] ["self"] (ο ig):= .of rfl
theorem qb(F:dH K "share" "Floor.share" ig f fd)(E:Ev K mg Cm):aB P w K mg base (cQ P w) 1 f fd ["self"] (dw K (xl Cm)):=by
 refine F.fZ tq (λds M q x h=> ?_) (λbK A outer s H E' hr=>⟨_,(μ (χ (rB E.cH E.fq (jv 0)))),λds M q x h=> ?_⟩)
 ·obtain ⟨υ,γ,rfl,_⟩:=h;rfl
 ·obtain ⟨υ,γ,rfl,h⟩:=h;exact ⟨_,_,_, .inl rfl,rfl,h⟩
def qH(C:Addr):DF:=λas M q _=>∃υ γ i r,as=[Χ C υ γ, .int (i:Nat)]/\γ[i]? =some r/\q (.str (kindOf r)) M
theorem vv:ψ ["self","place"] ["self","place"] (ο ju):= .of rfl
theorem uk(F:dH K "kind" "Floor.kind" ju f fd)(E:Ev K mg Cm):aB P w K mg base (cQ P w) 1 f fd ["self","place"] (dw K (qH Cm)):=by
 refine F.fZ vv (λds M q x h=> ?_) (λbK A outer s H E' hr=>⟨_,(μ (χ (Γ (Γ (rB E.cH E.bH (jv 0)) (jv 1)) ι))),λds M q x h=> ?_⟩)
 ·obtain ⟨υ,γ,i,r,rfl,_⟩:=h;rfl
 ·obtain ⟨υ,γ,i,r,rfl,hi,h⟩:=h;refine ⟨_,_,_, .inl rfl,rfl, ?_⟩;walk_at "vc";refine π (xs:=γ.map Μ) rfl (Ζ (tP hi)) ?_;obtain ⟨e,er⟩:=J0 (r:=r);rw [er];exact h
def DN(C:Addr):DF:=λas M q _=>∃υ γ i r,as=[Χ C υ γ, .int (i:Nat)]/\γ[i]? =some r/\b8 r/\q (.loc M.length) (M++[.lst ((bW r).map aH)])
theorem r6:ψ ["self","place"] ["self","place"] (ο ir):= .of rfl
theorem qk(F:dH K "doors" "Floor.doors" ir f fd)(E:Ev K mg Cm)(Ξ:eL P w K mg base 1 Cm "kind" ["self","place"] (qH Cm) bI bG):aB P w K mg base (cQ P w) 2 f fd ["self","place"] (dw K (DN Cm)):=by
 refine F.fZ r6 (λds M q x h=> ?_) (λbK A outer s H E' hr=>⟨_,(η (aC (cb hr (fD Ξ hr ξ (jv 0) (Υ (jv 1) ε)) fE) (μ (χ (kY ε))) Λ)
   (μ (χ (su E.gB (ζ (Γ (Γ (rB E.cH E.bH (jv 0)) (jv 1)) ι) ε az))))),λds M q x h=> ?_⟩)
 ·obtain ⟨υ,γ,i,r,rfl,_⟩:=h;rfl
 ·obtain ⟨υ,γ,i,r,rfl,hi,ro,h⟩:=h;refine ⟨⟨_,_, .inl rfl,rfl⟩,υ,γ,i,r,rfl,hi, ?_⟩;cases r with
  | fin p=>exact ⟨λ_=>⟨by decide,h⟩,λz=>(nomatch z)⟩
  | ν k ds=>
   refine ⟨λz=>aaH (aaB z) ro.1,λ_=> ?_⟩;refine ⟨_,_,_, .inl rfl,rfl, ?_⟩;walk_at "vc";refine π (xs:=γ.map Μ) rfl (Ζ (tP hi)) ?_;exact h
def Iv(C:Addr):DF:=λas M q _=>∃υ γ i r,as=[Χ C υ γ, .int (i:Nat)]/\γ[i]? =some r/\b8 r/\q (G_ r) M
theorem xf:ψ ["self","place"] ["self","place"] (ο lP):= .of rfl
theorem vo(F:dH K "pay" "Floor.pay" lP f fd)(E:Ev K mg Cm)(Ξ:eL P w K mg base 1 Cm "kind" ["self","place"] (qH Cm) bI bG):aB P w K mg base (cQ P w) 2 f fd ["self","place"] (dw K (Iv Cm)):=by
 refine F.fZ xf (λds M q x h=> ?_) (λbK A outer s H E' hr=>⟨_,(η (aC (cb hr (fD Ξ hr ξ (jv 0) (Υ (jv 1) ε)) fE) (μ (χ (Γ (Γ (rB E.cH E.bH (jv 0)) (jv 1)) ι))) Λ)
   (μ (χ Q9))),λds M q x h=> ?_⟩)
 ·obtain ⟨υ,γ,i,r,rfl,_⟩:=h;rfl
 ·obtain ⟨υ,γ,i,r,rfl,hi,ro,h⟩:=h;refine ⟨⟨_,_, .inl rfl,rfl⟩,υ,γ,i,r,rfl,hi, ?_⟩;cases r with
  | fin p=>
   refine ⟨λ_=> ?_,λz=>(nomatch z)⟩;refine ⟨_,_,_, .inl rfl,rfl, ?_⟩;walk_at "vc";refine π (xs:=γ.map Μ) rfl (Ζ (tP hi)) ?_;exact h
  | ν k ds=>exact ⟨λz=>aaH (aaB z) ro.1,λ_=>h⟩
theorem pH{te:DE}{cs:En}{k:List Dt->Ms->Prop} (ht:∀r M (q:DQ),b8 r->(match r with
  | .fin p=>q (.tup [.str "end",Τ p]) M
  | .ν k ds=>q (.tup [.str k, .loc M.length]) (M++[.lst (ds.map aH)]))->te (some (Μ r)::cs) M q jj):∀(γ:List Rw) (ae:List Dt) (M:Ms),(∀r∈γ,b8 r)->k (ae++je M.length γ) (M++gJ γ)->gI te cs (λ_=>True) (γ.map Μ) ae M k
 | [],ae,M,_,h=>⟨trivial,by simpa [je,gJ] using h⟩
 | r::γ,ae,M,ho,h=>by
  refine ⟨trivial,ht r M _ (ho r aak) ?_⟩;cases r with
  | fin p=>
   refine pH ht γ _ M (λr hr=>ho r (aai _ hr)) ?_;simpa [je,gJ] using h
  | ν k' ds=>
   refine pH ht γ _ _ (λr hr=>ho r (aai _ hr)) ?_;simpa [je,gJ] using h
def G8(C:Addr):DF:=λas M q _=>∃υ γ,as=[Χ C υ γ]/\γ.length<=12/\(∀r∈γ,b8 r)/\q (.loc (M.length+(gJ γ).length)) (M++gJ γ++[.lst (je M.length γ)])
theorem my:ψ ["self"] ["self"] (ο j0):= .of rfl
theorem ud(F:dH K "rows" "Floor.rows" j0 f fd)(E:Ev K mg Cm){jy:Addr}{jM:FuncData}(cu:aL P w K mg base 1 "copied_row" ["row"] jr jy jM):aB P w K mg base (cQ P w) 2 f fd ["self"] (dw K (G8 Cm)):=by
 refine F.fZ my (λds M q x h=> ?_) (λbK A outer s H E' hr=>⟨_,(μ (χ (pM (ys:=[]) (Θ:=[]) (.of my rfl rfl rfl) (bF (rB E.cH E.bH (jv 0))) (λC s H fp=>(ax cu hr (cM (P:=P) (w:=w)) (Υ (jv 0) ε)))))),λds M q x h=> ?_⟩)
 ·obtain ⟨υ,γ,rfl,_⟩:=h;rfl
 ·obtain ⟨υ,γ,rfl,hz,ho,h⟩:=h;walk_at "vc";refine zY (i:=0) (d:=Χ Cm υ γ) rfl (.inl rfl) rfl rfl ⟨by rw [aac];exact aam hz (by decide), ?_⟩;refine pH (λr M q hr hq=>⟨Μ r,r,rfl,yW M r,hr,by cases r <;> exact hq⟩) γ [] M ho ?_;rw [aaS,aag];exact h
theorem cZ{q:DQ}(u:Dt.aV M.length ds)(h:q (.lst ds) M):mW M q (.loc M.length) (M++[.lst ds]):=jn (.AA (aal _) (by rw [abn];rfl) (fF.old u)) h
theorem EV{q:DQ}(u:Dt.aV M.length ds)(h:q (.lst ds) M):zg [.lst ds] M (mW M q):=by show mW M q (.loc M.length) (M++[.lst ds]);exact cZ u h
theorem yT{d:bT}{q:DQ}(h:q (Τ d.2.1) M):cN (aH d) (.int 1) M q:=π (xs:= .int d.1::Τ d.2.1::d.2.2.map Τ) rfl (Ζ (j:=1) rfl) h
theorem uO{d:bT}{q:DQ}(h:q (.int d.1) M):cN (aH d) (.int 0) M q:=π (xs:= .int d.1::Τ d.2.1::d.2.2.map Τ) rfl ao h
theorem G7{k:Str}{e:Dt}{q:DQ}(h:q e M):cN (.tup [.str k,e]) (.int 1) M q:=π (xs:=[.str k,e]) rfl (Ζ (j:=1) rfl) h
theorem dR{g:Dt->En->(En->Prop)->Prop}{tb:DS}{Dn:ke}(J:List Dt->En->Ms->Prop)
  (step:∀x xs ρ M,J (x::xs) ρ M->(∀ρ M,J xs ρ M->lD g tb Dn xs ρ M)->g x ρ λρ'=>tb {Dn with nx:=lD g tb Dn xs,ct:=lD g tb Dn xs,bk:=Dn.nx} ρ' M)
  (fin:∀ρ M,J [] ρ M->Dn.nx ρ M):∀(xs:List Dt) (ρ:En) (M:Ms),J xs ρ M->lD g tb Dn xs ρ M
 | [],ρ,M,h=>fin _ _ h
 | x::xs,ρ,M,h=>step x xs ρ M h λρ' M' h'=>dR J step fin xs ρ' M' h'
theorem fX{lo:Int}{x:Dt}(h:x::xs=bX lo n):∃m,n=m+1/\x= .int lo/\xs=bX (lo+1) m:=by
 cases n with
 | zero=>exact nomatch h
 | succ m=>
  unfold bX at h;rw [abq,aaD,aay] at h;cases h;refine ⟨m,rfl,by simp, ?_⟩;unfold bX;apply aaR;intro k _;show Dt.int (lo+((k+1:Nat):Int))=Dt.int (lo+1+(k:Int))
  congr 1
  omega
theorem fW{lo:Int}{x:Dt}(h:x∈bX lo n):∃k:Nat,k < n/\x= .int (lo+k):=by unfold bX at h;obtain ⟨k,hk,rfl⟩:=aaj.mp h;exact ⟨k,aaL.mp hk,rfl⟩
theorem cF{lo:Int}:(bX lo n).length=n:=by unfold bX;simp
theorem jI{α:Type}{te:DE}{cs:En}{M:Ms}{f:α->Dt}(G:α->Prop){k:List Dt->Ms->Prop}:∀(xs:List Dt) (ae:List α),(∀a∈ae,G a)->(∀x∈xs,∀q:DQ,(∀a,G a->q (f a) M)->te (some x::cs) M q jj)->
  (∀as:List α,as.length=ae.length+xs.length->(∀a∈as,G a)->k (as.map f) M)->mv te cs xs (ae.map f) M k
 | [],ae,ha,_,h=>h ae (by simp) ha
 | x::xs,ae,ha,ht,h=>ht x aak _ λa hg=>by
  have e:ae.map f++[f a]=(ae++[a]).map f:=by simp
  rw [e];refine jI G xs (ae++[a]) (λb hb=> ?_) (λy hy=>ht y (List.mem_cons_of_mem _ hy)) λas hl UJ=>h as (by rw [hl];simp;omega) UJ;rcases aaQ.mp hb with hb | hb
  ·exact ha b hb
  ·have:b=a:=by simpa using hb
   rw [this];exact hg
theorem m7{n:Nat}:∀(xs:List Int),Dt.aV n (xs.map Dt.int)
 | []=>trivial
 | _::xs=>⟨trivial,m7 xs⟩
theorem B4{m:Int}:∀{l:List Int},(∀w∈l,w<=m)->l.sum<=l.length * m
 | [],_=>by simp
 | a::l,h=>by have i:=B4 (l:=l) λw hw=>h w (aai _ hw);have:=h a aak;rw [abi,aaN,Int.natCast_add,Int.add_mul];omega
def sL(aX:Int)(r:Rw):Prop:=b8 r/\eP r aX=true
theorem zf{k:Str}{ds:List bT}{aX:Int}(hk:bu k=true)(hz:1<=ds.length)(Sg:ds.length<=6)(hd:∀d∈ds,ah d.1 d.2.1 aX=true)(hs:∀d∈ds,d.2.2=[]/\0 < d.2.1.2):sL aX (.ν k ds):=by
 have fd:ω ds aX=true:=by unfold ω;rw [aaq hz,aaq Sg,aaX.mpr hd];rfl
 have ne:k≠"end"/\k≠"chance":=by refine ⟨λz=> ?_,λz=> ?_⟩ <;> (subst z;exact aaH hk (by decide))
 refine ⟨⟨ne.1,by omega,λz=>aaH z ne.2,λd h=>⟨by rw [(hs d h).1];exact abD _,(hs d h).2⟩⟩, ?_⟩;show (if bu k then _ else _)=true;rw [aaI hk];exact fd
theorem rm{ds:List bT}{aX:Int}(hz:1<=ds.length)(Sg:ds.length<=6)(hd:∀d∈ds,ah d.1 d.2.1 aX=true)(h1:∀d∈ds,d.2.2=[θ d])(hc:Η (ds.map θ)=true)(ho:MR (ds.map θ))(hp:∀d∈ds,0 < d.2.1.2):sL aX (.ν "chance" ds):=by
 have fd:ω ds aX=true:=by unfold ω;rw [aaq hz,aaq Sg,aaX.mpr hd];rfl
 refine ⟨⟨by decide,by omega,λ_=>⟨h1,ho⟩,λd h=>⟨by rw [h1 d h];exact aal _,hp d h⟩⟩, ?_⟩;have e:eP (.ν "chance" ds) aX=(ω ds aX&&Η (ds.map θ)):=by dsimp only [eP];rw [aaF (by decide),aaI rfl]
 rw [e,fd,hc];rfl
theorem j7{aX:Int}{p:Fr}(h0:0<=t)(h1:t < aX)(hp:bM p=true):ah t p aX=true:=by unfold ah;rw [aaq h0,aaq h1,hp];rfl
theorem ye{xs:List Int}(h:j < xs.length):gS (xs.map Dt.int) (j:Int)=some (.int xs[j]):=Ζ (by rw [aah,aaa h];rfl)
theorem tU:∀{l:List Int},(∀w∈l,0 < w)->l≠[]->0 < l.sum
 | [],_,z=>aaH rfl z
 | [a],h,_=>by have:=h a List.mem_cons_self;simpa using this
 | a::b::l,h,_=>by have i:=tU (l:=b::l) (λw hw=>h w (List.mem_cons_of_mem _ hw)) (by simp);have:=h a aak;rw [abi];omega
def Sz(k:Nat)(p:Fr):Prop:=p.1.natAbs < 2 ^ k/\0 < p.2/\p.2.natAbs < 2 ^ k
def gK(p q:Fr):Fr:=ag (p.1 * q.2+q.1 * p.2) (p.2 * q.2)
theorem gr{a b l:Nat}(h:a < 2 ^ k)(h':b < 2 ^ l):a * b < 2 ^ (k+l):=by rw [Nat.pow_add];exact Nat.mul_lt_mul'' h h'
theorem GS(hb:0 < b)(h1:t.natAbs < 2 ^ k)(h2:b.natAbs < 2 ^ k):Sz k (ag t b):=
 ⟨aaP (oE (by omega)) h1,bQ (by omega),aaP (kC (by omega)) h2⟩
theorem l6{p q:Fr}{l:Nat}(hp:Sz k p)(hq:Sz l q):(p.1 * q.2+q.1 * p.2).natAbs < 2 ^ (k+l+1)/\(p.2 * q.2).natAbs < 2 ^ (k+l+1)/\0 < p.2 * q.2:=by
 have a:=gr hp.1 hq.2.2;have b:=gr hq.1 hp.2.2;have c:=gr hp.2.2 hq.2.2;rw [Nat.add_comm l k] at b;have e:(2:Nat) ^ (k+l+1)=2 ^ (k+l)+2 ^ (k+l):=by rw [Nat.pow_succ];omega
 have hn:=Int.natAbs_add_le (p.1 * q.2) (q.1 * p.2);rw [abO,abO] at hn;refine ⟨by rw [e];omega, ?_,Int.mul_pos hp.2.1 hq.2.1⟩;rw [abO,e];omega
theorem F_{p q:Fr}{l:Nat}(hp:Sz k p)(hq:Sz l q):Sz (k+l+1) (gK p q):=
 let ⟨a,b,c⟩:=l6 hp hq
 GS c a b
theorem nJ{p:Fr}(h:Sz k p)(hk:k<=8000):gA p.1:=bg h.1 hk
theorem eV{p:Fr}(h:Sz k p)(hk:k<=8000):gA p.2:=bg h.2.2 hk
theorem Cj{p:Fr}{q:DQ}(h:q (.int p.1) M):cN (Τ p) (.int 0) M q:=π (xs:=[.int p.1, .int p.2]) rfl ao h
theorem qD{p:Fr}{q:DQ}(h:q (.int p.2) M):cN (Τ p) (.int 1) M q:=π (xs:=[.int p.1, .int p.2]) rfl (Ζ (j:=1) rfl) h
def G6:DF:=λas M q _=>∃p r k l,as=[Τ p,Τ r]/\Sz k p/\Sz l r/\k+l+1<=8000/\q (Τ (gK p r)) M
theorem Ki:ψ ["one","other"] ["one","other"] (ο B7):= .of rfl
theorem GB(F:dH K "plus" "plus" B7 f fd)(E:Ev K mg Cm){Aa:Addr}{AH:FuncData}(jm:aL P w K mg base 2 "fraction" ["top","bottom"] yO Aa AH):aB P w K mg base (cQ P w) 3 f fd ["one","other"] (dw K G6):=by
 refine F.fZ Ki (λds M q x h=> ?_) (λbK A outer s H E' hr=>⟨_,(μ (χ (ax jm hr ξ (ζ (ak (br (Γ (jv 0) ι) (Γ (jv 1) ι)) (br (Γ (jv 1) ι) (Γ (jv 0) ι))) (ζ (br (Γ (jv 0) ι) (Γ (jv 1) ι)) ε aN) aN)))),λds M q x h=> ?_⟩)
 ·obtain ⟨p,r,k,l,rfl,_⟩:=h;rfl
 ·obtain ⟨p,r,k,l,rfl,hp,ya,hk,h⟩:=h;obtain ⟨a,b,c⟩:=l6 hp ya;refine ⟨⟨nJ hp (by omega),eV ya (by omega)⟩,⟨nJ ya (by omega),eV hp (by omega)⟩,⟨eV hp (by omega),eV ya (by omega)⟩,bg b hk,λz=>aaH z (by omega),λ_=>h⟩
theorem gX{te:DE}{cs:En}{ok:Ms->Prop}{M:Ms}{k:List Dt->Ms->Prop}(ho:ok M):∀{ys ae:List Dt} {f:Nat->Dt},(∀(i:Nat) x,ys[i]? =some x->∀q:DQ,q (f i) M->te (some x::cs) M q jj)->k (ae++(List.range ys.length).map f) M->gI te cs ok ys ae M k
 | [],ae,f,_,h=>⟨ho,by simpa using h⟩
 | y::ys,ae,f,hf,h=>⟨ho,hf 0 y rfl _ (gX ho (f:=λi=>f (i+1)) (λi x hx=>hf (i+1) x (by simpa using hx)) (by
   rw [aaN,abq,aaD,aay] at h
   simpa [Function.comp_def] using h))⟩
def sj(P:Program)(w:World):DF:=λas M q _=>∃(xs:List Dt) (f:Nat->Nat->Bool),as=[.lst xs]/\xs.length<=1000/\(∀(i j:Nat) d d',xs[i]? =some d->xs[j]? =some d'->zJ P w M 2 d d' (f i j))/\(∀i,i < xs.length->f i i=true)/\q (.loc M.length) (M++[.lst ((List.range xs.length).map λi=>Dt.int (N51.least f i:Nat))])
theorem mD:ψ ["marks"] ["marks"] (ο jW):= .of rfl
theorem rJ(F:dH K "classes_by" "classes_by" jW f fd)(E:Ev K mg Cm):aB P w K mg base (cQ P w) 1 f fd ["marks"] (dw K (sj P w)):=by
 refine F.fZ mD (λds M q x h=> ?_) (λbK A outer s H E' hr=>⟨_,(μ (χ (pM (ys:=["marks"]) (Θ:=[0]) (.of mD rfl rfl rfl) (bF (jv 0)) (λC s H fp=>(Ep (P:=P) (w:=w) 2 hr (jv 1) (Υ (jv 0) ε)))))),λds M q x h=> ?_⟩)
 ·obtain ⟨p,f,rfl,_⟩:=h;rfl
 ·obtain ⟨xs,f,rfl,hl,hf,ya,h⟩:=h;walk_at "vc";dsimp only [nz,dX,d8];show xs.length<=sizeLine/\gI (zp P w 2 (d8 1) (dY (d8 0) jO)) [some (.lst xs)] _ xs [] M _;refine ⟨aam hl (by decide),gX trivial (f:=λi=>Dt.int (N51.least f i:Nat)) (λi x hx q' hq=> ?_) ?_⟩
  ·have hi:i < xs.length:=(aad.mp hx).1;show (∃ys,fC M (.lst xs)=some ys)/\∃y ys,∃g:Nat->Bool,∃j:Nat,[x]=[y]/\fC M (.lst xs)=some ys/\(∀i z,ys[i]? =some z->zJ P w M 2 z y (g i))/\j < ys.length/\g j=true/\(∀i,i < j->g i=false)/\q' (.int (j:Int)) M;have l:=N51.least_le f i;refine ⟨⟨xs,rfl⟩,x,xs,λj=>f j i,N51.least f i,rfl,rfl,λj z hz=>hf j i z x hz hx,by omega,N51.kR (ya i hi),λj hj=> ?_,hq⟩;cases e:f j i with
   | false=>exact e
   | true=>exact aaH (N51.rA e) (by omega)
  ·exact h
def Bv(r:Rw):Dt:= .tup [.str (kindOf r),G_ r]
def eR:Rw->Rw->Bool
 | .fin p, .fin q=>decide (p=q)
 | .ν k _, .ν l _=>decide (k=l)
 | _,_=>false
theorem nr(e:Nat->Bool):(List.range 2).all e=(e 0&&e 1):=by simp [List.range,List.range.loop]
theorem Gq(e:Nat->Bool):(List.range 1).all e=e 0:=by simp [List.range,List.range.loop]
theorem xV(p q:Fr):gM M (n+1) (Τ p) (Τ q) (decide (p=q)):=by
 have h:=gM.tup (M:=M) (n:=n) (ds:=[.int p.1, .int p.2]) (es:=[.int q.1, .int q.2]) (f:=λj=>match j with | 0=>eT (.int p.1) (.int q.1) | _=>eT (.int p.2) (.int q.2)) λj d e h1 h2=>by
  match j with
  | 0=>cases h1;cases h2;exact .flat rfl rfl
  | 1=>cases h1;cases h2;exact .flat rfl rfl
  | j+2=>cases h1
 have e:((List.range (min [Dt.int p.1, .int p.2].length [Dt.int q.1, .int q.2].length)).all (λj=>match j with | 0=>eT (.int p.1) (.int q.1) | _=>eT (.int p.2) (.int q.2))&&[Dt.int p.1, .int p.2].length==[Dt.int q.1, .int q.2].length)=decide (p=q):=by show ((List.range 2).all _&&true)=_;rw [nr,Bool.and_true,abc,aan,decide_eq_true_eq];show (eT (.int p.1) (.int q.1)=true/\eT (.int p.2) (.int q.2)=true)↔_;simp [eT,Prod.ext_iff]
 rw [e] at h;exact h
theorem eq1{r r':Rw}(h:b8 r)(h':b8 r'):zJ P w M 2 (Bv r) (Bv r') (eR r r'):=by
 refine ⟨_,_,λj=>match j with | 0=>eT (.str (kindOf r)) (.str (kindOf r')) | _=>match r,r' with | .fin p, .fin q=>decide (p=q) | _,_=>true,rfl,rfl,rfl,λj d d' h1 h2 ja=> ?_, ?_⟩
 ·match j with
  | 0=>cases h1;cases h2;exact .eq (.flat rfl rfl)
  | 1=>
   cases h1;cases h2;rw [Gq] at ja;have ja:eT (.str (kindOf r)) (.str (kindOf r'))=true:=ja;have ja:kindOf r=kindOf r':=by simpa [eT] using ja
   match r,r',h,h',ja with
   | .fin p, .fin q,_,_,_=>exact .eq (xV p q)
   | .fin p, .ν k ds,_,h',ja=>exact aaH ja.symm h'.1
   | .ν k ds, .fin p,h,_,ja=>exact aaH ja h.1
   | .ν k ds, .ν l es,_,_,_=>exact .eq (.flat (x:= .bf) (y:= .bf) rfl rfl)
  | j+2=>cases h1
 ·show _=(List.range 2).all _;rw [nr]
  match r,r',h,h' with
  | .fin p, .fin q,_,_=>simp [eR,kindOf,eT]
  | .fin p, .ν k ds,_,h'=>simp [eR,kindOf,eT,Ne.symm h'.1]
  | .ν k ds, .fin p,h,_=>simp [eR,kindOf,eT,h.1]
  | .ν k ds, .ν l es,_,_=>rw [Bool.eq_iff_iff];simp [eR,kindOf,eT]
def w8(γ:List Rw)(j i:Nat):Bool:=match γ[j]?,γ[i]? with
 | some r,some r'=>eR r r'
 | _,_=>false
def bZ(n:Nat)(c:Nat->Nat):List Dt:=(List.range n).map λi=>Dt.int (c i:Nat)
theorem nQ:∀r:Rw,eR r r=true
 | .fin p=>by simp [eR]
 | .ν k ds=>by simp [eR]
def B5(C:Addr):DF:=λas M q _=>∃υ γ,as=[Χ C υ γ]/\γ.length<=12/\(∀r∈γ,b8 r)/\q (.loc M.length) (M++[.lst (bZ γ.length (N51.least (w8 γ)))])
theorem ix:ψ ["floor"] ["floor"] (ο fo):= .of rfl
theorem mX(F:dH K "first_classes" "first_classes" fo f fd)(E:Ev K mg Cm){jX:Addr}{jG:FuncData}(cv:aL P w K mg base 1 "classes_by" ["marks"] (sj P w) jX jG)(bp:eL P w K mg base 1 Cm "size" ["self"] (yY Cm) d_ eF){lO:Addr}{ll:FuncData}(cV:eL P w K mg base 2 Cm "pay" ["self","place"] (Iv Cm) lO ll)(Ξ:eL P w K mg base 1 Cm "kind" ["self","place"] (qH Cm) bI bG):aB P w K mg base (cQ P w) 4 f fd ["floor"] (dw K (B5 Cm)):=by
 refine F.fZ ix (λds M q x h=> ?_) (λbK A outer s H E' hr=>⟨_,(μ (χ (ax cv hr ξ (ζ (tT (ys:=["floor"]) (Θ:=[0]) (.of ix rfl rfl rfl) (bA E.bb (ζ (eU bp hr ξ (jv 0)) ε aQ)) (λC s H fp=>(aq (ζ (fD Ξ hr (cM (P:=P) (w:=w)) (jv 1) (Υ (jv 0) ε)) (ζ (fD cV hr (cM (P:=P) (w:=w)) (jv 1) (Υ (jv 0) ε)) ε aQ) aQ)))) ε)))),λds M q x h=> ?_⟩)
 ·obtain ⟨p,f,rfl,_⟩:=h;rfl
 ·obtain ⟨υ,γ,rfl,hl,ok,h⟩:=h;walk_at "vc";dsimp only [nZ,xH,dY,jO,rG,d8];refine ⟨⟨_,_, .inl rfl,rfl⟩,υ,γ,rfl,⟨by omega,by omega⟩,by rw [cF];exact aam (show _<=12 by omega) (by decide), ?_⟩;refine lV (f:=λx=>match x with | .int j=>(γ.map Bv).getD j.toNat .bf | _=> .bf) _ _ (λx vy q' hq=> ?_) ?_
  ·obtain ⟨k,hk,rfl⟩:=fW vy;have hk:k < γ.length:=by omega
   have e:γ[k]? =some γ[k]:=aaa hk;rw [abo] at hq⊢;have hq:q' (Bv γ[k]) M:=by
    have z:(match Dt.int (k:Int) with | .int j=>(γ.map Bv).getD j.toNat .bf | _=> .bf)=Bv γ[k]:=by show (γ.map Bv).getD ((k:Int).toNat) .bf=_;rw [aa6,aao,aah,e];rfl
    rw [<-z];exact hq
   dsimp only [wG,dY,jO,rG,d8];exact ⟨⟨_,_, .inl rfl,rfl⟩,υ,γ,k,γ[k],rfl,e,⟨_,_, .inl rfl,rfl⟩,υ,γ,k,γ[k],rfl,e,ok _ (aaY hk),fI,hq⟩
  ·have z:[]++List.map (λx=>match x with | Dt.int j=>(γ.map Bv).getD j.toNat Dt.bf | _=>Dt.bf) (bX 0 ((γ.length:Int)).toNat)=γ.map Bv:=by
    rw [aaS,aa6];refine abB λi=> ?_;unfold bX;rw [aay,aah,aah];rcases abe i γ.length with hi | hi
    ·rw [aaV hi,aaa hi];show some ((γ.map Bv).getD ((0+(i:Int)).toNat) .bf)=_;rw [abo,aa6,aao,aah,aaa hi];rfl
    ·rw [List.getElem?_eq_none (by simpa using hi),List.getElem?_eq_none hi];rfl
   rw [z];refine ⟨γ.map Bv,w8 γ,rfl,by rw [aac];omega,λi j d d' h1 h2=> ?_,λi hi=> ?_,by rw [aac];exact h⟩
   ·rw [aah] at h1 h2;obtain ⟨r,e1,rfl⟩:=aaO.mp h1;obtain ⟨r',e2,rfl⟩:=aaO.mp h2;have:w8 γ i j=eR r r':=by unfold w8;rw [e1,e2]
    rw [this];exact eq1 (ok _ (aat e1)) (ok _ (aat e2))
   ·rw [aac] at hi;unfold w8;rw [aaa hi];exact nQ _
theorem Gg(ks:List NK)(k:NK):vN ks k=N51.has ks k:=rfl
theorem DD(ks:List NK)(k:NK):ko ks k=N51.putK ks k:=rfl
theorem fL(f:Fr->Dt)(k:NK):∀(ks:List NK) (vs:List Fr),dh ks (vs.map f) k=(N51.get ks vs k).map f
 | [],vs=>by simp [dh,N51.get]
 | _::_,[]=>by simp [dh,N51.get]
 | c::ks,v::vs=>by
  have ih:=fL f k ks vs;unfold dh N51.get at ih⊢;rw [aaD,aa4,aa4];by_cases e:c=k
  ·rw [List.find?_cons_of_pos (by simpa using e),List.find?_cons_of_pos (by simpa using e)];rfl
  ·rw [List.find?_cons_of_neg (by simpa using e),List.find?_cons_of_neg (by simpa using e)];exact ih
theorem AR(f:Fr->Dt)(k:NK)(v:Fr)(ks:List NK)(vs:List Fr):j5 ks k (vs.map f) (f v)=(N51.tZ ks k vs v).map f:=by
 have key:∀(ks:List NK) (vs:List Fr),List.zipWith (λc y=>if c=k then f v else y) ks (vs.map f)=(List.zipWith (λc y=>if c=k then v else y) ks vs).map f:=by
  intro ks
  induction ks with
  | nil=>intro vs;rfl
  | cons c ks ih=>
   intro vs;cases vs with
   | nil=>rfl
   | cons u vs=>
    rw [aaD,List.zipWith_cons_cons,List.zipWith_cons_cons,aaD,ih];by_cases e:c=k
    ·simp only [if_pos e]
    ·simp only [if_neg e]
 unfold j5 N51.tZ;rw [Gg];split
 ·exact key ks vs
 ·rw [aav];rfl
def Δ(c:Nat->Nat)(d:bT):NK:=([.inl d.2.1.1, .inl d.2.1.2], .inl (c d.1.toNat:Nat))
def Ν(c:Nat->Nat):Rw->List NK×List Fr
 | .fin _=>([],[])
 | .ν k ds=>if k="chance" then N51.k8 gK (0,1) (ds.map λd=>(Δ c d,θ d)) else N51.k8 (λ_ _=>(1,1)) (0,1) (ds.map λd=>(Δ c d,θ d))
theorem vz(c:Nat->Nat)(k:Str):Ν c (.ν k [])=([],[]):=by show (if k="chance" then _ else _)=_;split <;> rfl
theorem qz(c:Nat->Nat)(k:Str)(ds:List bT)(d:bT):Ν c (.ν k (ds++[d]))=(N51.putK (Ν c (.ν k ds)).1 (Δ c d),N51.tZ (Ν c (.ν k ds)).1 (Δ c d) (Ν c (.ν k ds)).2 (if k="chance" then gK ((N51.get (Ν c (.ν k ds)).1 (Ν c (.ν k ds)).2 (Δ c d)).getD (0,1)) (θ d) else (1,1))):=by
 by_cases e:k="chance"
 ·simp only [Ν,if_pos e,List.map_append,List.map_cons,List.map_nil,N51.oR];rfl
 ·simp only [Ν,if_neg e,List.map_append,List.map_cons,List.map_nil,N51.oR];rfl
theorem tW{κ:Type} [DecidableEq κ](key:κ):∀(xs:List (κ×Fr)) (a:Fr) (k:Nat),(∀x∈xs,Sz 200 x.2)->Sz k a->∃l,l<=k+201 * xs.length/\Sz l (xs.foldl (λa x=>if x.1=key then gK a x.2 else a) a)
 | [],a,k,_,h=>⟨k,by simp,h⟩
 | x::xs,a,k,hx,h=>by
  rw [List.foldl_cons];by_cases e:x.1=key
  ·rw [aaI e];obtain ⟨l,h1,h2⟩:=tW key xs _ _ (λy hy=>hx y (aai _ hy)) (F_ h (hx x aak));exact ⟨l,by rw [aaN];omega,h2⟩
  ·rw [aaF e];obtain ⟨l,h1,h2⟩:=tW key xs _ _ (λy hy=>hx y (aai _ hy)) h;exact ⟨l,by rw [aaN];omega,h2⟩
theorem gE(c:Nat->Nat)(k:Str)(ds:List bT):(Ν c (.ν k ds)).1.length=((Ν c (.ν k ds)).2.map Τ).length/\(Ν c (.ν k ds)).1.length<=ds.length:=by
 have key:∀(op:Fr->Fr->Fr),(N51.k8 op (0,1) (ds.map λd=>(Δ c d,θ d))).1.length=((N51.k8 op (0,1) (ds.map λd=>(Δ c d,θ d))).2.map Τ).length/\(N51.k8 op (0,1) (ds.map λd=>(Δ c d,θ d))).1.length<=ds.length:=λop=>by obtain ⟨a1,a2,a3,_⟩:=N51.fN op (0,1) (ds.map λd=>(Δ c d,θ d));refine ⟨by rw [aac,a1], ?_⟩;have:=N51.lH a2 λx hx=>(a3 x).mp hx;simpa using this
 by_cases e:k="chance"
 ·simp only [Ν,if_pos e];exact key _
 ·simp only [Ν,if_neg e];exact key _
theorem Gi(c:Nat->Nat)(ds:List bT)(hs:∀d∈ds,Sz 200 (θ d))(x:NK):∃l,l<=1+201 * ds.length/\Sz l ((N51.get (Ν c (.ν "chance" ds)).1 (Ν c (.ν "chance" ds)).2 x).getD (0,1)):=by
 have e:Ν c (.ν "chance" ds)=N51.k8 gK (0,1) (ds.map λd=>(Δ c d,θ d)):=by simp only [Ν,if_pos]
 rw [e,(N51.fN gK (0,1) (ds.map λd=>(Δ c d,θ d))).2.2.2 x]
 obtain ⟨l,h1,h2⟩:=tW x (ds.map λd=>(Δ c d,θ d)) (0,1) 1 (λy hy=>by
  obtain ⟨d,hd,rfl⟩:=aaj.mp hy
  exact hs d hd) ⟨by decide,by decide,by decide⟩
 exact ⟨l,by simpa using h1,h2⟩
def xp(P:Program)(w:World)(C:Addr):DF:=λas M q _=>∃υ γ i r n c dc,as=[Χ C υ γ, .int (i:Nat),dc]/\(∀E,gu (M++E) dc=some (bZ n c))/\γ[i]? =some r/\b8 r/\(∀d∈bW r,0<=d.1/\d.1 < n)/\(∀d∈bW r,Sz 200 (θ d))/\n<=12/\q (.loc M.length) (M++[i5 P w (Ν c r).1 ((Ν c r).2.map Τ)])
theorem iO:ψ ["floor","place","classes","pairs","door","pair"] ["floor","place","classes"] (ο oo):= .of rfl
theorem xm(F:dH K "pairs_of" "pairs_of" oo f fd)(E:Ev K mg Cm){vB:Addr}{vw:FuncData}(gs:eL P w K mg base 2 Cm "doors" ["self","place"] (DN Cm) vB vw)(Ξ:eL P w K mg base 1 Cm "kind" ["self","place"] (qH Cm) bI bG){Mf:Addr}{MN:FuncData}(w4:aL P w K mg base 3 "plus" ["one","other"] G6 Mf MN):aB P w K mg base (cQ P w) 5 f fd ["floor","place","classes"] (dw K (xp P w Cm)):=by
 refine F.fZ iO (λds M q x h=> ?_) (λbK A outer s H E' hr=>⟨_,(η (τ 3 iO.nd (J9 (P:=P) (w:=w) IQ))
   (η (j9 (bF (bN (fD gs hr ξ (jv 0) (Υ (jv 1) ε)))) (au (i:=4) iO.nd rfl (Or.inl rfl)) bo (η (τ 5 iO.nd (aq (ζ (Γ (jv 4) ι) (ζ (Γ (jv 2) (Γ (jv 4) ι)) ε az) az)))
   (μ (aC (cb hr (fD Ξ hr ξ (jv 0) (Υ (jv 1) ε)) fE) (μ (yB (P:=P) (w:=w) hr (jv 3) (jv 5) (ax w4 hr ξ (ζ (FW (P:=P) (w:=w) hr (jv 3) (jv 5) (aq (ζ ι (ζ ι ε aU) aU))) (ζ (Γ (jv 4) ι) ε az) aQ)))) (μ (yB (P:=P) (w:=w) hr (jv 3) (jv 5) (aq (ζ ι (ζ ι ε aU) aU))))))))
   (μ (χ (jv 3))))),λds M q x h=> ?_⟩)
 ·obtain ⟨υ,γ,i,r,n,c,dc,rfl,_⟩:=h;rfl
 ·obtain ⟨υ,γ,i,r,n,c,dc,rfl,Lc,e,ok,ht,hs,hn,h⟩:=h;have eM:(M++[MO.EH [] []]).set M.length (i5 P w [] [])=M++[i5 P w [] []]:=by simp
  refine ⟨M.length,rfl,by simp, ?_⟩;rw [eM];refine ⟨⟨_,_, .inl rfl,rfl⟩,υ,γ,i,r,rfl,e,ok,cZ (dD _) ?_⟩
  match r,e,ok,ht,hs,h with
  | .fin p,_,_,_,_,h=>exact ⟨trivial,h⟩
  | .ν kd ds,e,ok,ht,hs,h=>
  show jH _ _ _ (λ_=>True) (ds.map aH) [some (Χ Cm υ γ),some (.int (i:Nat)),some dc,some (.loc M.length),none,none] (M++[i5 P w [] []]);refine fJ (λxs ρ M'=>∃done Ι a b,ds=done++Ι/\xs=Ι.map aH/\ρ=[some (Χ Cm υ γ),some (.int (i:Nat)),some dc,some (.loc M.length),a,b]/\M'=M++[i5 P w (Ν c (.ν kd done)).1 ((Ν c (.ν kd done)).2.map Τ)]) (λ_ _ _ _=>trivial) (λx xs ρ M' hJ ih=> ?_) (λρ M' hJ=> ?_) _ _ _ ⟨[],ds,none,none,rfl,rfl,rfl,by rw [vz];rfl⟩
  ·obtain ⟨done,Ι,a,b,e1,e2,rfl,rfl⟩:=hJ;cases Ι with
   | nil=>cases e2
   | cons d Ι=>
    cases e2;have md:d∈ds:=by rw [e1];simp
    obtain ⟨t0,tn⟩:=ht d md;obtain ⟨t,et⟩:=Int.eq_ofNat_of_zero_le t0;have tl:t < n:=by omega
    have HF:gS ((List.range n).map λi=>Dt.int (c i:Nat)) d.1=some (.int (c t:Nat)):=by rw [et];exact Ζ (by rw [aah,aaV tl];rfl)
    generalize Pm:(jH (gN 4) _ _ _ (Ι.map aH):En->Ms->Prop)=Nx at ih⊢;walk_at "vc";refine π (d:=aH d) (xs:= .int d.1::Τ d.2.1::d.2.2.map Τ) rfl (Ζ (j:=1) rfl) ?_;refine π (d:=aH d) (xs:= .int d.1::Τ d.2.1::d.2.2.map Τ) rfl ao ?_;refine π (d:=dc) (Lc _) HF ?_;refine ⟨fI,⟨_,_, .inl rfl,rfl⟩,υ,γ,i,_,rfl,e, ?_⟩;have ek:Dt.tup [Τ d.2.1,Dt.int (c t:Nat)]=qy (Δ c d):=by unfold qy Δ;rw [et];rfl
    have gm:(M++[i5 P w (Ν c (.ν kd done)).1 ((Ν c (.ν kd done)).2.map Τ)])[M.length]? =some (i5 P w (Ν c (.ν kd done)).1 ((Ν c (.ν kd done)).2.map Τ)):=by simp
    obtain ⟨f1,f2⟩:=gE c kd done;have f3:(Ν c (.ν kd done)).1.length < 1000:=by
     have q1:ds.length<=12:=ok.2.1;have q2:done.length<=ds.length:=by rw [e1];simp
     omega
    have nx:∀v,v=(if kd="chance" then gK ((N51.get (Ν c (.ν kd done)).1 (Ν c (.ν kd done)).2 (Δ c d)).getD (0,1)) (θ d) else (1,1))->∀ρ',ρ'=[some (Χ Cm υ γ),some (.int (i:Nat)),some dc,some (.loc M.length),some (aH d),some (.tup [Τ d.2.1, .int (c t:Nat)])]->Nx ρ' ((M++[i5 P w (Ν c (.ν kd done)).1 ((Ν c (.ν kd done)).2.map Τ)]).set M.length (i5 P w (ko (Ν c (.ν kd done)).1 (Δ c d)) (j5 (Ν c (.ν kd done)).1 (Δ c d) ((Ν c (.ν kd done)).2.map Τ) (Τ v)))):=by rintro v ev _ rfl;refine ih _ _ ⟨done++[d],Ι,_,_,by rw [e1];simp,rfl,rfl, ?_⟩;rw [qz,AR,DD,ev];simp
    refine ⟨λhb=> ?_,λhb=> ?_⟩
    ·have hb:kd="chance":=aaB hb;have hc:=(ok.2.2.1 hb).1 d md;obtain ⟨l,KP,Fg⟩:=Gi c done (λd hd=>hs d (by rw [show bW (.ν kd ds)=ds from rfl,e1];exact aaW _ hd)) (Δ c d);have q1:ds.length<=12:=ok.2.1;have q2:done.length<=ds.length:=by rw [e1];simp
     refine ⟨⟨M.length,_,_,rfl,gm,f1⟩,fI,M.length,_,_,Δ c d,rfl,gm,f1,ek, ?_⟩;subst hb;have eg:(dh (Ν c (.ν "chance" done)).1 ((Ν c (.ν "chance" done)).2.map Τ) (Δ c d)).getD (Dt.tup [.int 0, .int 1])=Τ ((N51.get (Ν c (.ν "chance" done)).1 (Ν c (.ν "chance" done)).2 (Δ c d)).getD (0,1)):=by rw [fL];cases N51.get (Ν c (.ν "chance" done)).1 (Ν c (.ν "chance" done)).2 (Δ c d) <;> rfl
     rw [eg];have ed:aH d= .tup [.int d.1,Τ d.2.1,Τ (θ d)]:=by unfold aH;rw [hc];rfl
     refine (π (d:=aH d) (xs:=[.int d.1,Τ d.2.1,Τ (θ d)]) (by rw [ed];rfl) (Ζ (j:=2) rfl) ?_:cN (aH d) (.int 2) (M++[_]) _);exact ⟨_,θ d,l,200,rfl,Fg,hs d md,by omega,M.length,_,_,Δ c d,rfl,gm,f1,ek,f3,nx _ (by rw [aaI rfl]) _ rfl⟩
    ·have hb:¬kd="chance":=abJ hb;refine ⟨fI,M.length,_,_,Δ c d,rfl,gm,f1,ek,f3,nx (1,1) (by rw [aaF hb]) _ rfl⟩
  ·obtain ⟨done,Ι,a,b,e1,e2,rfl,rfl⟩:=hJ;cases Ι with
   | cons d Ι=>cases e2
   | nil=>
    rw [aaU] at e1;subst e1;exact h
abbrev PD:=List NK×List Fr
def lX(D D':PD)(j:Nat):Bool:=match D.1[j]?,D.2[j]? with
 | some k,some v=>(match N51.get D'.1 D'.2 k with
  | some v'=>decide (v=v')
  | none=>false)
 | _,_=>false
def kU(D D':PD):Bool:=decide (D.1.length=D'.1.length)&&(List.range D.1.length).all (lX D D')
theorem eq2{m:Nat}{Ds:List PD}(hM:∀(i:Nat) (D:PD),Ds[i]? =some D->M[m+i]? =some (i5 P w D.1 (D.2.map Τ)))(hl:∀(i:Nat) (D:PD),Ds[i]? =some D->D.1.length=D.2.length){D D':PD}(hi:Ds[i]? =some D)(hj:Ds[j]? =some D'):
  zJ P w M 2 (.tup [.int (c i:Nat), .loc (m+i)]) (.tup [.int (c j:Nat), .loc (m+j)]) (decide (c i=c j)&&(if i=j then true else kU D D')):=by
 refine ⟨_,_,λx=>match x with | 0=>eT (.int (c i:Nat)) (.int (c j:Nat)) | _=>if i=j then true else kU D D',rfl,rfl,rfl,λx d d' h1 h2 ja=> ?_, ?_⟩
 ·match x with
  | 0=>cases h1;cases h2;exact .eq (.flat rfl rfl)
  | 1 =>
   cases h1;cases h2;show xY P w M 2 _ _ (if i=j then true else kU D D');by_cases e:i=j
   ·subst e;rw [aaI rfl];exact .same
   ·rw [aaF e];have l1:=hl i D hi;have l2:=hl j D' hj;unfold kU;by_cases le:D.1.length=D'.1.length
    ·rw [aaq le,Bool.true_and];refine .nd (by omega) (hM i D hi) (hM j D' hj) (by rw [aac];exact l1) (by rw [aac];exact l2) le (λx k hk hn=> ?_) λx k d d' hk hd hn=> ?_
     ·rw [fL,Option.map_eq_none_iff] at hn;unfold lX;rw [hk,aaa (show x < D.2.length by rw [<-l1];exact (aad.mp hk).1)];show (match N51.get D'.1 D'.2 k with | some v'=>_ | none=>false)=false;rw [hn]
     ·rw [fL] at hn;obtain ⟨v',g,rfl⟩:=aaO.mp hn;rw [aah] at hd;obtain ⟨v,gv,rfl⟩:=aaO.mp hd;have:lX D D' x=decide (v=v'):=by unfold lX;rw [hk,gv];show (match N51.get D'.1 D'.2 k with | some v'=>decide (v=v') | none=>false)=_;rw [g]
      rw [this];exact xV v v'
    ·rw [aaK le,Bool.false_and];exact .len (by omega) (hM i D hi) (hM j D' hj) (by rw [aac];exact l1) (by rw [aac];exact l2) le
  | x+2=>cases h1
 ·show _=(List.range 2).all _;rw [nr];show _=(eT (.int (c i:Nat)) (.int (c j:Nat))&&_)
  congr 1
  rw [abc];simp [eT];omega
theorem vm{te:DE}{cs:En}{f:Nat->Dt}{g:Nat->MO}{M:Ms}{k:List Dt->Ms->Prop}:∀(n lo:Nat) (ae:List Dt),(∀i,lo<=i->i < lo+n->∀q:DQ,q (f i) (M++(List.range (i+1)).map g)->te (some (.int (i:Nat))::cs) (M++(List.range i).map g) q jj)->k (ae++(List.range' lo n).map f) (M++(List.range (lo+n)).map g)->mv te cs ((List.range' lo n).map λi=>Dt.int (i:Nat)) ae (M++(List.range lo).map g) k
 | 0,lo,ae,_,h=>by simpa [mv] using h
 | n+1,lo,ae,hf,h=>by rw [List.range'_succ,aaD];refine hf lo (aal _) (by omega) _ ?_;refine vm n (lo+1) (ae++[f lo]) (λi h1 h2=>hf i (by omega) (by omega)) ?_;rw [List.range'_succ,aaD] at h;rw [aa8,show lo+1+n=lo+(n+1) by omega];exact h
theorem Rx(n:Nat):bX 0 n=(List.range' 0 n).map λi=>Dt.int (i:Nat):=by unfold bX;rw [List.range_eq_range'];exact aaR λi _=>by rw [abo]
def ze(γ:List Rw)(c:Nat->Nat)(j i:Nat):Bool:=decide (c j=c i)&&(if j=i then true else match γ[j]?,γ[i]? with
 | some r,some r'=>kU (Ν c r) (Ν c r')
 | _,_=>false)
def La(P:Program)(w:World)(c:Nat->Nat)(r:Rw):MO:=i5 P w (Ν c r).1 ((Ν c r).2.map Τ)
def Cq(P:Program)(w:World)(C:Addr):DF:=λas M q _=>∃υ γ c dc,as=[Χ C υ γ,dc]/\(∀E,gu (M++E) dc=some (bZ γ.length c))/\γ.length<=12/\(∀r∈γ,b8 r)/\(∀r∈γ,∀d∈bW r,0<=d.1/\d.1 < γ.length)/\(∀r∈γ,∀d∈bW r,Sz 200 (θ d))/\q (.loc (M++γ.map (La P w c)).length) (M++γ.map (La P w c)++[.lst (bZ γ.length (N51.least (ze γ c)))])
theorem jg:ψ ["floor","classes"] ["floor","classes"] (ο gj):= .of rfl
theorem pe(F:dH K "next_classes" "next_classes" gj f fd)(E:Ev K mg Cm){jX:Addr}{jG:FuncData}(cv:aL P w K mg base 1 "classes_by" ["marks"] (sj P w) jX jG)(bp:eL P w K mg base 1 Cm "size" ["self"] (yY Cm) d_ eF){nR:Addr}{oF:FuncData}(dP:aL P w K mg base 5 "pairs_of" ["floor","place","classes"] (xp P w Cm) nR oF):aB P w K mg base (cQ P w) 7 f fd ["floor","classes"] (dw K (Cq P w Cm)):=by
 refine F.fZ jg (λds M q x h=> ?_) (λbK A outer s H E' hr=>⟨_,(μ (χ (ax cv hr ξ (ζ (tT (ys:=["classes","floor"]) (Θ:=[1,0]) (.of jg rfl rfl rfl) (bA E.bb (ζ (eU bp hr ξ (jv 0)) ε aQ)) (λC s H fp=>(aq (ζ (Γ (jv 1) (jv 0)) (ζ (ax dP hr (cM (P:=P) (w:=w)) (Υ (jv 2) (Υ (jv 0) (Υ (jv 1) ε)))) ε aQ) az)))) ε)))),λds M q x h=> ?_⟩)
 ·obtain ⟨υ,γ,c,dc,rfl,_⟩:=h;rfl
 ·obtain ⟨υ,γ,c,dc,rfl,Lc,hl,ok,ht,hs,h⟩:=h;walk_at "vc";dsimp only [nZ,xH,dY,jO,rG,d8];refine ⟨⟨_,_, .inl rfl,rfl⟩,υ,γ,rfl,⟨by omega,by omega⟩,by rw [cF];exact aam (show _<=12 by omega) (by decide), ?_⟩;obtain ⟨g,eg⟩:∃g:Nat->MO,g=λi=>La P w c (γ.getD i (.fin (0,1))):=⟨_,rfl⟩;have gi:∀i r,γ[i]? =some r->g i=La P w c r:=λi r h=>by rw [eg];show La P w c (γ.getD i _)=_;rw [aao,h];rfl
  rw [Int.toNat_natCast,Rx,show M=M++(List.range 0).map g from (by simp)];refine vm (f:=λi=> .tup [.int (c i:Nat), .loc (M.length+i)]) γ.length 0 [] (λi _ hi q' hq=> ?_) ?_
  ·have hi:i < γ.length:=by omega
   have e:γ[i]? =some γ[i]:=aaa hi;have HF:gS ((List.range γ.length).map λi=>Dt.int (c i:Nat)) ((i:Nat):Int)=some (.int (c i:Nat)):=Ζ (by rw [aah,aaV hi];rfl);dsimp only [wG,dY,jO,iH,d8,yo];refine (π (d:=dc) (Lc _) HF ?_:cN dc (.int ((i:Nat):Int)) (M++(List.range i).map g) _);have me:=aaY hi;refine ⟨υ,γ,i,γ[i],γ.length,c,dc,rfl,λE=>by rw [aa8];exact Lc _,e,ok _ me,ht _ me,hs _ me,hl,fI, ?_⟩;rw [abV,aav,<-aa8] at hq;have z:(M++(List.range i).map g).length=M.length+i:=by simp
   rw [z];have z2:[i5 P w (Ν c γ[i]).1 ((Ν c γ[i]).2.map Τ)]=List.map g [i]:=by rw [aaD,List.map_nil,gi i _ e];rfl
   rw [z2];exact hq
  ·show sj P w [Dt.lst _] _ _ _;rw [Nat.zero_add,aaS,<-List.range_eq_range'];have st:M++(List.range γ.length).map g=M++γ.map (La P w c):=by
    congr 1
    refine abB λi=> ?_;rw [aah,aah];rcases abe i γ.length with hi | hi
    ·rw [aaV hi,aaa hi];show some (g i)=some _;rw [gi i _ (aaa hi)]
    ·rw [List.getElem?_eq_none (by simpa using hi),List.getElem?_eq_none hi];rfl
   rw [st];refine ⟨_,ze γ c,rfl,by simp;omega,λi j d d' h1 h2=> ?_,λi hi=> ?_,by rw [List.length_map,List.length_range];exact h⟩
   ·rw [aah] at h1 h2;obtain ⟨i',e1,rfl⟩:=aaO.mp h1;obtain ⟨j',e2,rfl⟩:=aaO.mp h2;have li:i < γ.length:=by have:=(List.getElem?_eq_some_iff.mp e1).1;simpa using this
    have lj:j < γ.length:=by have:=(List.getElem?_eq_some_iff.mp e2).1;simpa using this
    rw [aaV li] at e1;rw [aaV lj] at e2;cases e1;cases e2;have a1:ze γ c i j=(decide (c i=c j)&&(if i=j then true else kU (Ν c γ[i]) (Ν c γ[j]))):=by unfold ze;rw [aaa li,aaa lj]
    rw [a1];refine eq2 (Ds:=γ.map (Ν c)) (λk D hk=> ?_) (λk D hk=> ?_) (by rw [aah,aaa li];rfl) (by rw [aah,aaa lj];rfl)
    ·rw [aah] at hk;obtain ⟨r,e,rfl⟩:=aaO.mp hk;rw [aaw (by omega),abF,aah,e];rfl
    ·rw [aah] at hk;obtain ⟨r,e,rfl⟩:=aaO.mp hk;cases r with
     | fin p=>rfl
     | ν k ds=>have:=(gE c k ds).1;rwa [aac] at this
   ·unfold ze;simp
def FX(D:PD):Prop:=D.2.length=D.1.length/\D.1.Nodup
theorem zM{D D':PD}(h:FX D)(h':FX D'):kU D D'=true↔∀k,N51.get D.1 D.2 k=N51.get D'.1 D'.2 k:=by
 rw [<-N51.AG h.1 h'.1 h.2 h'.2];unfold kU;rw [aan,decide_eq_true_eq,aaX];refine and_congr_right λ_=>⟨λq j k v hk hv=> ?_,λq j hj=> ?_⟩
 ·have:=q j (aaL.mpr (aad.mp hk).1);unfold lX at this;rw [hk,hv] at this;cases g:N51.get D'.1 D'.2 k with
  | none=>
   have this:(match N51.get D'.1 D'.2 k with | some v'=>decide (v=v') | none=>false)=true:=this;rw [g] at this;cases this
  | some v'=>
   have this:(match N51.get D'.1 D'.2 k with | some v'=>decide (v=v') | none=>false)=true:=this;rw [g] at this;rw [aaB this]
 ·have hj:=aaL.mp hj;have HP:j < D.2.length:=by rw [h.1];exact hj
  unfold lX;rw [aaa hj,aaa HP];show (match N51.get D'.1 D'.2 D.1[j] with | some v'=>decide (D.2[j]=v') | none=>false)=true;rw [q j _ _ (aaa hj) (aaa HP)];exact aaq rfl
theorem ny(c:Nat->Nat)(r:Rw):FX (Ν c r):=by
 cases r with
 | fin p=>exact ⟨rfl,List.nodup_nil⟩
 | ν k ds=>
  have key:∀(op:Fr->Fr->Fr),FX (N51.k8 op (0,1) (ds.map λd=>(Δ c d,θ d))):=λop=>by obtain ⟨a1,a2,_⟩:=N51.fN op (0,1) (ds.map λd=>(Δ c d,θ d));exact ⟨a1,a2⟩
  by_cases e:k="chance"
  ·simp only [Ν,if_pos e];exact key _
  ·simp only [Ν,if_neg e];exact key _
theorem eS{γ:List Rw}(hi:i < γ.length)(hj:j < γ.length):ze γ c i j=true↔c i=c j/\∀k,N51.get (Ν c γ[i]).1 (Ν c γ[i]).2 k=N51.get (Ν c γ[j]).1 (Ν c γ[j]).2 k:=by
 have a1:ze γ c i j=(decide (c i=c j)&&(if i=j then true else kU (Ν c γ[i]) (Ν c γ[j]))):=by unfold ze;rw [aaa hi,aaa hj]
 rw [a1,aan,decide_eq_true_eq];refine and_congr_right λ_=> ?_;by_cases e:i=j
 ·subst e;rw [aaI rfl];exact ⟨λ_ _=>rfl,λ_=>rfl⟩
 ·rw [aaF e];exact zM (ny c _) (ny c _)
theorem BE(γ:List Rw)(c:Nat->Nat):N51.Cl γ.length (N51.least (ze γ c)):=
 N51.vA (λi hi=>(eS hi hi).mpr ⟨rfl,λ_=>rfl⟩) λi j k hi hj hk h1 h2=>(eS hi hk).mpr ⟨((eS hi hj).mp h1).1.trans ((eS hj hk).mp h2).1,λx=>(((eS hi hj).mp h1).2 x).trans (((eS hj hk).mp h2).2 x)⟩
theorem An(γ:List Rw)(c:Nat->Nat)(hi:i < γ.length):c (N51.least (ze γ c) i)=c i:=by have h:=N51.kR (s:=ze γ c) (i:=i) ((eS hi hi).mpr ⟨rfl,λ_=>rfl⟩);exact ((eS (aaP (N51.least_le _ _) hi) hi).mp h).1
theorem Eu{γ:List Rw}(hc:N51.Cl γ.length c)(hi:i < γ.length)(ne:N51.least (ze γ c) i≠c i):(N51.cC γ.length c).length < (N51.cC γ.length (N51.least (ze γ c))).length:=
 N51.MW hc (BE γ c) (λ_ h=>An γ c h) hi ne
theorem u9:∀{r s t:Rw},eR r s=true->eR s t=true->eR r t=true
 | .fin p, .fin q, .fin o,h1,h2=>by have h1:p=q:=aaB h1;rw [h1];exact h2
 | .ν k _, .ν l _, .ν o _,h1,h2=>by have h1:k=l:=aaB h1;have h2:l=o:=aaB h2;exact aaq (h1.trans h2)
 | .fin _, .ν _ _,_,h1,_=>(nomatch h1)
 | .ν _ _, .fin _,_,h1,_=>(nomatch h1)
 | .fin _, .fin _, .ν _ _,_,h2=>(nomatch h2)
 | .ν _ _, .ν _ _, .fin _,_,h2=>(nomatch h2)
theorem tN{γ:List Rw}(hi:i < γ.length)(hj:j < γ.length):w8 γ i j=eR γ[i] γ[j]:=by unfold w8;rw [aaa hi,aaa hj]
theorem KQ(γ:List Rw):N51.Cl γ.length (N51.least (w8 γ)):=
 N51.vA (λi hi=>by rw [tN hi hi];exact nQ _) λi j k hi hj hk h1 h2=>by rw [tN hi hj] at h1;rw [tN hj hk] at h2;rw [tN hi hk];exact u9 h1 h2
def i_(γ:List Rw):Nat->Nat->Nat
 | 0=>N51.least (w8 γ)
 | k+1=>N51.least (ze γ (i_ γ k))
def eK(γ:List Rw)(k:Nat):List Dt:=bZ γ.length (i_ γ k)
theorem x_(γ:List Rw)(k:Nat):N51.Cl γ.length (i_ γ k):=by
 cases k with
 | zero=>exact KQ γ
 | succ k=>exact BE γ _
theorem gC:(bZ n c).length=n:=by unfold bZ;rw [List.length_map,List.length_range]
theorem gf(h:i < n):(bZ n c)[i]? =some (.int (c i:Nat)):=by unfold bZ;rw [List.getElem?_map,List.getElem?_range h];rfl
theorem CF:bZ n c=bZ n c'↔∀i,i < n->c i=c' i:=by
 constructor
 ·intro h i hi;have:=gf (c:=c) hi;rw [h,gf hi] at this;have:=aaA this;have:((c' i:Nat):Int)=(c i:Nat):=Dt.int.inj this;omega
 ·intro h;unfold bZ;exact aaR λi hi=>by rw [h i (aaL.mp hi)]
theorem KN(h:bZ n c≠bZ n c'):∃i,i < n/\c i≠c' i:=
 Classical.byContradiction λq=>h (CF.mpr λi hi=>Classical.byContradiction λz=>q ⟨i,hi,z⟩)
theorem BN{γ:List Rw}(h:eK γ (k+1)≠eK γ k):(N51.cC γ.length (i_ γ k)).length < (N51.cC γ.length (i_ γ (k+1))).length:=by obtain ⟨i,hi,ne⟩:=KN h;exact Eu (x_ γ k) hi ne
structure yf(γ:List Rw)(m:Nat):Prop where
 pos:1<=m
 MM:m<=13
 ne:∀k,k+1 < m->eK γ (k+1)≠eK γ k
 eq:eK γ m=eK γ (m - 1)
theorem yf.uniq{γ:List Rw}{m m':Nat}(h:yf γ m)(h':yf γ m'):m=m':=by
 have key:∀{a b:Nat},yf γ a->yf γ b->¬a < b:=λ{a b} ha hb hl=>by have p:=ha.pos;have:=hb.ne (a - 1) (by omega);rw [show a - 1+1=a by omega] at this;exact this ha.eq
 have a:=key h h';have b:=key h' h;omega
def yI(n:Nat)(c c':Nat->Nat):Bool:=(List.range n).all λj=>decide (c j=c' j)
theorem qB:yI n c c'=true↔bZ n c=bZ n c':=by unfold yI;rw [aaX,CF];exact ⟨λh i hi=>aaB (h i (aaL.mpr hi)),λh i hi=>aaq (h i (aaL.mp hi))⟩
theorem Fm{e:Dt}(h1:fC M d=some (bZ n c))(h2:fC M e=some (bZ n c')):gM M (k+1) d e (yI n c c'):=by
 have h:=gM.lst (M:=M) (n:=k) (d:=d) (e:=e) (f:=λj=>decide (c j=c' j)) h1 h2 (by rw [gC,gC]) λj x y hx hy=>by
  have lj:j < n:=by have:=(aad.mp hx).1;rwa [gC] at this
  rw [gf lj] at hx hy;cases hx;cases hy;have z:eT (V.int ((c j:Nat):Int)) (V.int ((c' j:Nat):Int))=decide (c j=c' j):=by rw [Bool.eq_iff_iff];simp [eT];omega
  have:=gM.flat (M:=M) (n:=k) (d:= .int ((c j:Nat):Int)) (e:= .int ((c' j:Nat):Int)) rfl rfl;rwa [z] at this
 rw [gC] at h;exact h
theorem kK:gS (xs++[d]) (-1)=some d:=by
 unfold gS;rw [aag];show ((EG (xs.length+1) (-1)).bind _)=_;have e:EG (xs.length+1) (-1)=some xs.length:=by unfold EG;simp;omega
 rw [e];show (xs++[d])[xs.length]? =_;simp
theorem cj{o:MO}:(M++[o])[M.length]? =some o:=by simp
theorem dr{E:Ms}{m:MO}(h:M[k]? =some m):(M++E)[k]? =some m:=by rw [aaE (aad.mp h).1];exact h
theorem cD(h:M[k]? =some (MO.lst xs)):gu M (.loc k)=some xs:=by show (match M[k]? with | some (.lst xs)=>some xs | _=>none)=_;rw [h]
theorem c7(h:M[k]? =some (MO.lst xs)):fC M (.loc k)=some xs:=by show (match M[k]? with | some (.lst xs)=>some xs | _=>none)=_;rw [h]
def Xt(M M1:Ms):Prop:=∀(k:Nat) (o:MO),M[k]? =some o->M1[k]? =some o
section
variable{M1 M2:Ms}
theorem Xt.trans(a:Xt M M1)(b:Xt M1 M2):Xt M M2:=λk o h=>b k o (a k o h)
theorem Xt.app{E:Ms}:Xt M (M++E):=λ_ _ h=>dr h
theorem Xt.set{o:MO}(a:Xt M M1)(h:M.length<=j):Xt M (M1.set j o):=λk u e=>by rw [aa2 (λq=>by have:=(aad.mp e).1;omega)];exact a k u e
theorem Xt.len(a:Xt M M1):M.length<=M1.length:=by
 rcases Nat.eq_zero_or_pos M.length with z | z
 ·omega
 ·have:=a (M.length - 1) _ (aaa (by omega));have:=(aad.mp this).1;omega
end
structure Ab(M:Ms)(lo kr:Nat)(γ:List Rw)(ls:List Nat):Prop where
 at':M[kr]? =some (.lst (ls.map Dt.loc))
 lo1:lo<=kr
 each:∀k a,ls[k]? =some a->lo<=a/\a≠kr/\M[a]? =some (.lst (eK γ k))
 nd:ls.Nodup
theorem Ab.mono{M1:Ms}{lo kr:Nat}{γ:List Rw}(h:Ab M lo kr γ ls)(x:Xt M M1):Ab M1 lo kr γ ls:=
 ⟨x _ _ h.at',h.lo1,λk a e=>⟨(h.each k a e).1,(h.each k a e).2.1,x _ _ (h.each k a e).2.2⟩,h.nd⟩
structure PZ(γ:List Rw):Prop where
 len:γ.length<=12
 ok:∀r∈γ,b8 r
 to:∀r∈γ,∀d∈bW r,0<=d.1/\d.1 < γ.length
 sz:∀r∈γ,∀d∈bW r,Sz 200 (θ d)
def sN(C:Addr):DF:=λas M q _=>∃υ γ,as=[Χ C υ γ]/\PZ γ/\∀(m kr:Nat) (ls:List Nat) (M1:Ms),yf γ m->ls.length=m->Xt M M1->Ab M1 M.length kr γ ls->q (.loc kr) M1
theorem kJ:ψ ["floor","rounds","classes"] ["floor"] (ο tS):= .of rfl
theorem z7   (F:dH K "parted" "parted" tS f fd) (E:Ev K mg Cm) {qw:Addr} {pS:FuncData} (dW:aL P w K mg base 4 "first_classes" ["floor"] (B5 Cm) qw pS) {uA:Addr} {uc:FuncData} (c6:aL P w K mg base 7 "next_classes" ["floor","classes"] (Cq P w Cm) uA uc):aB P w K mg base (cQ P w) 9 f fd ["floor"] (dw K (sN Cm)):=by
 refine F.fZ kJ (λds M q x h=> ?_) (λbK A outer s H E' hr=>⟨_,(η (τ 1 kJ.nd (kY (ζ (ax dW hr ξ (Υ (jv 0) ε)) ε aQ)))
   (η (τ 2 kJ.nd (ax c6 hr ξ (Υ (jv 0) (ζ (Γ (jv 1) (qS ι)) ε az))))
   (η (pG (wW 1 hr (jv 2) (Γ (jv 1) (qS ι))) (η (iI (iD (jv 1) (Υ (jv 2) ε)))
   (μ (τ 2 kJ.nd (ax c6 hr ξ (Υ (jv 0) (Υ (jv 2) ε)))))))
   (μ (χ (jv 1)))))),λds M q x h=> ?_⟩)
 ·obtain ⟨υ,γ,rfl,_⟩:=h;rfl
 ·obtain ⟨υ,γ,rfl,fl,h⟩:=h;walk_at "vc";dsimp only [BI];walk_at "vc";refine ⟨υ,γ,rfl,fl.len,fl.ok, ?_⟩;have l0:(M++[MO.lst (bZ γ.length (N51.least (w8 γ)))]).length=M.length+1:=by rw [aag];rfl
  refine ⟨by decide, ?_⟩;rw [l0];have a0:(M++[MO.lst (bZ γ.length (N51.least (w8 γ)))]++[MO.lst [Dt.loc M.length]])[M.length]? =some (.lst (eK γ 0)):=dr cj;have a1:(M++[MO.lst (bZ γ.length (N51.least (w8 γ)))]++[MO.lst [Dt.loc M.length]])[M.length+1]? =some (.lst ([M.length].map Dt.loc)):=by rw [<-l0];exact cj
  have x1:Xt M (M++[MO.lst (bZ γ.length (N51.least (w8 γ)))]++[MO.lst [Dt.loc M.length]]):=Xt.app.trans Xt.app;have l1:(M++[MO.lst (bZ γ.length (N51.least (w8 γ)))]++[MO.lst [Dt.loc M.length]]).length=M.length+2:=by rw [aag,l0];rfl
  generalize M++[MO.lst (bZ γ.length (N51.least (w8 γ)))]++[MO.lst [Dt.loc M.length]]=M1 at *
  show cN (.loc (M.length+1)) (.int (-1)) M1 (λd2 M2=>Cq P w Cm [Χ Cm υ γ,d2] M2 _ _);refine (π (d:= .loc (M.length+1)) (i:= -1) (cD a1) (kK (xs:=[])) ?_:cN (.loc (M.length+1)) (.int (-1)) M1 _);refine ⟨υ,γ,i_ γ 0, .loc M.length,rfl,λE=>cD (dr a0),fl.len,fl.ok,fl.to,fl.sz, ?_⟩;refine ⟨λmm ρ' M2=>∃(k kc:Nat) (ls:List Nat),mm=13 - (N51.cC γ.length (i_ γ k)).length/\k<=(N51.cC γ.length (i_ γ k)).length/\ls.length=k+1/\(∀j,j < k->eK γ (j+1)≠eK γ j)/\Xt M M2/\Ab M2 M.length (M.length+1) γ ls/\M.length<=kc/\kc≠M.length+1/\kc∉ls/\M2[kc]? =some (.lst (eK γ (k+1)))/\ρ'=[some (Χ Cm υ γ),some (.loc (M.length+1)),some (.loc kc)],⟨_,0,_,[M.length],rfl,Nat.zero_le _,rfl,λj hj=>absurd hj (by omega),x1.trans (Xt.app.trans Xt.app),⟨dr (dr a1),by omega,λk a e=> ?_,by simp⟩, ?_, ?_, ?_,cj,rfl⟩,λmm ρ' M2 hw=> ?_⟩
  ·cases k with
   | zero=>cases e;exact ⟨aal _,by omega,dr (dr a0)⟩
   | succ k=>cases e
  ·rw [aag,l1];omega
  ·rw [aag,l1];omega
  ·rw [aag,l1,abd];omega
  ·obtain ⟨k,kc,ls,rfl,hk,hl,ne,x2,ca,c1,c2,c3,hc,rfl⟩:=hw;have S9:=aam (N51.r_ γ.length (i_ γ k)) fl.len;obtain ⟨li,la,rfl⟩:∃li la,ls=li++[la]:=⟨ls.dropLast,ls.getLast (λe=>by subst e;cases hl),(aa1 _).symm⟩;have TK:li.length=k:=by rw [aag] at hl;exact Nat.succ.inj hl
   have Me:(li++[la])[k]? =some la:=by rw [aaw (by omega),TK,abn];rfl
   have AM:=ca.each k la Me;have K7:gS ((li++[la]).map Dt.loc) (-1)=some (.loc la):=by rw [aav];exact kK
   walk_at "vc";dsimp only [Ar];refine (π (d:= .loc (M.length+1)) (i:= -1) (cD ca.at') K7 ?_:cN (.loc (M.length+1)) (.int (-1)) M2 _);refine ⟨_, .inr ⟨_,c7 hc⟩, .inr ⟨_,c7 AM.2.2⟩,Fm (k:=0) (c7 hc) (c7 AM.2.2),λhb=> ?_,λhb=> ?_⟩
   ·have fP:eK γ (k+1)≠eK γ k:=λe=>by have:=qB.mpr e;rw [this] at hb;cases hb
    have more:=BN fP;refine ⟨_,λρ2 M3 hn=>hn, ?_⟩;dsimp only [E8];walk_at "vc";refine ⟨⟨_,_,rfl,ca.at'⟩,M.length+1,_,_,rfl,rfl,ca.at',by rw [aac,hl];exact aaP (show k+1<=13 by omega) (by decide), ?_⟩;have Yd:=(aad.mp hc).1;have XN:=(aad.mp ca.at').1;have l3:(M2.set (M.length+1) (.lst ((li++[la]).map Dt.loc++[.loc kc]))).length=M2.length:=abj;have S':(M2.set (M.length+1) (.lst ((li++[la]).map Dt.loc++[.loc kc])))[kc]? =some (.lst (eK γ (k+1))):=by rw [aa2 (Ne.symm c2)];exact hc
    have S2:Ab (M2.set (M.length+1) (.lst ((li++[la]).map Dt.loc++[.loc kc]))) M.length (M.length+1) γ ((li++[la])++[kc]):=by
     refine ⟨by rw [aa7 XN,aav (l₁:=li++[la])];rfl,by omega,λj a e=> ?_, ?_⟩
     ·rcases abe j (li++[la]).length with q | q
      ·rw [aaE q] at e;obtain ⟨e1,e2,e3⟩:=ca.each j a e;exact ⟨e1,e2,by rw [aa2 (Ne.symm e2)];exact e3⟩
      ·rw [aaw q] at e;have ej:j=k+1:=by have:=(aad.mp e).1;have this:j - (li++[la]).length < 1:=this;omega
       subst ej;rw [hl,abn] at e;cases e;exact ⟨c1,c2,S'⟩
     ·exact List.nodup_append.mpr ⟨ca.nd,by simp,λa ha b hb=>by
       have:b=kc:=by simpa using hb
       subst this;rintro rfl
       exact c3 ha⟩
    have x3:Xt M (M2.set (M.length+1) (.lst ((li++[la]).map Dt.loc++[.loc kc]))):=x2.set (by omega);have UW:∀j a,(li++[la]++[kc])[j]? =some a->a < M2.length:=λj a e=>by have:=(aad.mp (S2.each j a e).2.2).1;omega
    generalize M2.set (M.length+1) (.lst ((li++[la]).map Dt.loc++[.loc kc]))=M3 at *
    refine ⟨υ,γ,i_ γ (k+1), .loc kc,rfl,λE=>cD (dr S'),fl.len,fl.ok,fl.to,fl.sz, ?_⟩;refine ⟨_, ?_,k+1,_,(li++[la])++[kc],rfl,by omega,by rw [aag,hl];rfl,λj hj=> ?_,x3.trans (Xt.app.trans Xt.app),S2.mono (Xt.app.trans Xt.app), ?_, ?_, ?_,cj,rfl⟩
    ·omega
    ·rcases abe j k with q | q
     ·exact ne j q
     ·rw [show j=k by omega];exact fP
    ·rw [aag];omega
    ·rw [aag];omega
    ·intro hm;obtain ⟨j,hj⟩:=aba.mp hm;have:=UW j _ hj;rw [aag] at this;omega
   ·have he:eK γ (k+1)=eK γ k:=by
     refine qB.mp ?_;cases e:yI γ.length (i_ γ (k+1)) (i_ γ k) with
     | true=>rfl
     | false=>rw [e] at hb;cases hb
    exact h (k+1) _ (li++[la]) M2 ⟨by omega,by omega,λj hj=>ne j (by omega),he⟩ hl x2 ca
theorem Lg:1<=sizeLine:=by decide
theorem iV:2<=sizeLine:=by decide
theorem Nb:3<=sizeLine:=by decide
def j3(l:List Nat):List Dt:=l.map λj:Nat=>Dt.int (j:Nat)
theorem eZ:(j3 l).length=l.length:=aac ..
theorem yv(h:i < l.length):(j3 l)[i]? =some (.int (l[i]:Nat)):=by unfold j3;rw [List.getElem?_map,List.getElem?_eq_getElem h];rfl
theorem xt{n:Nat}:∀l:List Nat,Dt.aV n (j3 l)
 | []=>trivial
 | _::l=>⟨trivial,xt l⟩
theorem lr(h:y∈ls):ls.idxOf y < ls.length:=List.idxOf_lt_length_iff.mpr h
theorem s_(h:y∈ls):ls[ls.idxOf y]'(lr h)=y:=List.getElem_idxOf (lr h)
theorem Gv{x:Nat}(hx:x∈ls)(hy:y∈ls)(e:ls.idxOf x=ls.idxOf y):x=y:=by
 rw [<-s_ hx,<-s_ hy]
 congr 1
theorem GR{x:Nat}:gM M n (.int (x:Nat)) (.int (y:Nat)) (decide (x=y)):=by
 have z:eT (V.int (x:Nat)) (V.int (y:Nat))=decide (x=y):=by rw [Bool.eq_iff_iff];simp [eT];omega
 have:=gM.flat (M:=M) (n:=n) (d:= .int (x:Nat)) (e:= .int (y:Nat)) rfl rfl;rwa [z] at this
theorem oU(M:Ms)(h:y∈ls):∃f:Nat->Bool,(∀(i:Nat) z,(j3 ls)[i]? =some z->gM M 1 z (.int (y:Nat)) (f i))/\ls.idxOf y < (j3 ls).length/\f (ls.idxOf y)=true/\∀i,i < ls.idxOf y->f i=false:=by
 refine ⟨λi=>decide (ls.getD i 0=y),λi z hz=> ?_,by rw [eZ];exact lr h, ?_,λi hi=> ?_⟩
 ·have hi:i < ls.length:=by have:=(aad.mp hz).1;rwa [eZ] at this
  rw [yv hi] at hz;cases hz;have:ls.getD i 0=ls[i]:=by rw [aao,aaa hi];rfl
  show gM M 1 _ _ (decide (ls.getD i 0=y));rw [this];exact GR
 ·have hi:=lr h;show decide (ls.getD (ls.idxOf y) 0=y)=true;rw [aao,aaa hi];exact aaq (s_ h)
 ·have Fg:i < ls.length:=Nat.lt_trans hi (lr h);show decide (ls.getD i 0=y)=false;rw [aao,aaa Fg];have:=List.not_of_lt_findIdx (p:=(· ==y)) (xs:=ls) hi;have e2:ls[i]≠y:=λe=>by have this:(ls[i]==y)=false:=this;rw [e] at this;simp at this
  exact aaK e2
def NN:NK->Fr
 | ([.inl a, .inl b],_)=>(a,b)
 | _=>(0,1)
def Ox:NK->Nat
 | (_, .inl y)=>y.toNat
 | _=>0
theorem uu(c:Nat->Nat)(d:bT):NN (Δ c d)=d.2.1:=rfl
theorem r8(c:Nat->Nat)(d:bT):Ox (Δ c d)=c d.1.toNat:=by show ((c d.1.toNat:Nat):Int).toNat=_;omega
def jd(ls:List Nat)(kv:NK×Fr):bT:=(((ls.idxOf (Ox kv.1):Nat):Int),NN kv.1,[kv.2])
def Mj(d:bT):bT:=(d.1,d.2.1,[])
abbrev A5(c:Nat->Nat)(r:Rw):List (NK×Fr):=(Ν c r).1.zip (Ν c r).2
def rS(ls:List Nat)(c:Nat->Nat):Rw->Rw
 | .fin p=> .fin p
 | .ν k ds=> .ν k (if k="chance" then (A5 c (.ν k ds)).map (jd ls) else ((A5 c (.ν k ds)).map (jd ls)).map Mj)
theorem hW{k:Str}{ds:List bT}{x:NK}:x∈(Ν c (.ν k ds)).1↔∃d∈ds,x=Δ c d:=by
 have key:∀op:Fr->Fr->Fr,x∈(N51.k8 op (0,1) (ds.map λd=>(Δ c d,θ d))).1↔∃d∈ds,x=Δ c d:=λop=>by rw [(N51.fN op (0,1) (ds.map λd=>(Δ c d,θ d))).2.2.1 x,aay,aaj];exact ⟨λ⟨d,h1,h2⟩=>⟨d,h1,h2.symm⟩,λ⟨d,h1,h2⟩=>⟨d,h1,h2.symm⟩⟩
 by_cases e:k="chance"
 ·simp only [Ν,if_pos e];exact key _
 ·simp only [Ν,if_neg e];exact key _
def yr(P:Program)(w:World)(C:Addr):DF:=λas M q _=>∃υ γ i r n c dc ls,as=[Χ C υ γ, .int (i:Nat),dc, .lst (j3 ls)]/\(∀E,gu (M++E) dc=some (bZ n c))/\γ[i]? =some r/\b8 r/\(∀d∈bW r,0<=d.1/\d.1 < n)/\(∀d∈bW r,Sz 200 (θ d))/\n<=12/\(∀t,t < n->c t∈ls)/\∀E,q (Μ (rS ls c r)) (M++E)
theorem df:ψ ["floor","place","classes","leasts","pairs","doors"] ["floor","place","classes","leasts"] (ο jU):= .of rfl
theorem tj(F:dH K "joined_row" "joined_row" jU f fd)(E:Ev K mg Cm)(Ξ:eL P w K mg base 1 Cm "kind" ["self","place"] (qH Cm) bI bG){lO:Addr}{ll:FuncData}(cV:eL P w K mg base 2 Cm "pay" ["self","place"] (Iv Cm) lO ll){nR:Addr}{oF:FuncData}(dP:aL P w K mg base 5 "pairs_of" ["floor","place","classes"] (xp P w Cm) nR oF):aB P w K mg base (cQ P w) 7 f fd ["floor","place","classes","leasts"] (dw K (yr P w Cm)):=by
 refine F.fZ df (λds M q x h=> ?_) (λbK A outer s H E' hr=>⟨_,(η (aC (cb hr (fD Ξ hr ξ (jv 0) (Υ (jv 1) ε)) fE) (μ (χ (aq (ζ fE (ζ (fD cV hr ξ (jv 0) (Υ (jv 1) ε)) ε aQ) aU)))) Λ)
   (η (τ 4 df.nd (ax dP hr ξ (Υ (jv 0) (Υ (jv 1) (Υ (jv 2) ε)))))
   (η (v9 (P:=P) (w:=w) (i:=5) df.nd rfl (Or.inl rfl) (ys:=["pairs","leasts"]) (Θ:=[4,3]) (.of df rfl rfl rfl) (jv 4) (λC s H fp=>(aq (ζ (sD 1 hr (jv 2) (ζ (Γ (jv 0) ι) ε az)) (ζ (Γ (jv 0) ι) (ζ (Gm (P:=P) (w:=w) hr (jv 1) (jv 0)) ε az) az) aQ))))
   (η (aC (cb hr (fD Ξ hr ξ (jv 0) (Υ (jv 1) ε)) fE) (μ (χ (aq (ζ fE (Υ (jv 5) ε) aU)))) Λ)
   (μ (χ (aq (ζ (fD Ξ hr ξ (jv 0) (Υ (jv 1) ε)) (ζ (dG (ys:=[]) (Θ:=[]) (.of df rfl rfl rfl) (bF (jv 5)) (λC s H fp=>(yM (jv 0) ι))) ε) aQ)))))))),λds M q x h=> ?_⟩)
 ·obtain ⟨υ,γ,i,r,n,c,dc,ls,rfl,_⟩:=h;rfl
 ·obtain ⟨υ,γ,i,r,n,c,dc,ls,rfl,Lc,e,ok,ht,hs,hn,Ln,h⟩:=h;refine ⟨⟨_,_, .inl rfl,rfl⟩,υ,γ,i,r,rfl,e, ?_⟩
  match r,e,ok,ht,hs,h with
  | .fin p,e,ok,_,_,h=>
   refine ⟨λ_=>⟨⟨_,_, .inl rfl,rfl⟩,υ,γ,i, .fin p,rfl,e,ok,iV, ?_⟩,λz=>(nomatch z)⟩;have:=h [];rwa [aaU] at this
  | .ν kd ds,e,ok,ht,hs,h=>
  have J4:kd≠"end":=ok.1;refine ⟨λz=>aaH (aaB z) J4,λ_=> ?_⟩;refine ⟨υ,γ,i, .ν kd ds,n,c,dc,rfl,Lc,e,ok,ht,hs,hn, ?_⟩;obtain ⟨f1,f2⟩:=gE c kd ds;have f3:(Ν c (.ν kd ds)).2.length=(Ν c (.ν kd ds)).1.length:=by rw [aac] at f1;exact f1.symm
  have f4:=(ny c (.ν kd ds)).2;have Dc:ds.length<=12:=ok.2.1;have mem:∀x∈(Ν c (.ν kd ds)).1,∃d∈ds,x=Δ c d:=λx hx=>hW.mp hx;have O4:∀dd:List bT,(∀E,q (Μ (.ν kd dd)) (M++E))->(∀E,q (Μ (.ν kd dd)) (M++E)):=λ_ h=>h;have hj:rS ls c (.ν kd ds)= .ν kd (if kd="chance" then (A5 c (.ν kd ds)).map (jd ls) else ((A5 c (.ν kd ds)).map (jd ls)).map Mj):=rfl;rw [hj] at h;unfold A5 at h;generalize Iz:(Ν c (.ν kd ds)).1=ks at *
  generalize S7:(Ν c (.ν kd ds)).2=vs at *
  have gm:(M++[i5 P w ks (vs.map Τ)])[M.length]? =some (i5 P w ks (vs.map Τ)):=cj;dsimp only [C0];walk_at "vc";refine ⟨M.length,ks,vs.map Τ,rfl,gm,f1,aam (show ks.length<=12 by omega) (by decide),λiQ ep=> ?_⟩;have es:(M++[i5 P w ks (vs.map Τ)]).set M.length (xA P w ks (vs.map Τ) iQ ep)=M++[xA P w ks (vs.map Τ) iQ ep]:=by rw [abb _ _ (aal _),abn];rfl
  rw [es];have gw:(M++[xA P w ks (vs.map Τ) iQ ep])[M.length]? =some (xA P w ks (vs.map Τ) iQ ep):=cj;refine gX (f:=λj=>aH (jd ls ((ks.zip vs).getD j (([], .inl 0),(0,1))))) gw (λj x hx q' hq=> ?_) ?_
  ·rw [aah] at hx;obtain ⟨key,ek,rfl⟩:=aaO.mp hx;have jl:j < ks.length:=(aad.mp ek).1;have jv:j < vs.length:=by omega
   have ez:(ks.zip vs).getD j (([], .inl 0),(0,1))=(key,vs[j]):=by rw [aao,(aa0 (z:=(key,vs[j]))).mpr ⟨ek,aaa jv⟩];rfl
   rw [ez] at hq;obtain ⟨d,md,rfl⟩:=mem key (aat ek);obtain ⟨t0,tn⟩:=ht d md;have tl:d.1.toNat < n:=by omega
   have eg:dh ks (vs.map Τ) (Δ c d)=some (Τ vs[j]):=by rw [fL,N51.pD f4 ek (aaa jv)];rfl
   have en:qy (Δ c d)= .tup [Τ d.2.1, .int (c d.1.toNat:Nat)]:=rfl;dsimp only [wG,dY,jO,xk,Cg];walk_at "vc";refine ⟨⟨_,rfl⟩, ?_⟩;refine (π (d:=qy (Δ c d)) (xs:=[Τ d.2.1, .int (c d.1.toNat:Nat)]) rfl (Ζ (j:=1) rfl) ?_:cN (qy (Δ c d)) (.int 1) _ _);obtain ⟨fx,x1,x2,x3,x4⟩:=oU (M++[xA P w ks (vs.map Τ) iQ ep]) (Ln _ tl);refine ⟨_,j3 ls,fx,_,rfl,rfl,x1,x2,x3,x4, ?_⟩;refine (π (d:=qy (Δ c d)) (xs:=[Τ d.2.1, .int (c d.1.toNat:Nat)]) rfl ao ?_:cN (qy (Δ c d)) (.int 0) _ _);refine ⟨M.length,ks,vs.map Τ,iQ,ep,Δ c d,_,rfl,gw,f1,rfl,eg,Nb, ?_⟩;have ej:aH (jd ls (Δ c d,vs[j]))= .tup [.int (ls.idxOf (c d.1.toNat):Nat),Τ d.2.1,Τ vs[j]]:=by unfold aH jd;rw [r8,uu];rfl
   rw [ej] at hq;exact hq
  ·have ed:[]++(List.range (ks.map qy).length).map (λj=>aH (jd ls ((ks.zip vs).getD j (([], .inl 0),(0,1)))))=((ks.zip vs).map (jd ls)).map aH:=by
    rw [aaS,aay,aac];apply abB;intro j;rw [aah,aah];rcases abe j ks.length with hj | hj
    ·rw [aaV hj];have hz:j < (ks.zip vs).length:=by rw [abA];omega
     rw [aaa hz];show some (aH (jd ls ((ks.zip vs).getD j _)))=some _;rw [aao,aaa hz];rfl
    ·rw [List.getElem?_eq_none (by simpa using hj),List.getElem?_eq_none (by rw [List.length_zip];omega)];rfl
   have EB:(M++[xA P w ks (vs.map Τ) iQ ep]).set M.length (i5 P w ks (vs.map Τ))=M++[i5 P w ks (vs.map Τ)]:=by rw [abb _ _ (aal _),abn];rfl
   rw [ed,EB];refine ⟨gw, ?_⟩;have lz:(ks.zip vs).length<=12:=by rw [abA];omega
   generalize ks.zip vs=zs at *
   refine ⟨⟨_,_, .inl rfl,rfl⟩,υ,γ,i, .ν kd ds,rfl,e,λhb=> ?_,λhb=> ?_⟩
   ·have hb:kd="chance":=aaB hb;rw [aaI hb] at h;subst hb;exact ⟨iV,h _⟩
   ·have hb:kd≠"chance":=abJ hb;rw [aaF hb] at h;refine ⟨⟨_,_, .inl rfl,rfl⟩,υ,γ,i, .ν kd ds,rfl,e, ?_⟩;show dX _ _ _ _ _;refine aP (i:=5) (d:= .lst ((zs.map (jd ls)).map aH)) rfl rfl ⟨by rw [aac,aac];exact aam lz (by decide), ?_⟩;refine cy (f:=λd=>match d with | .tup [a,b,_]=> .tup [a,b] | _=> .bf) trivial (λx vy q' hq=> ?_) ?_
    ·obtain ⟨d,hd,rfl⟩:=aaj.mp vy;obtain ⟨y,hy,rfl⟩:=aaj.mp hd;exact ⟨_,2,rfl,rfl,by show 2 < 3;decide,hq⟩
    ·have e3:[]++((zs.map (jd ls)).map aH).map (λd=>match d with | .tup [a,b,_]=> .tup [a,b] | _=> .bf)=((zs.map (jd ls)).map Mj).map aH:=by rw [aaS,aay,aay,aay,aay];rfl
     rw [e3];exact ⟨iV,h _⟩
def yV(k:Str):Fr->Fr->Fr:=if k="chance" then gK else λ_ _=>(1,1)
def dz(p:Fr)(y:Nat):NK:=([.inl p.1, .inl p.2], .inl (y:Nat))
abbrev EF(c:Nat->Nat)(ds:List bT):List (NK×Fr):=ds.map λd=>(Δ c d,θ d)
def b9(c:Nat->Nat)(k:Str)(ds:List bT)(x:NK):Fr:=N51.HC (yV k) (0,1) (EF c ds) x
theorem Ge(c:Nat->Nat)(k:Str)(ds:List bT):Ν c (.ν k ds)=N51.k8 (yV k) (0,1) (EF c ds):=by
 unfold yV;by_cases e:k="chance"
 ·simp only [Ν,if_pos e]
 ·simp only [Ν,if_neg e]
theorem fY{d:bT}{p:Fr}:Δ c d=dz p y↔d.2.1=p/\c d.1.toNat=y:=by
 unfold Δ dz;constructor
 ·intro h;injection h with h1 h2
  injection h1 with a1 a2
  injection a2 with a2 _
  have a1:=Sum.inl.inj a1;have a2:=Sum.inl.inj a2;have h2:=Sum.inl.inj h2;exact ⟨Prod.ext a1 a2,by omega⟩
 ·rintro ⟨rfl,rfl⟩;rfl
theorem fU(c:Nat->Nat)(k:Str)(ds:List bT)(d:bT)(x:NK):b9 c k (ds++[d]) x=if Δ c d=x then yV k (b9 c k ds x) (θ d) else b9 c k ds x:=by unfold b9 EF;rw [aav];exact N51.vd _ _ _ _ _
theorem As{k:Str}(hk:k≠"chance"){x:NK}:∀{ds:List bT},(∃d∈ds,Δ c d=x)->b9 c k ds x=(1,1):=λ{ds} h=>by
 have key:∀(ds:List bT) (a:Fr),a=(1,1)\/(∃d∈ds,Δ c d=x)->(EF c ds).foldl (λa y=>if y.1=x then yV k a y.2 else a) a=(1,1):=by
  intro ds
  induction ds with
  | nil=>
   intro a h;rcases h with h | ⟨d,hd,_⟩
   ·exact h
   ·cases hd
  | cons d ds ih=>
   intro a h;show (EF c ds).foldl _ (if Δ c d=x then yV k a (θ d) else a)=_;by_cases e:Δ c d=x
   ·rw [aaI e];exact ih _ (.inl (by unfold yV;rw [if_neg hk]))
   ·rw [aaF e];refine ih _ ?_;rcases h with h | ⟨d',hd,he⟩
    ·exact .inl h
    ·rcases aaz.mp hd with rfl | hd
     ·exact aaH he e
     ·exact .inr ⟨d',hd,he⟩
 exact key ds _ (.inr h)
structure ug(n:Nat)(k:Str)(ds:List bT):Prop where
 ok:b8 (.ν k ds)
 to:∀d∈ds,0<=d.1/\d.1 < n
 sz:∀d∈ds,Sz 200 (θ d)
 pos:k="chance"->∀d∈ds,0 < (θ d).1/\0 < (θ d).2
theorem ug.sub{k:Str}{ds es:List bT}(h:ug n k (ds++es)):ug n k ds:=by have m:∀{d},d∈ds->d∈ds++es:=λhd=>aaW _ hd;obtain ⟨⟨a1,a2,a3,a4⟩,b,c,d⟩:=h;rw [aag] at a2;refine ⟨⟨a1,by omega,λz=>⟨λx hx=>(a3 z).1 x (m hx),by rw [aac];omega,λx hx=> ?_⟩,λx hx=>a4 x (m hx)⟩,λx hx=>b x (m hx),λx hx=>c x (m hx),λz x hx=>d z x (m hx)⟩;obtain ⟨y,hy,rfl⟩:=aaj.mp hx;exact (a3 z).2.2 _ (aaj.mpr ⟨y,m hy,rfl⟩)
theorem FG{k:Str}{ds:List bT}(h:ug n k ds)(hk:k="chance")(c:Nat->Nat)(x:NK):∃l,l<=1+201 * ds.length/\Sz l (b9 c k ds x):=by
 unfold b9 N51.HC yV;rw [aaI hk]
 obtain ⟨l,h1,h2⟩:=tW x (EF c ds) (0,1) 1 (λy hy=>by
  obtain ⟨d,hd,rfl⟩:=aaj.mp hy
  exact h.sz d hd) ⟨by decide,by decide,by decide⟩
 exact ⟨l,by simpa using h1,h2⟩
theorem uL{p p':Fr}{x:Nat}:gM M 2 (.tup [Τ p, .int (x:Nat)]) (.tup [Τ p', .int (y:Nat)]) (decide (p=p')&&decide (x=y)):=by
 have z:eT (V.int (x:Nat)) (V.int (y:Nat))=decide (x=y):=by rw [Bool.eq_iff_iff];simp [eT];omega
 have h:=gM.tup (M:=M) (n:=1) (ds:=[Τ p, .int (x:Nat)]) (es:=[Τ p', .int (y:Nat)]) (f:=λj=>match j with | 0=>decide (p=p') | _=>decide (x=y)) λj d e h1 h2=>by
  match j with
  | 0=>cases h1;cases h2;exact xV p p'
  | 1=>
   cases h1;cases h2;have:=gM.flat (M:=M) (n:=1) (d:= .int (x:Nat)) (e:= .int (y:Nat)) rfl rfl;rwa [z] at this
  | j+2=>cases h1
 have e:((List.range (min [Τ p,Dt.int (x:Nat)].length [Τ p',Dt.int (y:Nat)].length)).all (λj=>match j with | 0=>decide (p=p') | _=>decide (x=y))&&[Τ p,Dt.int (x:Nat)].length==[Τ p',Dt.int (y:Nat)].length)=(decide (p=p')&&decide (x=y)):=by show ((List.range 2).all _&&true)=_;rw [nr,Bool.and_true];rfl
 rw [e] at h;exact h
structure pZ(size:Int)(r:Rw):Prop where
 good:sL size r
 hand:∀k ds,r= .ν k ds->bu k=true->∀d∈ds,d.2.2=[]
theorem Bj{n:Int}{k:Str}{ds:List bT}(h:pZ n (.ν k ds)):1<=ds.length/\ds.length<=6/\∀d∈ds,ah d.1 d.2.1 n=true:=by
 obtain ⟨⟨_,hf⟩,_⟩:=h;have hf:(if bu k then ω ds n else if k="chance" then ω ds n&&Η (ds.map θ) else false)=true:=hf;have key:ω ds n=true:=by
  by_cases c:bu k=true
  ·rw [aaI c] at hf;exact hf
  ·rw [aaF c] at hf;by_cases c2:k="chance"
   ·rw [aaI c2,aan] at hf;exact hf.1
   ·rw [aaF c2] at hf;cases hf
 unfold ω at key;rw [aan,aan,aaX,decide_eq_true_eq,decide_eq_true_eq] at key;exact ⟨key.1.1,key.1.2,key.2⟩
theorem m8{n:Int}{p:Fr}(h:ah t p n=true):0<=t/\t < n/\bM p=true:=by unfold ah at h;rw [aan,aan,decide_eq_true_eq,decide_eq_true_eq] at h;exact ⟨h.1,h.2.1,h.2.2⟩
theorem C3{t' b':Int}(h:b≠0)(h':b'≠0)(e:t * b'=t' * b):ag t b=ag t' b':=by
 have hq:=bQ (t:=t') h';have hc:=oh (t:=t') h';have hx:=ck (t:=t') h'
 have:ag t b=((ag t' b').1,(ag t' b').2):=ue h hq hc (by
  generalize (ag t' b').1=p at *
  generalize (ag t' b').2=q at *
  have:b' * (t * q)=b' * (b * p):=by grind
  exact abx h' this)
 rw [this]
theorem zz:∀(cs:List Fr) (b:Int),0 < b->(∀c∈cs,0 < c.2)->0 < cs.foldl (λb c=>b * c.2 / g b c.2) b
 | [],_,h,_=>h
 | c::cs,b,h,hc=>zz cs _ (gY h (hc c aak)).1 λx hx=>hc x (aai _ hx)
theorem Ez:∀(cs:List Fr),∃S:Int,∀c∈cs,c.2∣S
 | []=>⟨1,λ_ h=>nomatch h⟩
 | c::cs=>by
  obtain ⟨S,h⟩:=Ez cs;refine ⟨c.2 * S,λx hx=> ?_⟩;rcases aaz.mp hx with rfl | hx
  ·exact Int.dvd_mul_right ..
  ·exact Int.dvd_trans (h x hx) (Int.dvd_mul_left ..)
theorem Dw{cs:List Fr}(h:∀c∈cs,0 < c.2):0 < h8 cs/\∀c∈cs,c.2∣h8 cs:=by obtain ⟨S,hS⟩:=Ez cs;exact ⟨zz cs 1 (by decide) h,(oH cs 1 S (by decide) ⟨S,by omega⟩ λc hc=>⟨h c hc,hS c hc⟩).2.2⟩
def AO(B:Int)(d:bT):Int:=(θ d).1 * (B / (θ d).2)
def gR(c:Nat->Nat)(B:Int)(ds:List bT)(x:NK):Int:=(ds.map λd=>if Δ c d=x then AO B d else 0).sum
theorem qE(c:Nat->Nat)(B:Int)(ds:List bT)(d:bT)(x:NK):gR c B (ds++[d]) x=gR c B ds x+if Δ c d=x then AO B d else 0:=by unfold gR;rw [List.map_append,List.sum_append];simp
theorem q_{c:Nat->Nat}{B:Int}(hB:0 < B){x:NK}:∀(n:Nat) (ds:List bT),ds.length=n->(∀d∈ds,0 < (θ d).2/\(θ d).2∣B)->b9 c "chance" ds x=ag (gR c B ds x) B
 | 0,ds,hn,_=>by have:ds=[]:=abm.mp hn;subst this;show (0,1)=ag 0 B;exact (ue (by omega) (by decide) (by decide) (by omega)).symm
 | n+1,ds,hn,hd=>by
  have fP:ds≠[]:=λe=>by subst e;cases hn
  obtain ⟨zs,d,rfl⟩:∃zs d,ds=zs++[d]:=⟨ds.dropLast,ds.getLast fP,(aa1 fP).symm⟩;have ih:=q_ (c:=c) hB (x:=x) n zs (by simpa using hn) λd eJ=>hd d (List.mem_append_left _ eJ);obtain ⟨c0,cd⟩:=hd d (aax _ (abd.mpr rfl));rw [fU,qE,ih];by_cases e:Δ c d=x
  ·rw [aaI e,aaI e];show gK (ag (gR c B zs x) B) (θ d)=_;have hw:AO B d * (θ d).2=(θ d).1 * B:=by unfold AO;rw [abK,Int.ediv_mul_cancel cd]
   have p0:=bQ (t:=gR c B zs x) (show B≠0 by omega);have px:=ck (t:=gR c B zs x) (show B≠0 by omega);unfold gK;generalize ag (gR c B zs x) B=p at *
   generalize gR c B zs x=a at *
   generalize AO B d=wd at *
   generalize θ d=q at *
   refine C3 ?_ (by omega) ?_
   ·have:=Int.mul_pos p0 c0;omega
   ·grind
  ·rw [aaF e,aaF e,Int.add_zero]
theorem Ec{ks:List NK}(nd:ks.Nodup){x:NK}(h:x∈ks)(v:Int):(ks.map λy=>if x=y then v else 0).sum=v:=by
 induction ks with
 | nil=>cases h
 | cons y ks ih=>
  rw [abp] at nd;rw [aaD,abi];by_cases e:x=y
  ·rw [aaI e];have z:(ks.map λy=>if x=y then v else 0).sum=0:=by
    have:∀l:List NK,x∉l->(l.map λy=>if x=y then v else 0).sum=0:=by
     intro l
     induction l with
     | nil=>intro _;rfl
     | cons a l QV=>
      intro hn;rw [aaD,abi,aaF (λe:x=a=>hn (by rw [e];exact aak)),QV λh=>hn (aai _ h)];rfl
    exact this ks (e▸nd.1)
   rw [z];omega
  ·rw [aaF e,ih nd.2 ((aaz.mp h).resolve_left e)];omega
theorem zA(f g:NK->Int):∀ks:List NK,(ks.map λx=>f x+g x).sum=(ks.map f).sum+(ks.map g).sum
 | []=>rfl
 | x::ks=>by rw [aaD,aaD,aaD,abi,abi,abi,zA f g ks];omega
theorem yy{c:Nat->Nat}{B:Int}{ks:List NK}(nd:ks.Nodup):∀(n:Nat) (ds:List bT),ds.length=n->(∀d∈ds,Δ c d∈ks)->(ks.map (gR c B ds)).sum=(ds.map (AO B)).sum
 | 0,ds,hn,_=>by
  have:ds=[]:=abm.mp hn;subst this;show (ks.map λ_=>(0:Int)).sum=0
  induction ks with
  | nil=>rfl
  | cons x ks ih=>rw [aaD,abi,ih (abp.mp nd).2 (λ_ h=>nomatch h)];rfl
 | n+1,ds,hn,hd=>by
  have fP:ds≠[]:=λe=>by subst e;cases hn
  obtain ⟨zs,d,rfl⟩:∃zs d,ds=zs++[d]:=⟨ds.dropLast,ds.getLast fP,(aa1 fP).symm⟩;have ih:=yy (c:=c) (B:=B) nd n zs (by simpa using hn) λd eJ=>hd d (List.mem_append_left _ eJ);have e:gR c B (zs++[d])=λx=>gR c B zs x+(if Δ c d=x then AO B d else 0):=funext λx=>qE c B zs d x;rw [e,zA,ih,Ec nd (hd d (aax _ (abd.mpr rfl))),aav,abW];simp
theorem vg{c:Nat->Nat}{B:Int}{x:NK}:∀(ds:List bT),(∀d∈ds,0 < AO B d)->(∃d∈ds,Δ c d=x)->0 < gR c B ds x
 | [],_,h=>by obtain ⟨d,hd,_⟩:=h;cases hd
 | d::ds,hw,h=>by
  have nn:∀l:List bT,(∀d∈l,0 < AO B d)->0<=gR c B l x:=by
   intro l
   induction l with
   | nil=>intro _;exact Int.le_refl _
   | cons a l ih=>
    intro hw;have:=ih λd hd=>hw d (aai _ hd);have:=hw a aak;show 0<=(if Δ c a=x then AO B a else 0)+gR c B l x;split <;> omega
  have r:=nn ds λd hd=>hw d (aai _ hd);have w0:=hw d aak;show 0 < (if Δ c d=x then AO B d else 0)+gR c B ds x;by_cases e:Δ c d=x
  ·rw [aaI e];omega
  ·rw [aaF e]
   have:=vg ds (λd hd=>hw d (aai _ hd)) (by
    obtain ⟨d',eJ,e'⟩:=h;rcases aaz.mp eJ with rfl | eJ
    ·exact aaH e' e
    ·exact ⟨d',eJ,e'⟩)
   omega
theorem yU(c:Nat->Nat)(k:Str)(ds:List bT):(Ν c (.ν k ds)).2=(Ν c (.ν k ds)).1.map (b9 c k ds):=by
 rw [Ge];obtain ⟨a1,a2,a3,a4⟩:=N51.fN (yV k) (0,1) (EF c ds);apply abB;intro i;rw [aah];rcases abe i (N51.k8 (yV k) (0,1) (EF c ds)).1.length with h | h
 ·have h2:i < (N51.k8 (yV k) (0,1) (EF c ds)).2.length:=by omega
  rw [aaa h,aaa h2];have:=N51.pD a2 (aaa h) (aaa h2);have q:=a4 (N51.k8 (yV k) (0,1) (EF c ds)).1[i];rw [this] at q;show some _=some (b9 c k ds _);unfold b9;rw [<-q];rfl
 ·rw [abw h,abw (by omega)];rfl
theorem vT{r:Rw}(h:pZ n r)(Ln:∀t,t < n->c t∈ls):pZ ls.length (rS ls c r):=by
 cases r with
 | fin p=>exact ⟨⟨h.good.1,h.good.2⟩,λ_ _ z=>(nomatch z)⟩
 | ν k ds=>
  obtain ⟨d1,d6,hd⟩:=Bj h;have mem:∀x∈(Ν c (.ν k ds)).1,∃d∈ds,x=Δ c d:=λx hx=>hW.mp hx;have f2:=(gE c k ds).2;have f3:=(ny c (.ν k ds));have pv:=yU c k ds;have n1:1<=(Ν c (.ν k ds)).1.length:=by have:ds[0]∈ds:=aaY (by omega);exact abI (hW.mpr ⟨_,this,rfl⟩)
  have inv:∀x∈ds.map (Δ c),x∈(Ν c (.ν k ds)).1:=λx hx=>by obtain ⟨d,h1,rfl⟩:=aaj.mp hx;exact hW.mpr ⟨d,h1,rfl⟩
  have zl:(A5 c (.ν k ds)).length=(Ν c (.ν k ds)).1.length:=by rw [abA,f3.1,abZ]
  have each:∀e∈(A5 c (.ν k ds)).map (jd ls),ah e.1 e.2.1 ls.length=true/\0 < e.2.1.2:=λe he=>by
   obtain ⟨kv,Pj,rfl⟩:=aaj.mp he;obtain ⟨key,v⟩:=kv;obtain ⟨d,md,rfl⟩:=mem key (List.of_mem_zip Pj).1;obtain ⟨t0,t1,pf⟩:=m8 (hd d md);have lt:=lr (Ln d.1.toNat (by omega));have ek:jd ls (Δ c d,v)=(((ls.idxOf (c d.1.toNat):Nat):Int),d.2.1,[v]):=by unfold jd;rw [r8,uu]
   rw [ek];exact ⟨j7 (by show (0:Int)<=(ls.idxOf (c d.1.toNat):Nat);omega) (by show ((ls.idxOf (c d.1.toNat):Nat):Int) < ls.length;omega) pf,(h.good.1.2.2.2 d md).2⟩
  by_cases hk:k="chance"
  ·subst hk;have hc:=h.good.1.2.2.1 rfl;have hf:=h.good.2;have hf:(if bu "chance" then ω ds n else if ("chance":Str)="chance" then ω ds n&&Η (ds.map θ) else false)=true:=hf;rw [aaF (by decide),aaI rfl,aan] at hf;have RE:=hf.2;unfold Η at RE;rw [aan,aan,decide_eq_true_eq,decide_eq_true_eq] at RE;obtain ⟨g0,g1,g2⟩:=RE;obtain ⟨B0,Bd⟩:=Dw (cs:=ds.map θ) λx hx=>(hc.2.2 x hx).1;generalize h8 (ds.map θ)=B at *
   have aF:∀d∈ds,0 < (θ d).2/\(θ d).2∣B:=λd eJ=>⟨(hc.2.2 _ (aaj.mpr ⟨d,eJ,rfl⟩)).1,Bd _ (aaj.mpr ⟨d,eJ,rfl⟩)⟩;have QI:∀d∈ds,0 < AO B d:=λd eJ=>by
    have t0:0 < (θ d).1:=by
     rcases Int.lt_or_le 0 (θ d).1 with q | q
     ·exact q
     ·have:(ds.map θ).any (λc=>decide (c.1<=0))=true:=abQ.mpr ⟨_,aaj.mpr ⟨d,eJ,rfl⟩,aaq q⟩;rw [this] at g0;cases g0
    obtain ⟨c0,m,hm⟩:=aF d eJ;have m0:0 < m:=by
     rcases Int.lt_or_le 0 m with q | q
     ·exact q
     ·have:=Int.mul_nonpos_of_nonneg_of_nonpos (aaT c0) q;omega
    unfold AO;rw [hm,abC _ (by omega)];exact Int.mul_pos t0 m0
   have ws:(((Ν c (.ν "chance" ds)).1.map (gR c B ds))).sum=B:=by rw [yy f3.2 _ ds rfl λd eJ=>hW.mpr ⟨d,eJ,rfl⟩];rw [aay] at g1;exact g1
   have SF:=jw ws (λv hv=>by
    obtain ⟨x,hx,rfl⟩:=aaj.mp hv;obtain ⟨d,md,rfl⟩:=mem x hx
    exact vg ds QI ⟨d,md,rfl⟩) (λe=>by
     have:=aa3 List.length e;rw [aac] at this;have:(Ν c (.ν "chance" ds)).1.length=0:=this
     omega) g2 (by rw [aac];omega)
   have ev:((A5 c (.ν "chance" ds)).map (jd ls)).map θ=((Ν c (.ν "chance" ds)).1.map (gR c B ds)).map λv=>ag v B:=by rw [aay,aay];have e1:(A5 c (.ν "chance" ds)).map (θ ∘ jd ls)=(A5 c (.ν "chance" ds)).map (·.2):=aaR λ_ _=>rfl;rw [e1];show ((Ν c (.ν "chance" ds)).1.zip (Ν c (.ν "chance" ds)).2).map (·.2)=_;rw [List.map_snd_zip (by rw [f3.1];exact aal _),pv];exact aaR λx _=>q_ B0 _ ds rfl aF
   show pZ _ (.ν "chance" (if ("chance":Str)="chance" then _ else _));rw [aaI rfl];refine ⟨rm (by rw [aac,zl];exact n1) (by rw [aac,zl];omega) (λe he=>(each e he).1) (λe he=> ?_) (by rw [ev];exact SF.1) (by rw [ev];exact SF.2) (λe he=>(each e he).2),λk' Bb e Tq=> ?_⟩
   ·obtain ⟨kv,_,rfl⟩:=aaj.mp he;rfl
   ·cases e;exact aaH Tq (by decide)
  ·have hh:bu k=true:=by
    have hf:(if bu k then ω ds n else if k="chance" then ω ds n&&Η (ds.map θ) else false)=true:=h.good.2;by_cases q:bu k=true
    ·exact q
    ·rw [aaF q,aaF hk] at hf;cases hf
   show pZ _ (.ν k (if k="chance" then _ else _));rw [aaF hk];refine ⟨zf hh (by rw [aac,aac,zl];exact n1) (by rw [aac,aac,zl];omega) (λe he=> ?_) (λe he=> ?_),λk' Bb e Tq d eJ=> ?_⟩
   ·obtain ⟨e',Lp,rfl⟩:=aaj.mp he;exact (each e' Lp).1
   ·obtain ⟨e',Lp,rfl⟩:=aaj.mp he;exact ⟨rfl,(each e' Lp).2⟩
   ·cases e;obtain ⟨e',Lp,rfl⟩:=aaj.mp eJ;rfl
def cW:Nat->Nat->Hg->Bool
 | 0,_,st=>i8 st
 | n+1,v,st=>cW n (v+1) st&&cW n (v+1) (bz st v)
theorem bJ{v:Nat}{st:Hg}(a:cW n (v+1) st=true)(b:cW n (v+1) (bz st v)=true):cW (n+1) v st=true:=by show (cW n (v+1) st&&cW n (v+1) (bz st v))=true;rw [a,b];rfl
abbrev pY:Hg:=bz (#[], .fresh 0 0 true) ((0:Nat):Int)
theorem D1:cW 7 5 pY=true:=by decide+kernel
theorem CU:cW 7 5 (bz pY ((4:Nat):Int))=true:=by decide+kernel
theorem D_:cW 7 5 (bz pY ((3:Nat):Int))=true:=by decide+kernel
theorem DO:cW 7 5 (bz (bz pY ((3:Nat):Int)) ((4:Nat):Int))=true:=by decide+kernel
theorem Bu:cW 7 5 (bz pY ((2:Nat):Int))=true:=by decide+kernel
theorem Ej:cW 7 5 (bz (bz pY ((2:Nat):Int)) ((4:Nat):Int))=true:=by decide+kernel
theorem Bk:cW 7 5 (bz (bz pY ((2:Nat):Int)) ((3:Nat):Int))=true:=by decide+kernel
theorem Bw:cW 7 5 (bz (bz (bz pY ((2:Nat):Int)) ((3:Nat):Int)) ((4:Nat):Int))=true:=by decide+kernel
theorem Ct:cW 7 5 (bz pY ((1:Nat):Int))=true:=by decide+kernel
theorem Dr:cW 7 5 (bz (bz pY ((1:Nat):Int)) ((4:Nat):Int))=true:=by decide+kernel
theorem Dm:cW 7 5 (bz (bz pY ((1:Nat):Int)) ((3:Nat):Int))=true:=by decide+kernel
theorem D8:cW 7 5 (bz (bz (bz pY ((1:Nat):Int)) ((3:Nat):Int)) ((4:Nat):Int))=true:=by decide+kernel
theorem BQ:cW 7 5 (bz (bz pY ((1:Nat):Int)) ((2:Nat):Int))=true:=by decide+kernel
theorem BW:cW 7 5 (bz (bz (bz pY ((1:Nat):Int)) ((2:Nat):Int)) ((4:Nat):Int))=true:=by decide+kernel
theorem D9:cW 7 5 (bz (bz (bz pY ((1:Nat):Int)) ((2:Nat):Int)) ((3:Nat):Int))=true:=by decide+kernel
theorem DC:cW 7 5 (bz (bz (bz (bz pY ((1:Nat):Int)) ((2:Nat):Int)) ((3:Nat):Int)) ((4:Nat):Int))=true:=by decide+kernel
theorem FV:cW 11 1 pY=true:=(bJ (bJ (bJ (bJ D1 CU) (bJ D_ DO)) (bJ (bJ Bu Ej) (bJ Bk Bw))) (bJ (bJ (bJ Ct Dr) (bJ Dm D8)) (bJ (bJ BQ BW) (bJ D9 DC))))
theorem tm(h:M[k]? =some (MO.lst xs)):i0 M (.loc k)=some (xs,λM':Ms=>M'[k]? =some (MO.lst xs)):=by show (match M[k]? with | some (.lst xs)=>some (xs,λM':Ms=>M'[k]? =some (MO.lst xs)) | _=>none)=_;rw [h]
theorem Fh(h:M[k]? =some (MO.lst xs)):BX M (.loc k)=some (.type "list"):=by show (match M[k]? with | some (.lst _)=>some (Value.type "list") | _=>none)=_;rw [h]
def Rr(n:Nat):Rw->Prop
 | .fin p=>0 < p.2
 | .ν k ds=>ug n k ds
theorem pZ.kept{r:Rw}(h:pZ n r):Rr n r/\b8 r/\(∀d∈bW r,0<=d.1/\d.1 < n)/\∀d∈bW r,Sz 200 (θ d):=by
 obtain ⟨⟨ho,hf⟩,hh⟩:=id h;cases r with
 | fin p=>exact ⟨ho,ho,λ_ z=>(nomatch z),λ_ z=>(nomatch z)⟩
 | ν k ds=>
  obtain ⟨d1,d6,hd⟩:=Bj h;have to:∀d∈ds,0<=d.1/\d.1 < (n:Int):=λd eJ=>⟨(m8 (hd d eJ)).1,(m8 (hd d eJ)).2.1⟩;have hf:(if bu k then ω ds n else if k="chance" then ω ds n&&Η (ds.map θ) else false)=true:=hf;have pos:k="chance"->∀d∈ds,0 < (θ d).1/\0 < (θ d).2:=λhk d eJ=>by
   refine ⟨?_,((ho.2.2.1 hk).2.2 _ (aaj.mpr ⟨d,eJ,rfl⟩)).1⟩;rw [aaF (by rw [hk];decide),aaI hk,aan] at hf;have h2:=hf.2;unfold Η at h2;rw [aan] at h2;have h3:=h2.1;rcases Int.lt_or_le 0 (θ d).1 with q | q
   ·exact q
   ·have:(ds.map θ).any (λc=>decide (c.1<=0))=true:=abQ.mpr ⟨_,aaj.mpr ⟨d,eJ,rfl⟩,aaq q⟩;rw [this] at h3;cases h3
  have sz:∀d∈ds,Sz 200 (θ d):=λd eJ=>by
   by_cases hk:k="chance"
   ·obtain ⟨a,b,c⟩:=(ho.2.2.1 hk).2.2 _ (aaj.mpr ⟨d,eJ,rfl⟩);exact ⟨c,a,by omega⟩
   ·have Nv:bu k=true:=by
     by_cases c:bu k=true
     ·exact c
     ·rw [aaF c,aaF hk] at hf;cases hf
    have e:=hh k ds rfl Nv d eJ;have:θ d=(0,1):=by unfold θ;rw [e];rfl
    rw [this];exact ⟨by decide,by decide,by decide⟩
  exact ⟨⟨ho,to,sz,pos⟩,ho,to,sz⟩
structure Fk(γ:List Rw):Prop where
 fl:PZ γ
 rk:∀r∈γ,Rr γ.length r
theorem ki{n:Nat}:∀(rs:List Rw),Dt.aV n (rs.map Μ)
 | []=>trivial
 | r::rs=>⟨kF r,ki rs⟩
theorem HJ{γ:List Rw}(Dc:γ.length<=12)(h:∀r∈γ,pZ γ.length r):Fk γ:=
 ⟨⟨Dc,λr hr=>(h r hr).kept.2.1,λr hr=>(h r hr).kept.2.2.1,λr hr=>(h r hr).kept.2.2.2⟩,λr hr=>(h r hr).kept.1⟩
theorem MI{q:List Dt->Ms->Prop}(hv:ρ[i]? =some (some d))(hs:gu M d=some xs)(h:q [.int xs.length] M):dY (wa dJ (dY (d8 i) jO)) jO ρ M q x:=by dsimp only [dY,wa,d8,jO];rw [hv];exact Φ hs h
theorem pL{M:Ms}:∀rs:List Rw,Paired (hV M) (rs.map Μ) rs
 | []=> .nil
 | r::rs=> .cons (yW _ r) (pL rs)
theorem ve{q:DQ}{A:Addr}{υ:Fr}{γ:List Rw}(h:q (Χ A υ γ) M):mW M q (.loc M.length) ((M++[MO.ins A [] []]).set M.length (.ins A ["kept_share","kept_rows"] [Τ υ, .lst (γ.map Μ)])):=by
 have e:(M++[MO.ins A [] []]).set M.length (.ins A ["kept_share","kept_rows"] [Τ υ, .lst (γ.map Μ)])=M++[.ins A ["kept_share","kept_rows"] [Τ υ, .lst (γ.map Μ)]]:=by rw [abb _ _ (aal _),abn];rfl
 rw [e];exact jn (d':=Χ A υ γ) (.RT (Nat.le_refl _) (by simp) (.cons (.old ⟨trivial,trivial,trivial⟩) (.cons (.old (ki γ)) .nil))) h
theorem y8:bZ n c=j3 ((List.range n).map c):=by unfold bZ j3;rw [List.map_map];rfl
theorem rK:∀(n v:Nat) (st:Hg) (l:List Nat),cW n v st=true->l.Pairwise (· < ·)->(∀x∈l,v<=x/\x < v+n)->i8 ((l.map λx:Nat=>(x:Int)).foldl bz st)=true
 | 0,v,st,l,h,_,hl=>by
  cases l with
  | nil=>exact h
  | cons x l=>have:=hl x aak;omega
 | n +1,v,st,l,h,hp,hl=>by
  have h:(cW n (v+1) st&&cW n (v+1) (bz st (v:Nat)))=true:=h;rw [aan] at h;cases l with
  | nil=>exact rK n (v+1) st [] h.1 .nil λ_ z=>(nomatch z)
  | cons x l=>
   rw [abX] at hp;by_cases e:x=v
   ·subst e;exact rK n (x+1) _ l h.2 hp.2 λy hy=>by have:=hp.1 y hy;have:=hl y (aai _ hy);omega
   ·have hx:=hl x aak;exact rK n (v+1) st (x::l) h.1 (abX.mpr hp) λy hy=>by
     have h1:=hl y hy;rcases aaz.mp hy with rfl | Vd
     ·omega
     ·have:=hp.1 y Vd;omega
theorem CD:∀{a b:List Int},a.Pairwise (· < ·)->b.Pairwise (· < ·)->(∀x,x∈a↔x∈b)->a=b
 | [],[],_,_,_=>rfl
 | [],y::b,_,_,h=>by have:=(h y).mpr aak;cases this
 | x::a,[],_,_,h=>by have:=(h x).mp aak;cases this
 | x::a,y::b,ha,hb,h=>by
  rw [abX] at ha hb;have e:x=y:=by
   rcases aaz.mp ((h x).mp aak) with e | hx
   ·exact e
   ·rcases aaz.mp ((h y).mpr aak) with e | hy
    ·exact e.symm
    ·have:=hb.1 x hx;have:=ha.1 y hy;omega
  subst e;rw [CD ha.2 hb.2 λz=> ?_];constructor
  ·intro hz;rcases aaz.mp ((h z).mp (aai _ hz)) with e | Hx
   ·have:=ha.1 z hz;omega
   ·exact Hx
  ·intro hz;rcases aaz.mp ((h z).mpr (aai _ hz)) with e | Hx
   ·have:=hb.1 z hz;omega
   ·exact Hx
abbrev lC(l:List Nat):List Int:=l.map λx:Nat=>(x:Int)
theorem u0(n:Nat)(c:Nat->Nat):(N51.cC n c).Pairwise (· < ·):=by unfold N51.cC;exact List.Pairwise.filter _ List.pairwise_lt_range
theorem AN(n:Nat)(c:Nat->Nat):N51.cC (n+1) c=N51.cC n c++(if c n=n then [n] else []):=by
 unfold N51.cC;rw [abV,List.filter_append];by_cases e:c n=n
 ·rw [if_pos e];simp [e]
 ·rw [if_neg e];simp [e]
theorem wM{n:Nat}{c:Nat->Nat}(h:N51.Cl n c):∀k,k<=n->dd (lC ((List.range k).map c))=lC (N51.cC k c)
 | 0,_=>rfl
 | k+1,hk=>by
  have ih:=wM h k (by omega);have e:lC ((List.range (k+1)).map c)=lC ((List.range k).map c)++[((c k:Nat):Int)]:=by unfold lC;rw [List.range_succ,List.map_append,List.map_append];rfl
  rw [e,sf,ih,AN];unfold ins;by_cases q:c k=k
  ·rw [aaI q,aaF]
   ·unfold lC;rw [List.map_append,q];rfl
   ·intro hm;obtain ⟨x,hx,ex⟩:=aaj.mp hm;have:=(N51.bh.mp hx).1;omega
  ·rw [aaF q,aaU,aaI];have l1:=h.le k (by omega);exact aaj.mpr ⟨c k,N51.bh.mpr ⟨by omega,h.fx k (by omega)⟩,rfl⟩
theorem BG(h:N51.Cl n c)(zm:n<=12)(n1:1<=n):i8 (vL true (dd (lC ((List.range n).map c))))=true:=by
 rw [wM h n (aal _)];have inc:=u0 n c;have m0:0∈N51.cC n c:=N51.bh.mpr ⟨by omega,by have:=h.le 0 (by omega);omega⟩;have lt:∀x∈N51.cC n c,x < 12:=λx hx=>by have:=(N51.bh.mp hx).1;omega
 cases hl:N51.cC n c with
 | nil=>rw [hl] at m0;cases m0
 | cons x l=>
  rw [hl,abX] at inc;rw [hl] at m0 lt;have e:x=0:=by
   rcases aaz.mp m0 with e | e
   ·exact e.symm
   ·have:=inc.1 0 e;omega
  subst e;exact rK 11 1 _ l FV inc.2 λy hy=>by have:=inc.1 y hy;have:=lt y (aai _ hy);omega
theorem xh(h:N51.Cl n c)(p:ns.Perm (dd (lC ((List.range n).map c))))(s:ns.Pairwise (· <= ·)):ns=lC (N51.cC n c):=by
 have nd:ns.Nodup:=p.nodup_iff.mpr (oG _).2.2;refine CD ?_ ?_ λx=> ?_
 ·refine List.Pairwise.imp (λh=> ?_) (List.Pairwise.and s nd);obtain ⟨h1,h2⟩:=h;omega
 ·exact List.pairwise_map.mpr ((u0 n c).imp λh=>by omega)
 ·rw [p.mem_iff,wM h n (aal _)]
theorem yx(l:List Nat):(lC l).map Dt.int=j3 l:=by unfold lC j3;rw [List.map_map];rfl
abbrev gP(γ:List Rw)(m:Nat):List Nat:=N51.cC γ.length (i_ γ (m - 1))
def ar(γ:List Rw)(m:Nat):List Rw:=(gP γ m).map λi=>rS (gP γ m) (i_ γ (m - 1)) (γ.getD i (.fin (0,1)))
def uV(γ:List Rw)(m:Nat):List Nat:=(List.range γ.length).map λi=>(gP γ m).idxOf (i_ γ (m - 1) i)
structure SH(υ:Fr)(γ:List Rw):Prop where
 Oz:PZ γ
 fit:∀r∈γ,pZ γ.length r
 n1:1<=γ.length
 shr:c5 υ=true
def qJ(C:Addr):DF:=λas M q _=>∃υ γ,as=[Χ C υ γ]/\SH υ γ/\∀(m kw:Nat) (M1:Ms),yf γ m->Xt M M1->M.length<=kw->M1[kw]? =some (.lst (j3 (uV γ m)))->q (.tup [Χ C υ (ar γ m), .loc kw]) M1
theorem cX:ψ ["floor","classes","leasts","rows"] ["floor"] (ο l_):= .of rfl
theorem v8(F:dH K "together" "together" l_ f fd)(E:Ev K mg Cm){sS:Addr}{sy:FuncData}(fS:aL P w K mg base 9 "parted" ["floor"] (sN Cm) sS sy){xR:Addr}{wX:FuncData}(iB:aL P w K mg base 7 "joined_row" ["floor","place","classes","leasts"] (yr P w Cm) xR wX){jP:Addr}{jx:FuncData}(cx:ET P w K mg base 5 "Floor" Cm ["self","share","rows"] (C2 Cm) jP jx){iw:Addr}{ie:FuncData}(bR:eL P w K mg base 1 Cm "share" ["self"] (xl Cm) iw ie):aB P w K mg base (cQ P w) 11 f fd ["floor"] (dw K (qJ Cm)):=by
 refine F.fZ cX (λds M q x h=> ?_) (λbK A outer s H E' hr=>⟨_,(η (τ 1 cX.nd (Γ (ax fS hr ξ (Υ (jv 0) ε)) (qS ι)))
   (η (τ 2 cX.nd (bN (GF E.kS E.yH (Υ (jv 1) ε))))
   (η (hU (i:=3) cX.nd rfl (Or.inl rfl) (ys:=["floor","classes","leasts"]) (Θ:=[0,1,2]) (.of cX rfl rfl rfl) (bF (jv 2)) (λC s H fp=>(bN (ax iB hr (cM (P:=P) (w:=w)) (Υ (jv 1) (Υ (jv 0) (Υ (jv 2) (Υ (jv 3) ε))))))))
   (μ (χ (aq (ζ (bN (Dy cx hr ξ (ζ (eU bR hr ξ (jv 0)) (Υ (jv 3) ε) aQ))) (ζ (pM (ys:=["leasts"]) (Θ:=[2]) (.of cX rfl rfl rfl) (bF (jv 1)) (λC s H fp=>(sD 1 hr (jv 1) (Υ (jv 0) ε)))) ε) aQ))))))),λds M q x h=> ?_⟩)
 ·obtain ⟨υ,γ,rfl,_⟩:=h;rfl
 ·obtain ⟨υ,γ,rfl,fl,h⟩:=h;refine ⟨υ,γ,rfl,fl.Oz,λm kr ls M1 st hl x1 ca=> ?_⟩;have p1:=st.pos;have zm:=fl.Oz.len;have n1:=fl.n1;have hc:=x_ γ (m - 1);obtain ⟨li,la,rfl⟩:∃li la,ls=li++[la]:=⟨ls.dropLast,ls.getLast (λe=>by subst e;have hl:0=m:=hl;omega),(aa1 _).symm⟩;have Me:(li++[la])[m - 1]? =some la:=by rw [aag] at hl;have hl:li.length+1=m:=hl;rw [aaw (by omega),show m - 1 - li.length=0 by omega];rfl
  have K7:gS ((li++[la]).map Dt.loc) (-1)=some (.loc la):=by rw [aav];exact kK
  obtain ⟨lo1,_,aa⟩:=ca.each (m - 1) la Me;dsimp only [Le,dC,Ar];refine (π (d:= .loc kr) (i:= -1) (cD ca.at') K7 ?_:cN (.loc kr) (.int (-1)) M1 _);walk_at "vc";have ec:eK γ (m - 1)=(lC ((List.range γ.length).map (i_ γ (m - 1)))).map Dt.int:=by rw [yx];exact y8
  have xG:∀t,t < γ.length->i_ γ (m - 1) t∈gP γ m:=λt ht=>N51.bh.mpr ⟨by have:=hc.le t ht;omega,hc.fx t ht⟩;have l1:1<=(gP γ m).length:=abI (xG 0 (by omega));have Dc:(gP γ m).length<=12:=aam (N51.r_ _ _) zm;refine ⟨.loc la,lC ((List.range γ.length).map (i_ γ (m - 1))),rfl,by rw [c7 aa,ec],λk hk=> ?_,by rw [aac,aac,abY];omega,BG hc zm n1,λns' pm so=> ?_⟩
  ·obtain ⟨x,hx,rfl⟩:=aaj.mp hk;obtain ⟨t,ht,rfl⟩:=aaj.mp hx;have ht:=aaL.mp ht;have:=hc.le t ht;omega
  have en:=xh hc pm so;subst en;rw [yx];refine cZ (xt _) ?_;dsimp only [gU];refine aP (i:=2) (d:= .lst (j3 (gP γ m))) rfl rfl ⟨by rw [eZ];exact aam Dc (by decide), ?_⟩;refine gX (f:=λk=>Μ ((ar γ m).getD k (.fin (0,1)))) trivial (λk x hx q' hq=> ?_) ?_
  ·have hk:k < (gP γ m).length:=by have:=(aad.mp hx).1;rwa [eZ] at this
   rw [yv hk] at hx;cases hx;have hm:=N51.bh.mp (aaY hk);have er:γ[(gP γ m)[k]]? =some γ[(gP γ m)[k]]:=aaa hm.1;have mr:=aat er;have ej:(ar γ m).getD k (.fin (0,1))=rS (gP γ m) (i_ γ (m - 1)) γ[(gP γ m)[k]]:=by unfold ar;rw [aao,aah,aaa hk];show rS _ _ (γ.getD _ _)=_;rw [aao,er];rfl
   rw [ej] at hq;refine ⟨υ,γ,(gP γ m)[k],γ[(gP γ m)[k]],γ.length,i_ γ (m - 1), .loc la,gP γ m,rfl,λE=>cD (dr aa),er,fl.Oz.ok _ mr,fl.Oz.to _ mr,fl.Oz.sz _ mr,zm,xG,λE=>jn (.old (kF _)) hq⟩
  have Vn:(List.range (j3 (gP γ m)).length).map (λk=>Μ ((ar γ m).getD k (.fin (0,1))))=(ar γ m).map Μ:=by
   refine abB λk=> ?_;have el:(ar γ m).length=(gP γ m).length:=aac ..;rw [aah,aah,eZ];rcases abe k (gP γ m).length with z | z
   ·rw [aaV z,aaa (by omega:k < (ar γ m).length)];show some (Μ ((ar γ m).getD k _))=_;rw [aao,aaa (by omega:k < (ar γ m).length)];rfl
   ·rw [abw (by rw [abY];exact z),abw (by omega:(ar γ m).length<=k)];rfl
  rw [aaS,Vn];have el:(ar γ m).length=(gP γ m).length:=aac ..;have jf:∀r∈ar γ m,pZ (ar γ m).length r:=λr hr=>by rw [el];obtain ⟨t,ht,rfl⟩:=aaj.mp hr;have hm:=N51.bh.mp ht;refine vT (n:=γ.length) (fl.fit _ ?_) xG;rw [aao,aaa hm.1];exact aaY _
  refine ⟨⟨_,_, .inl rfl,rfl⟩,υ,γ,rfl,M1.length, .lst ((ar γ m).map Μ),υ,(ar γ m).map Μ,ar γ m,λ_=>True,rfl,cj,rfl,pL _,fl.shr,by omega,by omega,λr hr=>(jf r hr).good,rfl,ve ?_⟩;dsimp only [nz];refine aP (i:=1) (d:= .loc la) rfl (tm aa) ⟨by unfold eK;rw [gC];exact Nat.le_trans zm (by decide), ?_⟩;refine gX (f:=λk=>Dt.int (((gP γ m).idxOf (i_ γ (m - 1) k):Nat):Int)) aa (λk x hx q' hq=> ?_) ?_
  ·have hk:k < γ.length:=by have:=(List.getElem?_eq_some_iff.mp hx).1;unfold eK at this;rwa [gC] at this
   unfold eK bZ at hx;rw [aah,aaV hk] at hx;cases hx;refine ⟨⟨_,rfl⟩, ?_⟩;obtain ⟨fx,x1,x2,x3,x4⟩:=oU M1 (xG _ hk);exact ⟨_,j3 (gP γ m),fx,_,rfl,rfl,x1,x2,x3,x4,hq⟩
  have ew:[]++(List.range (eK γ (m - 1)).length).map (λk=>Dt.int (((gP γ m).idxOf (i_ γ (m - 1) k):Nat):Int))=j3 (uV γ m):=by unfold eK j3 uV;rw [gC,aay];rfl
  rw [ew];exact ⟨iV,h m M1.length _ st (x1.trans Xt.app) x1.len cj⟩
def Be(ns:List Int)(k:Int):Int:=ns.getD k.toNat 0
theorem xn{k:Int}(h0:0<=k)(h2:k < ns.length):gS (ns.map Dt.int) k=some (.int (Be ns k)):=by
 have e:(ns.map Dt.int)[k.toNat]? =some (.int (Be ns k)):=by rw [aah,aaa (show k.toNat < ns.length by omega)];unfold Be;rw [aao,aaa (show k.toNat < ns.length by omega)];rfl
 have:=Ζ e;rwa [show ((k.toNat:Nat):Int)=k by omega] at this
theorem FA{k:Int}(h:¬k < ns.length):Be ns k=0:=by unfold Be;rw [aao,abw (by omega)];rfl
def GO(ns:List Int)(k:Int):Bool:=decide (k < ns.length)&&(decide (Be ns k < 0) || decide (Be ns k ≥ 10 ^ 18))
theorem EL{k:Int}(h:GO ns k=false):0<=Be ns k/\Be ns k < 10 ^ 18:=by
 unfold GO at h;by_cases hk:k < ns.length
 ·rw [aaq hk,Bool.true_and,Bool.or_eq_false_iff,decide_eq_false_iff_not,decide_eq_false_iff_not] at h;omega
 ·rw [FA hk];exact ⟨by decide,by decide⟩
theorem WE:oB 10 18:=⟨by decide,by decide,by decide⟩
theorem SS:oB 10 64:=⟨by decide,by decide,by decide⟩
theorem p8:oB 10 8:=⟨by decide,by decide,by decide⟩
theorem p6:oB 10 6:=⟨by decide,by decide,by decide⟩
theorem UH:oB 10 22:=⟨by decide,by decide,by decide⟩
theorem Tz:oB 10 30:=⟨by decide,by decide,by decide⟩
def Nm(n:Int):Prop:=0<=n/\n < 10 ^ 128
theorem BP{n:Int}(h:Nm n):gA n:=BJ (k:=440) h.1 (Int.lt_of_lt_of_le h.2 (by decide)) (by decide)
theorem pB{a m:Int}(h0:0 < m)(h1:m<=10 ^ 128):Nm (a % m):=⟨aaM _ (by omega),Int.lt_of_lt_of_le (aaJ _ h0) h1⟩
theorem pj{a m:Int}(h:Nm a)(h0:0 < m):Nm (a / m):=⟨Int.ediv_nonneg h.1 (by omega),Int.lt_of_le_of_lt (Int.ediv_le_self _ h.1) h.2⟩
def GG:DF:=λas M q _=>∃(ns:List Int) (k:Int),as=[.cT ns, .int k]/\0<=k/\q (.bl (GO ns k)) M
theorem BV:ψ ["_law_script","_law_k"] ["_law_script","_law_k"] (ο rM):= .of rfl
theorem Ac(F:dH K "_law_far" "_law_far" rM f fd)(E:Ev K mg Cm):aB P w K mg base (cQ P w) 1 f fd ["_law_script","_law_k"] (dw K GG):=by
 refine F.fZ BV (λds M q x h=> ?_) (λbK A outer s H E' hr=>⟨_,(μ (χ (dU (FQ (jv 1) (bL E.bx (Υ (jv 0) ε))) (g8 (OF (FQ (Γ (jv 0) (jv 1)) ι) (g8 (Qd (Γ (jv 0) (jv 1)) (fM ι ι)))))))),λds M q x h=> ?_⟩)
 ·obtain ⟨ns,k,rfl,_⟩:=h;rfl
 ·obtain ⟨ns,k,rfl,hk,h⟩:=h;unfold GO at h;walk_at "vc";refine (Φ (d:= .cT ns) (xs:=ns.map .int) rfl ?_:dJ [.cT ns] M _);rw [aac];refine ⟨λh1=> ?_,λh1=> ?_⟩
  ·have h1:decide (k < ns.length)=true:=h1;have lW:k < ns.length:=aaB h1;rw [h1,Bool.true_and] at h;refine (π (d:= .cT ns) rfl (xn hk lW) ?_:cN (.cT ns) (.int k) M _);refine ⟨λh2=> ?_,λh2=> ?_⟩
   ·have h2:decide (Be ns k < 0)=true:=h2;rw [h2,Bool.true_or] at h;exact h
   ·have h2:decide (Be ns k < 0)=false:=h2;rw [h2,Bool.false_or] at h;refine (π (d:= .cT ns) rfl (xn hk lW) ?_:cN (.cT ns) (.int k) M _);exact ⟨WE,h⟩
  ·have h1:decide (k < ns.length)=false:=h1;rw [h1,Bool.false_and] at h;exact h
def tI:DF:=λas M q _=>∃(ns:List Int) (k:Int),as=[.cT ns, .int k]/\0<=k/\k<=200/\∀n,Nm n->q (.int n) M
theorem Cp(x:Int)(h0:0<=x)(h1:x < 2147483647):gA x/\gA (x % 65521+30011):=⟨bg (k:=40) (by omega),bg (k:=40) (by omega)⟩
theorem Ka{k:Int}(h0:0<=k)(h1:k<=200):gA ((k+1) * (k+1)):=by have a:=Int.mul_le_mul (show k+1<=201 by omega) (show k+1<=201 by omega) (show 0<=k+1 by omega) (show (0:Int)<=201 by decide);have b:0<=(k+1) * (k+1):=Int.mul_nonneg (by omega) (by omega);exact bg (k:=40) (by omega)
theorem iu:ψ ["_law_script","_law_k","_law_cell","_law_number_here"] ["_law_script","_law_k"] (ο jz):= .of rfl
theorem uD(F:dH K "_law_number" "_law_number" jz f fd)(E:Ev K mg Cm)(cG:aL P w K mg base 1 "_law_far" ["_law_script","_law_k"] GG kT km):aB P w K mg base (cQ P w) 2 f fd ["_law_script","_law_k"] (dw K tI):=by
 refine F.fZ iu (λds M q x h=> ?_) (λbK A outer s H E' hr=>⟨_,(η (τ 2 iu.nd (HN (qK (jv 1) (bL E.bx (Υ (jv 0) ε))) (Γ (jv 0) (jv 1)) ι))
   (η (aC (eG (ax cG hr ξ (Υ (jv 0) (Υ (jv 1) ε)))) (μ (χ (aD (jv 2) (fM ι ι)))) Λ)
   (η (τ 3 iu.nd (aD (ak (br (jv 2) ι) (br (br (ak (jv 1) ι) (ak (jv 1) ι)) ι)) ι))
   (μ (χ (aD (ak (br (jv 3) (ak (aD (jv 3) ι) ι)) (br (ak (jv 1) ι) ι)) ι)))))),λds M q x h=> ?_⟩)
 ·obtain ⟨ns,k,rfl,_⟩:=h;rfl
 ·obtain ⟨ns,k,rfl,hk,k2,h⟩:=h;have bk:=Ka hk k2;have b1:gA (k+1):=bg (k:=40) (by omega);have b3:gA (k+3):=bg (k:=40) (by omega);have cc:∀n:Int,n.natAbs < 2 ^ 20->gA n:=λn hn=>bg hn;walk_at "vc";refine (Φ (d:= .cT ns) (xs:=ns.map .int) rfl ?_:dJ [.cT ns] M _);rw [aac];refine ⟨λh1=> ?_,λh1=> ?_⟩
  ·have lW:k < ns.length:=aaB h1;refine (π (d:= .cT ns) rfl (xn hk lW) ?_:cN (.cT ns) (.int k) M _);refine ⟨ns,k,rfl,hk,λh2=> ?_,λh2=> ?_⟩
   ·exact ⟨SS,by decide,h _ (pB (by decide) (by decide))⟩
   ·obtain ⟨c0,c1⟩:=EL h2;refine ⟨⟨bg (k:=64) (by omega),cc _ (by decide)⟩,⟨b1,b1⟩,⟨bk,cc _ (by decide)⟩,by decide, ?_⟩;exact ⟨by decide,Cp _ (aaM _ (by decide)) (aaJ _ (by decide)),⟨b3,cc _ (by decide)⟩,by decide,h _ (pB (by decide) (by decide))⟩
  ·have lW:¬k < ns.length:=abJ h1;refine ⟨ns,k,rfl,hk,λh2=> ?_,λh2=> ?_⟩
   ·exact ⟨SS,by decide,h _ (pB (by decide) (by decide))⟩
   ·refine ⟨⟨cc _ (by decide),cc _ (by decide)⟩,⟨b1,b1⟩,⟨bk,cc _ (by decide)⟩,by decide, ?_⟩;exact ⟨by decide,Cp _ (aaM _ (by decide)) (aaJ _ (by decide)),⟨b3,cc _ (by decide)⟩,by decide,h _ (pB (by decide) (by decide))⟩
theorem ri:ψ ["_law_script","_law_k","_law_number_here"] ["_law_script","_law_k"] (ο oN):= .of rfl
theorem xc(F:dH K "_law_rest" "_law_rest" oN f fd)(E:Ev K mg Cm)(Α:aL P w K mg base 2 "_law_number" ["_law_script","_law_k"] tI aT aR)(cG:aL P w K mg base 1 "_law_far" ["_law_script","_law_k"] GG kT km):aB P w K mg base (cQ P w) 3 f fd ["_law_script","_law_k"] (dw K tI):=by
 refine F.fZ ri (λds M q x h=> ?_) (λbK A outer s H E' hr=>⟨_,(η (τ 2 ri.nd (ax Α hr ξ (Υ (jv 0) (Υ (jv 1) ε))))
   (η (aC (eG (ax cG hr ξ (Υ (jv 0) (Υ (jv 1) ε)))) (μ (χ (bO (jv 2) (fM ι ι)))) Λ)
   (μ (χ (aD (br (jv 2) ι) ι))))),λds M q x h=> ?_⟩)
 ·obtain ⟨ns,k,rfl,_⟩:=h;rfl
 ·obtain ⟨ns,k,rfl,hk,k2,h⟩:=h;refine ⟨ns,k,rfl,hk,k2,λn hn=> ?_⟩;refine ⟨ns,k,rfl,hk,λh2=> ?_,λh2=> ?_⟩
  ·exact ⟨p8,⟨by decide,bg (k:=40) (by decide)⟩,h _ (pj hn (by decide))⟩
  ·exact ⟨⟨BP hn,bg (k:=20) (by decide)⟩,by decide,h _ (pB (by decide) (by decide))⟩
theorem Ci{a:Int}(h1: -(10 ^ 30)<=a)(h2:a<=10 ^ 30)(h3:b<=1000000):bM (a,b)=true:=by
 unfold bM;have:(if a < 0 then -a else a)<=10 ^ 30:=by split <;> omega
 show (decide ((if a < 0 then -a else a)<=10 ^ 30)&&decide (b<=1000000))=true;rw [aaq this,aaq h3];rfl
theorem wH(t0:0<=t)(t1:t < b)(P7:b<=1000):c5 (ag t b)=true:=by
 have HX:0 < b:=by omega
 have l2:=kC (t:=t) (show b≠0 by omega);have q0:=bQ (t:=t) (show b≠0 by omega);have hc:=ck (t:=t) (show b≠0 by omega);generalize ag t b=f at *
 obtain ⟨x,y⟩:=f;have l2:y.natAbs<=b.natAbs:=l2;have q0:0 < y:=q0;have hc:t * y=b * x:=hc;have x0:0<=x:=by
  rcases Int.lt_or_le x 0 with z | z
  ·have:=Int.mul_neg_of_pos_of_neg HX z;have:=Int.mul_nonneg t0 (aaT q0);omega
  ·exact z
 have x1:x < y:=by
  rcases Int.lt_or_le x y with z | z
  ·exact z
  ·have h3:b * y<=b * x:=Int.mul_le_mul_of_nonneg_left z (aaT HX);have h4:t * y < b * y:=Int.mul_lt_mul_of_pos_right t1 q0;omega
 unfold c5;show (decide (0<=x)&&(decide (x < y)&&decide (y<=1000)))=true;rw [aaq x0,aaq x1,aaq (show y<=1000 by omega)];rfl
def DG:DF:=λas M q _=>∃t b:Int,as=[.int t, .int b]/\0 < b/\gA b/\q (Τ (ag t b)) M
theorem eY:ψ ["_law_top","_law_bottom","_law_one","_law_other"] ["_law_top","_law_bottom"] (ο jq):= .of rfl
theorem uh(F:dH K "_law_lowest" "_law_lowest" jq f fd)(E:Ev K mg Cm):aB P w K mg base (cQ P w) 1 f fd ["_law_top","_law_bottom"] (dw K DG):=by
 refine F.fZ eY (λds M q x h=> ?_) (λbK A outer s H E' hr=>⟨_,(η (τ 2 eY.nd (y6 E.pK (Υ (jv 0) ε)))
   (η (τ 3 eY.nd (jv 1))
   (η (pG (ml hr (jv 3) ι) (μ (Iy (i:=2) (j:=3) eY.nd rfl rfl (Υ (jv 3) (ζ (aD (jv 2) (jv 3)) ε aN)))))
   (μ (χ (aq (ζ (bO (jv 0) (jv 2)) (ζ (bO (jv 1) (jv 2)) ε aN) aN))))))),λds M q x h=> ?_⟩)
 ·obtain ⟨t,b,rfl,_⟩:=h;rfl
 ·obtain ⟨t,b,rfl,h0,h1,h⟩:=h;have ga:g (if t < 0 then -t else t) b=g t b:=by have:=Hu t b;rwa [aaF (show¬b < 0 by omega)] at this
  refine ⟨λm ρ M'=>M'=M/\∃(x y:Int),ρ=[some (.int t),some (.int b),some (.int x),some (.int y)]/\0<=x/\0<=y/\g x y=g t b/\m=y.toNat,⟨_,rfl,_,_,rfl,by split <;> omega,by omega,ga,rfl⟩, ?_⟩;rintro m ρ M' ⟨rfl,x,y,rfl,hx,hy,e,rfl⟩;refine ⟨λhb=> ?_,λhb=> ?_⟩
  ·have Gh:y≠0:=by simpa using hb
   refine ⟨_,λρ' M2 h2=>h2, ?_⟩;refine ⟨by omega,(x % y).toNat, ?_,rfl,y,x % y,rfl,hy,aaM _ Gh, ?_,rfl⟩
   ·have:=aaJ x (show 0 < y by omega);have:=aaM x Gh;omega
   ·rw [<-abr x hy,D0 (by omega)];exact e
  ·have Gh:y=0:=by simpa using hb
   subst Gh;rw [B9 hx] at e;subst e;have hg:0 < g t b:=uK (by omega);have hle:g t b<=b:=Int.le_of_dvd h0 (Int.gcd_dvd_right ..);have hb:gA (g t b):=aaP (show (g t b).natAbs<=b.natAbs by omega) h1;have e:ag t b=(t / g t b,b / g t b):=by rw [E7 h0,abM _ (aaT hg),abM _ (aaT hg)]
   rw [e] at h;exact ⟨⟨hg,hb⟩,⟨hg,hb⟩,fI,h⟩
theorem p7:oB 10 7:=⟨by decide,by decide,by decide⟩
theorem p5:oB 10 5:=⟨by decide,by decide,by decide⟩
def lU(p:Fr):Prop:=p.1.natAbs<=10 ^ 30 - 10 ^ 7/\0 < p.2/\p.2<=1000000
theorem lU.fit{p:Fr}(h:lU p):bM p=true:=Ci (by have:=h.1;omega) (by have:=h.1;omega) h.2.2
theorem AL(h1:t.natAbs<=10 ^ 30 - 10 ^ 7)(h0:0 < b)(h3:b<=1000000):lU (ag t b):=by have l1:=oE (t:=t) (show b≠0 by omega);have l2:=kC (t:=t) (show b≠0 by omega);have l3:=bQ (t:=t) (show b≠0 by omega);exact ⟨aam l1 h1,l3,by omega⟩
def xx:DF:=λas M q _=>∃n:Int,as=[.int n]/\Nm n/\∀p,lU p->q (Τ p) M
theorem vD:ψ ["_law_number_here","_law_top"] ["_law_number_here"] (ο sY):= .of rfl
theorem Af(F:dH K "_law_pay" "_law_pay" sY f fd)(E:Ev K mg Cm)(aE:aL P w K mg base 1 "_law_lowest" ["_law_top","_law_bottom"] DG cm cg):aB P w K mg base (cQ P w) 2 f fd ["_law_number_here"] (dw K xx):=by
 refine F.fZ vD (λds M q x h=> ?_) (λbK A outer s H E' hr=>⟨_,(η (aC (cb hr (aD (jv 0) ι) ι) (η (τ 1 vD.nd (oY (aD (br (jv 0) (fM ι ι)) (ak (oY (br ι (fM ι ι)) (br ι (fM ι ι))) ι)) (oY (fM ι ι) (fM ι ι))))
   (μ (χ (ax aE hr ξ (Υ (jv 1) (ζ (ak ι (aD (bO (jv 0) ι) (fM ι ι))) ε aN)))))) Λ)
   (μ (χ (Γ (ji (ζ (aq (ζ ι (ζ ι ε aU) aU)) (ζ (aq (ζ ι (ζ ι ε aU) aU)) (ζ (aq (ζ (qS ι) (ζ ι ε aU) Hl)) ε fK) fK) fK)) (aD (bO (jv 0) ι) ι))))),λds M q x h=> ?_⟩)
 ·obtain ⟨n,rfl,_⟩:=h;rfl
 ·obtain ⟨n,rfl,hn,h⟩:=h;refine ⟨by decide,λ_=> ?_,λ_=> ?_⟩
  ·have N3:0 < 1+n / 6 % 10 ^ (6:Int).toNat/\1+n / 6 % 10 ^ (6:Int).toNat<=1000000:=by show 0 < 1+n / 6 % 1000000/\1+n / 6 % 1000000<=1000000;omega
   have WB:gA (1+n / 6 % 10 ^ (6:Int).toNat):=BJ (k:=20) (aaT N3.1) (Int.lt_of_le_of_lt N3.2 (by decide)) (by decide);have We:gA ((10:Int) ^ (22:Int).toNat):=bg (k:=110) (by decide);have XG:gA ((10:Int) ^ (30:Int).toNat):=bg (k:=110) (by decide);have b7:gA ((10:Int) ^ (7:Int).toNat):=bg (k:=110) (by decide);have m0:(0:Int) < 2 * 10 ^ (30:Int).toNat - 2 * 10 ^ (7:Int).toNat+1:=by decide
   have Qe:=aaM (n * 10 ^ (22:Int).toNat) (show (2 * 10 ^ (30:Int).toNat - 2 * 10 ^ (7:Int).toNat+1:Int)≠0 by decide);have V3:=aaJ (n * 10 ^ (22:Int).toNat) m0;have b2:gA 2:=bg (k:=4) (by decide);refine ⟨UH,⟨BP hn,We⟩,Tz,⟨b2,XG⟩,p7,⟨b2,b7⟩,m0,Tz,p7,⟨by decide,bg (k:=5) (by decide)⟩,p6,(by show (0:Int) < 1000000;decide),_,_,rfl,N3.1,WB,h _ (AL ?_ N3.1 N3.2)⟩;have e:(2 * 10 ^ (30:Int).toNat - 2 * 10 ^ (7:Int).toNat+1:Int)=2 * 10 ^ 30 - 2 * 10 ^ 7+1:=rfl;rw [e] at Qe V3;show (n * 10 ^ (22:Int).toNat % (2 * 10 ^ 30 - 2 * 10 ^ 7+1) - (10 ^ 30 - 10 ^ 7)).natAbs<=_;omega
  ·refine ⟨by decide,by decide,by decide,by decide,⟨by decide,bg (k:=5) (by decide)⟩,by decide, ?_⟩;obtain ⟨p,ep,hp⟩:∃p:Fr,gS [Τ (0,1),Τ (1,1),Τ (-1,2)] (n / 6 % 3)=some (Τ p)/\lU p:=by
    have:n / 6 % 3=0\/n / 6 % 3=1\/n / 6 % 3=2:=by omega
    rcases this with e | e | e <;> rw [e]
    ·exact ⟨_,ao,by decide,by decide,by decide⟩
    ·exact ⟨_,Ζ (j:=1) rfl,by decide,by decide,by decide⟩
    ·exact ⟨_,Ζ (j:=2) rfl,by decide,by decide,by decide⟩
   exact π (d:= .lst [Τ (0,1),Τ (1,1),Τ (-1,2)]) rfl ep (h p hp)
abbrev uI:=Int×Fr×Int
def cB(x:uI):Dt:= .tup [.int x.1,Τ x.2.1, .int x.2.2]
inductive Br
 | fin (p:Fr)
 | wx (k:Str) (xs:List uI)
def kl:Br->Dt
 | .fin p=> .tup [.str "end",Τ p]
 | .wx k xs=> .tup [.str k, .lst (xs.map cB)]
def Qk(k:Str):Prop:=bu k=true\/k="chance"
def Hh(aX:Int)(x:uI):Prop:=(0<=x.1/\x.1 < aX)/\lU x.2.1/\1<=x.2.2/\x.2.2<=100000
def FF(aX:Int):Br->Prop
 | .fin p=>lU p
 | .wx k xs=>Qk k/\1<=xs.length/\xs.length<=6/\∀x∈xs,Hh aX x
structure xF(bs:List Br):Prop where
 n1:1<=bs.length
 zm:bs.length<=12
 each:∀b∈bs,FF bs.length b
theorem rN{n:Nat}:∀(xs:List uI),Dt.aV n (xs.map cB)
 | []=>trivial
 | _::xs=>⟨⟨trivial,⟨trivial,trivial,trivial⟩,trivial,trivial⟩,rN xs⟩
theorem yc{n:Nat}:∀(xs:List Br),Dt.aV n (xs.map kl)
 | []=>trivial
 | .fin _::xs=>⟨⟨trivial,⟨trivial,trivial,trivial⟩,trivial⟩,yc xs⟩
 | .wx _ ys::xs=>⟨⟨trivial,rN ys,trivial⟩,yc xs⟩
theorem C6:lU (0,1):=⟨by decide,by decide,by decide⟩
theorem uy(lo:Int)(n:Nat):bX lo n=(List.range n).map λi:Nat=>Dt.int (lo+i):=rfl
def BS:DF:=λas M q _=>∃n:Int,as=[.int n]/\Nm n/\∀bs,xF bs->q (.lst (bs.map kl)) M
theorem bV:ψ ["_law_number_here","_law_kind","_law_rows"] ["_law_number_here"] (ο dq):= .of rfl
theorem j8(F:dH K "_law_row_of_places" "_law_row_of_places" dq f fd)(E:Ev K mg Cm){rP:Addr}{uz:FuncData}(eD:aL P w K mg base 2 "_law_pay" ["_law_number_here"] xx rP uz):aB P w K mg base (cQ P w) 4 f fd ["_law_number_here"] (dw K BS):=by
 refine F.fZ bV (λds M q x h=> ?_) (λbK A outer s H E' hr=>⟨_,(η (τ 1 bV.nd (Γ (nA 3 (d:= .lst [.str "one", .str "chance", .str "other"]) (by rfl)) (aD (jv 0) ι)))
   (η (xi (i:=2) bV.nd rfl (Or.inl rfl) (ys:=["_law_kind"]) (Θ:=[1]) (.of bV rfl rfl rfl) (bA E.bb (ζ (ak ι (aD (bO (jv 0) ι) ι)) ε aN)) (λC s H fp=>(aq (Υ (jv 1) (ζ (ji (ζ (aq (ζ (ak (jv 0) ι) (ζ (aq (ζ ι (ζ ι ε aU) aU)) (ζ ι ε aU) fK) aN)) ε fK)) ε)))))
   (μ (χ (ak (jv 2) (ji (ζ (aq (ζ fE (ζ (ax eD hr ξ (ζ (bO (jv 0) ι) ε aN)) ε aQ) aU)) ε fK))))))),λds M q x h=> ?_⟩)
 ·obtain ⟨n,rfl,_⟩:=h;rfl
 ·obtain ⟨n,rfl,hn,h⟩:=h;refine ⟨by decide, ?_⟩;obtain ⟨kd,ek,O4⟩:∃kd:Str,gS [Dt.str "one",Dt.str "chance",Dt.str "other"] (n % 3)=some (.str kd)/\Qk kd:=by
   have:n % 3=0\/n % 3=1\/n % 3=2:=by omega
   rcases this with e | e | e <;> rw [e]
   ·exact ⟨_,ao, .inl (by decide)⟩
   ·exact ⟨_,Ζ (j:=1) rfl, .inr rfl⟩
   ·exact ⟨_,Ζ (j:=2) rfl, .inl (by decide)⟩
  refine (π (d:= .lst [Dt.str "one",Dt.str "chance",Dt.str "other"]) rfl ek ?_:cN (.lst [Dt.str "one",Dt.str "chance",Dt.str "other"]) (.int (n % 3)) M _);obtain ⟨m,hm,m1,Yu⟩:∃m:Nat,1+n / 3 % 11=(m:Int)/\1<=m/\m<=11:=⟨(1+n / 3 % 11).toNat,by omega,by omega,by omega⟩;refine ⟨⟨by decide,bg (k:=5) (by decide)⟩,by decide, ?_⟩;dsimp only [ky];rw [hm];refine ⟨⟨by omega,by omega⟩,by rw [cF];exact aam (show _<=11 by omega) (by decide), ?_⟩;refine lV (f:=λx=>match x with | .int j=>kl (.wx kd [(j+1,(0,1),1)]) | _=> .bf) _ _ (λx vy q' hq=> ?_) ?_
  ·obtain ⟨k,hk,rfl⟩:=fW vy;exact ⟨iV,Nb,Lg,iV,hq⟩
  ·have e:[]++(bX 0 ((m:Int)).toNat).map (λx=>match x with | .int j=>kl (.wx kd [(j+1,(0,1),1)]) | _=> .bf)=((List.range m).map λi:Nat=>Br.wx kd [((i:Int)+1,(0,1),1)]).map kl:=by rw [aaS,aa6,uy,aay,aay];exact aaR λi _=>by show kl (.wx kd [(0+(i:Int)+1,(0,1),1)])=_;rw [abo];rfl
   rw [e];refine ⟨⟨by decide,bg (k:=10) (by decide)⟩,_,rfl,pj hn (by decide),λp hp=>⟨iV,Lg, ?_⟩⟩;refine ⟨by simp;exact Nat.le_trans (show m+1<=12 by omega) (by decide), ?_⟩;have e2:((List.range m).map λi:Nat=>Br.wx kd [((i:Int)+1,(0,1),1)]).map kl++[Dt.tup [.str "end",Τ p]]=(((List.range m).map λi:Nat=>Br.wx kd [((i:Int)+1,(0,1),1)])++[Br.fin p]).map kl:=by rw [aav];rfl
   rw [e2];have hl:(((List.range m).map λi:Nat=>Br.wx kd [((i:Int)+1,(0,1),1)])++[Br.fin p]).length=m+1:=by simp
   refine h _ ⟨by omega,by omega,λb hb=> ?_⟩;rw [hl];rcases aaQ.mp hb with hb | hb
   ·obtain ⟨i,hi,rfl⟩:=aaj.mp hb;have hi:=aaL.mp hi;refine ⟨O4,aal 1,(by decide:1<=6),λx hx=> ?_⟩;have:x=((i:Int)+1,(0,1),1):=by simpa using hx
    subst this;exact ⟨⟨by show 0<=(i:Int)+1;omega,by show (i:Int)+1 < ((m+1:Nat):Int);omega⟩,C6,(by decide:(1:Int)<=1),(by decide:(1:Int)<=100000)⟩
   ·have:b= .fin p:=by simpa using hb
    subst this;exact hp
def tM(M:Ms)(lo:Nat)(d:Dt):Br->Prop
 | .fin p=>d=kl (.fin p)
 | .wx k xs=>∃a,lo < a/\d= .tup [.str k, .loc a]/\M[a]? =some (.lst (xs.map cB))
theorem tM.keep{M1:Ms}{lo:Nat}{b:Br}(h:tM M lo d b)(k:∀a o,lo < a->M[a]? =some o->M1[a]? =some o):tM M1 lo d b:=by
 cases b with
 | fin p=>exact h
 | wx kd xs=>
  obtain ⟨a,h1,h2,h3⟩:=h;exact ⟨a,h1,h2,k a _ h1 h3⟩
theorem BK{M1:Ms}{lo:Nat}{bs:List Br}(h:Paired (λd b=>tM M lo d b) ds bs)(k:∀a o,lo < a->M[a]? =some o->M1[a]? =some o):Paired (λd b=>tM M1 lo d b) ds bs:=by
 induction h with
 | nil=>exact .nil
 | cons h t ih=>exact .cons (h.keep k) ih
theorem BA{α β:Type}{R:α->β->Prop}{xs:List α}{ys:List β}{x:α}{y:β}(h:Paired R xs ys)(r:R x y):Paired R (xs++[x]) (ys++[y]):=by
 induction h with
 | nil=>exact .cons r .nil
 | cons h t ih=>exact .cons h ih
theorem FC{E:Ms}{bs:List Br}(h:Paired (λd b=>tM (M++E) M.length d b) ds bs):fF M.length E ds (bs.map kl):=by
 induction h with
 | nil=>exact .nil
 | @cons d b ds bs h t ih=>
  refine .cons ?_ ih;cases b with
  | fin p=>
   have h:d=kl (.fin p):=h;rw [h];exact .old ⟨trivial,⟨trivial,trivial,trivial⟩,trivial⟩
  | wx k xs=>
   obtain ⟨a,h1,rfl,h3⟩:=h;rw [aaw (by omega)] at h3;exact .tup (.cons (.old trivial) (.cons (.AA (by omega) h3 (.old (rN xs))) .nil))
theorem KW{n:Int}:∃kd:Str,gS [Dt.str "one",Dt.str "chance",Dt.str "other",Dt.str "end",Dt.str "chance"] (n % 5)=some (.str kd)/\(Qk kd\/kd="end"):=by
 have:n % 5=0\/n % 5=1\/n % 5=2\/n % 5=3\/n % 5=4:=by omega
 rcases this with e | e | e | e | e <;> rw [e]
 ·exact ⟨_,ao, .inl (.inl (by decide))⟩
 ·exact ⟨_,Ζ (j:=1) rfl, .inl (.inr rfl)⟩
 ·exact ⟨_,Ζ (j:=2) rfl, .inl (.inl (by decide))⟩
 ·exact ⟨_,Ζ (j:=3) rfl, .inr rfl⟩
 ·exact ⟨_,Ζ (j:=4) rfl, .inl (.inr rfl)⟩
def Ht:DF:=λas M q _=>∃ns:List Int,as=[.cT ns]/\∀bs E d,xF bs->zD M.length E d (.lst (bs.map kl))->q d (M++E)
theorem aK:ψ ["_law_script","_law_many","_law_rows","_law_place","_law_first","_law_kind","_law_most","_law_doors","_law_k","_law_at","_law_number_here","_law_pay_here"] ["_law_script"] (ο pI):= .of rfl
theorem wk(F:dH K "_law_base" "_law_base" pI f fd)(E:Ev K mg Cm)(Α:aL P w K mg base 2 "_law_number" ["_law_script","_law_k"] tI aT aR){mU:Addr}{mS:FuncData}(cU:aL P w K mg base 4 "_law_row_of_places" ["_law_number_here"] BS mU mS){rP:Addr}{uz:FuncData}(eD:aL P w K mg base 2 "_law_pay" ["_law_number_here"] xx rP uz){Cf:Addr}{DY:FuncData}(ma:aL P w K mg base 3 "_law_rest" ["_law_script","_law_k"] tI Cf DY):aB P w K mg base (cQ P w) 6 f fd ["_law_script"] (dw K Ht):=by
 refine F.fZ aK (λds M q x h=> ?_) (λbK A outer s H E' hr=>⟨_,(η (aC (cb hr (aD (ax Α hr ξ (Υ (jv 0) (ζ ι ε aU))) ι) ι) (μ (χ (ax cU hr ξ (ζ (bO (ax Α hr ξ (Υ (jv 0) (ζ ι ε aU))) ι) ε aN)))) Λ)
   (η (τ 1 aK.nd (ak ι (aD (ax Α hr ξ (Υ (jv 0) (ζ ι ε aU))) ι)))
   (η (τ 2 aK.nd (kY ε))
   (η (l' (bA E.bb (Υ (jv 1) ε)) (au (i:=3) aK.nd rfl (Or.inl rfl)) bo (η (τ 4 aK.nd (ax Α hr ξ (Υ (jv 0) (ζ (ak ι (br ι (jv 3))) ε aN))))
   (η (τ 5 aK.nd (Γ (nA 3 (d:= .lst [.str "one", .str "chance", .str "other", .str "end", .str "chance"]) (by rfl)) (aD (jv 4) ι)))
   (η (τ 6 aK.nd (Γ (ji (ζ ι (ζ (fM ι ι) ε aN) aU)) (bO (aD (bO (jv 4) ι) ι) ι)))
   (η (τ 7 aK.nd (kY ε))
   (η (l' (bA E.bb (ζ (ak ι (aD (bO (jv 4) ι) ι)) ε aN)) (au (i:=8) aK.nd rfl (Or.inl rfl)) bo (η (h_ (τ 9 aK.nd (HN (qK (jv 8) ι) (ak (ak ι (br ι (jv 3))) (jv 8)) (ak (ak ι (br ι (jv 3))) (jv 8)))))
   (η (τ 10 aK.nd (ax Α hr ξ (Υ (jv 0) (Υ (jv 9) ε))))
   (η (τ 11 aK.nd (ax eD hr ξ (ζ (ax ma hr ξ (Υ (jv 0) (Υ (jv 9) ε))) ε aQ)))
   (η (h_ (aC (cb hr (aD (ax Α hr ξ (Υ (jv 0) (ζ ι ε aU))) ι) ι) (μ (τ 11 aK.nd (aq (ζ ι (ζ ι ε aU) aU)))) Λ))
   (μ (iI (iD (jv 7) (ζ (aq (ζ (aD (jv 10) (jv 1)) (Υ (jv 11) (ζ (ak ι (aD (bO (jv 10) ι) (jv 6))) ε aN)) aN)) ε fK)))))))))
   (η (h_ (aC (cb hr (jv 5) fE) (μ (τ 7 aK.nd (ax eD hr ξ (ζ (bO (jv 4) ι) ε aN)))) Λ))
   (μ (iI (iD (jv 2) (ζ (aq (Υ (jv 5) (Υ (jv 7) ε))) ε fK)))))))))))
   (μ (χ (jv 2))))))),λds M q x h=> ?_⟩)
 ·obtain ⟨ns,rfl,_⟩:=h;rfl
 ·obtain ⟨ns,rfl,h⟩:=h;refine ⟨ns,46,rfl,by decide,by decide,λn0 Ua=>⟨by decide,λ_=> ?_,λ_=> ?_⟩⟩
  ·refine ⟨ns,46,rfl,by decide,by decide,λn1 S6=>⟨⟨by decide,bg (k:=5) (by decide)⟩,_,rfl,pj S6 (by decide),λbs hb=> ?_⟩⟩;have:=h bs [] _ hb (.old (yc bs));rwa [aaU] at this
  refine ⟨ns,0,rfl,by decide,by decide,λn1 S6=>⟨by decide, ?_⟩⟩;obtain ⟨sz,hz,z1,z4⟩:∃sz:Nat,1+n1 % 4=(sz:Int)/\1<=sz/\sz<=4:=⟨(1+n1 % 4).toNat,by omega,by omega,by omega⟩;dsimp only [ky];rw [hz];refine ⟨by decide,⟨by omega,by omega⟩, ?_⟩;refine dR (λzs ρ M2=>∃(n k:Nat) (bs:List Br) (ds:List Dt) (E:Ms) (o3 o4 o5 o6 o7 o8 o9 ym uJ:Option Dt),zs=bX k n/\k+n=sz/\bs.length=k/\(∀b∈bs,FF sz b)/\Paired (λd b=>tM (M++(.lst ds::E)) M.length d b) ds bs/\M2=M++(.lst ds::E)/\ρ=[some (.cT ns),some (.int sz),some (.loc M.length),o3,o4,o5,o6,o7,o8,o9,ym,uJ]) (λx zs ρ M2 hj AF=> ?_) (λρ M2 hj=> ?_) _ _ _ ⟨sz,0,[],[],[],none,none,none,none,none,none,none,none,none,by simp,by simp,rfl,λ_ z=>(nomatch z), .nil,rfl,rfl⟩
  ·obtain ⟨n,k,bs,ds,E,o3,o4,o5,o6,o7,o8,o9,ym,uJ,ex,Mb,hl,hd,pr,rfl,rfl⟩:=hj;obtain ⟨m,rfl,rfl,rfl⟩:=fX ex;have k4:(k:Int) < 4:=by omega
   have VV:∀F:Ms,(M++(MO.lst ds::E)++F)[M.length]? =some (.lst ds):=λF=>dr (by simp);have lt:ds.length < sizeLine:=by rw [show ds.length=bs.length from pr.length,hl];exact aaP (show k<=4 by omega) (by decide)
   have WT:∀(F:Ms) (d:Dt) (b:Br) (a3 a4 a5 a6 a7 a8 a9 KD Mz:Option Dt),FF sz b->tM (M++(.lst ds::E)++F) M.length d b->lD (gN 3) _ _ (bX ((k:Int)+1) m) [some (.cT ns),some (.int sz),some (.loc M.length),a3,a4,a5,a6,a7,a8,a9,KD,Mz] ((M++(.lst ds::E)++F).set M.length (.lst (ds++[d]))):=λF d b a3 a4 a5 a6 a7 a8 a9 KD Mz hb ha=>by
    have e:(M++(MO.lst ds::E)++F).set M.length (.lst (ds++[d]))=M++(.lst (ds++[d])::(E++F)):=by rw [aa8,abb _ _ (aal _),abn];rfl
    have kp:∀a o,M.length < a->(M++(MO.lst ds::E)++F)[a]? =some o->(M++(MO.lst (ds++[d])::(E++F)))[a]? =some o:=λa o AI hy=>by rw [<-e,aa2 (by omega)];exact hy
    rw [e];refine AF _ _ ⟨m,k+1,bs++[b],ds++[d],E++F,a3,a4,a5,a6,a7,a8,a9,KD,Mz,by simp,by omega,by simp [hl],λb' E4=> ?_,BA (BK pr λa o AI hy=>kp a o AI (dr hy)) (ha.keep kp),rfl,rfl⟩;rcases aaQ.mp E4 with E4 | E4
    ·exact hd b' E4
    ·have:b'=b:=by simpa using E4
     rw [this];exact hb
   refine ⟨⟨bg (k:=4) (by decide),bg (k:=4) (by omega)⟩,ns,_,rfl,by omega,by omega,λf hf=>⟨by decide, ?_⟩⟩;obtain ⟨kd,ek,O4⟩:=KW (n:=f);refine π rfl ek ?_;refine ⟨p5,iV,⟨by decide,bg (k:=6) (by decide)⟩,by decide,⟨by decide,bg (k:=4) (by decide)⟩, ?_⟩;obtain ⟨most,em,m0,m1⟩:∃most:Int,gS [Dt.int 5,Dt.int (10 ^ (5:Int).toNat)] (f / 30 % 4 / 3)=some (.int most)/\0 < most/\most<=100000:=by
    have:f / 30 % 4 / 3=0\/f / 30 % 4 / 3=1:=by omega
    rcases this with e | e <;> rw [e]
    ·exact ⟨5,ao,by decide,by decide⟩
    ·exact ⟨_,Ζ (j:=1) rfl,by decide,by decide⟩
   refine π (d:= .lst [Dt.int 5,Dt.int (10 ^ (5:Int).toNat)]) rfl em ?_;refine ⟨by decide,⟨by decide,bg (k:=4) (by decide)⟩,by decide, ?_⟩;obtain ⟨mn,WQ,Yg,Yc⟩:∃mn:Nat,1+f / 5 % 6=(mn:Int)/\1<=mn/\mn<=6:=⟨(1+f / 5 % 6).toNat,by omega,by omega,by omega⟩;dsimp only [ky];rw [WQ];refine ⟨⟨by omega,by omega⟩, ?_⟩;refine dR (λzs ρ M3=>∃(n' k':Nat) (xs:List uI) (o8 o9 ym uJ:Option Dt),zs=bX k' n'/\k'+n'=mn/\xs.length=k'/\(∀x∈xs,Hh sz x)/\M3=M++(.lst ds::E)++[.lst (xs.map cB)]/\ρ=[some (.cT ns),some (.int sz),some (.loc M.length),some (.int (k:Int)),some (.int f),some (.str kd),some (.int most),some (.loc (M++(MO.lst ds::E)).length),o8,o9,ym,uJ]) (λx zs ρ M3 hj O5=> ?_) (λρ M3 hj=> ?_) _ _ _ ⟨mn,0,[],_,_,_,_,by simp,by simp,rfl,λ_ z=>(nomatch z),rfl,rfl⟩
   ·obtain ⟨n',k',xs,o8,o9,ym,uJ,Fc,QN,HR,hx,rfl,rfl⟩:=hj;obtain ⟨m',rfl,rfl,rfl⟩:=fX Fc;have k6:(k':Int) < 6:=by omega
    refine ⟨λρ M3=>M3=M++(.lst ds::E)++[.lst (xs.map cB)]/\∃at':Int,0<=at'/\at'<=200/\ρ=[some (.cT ns),some (.int sz),some (.loc M.length),some (.int (k:Int)),some (.int f),some (.str kd),some (.int most),some (.loc (M++(MO.lst ds::E)).length),some (.int (k':Int)),some (.int at'),ym,uJ],⟨λ_=>⟨⟨bg (k:=4) (by decide),bg (k:=4) (by omega)⟩,rfl,_, ?_, ?_,rfl⟩,λ_=>⟨⟨bg (k:=4) (by decide),bg (k:=4) (by omega)⟩,rfl,_, ?_, ?_,rfl⟩⟩, ?_⟩
    ·omega
    ·omega
    ·omega
    ·omega
    rintro ρ3 M3 ⟨rfl,at',a0,a1,rfl⟩;refine ⟨ns,at',rfl,a0,a1,λn2 Ly=>⟨ns,at',rfl,a0,a1,λn3 U0=>⟨_,rfl,U0,λp hp=> ?_⟩⟩⟩;refine ⟨λρ M3=>M3=M++(.lst ds::E)++[.lst (xs.map cB)]/\∃p:Fr,lU p/\ρ=[some (.cT ns),some (.int sz),some (.loc M.length),some (.int (k:Int)),some (.int f),some (.str kd),some (.int most),some (.loc (M++(MO.lst ds::E)).length),some (.int (k':Int)),some (.int at'),some (.int n2),some (Τ p)],⟨ns,45,rfl,by decide,by decide,λn4 Yz=>⟨by decide,λ_=>⟨iV,rfl,(0,1),C6,rfl⟩,λ_=>⟨rfl,p,hp,rfl⟩⟩⟩, ?_⟩;rintro ρ4 M4 ⟨rfl,p,hp,rfl⟩;have Ft:(M++(MO.lst ds::E)++[MO.lst (xs.map cB)])[(M++(MO.lst ds::E)).length]? =some (.lst (xs.map cB)):=cj;refine ⟨⟨_,_,rfl,Ft⟩,by omega,⟨by decide,bg (k:=4) (by decide)⟩,m0,Nb,_,_,_,rfl,rfl,Ft,by rw [aac,HR];exact aaP (show k'<=6 by omega) (by decide), ?_⟩;refine O5 _ _ ⟨m',k'+1,xs++[(n2 % (sz:Int),p,1+n2 / 4 % most)],_,_,_,_,by simp,by omega,by simp [HR],λy hy=> ?_, ?_,rfl⟩
    ·rcases aaQ.mp hy with hy | hy
     ·exact hx y hy
     ·have:y=(n2 % (sz:Int),p,1+n2 / 4 % most):=by simpa using hy
      subst this;have e0:=aaM (n2 / 4) (show most≠0 by omega);have e1:=aaJ (n2 / 4) m0;exact ⟨⟨aaM _ (by omega),aaJ _ (by omega)⟩,hp,by show 1<=1+n2 / 4 % most;omega,by show 1+n2 / 4 % most<=100000;omega⟩
    ·rw [abb _ _ (aal _),abn,aav];rfl
   ·obtain ⟨n',k',xs,o8,o9,ym,uJ,Fc,QN,HR,hx,rfl,rfl⟩:=hj;have JY:n'=0:=by have:=aa3 List.length Fc;unfold bX at this;simpa using this.symm
    have a2:=VV [.lst (xs.map cB)];refine ⟨λρ M3=>M3=M++(.lst ds::E)++[.lst (xs.map cB)]/\∃(b:Br) (dv:Dt),FF sz b/\tM (M++(.lst ds::E)++[.lst (xs.map cB)]) M.length (.tup [.str kd,dv]) b/\ρ=[some (.cT ns),some (.int sz),some (.loc M.length),some (.int (k:Int)),some (.int f),some (.str kd),some (.int most),some dv,o8,o9,ym,uJ],⟨λhb=>⟨⟨by decide,bg (k:=4) (by decide)⟩,_,rfl,pj hf (by decide),λp hp=> ?_⟩,λhb=> ?_⟩, ?_⟩
    ·have hb:kd="end":=aaB hb;subst hb;exact ⟨rfl, .fin p,Τ p,hp,rfl,rfl⟩
    ·have hb:kd≠"end":=abJ hb;refine ⟨rfl, .wx kd xs, .loc (M++(MO.lst ds::E)).length,⟨O4.resolve_right hb,by omega,by omega,hx⟩,⟨_, ?_,rfl,cj⟩,rfl⟩;rw [aag,aaN];omega
    ·rintro ρ3 M3 ⟨rfl,b,dv,hb,ha,rfl⟩;exact ⟨⟨_,_,rfl,a2⟩,iV,_,_,_,rfl,rfl,a2,lt,WT _ _ b _ _ _ _ _ _ _ _ _ hb ha⟩
  ·obtain ⟨n,k,bs,ds,E,o3,o4,o5,o6,o7,o8,o9,ym,uJ,ex,Mb,hl,hd,pr,rfl,rfl⟩:=hj;have hn:n=0:=by have:=aa3 List.length ex;unfold bX at this;simpa using this.symm
   have e:bs.length=sz:=by omega
   exact h bs _ _ ⟨by omega,by omega,by rw [e];exact hd⟩ (.AA (aal _) (by rw [abn];rfl) (FC pr))
structure HI(aX:Int)(os:List Int):Prop where
 n1:1<=os.length
 zm:os.length<=12
 Hf:∀o∈os,0<=o/\o < aX
 all:∀t,0<=t->t < aX->t∈os
theorem vb:t∈e9 n↔0<=t/\t < n:=by
 unfold e9;rw [aaj];constructor
 ·rintro ⟨i,hi,rfl⟩;have:=aaL.mp hi;omega
 ·intro h;exact ⟨t.toNat,aaL.mpr (by omega),by omega⟩
theorem va:(e9 n).length=n:=by unfold e9;rw [List.length_map,List.length_range]
theorem nu{α:Type}{xs:List α}{x:α}:x∈xs.drop k++xs.take k↔x∈xs:=by
 conv=>rhs;rw [<-List.take_append_drop k xs]
 rw [aaQ,aaQ,or_comm]
theorem yX{a:Int}{l:Nat}(h1:a.natAbs < 2 ^ k)(h2:b.natAbs < 2 ^ l):(a * b).natAbs < 2 ^ (k+l):=by rw [abO];exact gr h1 h2
def y_:DF:=λas M q _=>∃(ns:List Int) (aX:Nat),as=[.cT ns, .int (aX:Nat)]/\1<=aX/\aX<=12/\∀os,HI aX os->q (.lst (os.map Dt.int)) M
theorem c_:ψ ["_law_script","_law_many","_law_size","_law_found","_law_at"] ["_law_script","_law_many"] (ο jK):= .of rfl
theorem tD(F:dH K "_law_origin" "_law_origin" jK f fd)(E:Ev K mg Cm)(Α:aL P w K mg base 2 "_law_number" ["_law_script","_law_k"] tI aT aR):aB P w K mg base (cQ P w) 4 f fd ["_law_script","_law_many"] (dw K y_):=by
 refine F.fZ c_ (λds M q x h=> ?_) (λbK A outer s H E' hr=>⟨_,(η (τ 2 c_.nd (ak (jv 1) (aD (ax Α hr ξ (Υ (jv 0) (ζ ι ε aU))) (oY ι (jv 1)))))
   (η (τ 3 c_.nd (ak (bN (Fi E.gB E.bb (Υ (jv 1) ε))) (tT (ys:=["_law_many","_law_script"]) (Θ:=[1,0]) (.of c_ rfl rfl rfl) (bA E.bb (ζ (oY (jv 2) (jv 1)) ε aN)) (λC s H fp=>(aD (ax Α hr (cM (P:=P) (w:=w)) (Υ (jv 2) (ζ (ak ι (jv 0)) ε aN))) (jv 1))))))
   (η (τ 4 c_.nd (aD (ax Α hr ξ (Υ (jv 0) (ζ ι ε aU))) (jv 2)))
   (μ (χ (ak (bN (iP (jv 3) (jv 4))) (bN (ng (jv 3) (jv 4))))))))),λds M q x h=> ?_⟩)
 ·obtain ⟨ns,aX,rfl,_⟩:=h;rfl
 ·obtain ⟨ns,aX,rfl,h1,S4,h⟩:=h;have m0:(0:Int) < 13 - aX:=by omega
  refine ⟨ns,1,rfl,by decide,by decide,λn0 Ua=>⟨m0, ?_⟩⟩;have e0:=aaM n0 (show (13:Int) - aX≠0 by omega);have e1:=aaJ n0 m0;obtain ⟨ex,hx,x1⟩:∃ex:Nat,n0 % (13 - aX)=(ex:Int)/\aX+ex<=12:=⟨(n0 % (13 - aX)).toNat,by omega,by omega⟩;dsimp only [ky];rw [hx];refine ⟨aX,rfl,by omega,cZ (m7 _) ?_⟩;refine ⟨⟨by omega,by omega⟩, ?_⟩;have es:(aX:Int)+(ex:Int) - aX=(ex:Int):=by omega
  dsimp only [Fz];rw [es];refine ⟨by rw [cF];exact aam (show _<=12 by omega) (by decide), ?_⟩;refine jI (f:=Dt.int) (λo:Int=>0<=o/\o < aX) _ [] (λ_ z=>(nomatch z)) (λx vy q' hq=> ?_) λxs OY W'=> ?_
  ·obtain ⟨k,hk,rfl⟩:=fW vy;have hk:k < ex:=by simpa using hk
   exact ⟨ns,_,rfl,by omega,by omega,λn hn=>⟨by omega,hq _ ⟨aaM _ (by omega),aaJ _ (by omega)⟩⟩⟩
  have OY:xs.length=ex:=by rw [OY,cF];simp
  refine ⟨by rw [aac,aac,va,OY];exact aam x1 (by decide), ?_⟩;rw [<-aav];have hl:(e9 aX++xs).length=aX+ex:=by rw [aag,va,OY]
  have Uj:∀o∈e9 aX++xs,0<=o/\o < (aX:Int):=λo ho=>by
   rcases aaQ.mp ho with ho | ho
   ·exact vb.mp ho
   ·exact W' o ho
  have NB:∀t:Int,0<=t->t < aX->t∈e9 aX++xs:=λt h0 h1=>aaW _ (vb.mpr ⟨h0,h1⟩);generalize e9 aX++xs=fs at *
  refine ⟨ns,2,rfl,by decide,by decide,λn2 Ly=>⟨by omega, ?_⟩⟩;have g0:=aaM n2 (show ((aX:Int)+ex)≠0 by omega);obtain ⟨k,ek⟩:∃k:Nat,n2 % ((aX:Int)+ex)=(k:Int):=⟨(n2 % ((aX:Int)+ex)).toNat,by omega⟩;rw [ek];refine ⟨fs.map Dt.int,k,rfl,rfl, ?_⟩;rw [<-List.map_drop];refine cZ (m7 _) ?_;refine ⟨fs.map Dt.int,k,rfl,rfl, ?_⟩;rw [<-List.map_take];refine cZ (m7 _) ?_;have OD:(fs.drop k++fs.take k).length=fs.length:=by rw [aag,abu,abk];omega
  refine ⟨by rw [aac,aac,<-aag,OD,hl];exact aam x1 (by decide), ?_⟩;rw [<-aav];exact h _ ⟨by rw [OD];omega,by rw [OD];omega,λo ho=>Uj o (nu.mp ho),λt h0 h1=>nu.mpr (NB t h0 h1)⟩
def Dp:DF:=λas M q _=>∃(ns:List Int) (pl k:Nat),as=[.cT ns, .int (pl:Nat), .int (k:Nat)]/\pl<=12/\k<=7/\∀r:Int,0<=r->r < 10 ^ 8->q (.int r) M
theorem gF:ψ ["_law_script","_law_place","_law_k","_law_number_here","_law_turn"] ["_law_script","_law_place","_law_k"] (ο lE):= .of rfl
theorem uX(F:dH K "_law_piece" "_law_piece" lE f fd)(E:Ev K mg Cm)(Α:aL P w K mg base 2 "_law_number" ["_law_script","_law_k"] tI aT aR)(cG:aL P w K mg base 1 "_law_far" ["_law_script","_law_k"] GG kT km):aB P w K mg base (cQ P w) 4 f fd ["_law_script","_law_place","_law_k"] (dw K Dp):=by
 refine F.fZ gF (λds M q x h=> ?_) (λbK A outer s H E' hr=>⟨_,(η (τ 3 gF.nd (ax Α hr ξ (Υ (jv 0) (ζ (ak ι (jv 1)) ε aN))))
   (η (aC (eG (ax cG hr ξ (Υ (jv 0) (ζ (ak ι (jv 1)) ε aN)))) (η (l' (bA E.bb (Υ (jv 2) ε)) (au (i:=4) gF.nd rfl (Or.inl rfl)) bo (μ (τ 3 gF.nd (bO (jv 3) (fM ι ι)))))
   (μ (χ (aD (jv 3) (fM ι ι))))) Λ)
   (μ (χ (aD (br (br (br (jv 3) (ak (jv 2) ι)) (ak (jv 2) ι)) ι) ι))))),λds M q x h=> ?_⟩)
 ·obtain ⟨ns,pl,k,rfl,_⟩:=h;rfl
 ·obtain ⟨ns,pl,k,rfl,hp,hk,h⟩:=h;refine ⟨ns,_,rfl,by omega,by omega,λn hn=>⟨ns,_,rfl,by omega,λhb=> ?_,λhb=> ?_⟩⟩
  ·refine ⟨⟨by omega,by omega⟩, ?_⟩;refine dR (λzs ρ M2=>∃(n:Int) (o:Option Dt),Nm n/\M2=M/\ρ=[some (.cT ns),some (.int (pl:Nat)),some (.int (k:Nat)),some (.int n),o]) (λx zs ρ M2 hj AF=> ?_) (λρ M2 hj=> ?_) _ _ _ ⟨n,none,hn,rfl,rfl⟩
   ·obtain ⟨n,o,hn,rfl,rfl⟩:=hj;exact ⟨p8,⟨by decide,bg (k:=40) (by decide)⟩,AF _ _ ⟨_,_,pj hn (by decide),rfl,rfl⟩⟩
   ·obtain ⟨n,o,hn,rfl,rfl⟩:=hj;exact ⟨p8,by decide,h _ (aaM _ (by decide)) (aaJ _ (by decide))⟩
  ·have b0:n.natAbs < 2 ^ 430:=by
    have:=hn.2;have t:(10:Int) ^ 128 < 2 ^ 430:=by decide
    have:=hn.1;omega
   have b1:((k:Int)+2).natAbs < 2 ^ 5:=by omega
   have b2:((k:Int)+5).natAbs < 2 ^ 5:=by omega
   have c1:=yX b0 b1;have c2:=yX c1 b2;exact ⟨⟨bg b0,bg b1⟩,⟨bg c1,bg b2⟩,⟨bg c2,bg (k:=20) (by decide)⟩,by decide,h _ (aaM _ (by decide)) (Int.lt_of_lt_of_le (aaJ _ (by decide)) (by decide))⟩
theorem Ek{a:Int}(h:0 < b):ag (2 * a) (2 * b)=ag a b:=by
 have q0:=bQ (t:=a) (show b≠0 by omega);have q1:=oh (t:=a) (show b≠0 by omega);have q2:=ck (t:=a) (show b≠0 by omega);generalize ag a b=f at *
 obtain ⟨p,q⟩:=f;exact ue (by omega) q0 q1 (by rw [abK,abK];exact aa3 (2 * ·) q2)
def QM:Rw->Prop
 | .fin p=>lU p
 | .ν _ ds=>∀d∈ds,lU d.2.1
structure Lk(size:Int)(r:Rw):Prop where
 fit:pZ size r
 wc:QM r
abbrev mJ(ys:List uI):List Int:=ys.map λy=>y.2.2
def wj(S:Int)(y:uI):bT:=(y.1,y.2.1,[ag y.2.2 S])
def QD(y:uI):bT:=(y.1,y.2.1,[])
structure Rp(size:Int)(y:uI):Prop where
 to:0<=y.1/\y.1 < size
 wc:lU y.2.1
 pos:0 < y.2.2
structure jk(size S:Int)(ys:List uI):Prop where
 n1:1<=ys.length
 n6:ys.length<=6
 each:∀y∈ys,Rp size y
 sum:(mJ ys).sum=S
 MM:S<=1000000\/(S<=2000000/\∀y∈ys,∃v,y.2.2=2 * v)
theorem zx:∀(vs:List Int),(vs.map λv=>2 * v).sum=2 * vs.sum
 | []=>rfl
 | v::vs=>by rw [aaD,abi,abi,zx vs];omega
theorem D6:∀(ys:List uI),(∀y∈ys,∃v,y.2.2=2 * v)->∃vs:List Int,mJ ys=vs.map λv=>2 * v
 | [],_=>⟨[],rfl⟩
 | y::ys,h=>by obtain ⟨v,hv⟩:=h y aak;obtain ⟨vs,S7⟩:=D6 ys λz hz=>h z (aai _ hz);exact ⟨v::vs,by show y.2.2::mJ ys=_;rw [hv,S7];rfl⟩
theorem jk.fits{ys:List uI}(h:jk size S ys):Η ((mJ ys).map λw=>ag w S)=true/\MR ((mJ ys).map λw=>ag w S):=by
 have ln:(mJ ys).length=ys.length:=aac ..;have n1:=h.n1;have n6:=h.n6;have pos:∀w∈mJ ys,0 < w:=λw hw=>by obtain ⟨y,hy,rfl⟩:=aaj.mp hw;exact (h.each y hy).pos
 rcases h.MM with fw | ⟨fw,ev⟩
 ·exact jw h.sum pos (λe=>by rw [e] at ln;simp at ln;omega) fw (by omega)
 ·obtain ⟨vs,hv⟩:=D6 ys ev;have hs:=h.sum;rw [hv,zx] at hs;have lv:vs.length=ys.length:=by rw [<-ln,hv,aac]
  have pv:∀v∈vs,0 < v:=λv yn=>by have:=pos (2 * v) (by rw [hv];exact aaj.mpr ⟨v,yn,rfl⟩);omega
  have ne:vs≠[]:=λe=>by rw [e] at lv;simp at lv;omega
  have sp:=tU pv ne;have key:=jw (ws:=vs) (S:=vs.sum) rfl pv ne (by omega) (by omega);have e:(mJ ys).map (λw=>ag w S)=vs.map λv=>ag v vs.sum:=by rw [hv,aay];exact aaR λv _=>by show ag (2 * v) S=_;rw [<-hs,Ek sp]
  rw [e];exact key
theorem jk.Vx{ys:List uI}(h:jk size S ys)(k:Nat):jk size S (ys.drop k++ys.take k):=by
 have hl:(ys.drop k++ys.take k).length=ys.length:=by rw [aag,abu,abk];omega
 refine ⟨by rw [hl];exact h.n1,by rw [hl];exact h.n6,λy hy=>h.each y (nu.mp hy), ?_, ?_⟩
 ·have:(mJ ys).sum=(mJ (ys.take k++ys.drop k)).sum:=by rw [List.take_append_drop]
  rw [<-h.sum,this];unfold mJ;rw [aav,aav,abW,abW,Int.add_comm]
 ·rcases h.MM with f | ⟨f,e⟩
  ·exact .inl f
  ·exact .inr ⟨f,λy hy=>e y (nu.mp hy)⟩
theorem jk.IP{ys:List uI}(h:jk size S ys):Lk size (.ν "chance" (ys.map (wj S))):=by
 obtain ⟨f1,f2⟩:=h.fits;have e:(ys.map (wj S)).map θ=(mJ ys).map λw=>ag w S:=by rw [aay,aay];rfl
 refine ⟨⟨rm (by rw [aac];exact h.n1) (by rw [aac];exact h.n6) (λd hd=> ?_) (λd hd=> ?_) (by rw [e];exact f1) (by rw [e];exact f2) (λd hd=> ?_),λk ds e hk=> ?_⟩,λd hd=> ?_⟩
 ·obtain ⟨y,hy,rfl⟩:=aaj.mp hd;exact j7 (h.each y hy).to.1 (h.each y hy).to.2 (h.each y hy).wc.fit
 ·obtain ⟨y,hy,rfl⟩:=aaj.mp hd;rfl
 ·obtain ⟨y,hy,rfl⟩:=aaj.mp hd;exact (h.each y hy).wc.2.1
 ·cases e;exact aaH hk (by decide)
 ·obtain ⟨y,hy,rfl⟩:=aaj.mp hd;exact (h.each y hy).wc
theorem jk.hand{ys:List uI}{k:Str}(h:jk size S ys)(hk:bu k=true):Lk size (.ν k (ys.map QD)):=by
 refine ⟨⟨zf hk (by rw [aac];exact h.n1) (by rw [aac];exact h.n6) (λd hd=> ?_) (λd hd=> ?_),λk ds e hk d hd=> ?_⟩,λd hd=> ?_⟩
 ·obtain ⟨y,hy,rfl⟩:=aaj.mp hd;exact j7 (h.each y hy).to.1 (h.each y hy).to.2 (h.each y hy).wc.fit
 ·obtain ⟨y,hy,rfl⟩:=aaj.mp hd;exact ⟨rfl,(h.each y hy).wc.2.1⟩
 ·cases e;obtain ⟨y,hy,rfl⟩:=aaj.mp hd;rfl
 ·obtain ⟨y,hy,rfl⟩:=aaj.mp hd;exact (h.each y hy).wc
theorem Dq{xs:List Int}{j:Int}(h0:0<=j)(h1:j < xs.length):∃x∈xs,gS (xs.map Dt.int) j=some (.int x):=by
 have hj:j.toNat < xs.length:=by omega
 have:=ye hj;rw [show ((j.toNat:Nat):Int)=j by omega] at this;exact ⟨_,aaY hj,this⟩
theorem Ou{bs:List Br}{j:Int}(h0:0<=j)(h1:j < bs.length):∃b∈bs,gS (bs.map kl) j=some (kl b):=by
 have hj:j.toNat < bs.length:=by omega
 have:=Ζ (xs:=bs.map kl) (j:=j.toNat) (v:=kl bs[j.toNat]) (by rw [aah,aaa hj];rfl);rw [show ((j.toNat:Nat):Int)=j by omega] at this;exact ⟨_,aaY hj,this⟩
theorem v7{p:Fr}{n:Int}(h:bM p=true):eP (.fin p) n=true:=h
def Hk:DF:=λas M q _=>∃(ns:List Int) (bs:List Br) (os:List Int) (pl:Nat),as=[.cT ns, .lst (bs.map kl), .lst (os.map Dt.int), .int (pl:Nat)]/\xF bs/\HI bs.length os/\pl < os.length/\∀r E,Lk os.length r->q (Μ r) (M++E)
theorem Ρ:ψ ["_law_script","_law_base_here","_law_origin_here","_law_place","_law_kind","_law_doors","_law_whole","_law_found","_law_k","_law_to","_law_pay_here","_law_weight","_law_mixed","_law_some","_law_parts","_law_less","_law_j","_law_chance","_law_at"] ["_law_script","_law_base_here","_law_origin_here","_law_place"] (ο oj):= .of rfl
theorem x5(F:dH K "_law_copy" "_law_copy" oj f fd)(E:Ev K mg Cm){zN:Addr}{AQ:FuncData}(gk:aL P w K mg base 4 "_law_piece" ["_law_script","_law_place","_law_k"] Dp zN AQ)(aE:aL P w K mg base 1 "_law_lowest" ["_law_top","_law_bottom"] DG cm cg):aB P w K mg base (cQ P w) 6 f fd ["_law_script","_law_base_here","_law_origin_here","_law_place"] (dw K Hk):=by
 refine F.fZ Ρ (λds M q x h=> ?_) (λbK A outer s H E' hr=>⟨_,(η (nK (Γ (jv 1) (Γ (jv 2) (jv 3))) (lN rfl (bB (au (i:=4) Ρ.nd rfl (Or.inl rfl)) (bB (au (i:=5) Ρ.nd rfl (Or.inl rfl)) iK))))
   (η (aC (cb hr (jv 4) fE) (μ (χ (aq (Υ (jv 4) (Υ (jv 5) ε))))) Λ)
   (η (τ 6 Ρ.nd (br ι (HA E.vZ (ζ (dG (ys:=[]) (Θ:=[]) (.of Ρ rfl rfl rfl) (bF (jv 5)) (λC s H fp=>(Γ (jv 0) ι))) ε))))
   (η (τ 7 Ρ.nd (kY ε))
   (η (l' (bA E.bb (ζ (bL E.bx (Υ (jv 5) ε)) ε aQ)) (au (i:=8) Ρ.nd rfl (Or.inl rfl)) bo (η (EU (Γ (jv 5) (jv 8)) (lN rfl (bB (au (i:=9) Ρ.nd rfl (Or.inr rfl)) (bB (au (i:=10) Ρ.nd rfl (Or.inl rfl)) (bB (au (i:=11) Ρ.nd rfl (Or.inl rfl)) iK)))))
   (η (τ 12 Ρ.nd (ax gk hr ξ (Υ (jv 0) (Υ (jv 3) (Υ (jv 8) ε)))))
   (η (kn (i:=13) Ρ.nd rfl (Or.inl rfl) (ys:=["_law_to","_law_origin_here"]) (Θ:=[9,2]) (.of Ρ rfl rfl rfl) (yK (bA E.bb (ζ (bL E.bx (Υ (jv 2) ε)) ε aQ))) (λC s H fp=>(cb hr (Γ (jv 2) (jv 0)) (jv 1))) (λC s H fp=>(jv 0)))
   (η (τ 14 Ρ.nd (ji (ζ (br ι (jv 11)) ε aN)))
   (η (h_ (aC (JW.jt (JF (cb hr (aD (jv 12) ι) ι) (E1 (qK (bL E.bx (Υ (jv 5) ε)) ι)))) (η (τ 15 Ρ.nd (ak ι (aD (bO (jv 12) ι) (oY (br ι (jv 11)) ι))))
   (μ (τ 14 Ρ.nd (ji (Υ (jv 15) (ζ (oY (br ι (jv 11)) (jv 15)) ε aN)))))) Λ))
   (μ (l' (bA E.bb (ζ (bL E.bx (Υ (jv 14) ε)) ε aQ)) (au (i:=16) Ρ.nd rfl (Or.inl rfl)) bo (η (τ 17 Ρ.nd (ax aE hr ξ (ζ (Γ (jv 14) (jv 16)) (Υ (jv 6) ε) az)))
   (μ (iI (iD (jv 7) (ζ (aq (ζ (Γ (jv 13) (aD (bO (jv 12) (br ι (ak (br ι (jv 16)) ι))) (bL E.bx (Υ (jv 13) ε)))) (Υ (jv 10) (Υ (jv 17) ε)) az)) ε fK)))))))))))))
   (η (τ 18 Ρ.nd (aD (ax gk hr ξ (Υ (jv 0) (Υ (jv 3) (ζ ι ε aU)))) (bL E.bx (Υ (jv 7) ε))))
   (η (τ 7 Ρ.nd (ak (bN (iP (jv 7) (jv 18))) (bN (ng (jv 7) (jv 18)))))
   (η (h_ (aC (ml hr (jv 4) fE) (μ (hU (i:=7) Ρ.nd rfl (Or.inl rfl) (ys:=[]) (Θ:=[]) (.of Ρ rfl rfl rfl) (bF (jv 7)) (λC s H fp=>(yM (jv 0) ι)))) Λ))
   (μ (χ (aq (Υ (jv 4) (Υ (jv 7) ε))))))))))))),λds M q x h=> ?_⟩)
 ·obtain ⟨ns,bs,os,pl,rfl,_⟩:=h;rfl
 ·obtain ⟨ns,bs,os,pl,rfl,hb,ho,hp,h⟩:=h;have zm:=ho.zm;obtain ⟨o,om,eo⟩:=Dq (xs:=os) (j:=(pl:Int)) (by omega) (by omega);obtain ⟨o0,o1⟩:=ho.Hf o om;obtain ⟨b,bm,eb⟩:=Ou (bs:=bs) o0 o1;have Pb:=hb.each b bm;walk_at "vc";dsimp only [vH];walk_at "vc";refine (π (d:= .lst (os.map Dt.int)) rfl eo ?_:cN (.lst (os.map Dt.int)) (.int (pl:Nat)) M _);refine (π (d:= .lst (bs.map kl)) rfl eb ?_:cN (.lst (bs.map kl)) (.int o) M _);cases b with
  | fin p=>
   refine ⟨λ_=>⟨iV, ?_⟩,λz=>(nomatch z)⟩;have:=h (.fin p) [] ⟨⟨⟨Pb.2.1,v7 Pb.fit⟩,λ_ _ z=>(nomatch z)⟩,Pb⟩;rwa [aaU] at this
  | wx kd xs=>
  obtain ⟨hk,x1,x6,hx⟩:=Pb;have J4:kd≠"end":=λz=>by subst z;rcases hk with hk | hk <;> exact aaH hk (by decide)
  refine ⟨λz=>aaH (aaB z) J4,λ_=> ?_⟩;have wb:∀v∈mJ xs,0 < v/\v<=100000:=λv hv=>by obtain ⟨y,hy,rfl⟩:=aaj.mp hv;exact ⟨(hx y hy).2.2.1,(hx y hy).2.2.2⟩
  have wl:(mJ xs).length=xs.length:=aac ..;have sp:0 < (mJ xs).sum:=tU (λv hv=>(wb v hv).1) (λe=>by rw [e] at wl;simp at wl;omega);have sm:=B4 (l:=mJ xs) λv hv=>(wb v hv).2;rw [wl] at sm;have Wh:(mJ xs).sum.natAbs < 2 ^ 22:=by omega
  show dX _ _ _ _ _;refine aP (i:=5) (d:= .lst (xs.map cB)) rfl rfl ⟨by rw [aac];exact aam x6 (by decide), ?_⟩;refine cy (f:=λd=>match d with | .tup [_,_,v]=>v | _=> .bf) trivial (λx vy q' hq=> ?_) ?_
  ·obtain ⟨y,hy,rfl⟩:=aaj.mp vy;exact π (d:=cB y) (xs:=[.int y.1,Τ y.2.1, .int y.2.2]) rfl (Ζ (j:=2) rfl) hq
  have ew:[]++(xs.map cB).map (λd=>match d with | .tup [_,_,v]=>v | _=> .bf)=(mJ xs).map Dt.int:=by rw [aaS,aay,aay];rfl
  rw [ew];refine ⟨mJ xs,rfl,⟨_,_,rfl⟩,⟨bg (k:=4) (by decide),bg Wh⟩,by decide, ?_⟩;generalize hS:2 * (mJ xs).sum=S;have S0:0 < S:=by omega
  have bS:gA S:=bg (k:=24) (by omega);refine (Φ (d:= .lst (xs.map cB)) (xs:=xs.map cB) rfl ?_:dJ [.lst (xs.map cB)] _ _);rw [aac];refine ⟨⟨by omega,by omega⟩, ?_⟩;have go:∀ys:List uI,ys.map (λy=>aH (wj S y))=(ys.map (wj S)).map aH:=λys=>by rw [aay];rfl
  refine dR (λzs ρ M2=>∃(n k:Nat) (ys:List uI) (o8 o9 ym uJ Gd Pr Pd EC A6 Ba Kt:Option Dt),zs=bX k n/\k+n=xs.length/\k<=ys.length/\(xs.length < 4->ys.length<=2 * k)/\(¬xs.length < 4->ys.length=k/\∀y∈ys,∃v,y.2.2=2 * v)/\(∀y∈ys,Rp os.length y)/\(mJ ys).sum=2 * (mJ (xs.take k)).sum/\M2=M++[.lst ((ys.map (wj S)).map aH)]/\ρ=[some (.cT ns),some (.lst (bs.map kl)),some (.lst (os.map Dt.int)),some (.int (pl:Nat)),some (.str kd),some (.lst (xs.map cB)),some (.int S),some (.loc M.length),o8,o9,ym,uJ,Gd,Pr,Pd,EC,A6,Ba,Kt]) (λx zs ρ M2 hj AF=> ?_) (λρ M2 hj=> ?_) _ _ _ ⟨xs.length,0,[],none,none,none,none,none,none,none,none,none,none,none,by simp,by simp,Nat.zero_le _,λ_=>Nat.zero_le _,λ_=>⟨rfl,λ_ z=>(nomatch z)⟩,λ_ z=>(nomatch z),rfl,rfl,rfl⟩
  ·obtain ⟨n,k,ys,o8,o9,ym,uJ,Gd,Pr,Pd,EC,A6,Ba,Kt,ex,Mb,Xz,O0,Lo,Sm,Pk,rfl,rfl⟩:=hj;obtain ⟨m,rfl,rfl,rfl⟩:=fX ex;have kx:k < xs.length:=by omega
   have ek:gS (xs.map cB) ((k:Nat):Int)=some (cB xs[k]):=Ζ (by rw [aah,aaa kx];rfl);obtain ⟨⟨t0,t1⟩,Sn,w1,w5⟩:=hx xs[k] (aaY kx);have Q8:xs.take (k+1)=xs.take k++[xs[k]]:=by rw [List.take_succ,aaa kx];rfl
   generalize xs[k]=tr at *
   obtain ⟨to,wc,wt⟩:=tr;have w1:1<=wt:=w1;have w5:wt<=100000:=w5;generalize Pm:(lD (gN 8) _ _ (bX ((k:Int)+1) m):En->Ms->Prop)=Nx at AF⊢;walk_at "vc";dsimp only [Hn];walk_at "vc";refine (π (d:= .lst (xs.map cB)) rfl ek ?_:cN (.lst (xs.map cB)) (.int ((k:Nat):Int)) _ _);refine ⟨ns,pl,k,rfl,by omega,by omega,λmx Yk X6=> ?_⟩;dsimp only [yd,Rz,xH];walk_at "vc";refine (Φ (d:= .lst (os.map Dt.int)) (xs:=os.map Dt.int) rfl ?_:dJ [.lst (os.map Dt.int)] _ _);rw [aac];refine ⟨⟨by omega,by omega⟩,by rw [cF];exact aam (show _<=12 by omega) (by decide), ?_⟩;refine dF trivial (λx=>match x with | .int j=>decide (os.getD j.toNat 0=to) | _=>false) (λx=>x) _ _ (λx vy q' p' h1 h2=> ?_) ?_
   ·obtain ⟨j,hj,rfl⟩:=fW vy;have hj:j < os.length:=by simpa using hj
    rw [abo] at h1 h2⊢;have e:os.getD ((j:Int).toNat) 0=os[j]:=by rw [aa6,aao,aaa hj];rfl
    walk_at "vc";refine (π (d:= .lst (os.map Dt.int)) rfl (ye hj) ?_:cN (.lst (os.map Dt.int)) (.int ((j:Nat):Int)) _ _);show match decide (os[j]=to) with | true=>_ | false=>_
    have e2:decide (os.getD ((j:Int).toNat) 0=to)=decide (os[j]=to):=by rw [e]
    cases c:decide (os[j]=to) with
    | true=>exact h1 (e2.trans c)
    | false=>exact h2 (e2.trans c)
   obtain ⟨ss,Vv,sr,s1⟩:∃ss:List Int,[]++(List.filter (λx=>match x with | .int j=>decide (os.getD j.toNat 0=to) | _=>false) (bX 0 ((os.length:Int)).toNat)).map (λx=>x)=ss.map Dt.int/\(∀s∈ss,0<=s/\s < (os.length:Int))/\1<=ss.length:=by
    refine ⟨((List.range os.length).filter λj=>decide (os.getD j 0=to)).map λj:Nat=>(j:Int), ?_,λs hs=> ?_, ?_⟩
    ·rw [aaS,List.map_id',aa6,uy,List.filter_map,aay];have:((λx=>match x with | Dt.int j=>decide (os.getD j.toNat 0=to) | _=>false) ∘ λi:Nat=>Dt.int (0+i))=λj:Nat=>decide (os.getD j 0=to):=by
      funext i
      show decide (os.getD (0+(i:Int)).toNat 0=to)=_;rw [abo,aa6]
     rw [this];exact aaR λi _=>by show Dt.int (0+(i:Int))=Dt.int (i:Int);rw [abo]
    ·obtain ⟨j,hj,rfl⟩:=aaj.mp hs;have:=aaL.mp (List.mem_filter.mp hj).1;omega
    ·obtain ⟨j,hj⟩:=aba.mp (ho.all to t0 t1);have HP:=(aad.mp hj).1;have:((j:Nat):Int)∈((List.range os.length).filter λj=>decide (os.getD j 0=to)).map λj:Nat=>(j:Int):=aaj.mpr ⟨j,List.mem_filter.mpr ⟨aaL.mpr HP,aaq (by rw [aao,hj];rfl)⟩,rfl⟩;exact abI this
   rw [Vv];refine ⟨⟨bg (k:=4) (by decide),bg (k:=20) (by omega)⟩,Lg, ?_⟩;refine ⟨λρ M3=>M3=M++[.lst ((ys.map (wj S)).map aH)]/\∃(ps:List Int) (EC:Option Dt),(1<=ps.length/\ps.length<=2/\(∀p∈ps,0 < p)/\ps.sum=2 * wt/\(xs.length < 4\/ps=[2 * wt]))/\ρ=[some (.cT ns),some (.lst (bs.map kl)),some (.lst (os.map Dt.int)),some (.int (pl:Nat)),some (.str kd),some (.lst (xs.map cB)),some (.int S),some (.loc M.length),some (.int (k:Int)),some (.int to),some (Τ wc),some (.int wt),some (.int mx),some (.lst (ss.map Dt.int)),some (.lst (ps.map Dt.int)),EC,A6,Ba,Kt], ?_, ?_⟩
   ·have same:∃(ps:List Int) (R8:Option Dt),(1<=ps.length/\ps.length<=2/\(∀p∈ps,0 < p)/\ps.sum=2 * wt/\(xs.length < 4\/ps=[2 * wt]))/\[some (Dt.cT ns),some (.lst (bs.map kl)),some (.lst (os.map Dt.int)),some (.int (pl:Nat)),some (.str kd),some (.lst (xs.map cB)),some (.int S),some (.loc M.length),some (.int (k:Int)),some (.int to),some (Τ wc),some (.int wt),some (.int mx),some (.lst (ss.map Dt.int)),some (.lst [.int (2 * wt)]),EC,A6,Ba,Kt]=[some (.cT ns),some (.lst (bs.map kl)),some (.lst (os.map Dt.int)),some (.int (pl:Nat)),some (.str kd),some (.lst (xs.map cB)),some (.int S),some (.loc M.length),some (.int (k:Int)),some (.int to),some (Τ wc),some (.int wt),some (.int mx),some (.lst (ss.map Dt.int)),some (.lst (ps.map Dt.int)),R8,A6,Ba,Kt]:=⟨[2 * wt],EC,⟨Nat.le_refl 1,by show 1<=2;decide,λp hp=>by rw [List.mem_singleton.mp hp];omega,by simp, .inr rfl⟩,rfl⟩;refine ⟨by decide,λ_=> ?_,λ_=>⟨λz=>(nomatch z),λ_=>⟨rfl,same⟩⟩⟩;walk_at "vc";refine (Φ (d:= .lst (xs.map cB)) (xs:=xs.map cB) rfl ?_:dJ [.lst (xs.map cB)] _ _);rw [aac];refine ⟨λhb=> ?_,λ_=>⟨rfl,same⟩⟩;have hb:((xs.length:Nat):Int) < 4:=aaB hb;have bw:gA wt:=bg (k:=20) (by omega);have g0:=aaM (mx / 3) (show 2 * wt - 1≠0 by omega);have g1:=aaJ (mx / 3) (show 0 < 2 * wt - 1 by omega);refine ⟨⟨by decide,bg (k:=4) (by decide)⟩,⟨bg (k:=4) (by decide),bw⟩,by omega,⟨bg (k:=4) (by decide),bw⟩,iV,rfl,[1+mx / 3 % (2 * wt - 1),2 * wt - (1+mx / 3 % (2 * wt - 1))],_,⟨by show 1<=2;decide,aal 2,λp hp=> ?_, ?_, .inl (by omega)⟩,rfl⟩
    ·rcases aaz.mp hp with rfl | hp
     ·omega
     ·have:p=2 * wt - (1+mx / 3 % (2 * wt - 1)):=by simpa using hp
      omega
    ·simp;omega
   rintro ρ3 M3 ⟨rfl,ps,EC,⟨q1,q2,qp,qs,q4⟩,rfl⟩;walk_at "vc";refine (Φ (d:= .lst (ps.map Dt.int)) (xs:=ps.map Dt.int) rfl ?_:dJ [.lst (ps.map Dt.int)] _ _);rw [aac];refine ⟨⟨by omega,by omega⟩, ?_⟩;refine dR (λzs ρ M3=>∃(n' j:Nat) (vs:List uI) (A6 Ba:Option Dt),zs=bX j n'/\j+n'=ps.length/\vs.length=j/\mJ vs=ps.take j/\(∀y∈vs,Rp os.length y)/\M3=M++[.lst (((ys++vs).map (wj S)).map aH)]/\ρ=[some (.cT ns),some (.lst (bs.map kl)),some (.lst (os.map Dt.int)),some (.int (pl:Nat)),some (.str kd),some (.lst (xs.map cB)),some (.int S),some (.loc M.length),some (.int (k:Int)),some (.int to),some (Τ wc),some (.int wt),some (.int mx),some (.lst (ss.map Dt.int)),some (.lst (ps.map Dt.int)),EC,A6,Ba,Kt]) (λx zs ρ M3 hj O5=> ?_) (λρ M3 hj=> ?_) _ _ _ ⟨ps.length,0,[],A6,Ba,by simp,by simp,rfl,rfl,λ_ z=>(nomatch z),by rw [List.append_nil],rfl⟩
   ·obtain ⟨n',j,vs,A6,Ba,Fc,Vm,ID,Lf,Sx,rfl,rfl⟩:=hj;obtain ⟨m',rfl,rfl,rfl⟩:=fX Fc;have HP:j < ps.length:=by omega
    have Ft:(M++[MO.lst (((ys++vs).map (wj S)).map aH)])[M.length]? =some (.lst (((ys++vs).map (wj S)).map aH)):=cj;generalize Yn:(lD (gN 16) _ _ (bX ((j:Int)+1) m'):En->Ms->Prop)=Ny at O5⊢;walk_at "vc";dsimp only [E8];walk_at "vc";refine (π (d:= .lst (ps.map Dt.int)) rfl (ye HP) ?_:cN (.lst (ps.map Dt.int)) (.int ((j:Nat):Int)) _ _);have jb:(j:Int) < 2:=by omega
    have db:0 < 600000 * (11 * (j:Int)+1):=by omega
    refine ⟨_,_,rfl,S0,bS,⟨_,_,rfl,Ft⟩,⟨bg (k:=5) (by decide),bg (k:=4) (by omega)⟩,⟨bg (k:=21) (by decide),bg (k:=6) (by omega)⟩,⟨db,bg (k:=30) (by omega)⟩, ?_⟩;refine (Φ (d:= .lst (ss.map Dt.int)) (xs:=ss.map Dt.int) rfl ?_:dJ [.lst (ss.map Dt.int)] _ _);rw [aac];have s0:(0:Int) < (ss.length:Nat):=by omega
    obtain ⟨sv,UD,VU⟩:=Dq (xs:=ss) (j:=mx / (600000 * (11 * (j:Int)+1)) % ((ss.length:Nat):Int)) (aaM _ (by omega)) (aaJ _ s0);refine ⟨s0, ?_⟩;refine (π (d:= .lst (ss.map Dt.int)) rfl VU ?_:cN (.lst (ss.map Dt.int)) (.int (mx / (600000 * (11 * (j:Int)+1)) % ((ss.length:Nat):Int))) _ _);have WI:(ys++vs).length<=20:=by
     rw [aag,ID];by_cases c:xs.length < 4
     ·have:=O0 c;omega
     ·have:=(Lo c).1;omega
    refine ⟨Nb,_,_,_,rfl,rfl,Ft,by rw [aac,aac];exact aaP WI (by decide), ?_⟩;refine O5 _ _ ⟨m',j+1,vs++[(sv,wc,ps[j])],_,_,by simp,by omega,by simp [ID], ?_,λy hy=> ?_, ?_,rfl⟩
    ·unfold mJ at Lf⊢;rw [aav,Lf,List.take_succ,aaa HP];rfl
    ·rcases aaQ.mp hy with hy | hy
     ·exact Sx y hy
     ·have:y=(sv,wc,ps[j]):=by simpa using hy
      subst this;exact ⟨sr sv UD,Sn,qp _ (aaY HP)⟩
    ·rw [abb _ _ (aal _),abn,<-aa8,aav (l₁:=ys++vs),aav (l₁:=(ys++vs).map (wj S))];rfl
   ·obtain ⟨n',j,vs,A6,Ba,Fc,Vm,ID,Lf,Sx,rfl,rfl⟩:=hj;have JY:n'=0:=by have:=aa3 List.length Fc;unfold bX at this;simpa using this.symm
    have SE:j=ps.length:=by omega
    rw [SE,List.take_length] at Lf;refine AF _ _ ⟨m,k+1,ys++vs,_,_,_,_,_,_,_,_,_,_,_,by simp,by omega,by rw [List.length_append];omega,λc=>by rw [List.length_append];have:=O0 c;omega,λc=> ?_,λy hy=> ?_, ?_,rfl,rfl⟩
    ·have e:=q4.resolve_left c;refine ⟨by rw [aag,(Lo c).1,ID,SE,e];rfl,λy hy=> ?_⟩;rcases aaQ.mp hy with hy | hy
     ·exact (Lo c).2 y hy
     ·have hm:y.2.2∈mJ vs:=aaj.mpr ⟨y,hy,rfl⟩;rw [Lf,e] at hm;exact ⟨wt,by simpa using hm⟩
    ·rcases aaQ.mp hy with hy | hy
     ·exact Sm y hy
     ·exact Sx y hy
    ·rw [Q8];unfold mJ at *
     rw [aav,abW,Pk,Lf,qs,aav,abW];show _=2 * (_+[wt].sum);simp;omega
  ·obtain ⟨n,k,ys,o8,o9,ym,uJ,Gd,Pr,Pd,EC,A6,Ba,Kt,ex,Mb,Xz,O0,Lo,Sm,Pk,rfl,rfl⟩:=hj;have hn:n=0:=by have:=aa3 List.length ex;unfold bX at this;simpa using this.symm
   have W5:k=xs.length:=by omega
   subst W5;rw [List.take_length,hS] at Pk;have pt:jk os.length S ys:=by
    refine ⟨by omega, ?_,Sm,Pk, ?_⟩
    ·by_cases c:xs.length < 4
     ·have:=O0 c;omega
     ·have:=(Lo c).1;omega
    ·by_cases c:xs.length < 4
     ·exact .inl (by omega)
     ·exact .inr ⟨by omega,(Lo c).2⟩
   have Ft:(M++[MO.lst ((ys.map (wj S)).map aH)])[M.length]? =some (.lst ((ys.map (wj S)).map aH)):=cj;refine ⟨ns,pl,7,rfl,by omega,by decide,λr r0 r1=> ?_⟩;walk_at "vc";refine (Φ (d:= .loc M.length) (cD Ft) ?_:dJ [.loc M.length] _ _);rw [aac,aac];have y0:(0:Int) < (ys.length:Nat):=by have:=pt.n1;omega
   refine ⟨y0, ?_⟩;have g0:=aaM r (show ((ys.length:Nat):Int)≠0 by omega);obtain ⟨a,ea⟩:∃a:Nat,r % ((ys.length:Nat):Int)=(a:Int):=⟨(r % ((ys.length:Nat):Int)).toNat,by omega⟩;rw [ea];refine ⟨_,a,c7 Ft,rfl, ?_⟩;rw [<-List.map_drop,<-List.map_drop];refine cZ (dD _) ?_;refine ⟨_,a,c7 Ft,rfl, ?_⟩;rw [<-List.map_take,<-List.map_take];refine cZ (dD _) ?_;have pr:=pt.Vx a;refine ⟨by rw [aac,aac,aac,aac,<-aag];exact aam pr.n6 (by decide), ?_⟩;rw [<-aav,<-aav];generalize ys.drop a++ys.take a=zs at *
   refine ⟨λρ M3=>M3=M++[.lst ((ys.map (wj S)).map aH)]/\∃ds:List bT,Lk os.length (.ν kd ds)/\ρ=[some (.cT ns),some (.lst (bs.map kl)),some (.lst (os.map Dt.int)),some (.int (pl:Nat)),some (.str kd),some (.lst (xs.map cB)),some (.int S),some (.lst (ds.map aH)),o8,o9,ym,uJ,Gd,Pr,Pd,EC,A6,Ba,some (.int a)],⟨λhb=> ?_,λhb=> ?_⟩, ?_⟩
   ·have hb:kd≠"chance":=by intro z;subst z;exact aaH hb (by decide)
    show dX _ _ _ _ _;refine aP (i:=7) (d:= .lst ((zs.map (wj S)).map aH)) rfl rfl ⟨by rw [aac,aac];exact aam pr.n6 (by decide), ?_⟩;refine cy (f:=λd=>match d with | .tup [a,b,_]=> .tup [a,b] | _=> .bf) trivial (λx vy q' hq=> ?_) ?_
    ·obtain ⟨d,hd,rfl⟩:=aaj.mp vy;obtain ⟨y,hy,rfl⟩:=aaj.mp hd;exact ⟨_,2,rfl,rfl,by show 2 < 3;decide,hq⟩
    ·have e:[]++((zs.map (wj S)).map aH).map (λd=>match d with | .tup [a,b,_]=> .tup [a,b] | _=> .bf)=(zs.map QD).map aH:=by rw [aaS,aay,aay,aay];rfl
     rw [e];exact ⟨rfl,zs.map QD,pr.hand (hk.resolve_right hb),rfl⟩
   ·have hb:kd="chance":=by
     by_cases z:kd="chance"
     ·exact z
     ·exact aaH hb (by rw [aaK z];decide)
    subst hb;exact ⟨rfl,zs.map (wj S),pr.IP,rfl⟩
   ·rintro ρ3 M3 ⟨rfl,ds,K_,rfl⟩;exact ⟨iV,h (.ν kd ds) _ K_⟩
theorem pZ.fin{n:Int}{p:Fr}(h:lU p):pZ n (.fin (p.1+p.2,p.2)):=
 ⟨⟨h.2.1,Ci (by have:=h.1;have:=h.2.1;show -(10 ^ 30)<=p.1+p.2;omega) (by have:=h.1;have:=h.2.2;show p.1+p.2<=10 ^ 30;omega) h.2.2⟩,λ_ _ z=>(nomatch z)⟩
theorem pZ.set{n:Int}{k:Str}{ds:List bT}{d d':bT}(h:pZ n (.ν k ds))(e:ds[i]? =some d)(h1:ah d'.1 d'.2.1 n=true)(h2:0 < d'.2.1.2)(h3:d'.2.2=d.2.2):pZ n (.ν k (ds.set i d')):=by
 obtain ⟨⟨⟨k0,Dc,hc,hd⟩,hf⟩,hh⟩:=h;have md:=aat e;have ec:(ds.set i d').map θ=ds.map θ:=by
  rw [List.map_set];have hi:i < (ds.map θ).length:=by rw [aac];exact (aad.mp e).1
  have:θ d'=(ds.map θ)[i]:=by rw [List.getElem_map];have e2:=(aad.mp e).2;unfold θ;rw [h3,e2]
  rw [this,List.set_getElem_self]
 have all:∀x∈ds.set i d',x∈ds\/x=d':=λx hx=>List.mem_or_eq_of_mem_set hx;refine ⟨⟨⟨k0,by rw [abj];exact Dc,λz=>⟨λx hx=> ?_,by rw [ec];exact (hc z).2⟩,λx hx=> ?_⟩, ?_⟩,λk' Bb e' hk x hx=> ?_⟩
 ·rcases all x hx with hx | rfl
  ·exact (hc z).1 x hx
  ·have:=(hc z).1 d md;unfold θ at this⊢;rw [h3];exact this
 ·rcases all x hx with hx | rfl
  ·exact hd x hx
  ·rw [h3];exact ⟨(hd d md).1,h2⟩
 ·have fd:∀{m:Int},ω ds m=true->(∀x,x=d'->ah x.1 x.2.1 m=true)->ω (ds.set i d') m=true:=λ{m} h hx=>by
   unfold ω at h⊢;rw [aan,aan,aaX] at h⊢;refine ⟨by rw [abj];exact h.1,λx JR=> ?_⟩;rcases all x JR with JR | JR
   ·exact h.2 x JR
   ·exact hx x JR
  have hf:(if bu k then ω ds n else if k="chance" then ω ds n&&Η (ds.map θ) else false)=true:=hf;show (if bu k then ω (ds.set i d') n else if k="chance" then ω (ds.set i d') n&&Η ((ds.set i d').map θ) else false)=true;rw [ec];by_cases c:bu k=true
  ·rw [aaI c] at hf⊢;exact fd hf λx hx=>by rw [hx];exact h1
  ·rw [aaF c] at hf⊢;by_cases c2:k="chance"
   ·rw [aaI c2,aan] at hf⊢;exact ⟨fd hf.1 λx hx=>by rw [hx];exact h1,hf.2⟩
   ·rw [aaF c2] at hf;cases hf
 ·cases e';rcases all x hx with hx | rfl
  ·exact hh k ds rfl hk x hx
  ·rw [h3];exact hh k ds rfl hk d md
theorem yu{α:Type}{xs:List α}{x:α}(h:i < xs.length):xs.take i++[x]++xs.drop (i+1)=xs.set i x:=by rw [List.set_eq_take_append_cons_drop,aaI h,aa8];rfl
def yk:DF:=λas M q _=>∃(ns:List Int) (γ:List Rw),as=[.cT ns, .lst (γ.map Μ)]/\1<=γ.length/\γ.length<=12/\(∀r∈γ,Lk γ.length r)/\∀mj:List Rw,mj.length=γ.length->(∀r∈mj,pZ γ.length r)->q (.lst (mj.map Μ)) M
theorem aI:ψ ["_law_script","_law_rows","_law_number_here","_law_place","_law_kind","_law_told","_law_row","_law_at","_law_door","_law_pay_here"] ["_law_script","_law_rows"] (ο jY):= .of rfl
theorem tE(F:dH K "_law_spoilt" "_law_spoilt" jY f fd)(E:Ev K mg Cm)(Α:aL P w K mg base 2 "_law_number" ["_law_script","_law_k"] tI aT aR):aB P w K mg base (cQ P w) 4 f fd ["_law_script","_law_rows"] (dw K yk):=by
 refine F.fZ aI (λds M q x h=> ?_) (λbK A outer s H E' hr=>⟨_,(η (τ 2 aI.nd (ax Α hr ξ (Υ (jv 0) (ζ ι ε aU))))
   (η (τ 3 aI.nd (aD (bO (jv 2) ι) (bL E.bx (Υ (jv 1) ε))))
   (η (nK (Γ (jv 1) (jv 3)) (lN rfl (bB (au (i:=4) aI.nd rfl (Or.inl rfl)) (bB (au (i:=5) aI.nd rfl (Or.inl rfl)) iK))))
   (η (aC (cb hr (aD (jv 2) ι) ι) (μ (χ (jv 1))) Λ)
   (η (h_ (aC (cb hr (jv 4) fE) (μ (τ 6 aI.nd (aq (Υ (jv 4) (ζ (aq (ζ (ak (Γ (jv 5) ι) (Γ (jv 5) ι)) (ζ (Γ (jv 5) ι) ε az) aN)) ε fK))))) (η (τ 7 aI.nd (aD (bO (jv 2) ι) (bL E.bx (Υ (jv 5) ε))))
   (η (τ 8 aI.nd (ak (aq (ζ (aD (ak (Γ (Γ (jv 5) (jv 7)) ι) ι) (bL E.bx (Υ (jv 1) ε))) ε aN)) (qP (Γ (jv 5) (jv 7)) ι)))
   (η (h_ (aC (cb hr (aD (bO (jv 2) ι) ι) ι) (η (τ 9 aI.nd (Γ (Γ (jv 5) (jv 7)) ι))
   (μ (τ 8 aI.nd (ak (aq (ζ (Γ (Γ (jv 5) (jv 7)) ι) (ζ (aq (ζ (ak (Γ (jv 9) ι) (Γ (jv 9) ι)) (ζ (Γ (jv 9) ι) ε az) aN)) ε fK) az)) (qP (Γ (jv 5) (jv 7)) ι))))) Λ))
   (μ (τ 6 aI.nd (aq (Υ (jv 4) (ζ (ak (ak (bN (ng (jv 5) (jv 7))) (ji (Υ (jv 8) ε))) (bN (iP (jv 5) (ak (jv 7) ι)))) ε aN))))))))))
   (μ (χ (ak (ak (bN (ng (jv 1) (jv 3))) (ji (Υ (jv 6) ε))) (bN (iP (jv 1) (ak (jv 3) ι))))))))))),λds M q x h=> ?_⟩)
 ·obtain ⟨ns,γ,rfl,_⟩:=h;rfl
 ·obtain ⟨ns,γ,rfl,n1,zm,Fq,h⟩:=h;refine ⟨ns,44,rfl,by decide,by decide,λn hn=>⟨⟨by decide,bg (k:=4) (by decide)⟩, ?_⟩⟩;walk_at "vc";refine (Φ (d:= .lst (γ.map Μ)) (xs:=γ.map Μ) rfl ?_:dJ [.lst (γ.map Μ)] _ _);rw [aac];have g0:=aaM (n / 2) (show ((γ.length:Nat):Int)≠0 by omega);have g1:=aaJ (n / 2) (show (0:Int) < (γ.length:Nat) by omega);obtain ⟨i,ei,il⟩:∃i:Nat,n / 2 % ((γ.length:Nat):Int)=(i:Int)/\i < γ.length:=⟨(n / 2 % ((γ.length:Nat):Int)).toNat,by omega,by omega⟩;refine ⟨by omega, ?_⟩;rw [ei];have er:γ[i]? =some γ[i]:=aaa il;have K7:gS (γ.map Μ) ((i:Nat):Int)=some (Μ γ[i]):=Ζ (by rw [aah,er];rfl);have Kf:=Fq γ[i] (aaY il);generalize γ[i]=r at *
  dsimp only [vH];walk_at "vc";refine (π (d:= .lst (γ.map Μ)) rfl K7 ?_:cN (.lst (γ.map Μ)) (.int ((i:Nat):Int)) _ _);have last:∀(r':Rw) (k0 t0:Dt) (o7 o8 o9:Option Dt),pZ γ.length r'->∀(Dn:ke),Dn.rt=q->K3 (iH ky (iH ky (Pa (BY (d8 1) (d8 3))) (Im (dY (d8 6) jO))) (Pa (N9 (d8 1) (iH ky (d8 3) (dC (.int 1)))))) Dn [some (.cT ns),some (.lst (γ.map Μ)),some (.int n),some (.int (i:Nat)),some k0,some t0,some (Μ r'),o7,o8,o9] M:=λr' k0 t0 o7 o8 o9 ya Dn hD=>by
   have l1:(γ.take i).length<=12:=by rw [abk];omega
   have l2:(γ.drop (i+1)).length<=12:=by rw [abu];omega
   refine ⟨γ.map Μ,i,rfl,rfl, ?_⟩;rw [<-List.map_take];refine cZ (ki _) ⟨Lg,⟨by rw [aac];exact aam (aby l1 1) (by decide),γ.map Μ,i+1,rfl,rfl, ?_⟩⟩;rw [<-List.map_drop];refine cZ (ki _) ⟨by rw [aag,aac,aac];exact aam (Nat.add_le_add (aby l1 1) l2) (by decide), ?_⟩;have e:(γ.take i).map Μ++[Μ r']++(γ.drop (i+1)).map Μ=(γ.set i r').map Μ:=by rw [<-yu il,aav,aav];rfl
   rw [e,hD];refine h _ (abj ..) λx hx=> ?_;rcases List.mem_or_eq_of_mem_set hx with hx | rfl
   ·exact (Fq x hx).fit
   ·exact ya
  cases r with
  | fin p=>
   refine ⟨by decide,λ_=>h γ rfl λx hx=>(Fq x hx).fit,λ_=> ?_⟩;refine ⟨λρ M3=>M3=M/\∃(r':Rw) (k0 t0:Dt) (o7 o8 o9:Option Dt),pZ γ.length r'/\ρ=[some (.cT ns),some (.lst (γ.map Μ)),some (.int n),some (.int (i:Nat)),some k0,some t0,some (Μ r'),o7,o8,o9],⟨λ_=> ?_,λz=>(nomatch z)⟩, ?_⟩
   ·walk_at "vc";refine Cj ?_;refine qD ?_;dsimp only [ky];refine qD ?_;exact ⟨iV,iV,rfl, .fin (p.1+p.2,p.2),_,_,_,_,_, .fin Kf.wc,rfl⟩
   ·rintro ρ3 M3 ⟨rfl,r',k0,t0,o7,o8,o9,ya,rfl⟩;exact last r' k0 t0 o7 o8 o9 ya _ rfl
  | ν kd ds=>
   obtain ⟨d1,d6,PL⟩:=Bj Kf.fit;have J4:kd≠"end":=Kf.fit.good.1.1;refine ⟨by decide,λ_=>h γ rfl λx hx=>(Fq x hx).fit,λ_=> ?_⟩;refine ⟨λρ M3=>M3=M/\∃(r':Rw) (k0 t0:Dt) (o7 o8 o9:Option Dt),pZ γ.length r'/\ρ=[some (.cT ns),some (.lst (γ.map Μ)),some (.int n),some (.int (i:Nat)),some k0,some t0,some (Μ r'),o7,o8,o9],⟨λz=>aaH (aaB z) J4,λ_=> ?_⟩, ?_⟩
   ·refine ⟨⟨by decide,bg (k:=6) (by decide)⟩, ?_⟩;walk_at "vc";refine (Φ (d:= .lst (ds.map aH)) (xs:=ds.map aH) rfl ?_:dJ [.lst (ds.map aH)] _ _);rw [aac];have a0:=aaM (n / 24) (show ((ds.length:Nat):Int)≠0 by omega);have a1:=aaJ (n / 24) (show (0:Int) < (ds.length:Nat) by omega);obtain ⟨j,ej,jl⟩:∃j:Nat,n / 24 % ((ds.length:Nat):Int)=(j:Int)/\j < ds.length:=⟨(n / 24 % ((ds.length:Nat):Int)).toNat,by omega,by omega⟩;refine ⟨by omega, ?_⟩;rw [ej];have ed:ds[j]? =some ds[j]:=aaa jl;have PC:gS (ds.map aH) ((j:Nat):Int)=some (aH ds[j]):=Ζ (by rw [aah,ed];rfl);have O1:=m8 (PL ds[j] (aaY jl));have Hj:=Kf.wc ds[j] (aaY jl);generalize ds[j]=d at *
    have at2:∀(qq:DQ),qq (aH d) M->cN (.lst (ds.map aH)) (.int ((j:Nat):Int)) M qq:=λqq hq=>π (d:= .lst (ds.map aH)) rfl PC hq;dsimp only [Ie];walk_at "vc";refine at2 _ ?_;refine uO ?_;dsimp only [ky];refine (Φ (d:= .lst (γ.map Μ)) (xs:=γ.map Μ) rfl ?_:dJ [.lst (γ.map Μ)] _ _);rw [aac];refine ⟨by omega,Lg, ?_⟩;refine at2 _ ?_;refine ⟨_,1,rfl,rfl,Nat.le_refl 1,by simp,⟨by simp, ?_⟩, ?_⟩
    ·show 1+(List.drop 1 (Dt.int d.1::Τ d.2.1::d.2.2.map Τ)).length<=sizeLine;have:=(Kf.fit.good.1.2.2.2 d (aat ed)).1;simp;exact aam (show _<=3 by omega) (by decide)
    refine ⟨λρ M3=>M3=M/\∃(d':bT) (o9:Option Dt),ah d'.1 d'.2.1 γ.length=true/\0 < d'.2.1.2/\d'.2.2=d.2.2/\ρ=[some (.cT ns),some (.lst (γ.map Μ)),some (.int n),some (.int (i:Nat)),some (.str kd),some (.lst (ds.map aH)),none,some (.int (j:Nat)),some (aH d'),o9],⟨⟨by decide,bg (k:=8) (by decide)⟩,by decide,λ_=> ?_,λ_=> ?_⟩, ?_⟩
    ·walk_at "vc";refine at2 _ ?_;refine yT ?_;refine at2 _ ?_;refine uO ?_;refine Cj ?_;refine qD ?_;dsimp only [ky];refine qD ?_;refine ⟨iV,iV, ?_⟩;dsimp only [Ie];walk_at "vc";refine at2 _ ?_;refine ⟨_,2,rfl,rfl,by decide,by simp,⟨by simp, ?_⟩,rfl,(d.1,(d.2.1.1+d.2.1.2,d.2.1.2),d.2.2),_,j7 O1.1 O1.2.1 (Ci ?_ ?_ Hj.2.2),Hj.2.1,rfl,rfl⟩
     ·have:=(Kf.fit.good.1.2.2.2 d (aat ed)).1;simp;exact aam (show _<=3 by omega) (by decide)
     ·have:=Hj.1;have:=Hj.2.1;show -(10 ^ 30)<=d.2.1.1+d.2.1.2;omega
     ·have:=Hj.1;have:=Hj.2.2;show d.2.1.1+d.2.1.2<=10 ^ 30;omega
    ·exact ⟨rfl,((d.1+1) % ((γ.length:Nat):Int),d.2.1,d.2.2),_,j7 (aaM _ (by omega)) (aaJ _ (by omega)) Hj.fit,Hj.2.1,rfl,rfl⟩
    ·rintro ρ3 M3 ⟨rfl,d',o9,f1,f2,f3,rfl⟩;have l1:(ds.take j).length<=6:=by rw [abk];omega
     have l2:(ds.drop (j+1)).length<=6:=by rw [abu];omega
     refine ⟨ds.map aH,j,rfl,rfl, ?_⟩;rw [<-List.map_take];refine cZ (dD _) ⟨Lg,⟨by rw [aac];exact aam (aby l1 1) (by decide),ds.map aH,j+1,rfl,rfl, ?_⟩⟩;rw [<-List.map_drop];refine cZ (dD _) ⟨by rw [aag,aac,aac];exact aam (Nat.add_le_add (aby l1 1) l2) (by decide), ?_⟩;have e:(ds.take j).map aH++[aH d']++(ds.drop (j+1)).map aH=(ds.set j d').map aH:=by rw [<-yu jl,aav,aav];rfl
     rw [e];exact ⟨iV,rfl, .ν kd (ds.set j d'),_,_,_,_,_,Kf.fit.set ed f1 f2 f3,rfl⟩
   ·rintro ρ3 M3 ⟨rfl,r',k0,t0,o7,o8,o9,ya,rfl⟩;exact last r' k0 t0 o7 o8 o9 ya _ rfl
def HS:DF:=λas M q _=>∃(k:Str) (ds:List bT) (n:Nat) (c:Nat->Nat) (dc:Dt) (p:Fr) (y:Nat),as=[Μ (.ν k ds),dc, .tup [Τ p, .int (y:Nat)]]/\gu M dc=some (bZ n c)/\ug n k ds/\q (Τ (b9 c k ds (dz p y))) M
theorem cq:ψ ["_law_row","_law_classes","_law_pair","_law_top","_law_bottom","_law_door"] ["_law_row","_law_classes","_law_pair"] (ο jL):= .of rfl
theorem sU(F:dH K "_law_part_of" "_law_part_of" jL f fd)(E:Ev K mg Cm)(aE:aL P w K mg base 1 "_law_lowest" ["_law_top","_law_bottom"] DG cm cg):aB P w K mg base (cQ P w) 4 f fd ["_law_row","_law_classes","_law_pair"] (dw K HS):=by
 refine F.fZ cq (λds M q x h=> ?_) (λbK A outer s H E' hr=>⟨_,(η (τ 3 cq.nd ι)
   (η (τ 4 cq.nd ι)
   (η (j9 (bF (Γ (jv 0) ι)) (au (i:=5) cq.nd rfl (Or.inl rfl)) bo (μ (aC (JP 2 hr (aq (ζ (Γ (jv 5) ι) (ζ (Γ (jv 1) (Γ (jv 5) ι)) ε az) az)) (jv 2)) (η (aC (ml hr (Γ (jv 0) ι) fE) (μ (χ (aq (ζ ι (ζ ι ε aU) aU)))) Λ)
   (μ (nK (ax aE hr ξ (ζ (ak (br (jv 3) (Γ (Γ (jv 5) ι) ι)) (br (Γ (Γ (jv 5) ι) ι) (jv 4))) (ζ (br (jv 4) (Γ (Γ (jv 5) ι) ι)) ε aN) aN)) (lN rfl (bB (au (i:=3) cq.nd rfl (Or.inl rfl)) (bB (au (i:=4) cq.nd rfl (Or.inl rfl)) iK)))))) Λ)))
   (μ (χ (aq (Υ (jv 3) (Υ (jv 4) ε)))))))),λds M q x h=> ?_⟩)
 ·obtain ⟨k,ds,n,c,dc,p,y,rfl,_⟩:=h;rfl
 ·obtain ⟨k,ds,n,c,dc,p,y,rfl,hc,rk,h⟩:=h;walk_at "vc";dsimp only [CH,dX];walk_at "vc";refine (G7 (k:=k) (e:= .lst (ds.map aH)) ?_:cN (.tup [.str k, .lst (ds.map aH)]) (.int 1) M _);have Dc:ds.length<=12:=rk.ok.2.1;show jH _ _ _ (λ_=>True) (ds.map aH) [some (Μ (.ν k ds)),some dc,some (.tup [Τ p, .int (y:Nat)]),some (.int 0),some (.int 1),none] M;refine fJ (λxs ρ M'=>∃(done Ι:List bT) (o5:Option Dt),ds=done++Ι/\xs=Ι.map aH/\(k≠"chance"->∀d∈done,Δ c d≠dz p y)/\M'=M/\ρ=[some (Μ (.ν k ds)),some dc,some (.tup [Τ p, .int (y:Nat)]),some (.int (b9 c k done (dz p y)).1),some (.int (b9 c k done (dz p y)).2),o5]) (λ_ _ _ _=>trivial) (λx xs ρ M' hJ ih=> ?_) (λρ M' hJ=> ?_) _ _ _ ⟨[],ds,none,rfl,rfl,λ_ _ z=>(nomatch z),rfl,rfl⟩
  ·obtain ⟨done,Ι,o5,e1,e2,hn,rfl,rfl⟩:=hJ;cases Ι with
   | nil=>cases e2
   | cons d Ι=>
    cases e2;have md:d∈ds:=by rw [e1];simp
    obtain ⟨t0,tn⟩:=rk.to d md;obtain ⟨t,et⟩:=Int.eq_ofNat_of_zero_le t0;have tl:t < n:=by omega
    have HF:gS (bZ n c) d.1=some (.int (c t:Nat)):=by rw [et];exact Ζ (gf tl)
    have O8:c d.1.toNat=c t:=by rw [et];rfl
    generalize Pm:(jH (gN 5) _ _ _ (Ι.map aH):En->Ms->Prop)=Nx at ih⊢;walk_at "vc";refine yT ?_;refine uO ?_;refine (π (d:=dc) hc HF ?_:cN dc (.int d.1) _ _);refine ⟨iV,_, .inl ⟨_,rfl⟩, .inl ⟨_,rfl⟩,uL,λhb=> ?_,λhb=> ?_⟩
    ·have hk:Δ c d=dz p y:=by rw [aan,decide_eq_true_eq,decide_eq_true_eq] at hb;exact fY.mpr ⟨hb.1,by rw [O8];exact hb.2⟩
     refine (π (d:= .tup [.str k, .lst (ds.map aH)]) (xs:=[.str k, .lst (ds.map aH)]) rfl ao ?_:cN (.tup [.str k, .lst (ds.map aH)]) (.int 0) _ _);refine ⟨λz=>⟨iV, ?_⟩,λz=> ?_⟩
     ·have z:k≠"chance":=by intro e;subst e;exact aaH z (by decide)
      rw [As z ⟨d,md,hk⟩] at h;exact h
     ·have z:k="chance":=by
       by_cases e:k="chance"
       ·exact e
       ·exact aaH z (by rw [aaK e];decide)
      have yt:=(rk.ok.2.2.1 z).1 d md;have ed:aH d= .tup [.int d.1,Τ d.2.1,Τ (θ d)]:=by unfold aH;rw [yt];rfl
      have d2:∀(M':Ms) (qq:DQ),qq (Τ (θ d)) M'->cN (aH d) (.int 2) M' qq:=λM' qq hq=>π (d:=aH d) (xs:=[.int d.1,Τ d.2.1,Τ (θ d)]) (by rw [ed];rfl) (Ζ (j:=2) rfl) hq;have rd:ug n k done:=ug.sub (by rw [<-e1];exact rk);obtain ⟨l,KP,Fg⟩:=FG rd z c (dz p y);have X9:done.length<=12:=rd.ok.2.1;have sc:=rk.sz d md;have st:yV k (b9 c k done (dz p y)) (θ d)=gK (b9 c k done (dz p y)) (θ d):=by unfold yV;rw [if_pos z]
      have sn:=fU c k done d (dz p y);rw [aaI hk,st] at sn;obtain ⟨b1,b2,b3⟩:=l6 Fg sc;dsimp only [vH];walk_at "vc";refine d2 _ _ ?_;refine qD ?_;refine ⟨⟨nJ Fg (by omega),eV sc (by omega)⟩, ?_⟩;refine d2 _ _ ?_;refine Cj ?_;refine ⟨⟨nJ sc (by omega),eV Fg (by omega)⟩, ?_⟩;dsimp only [ky];refine d2 _ _ ?_;refine qD ?_;refine ⟨⟨eV Fg (by omega),eV sc (by omega)⟩, ?_⟩;refine ⟨_,_,rfl,b3,bg b2 (by omega), ?_⟩;refine ih _ _ ⟨done++[d],Ι,some (aH d),by rw [e1];simp,rfl,λq=>absurd z q,rfl, ?_⟩;rw [sn];rfl
    ·have hk:Δ c d≠dz p y:=λe=>by obtain ⟨a,b⟩:=fY.mp e;rw [aaq a,aaq (show c t=y by rw [<-O8];exact b)] at hb;cases hb
     have sn:=fU c k done d (dz p y);rw [aaF hk] at sn;refine ih _ _ ⟨done++[d],Ι,some (aH d),by rw [e1];simp,rfl,λq d' eJ=> ?_,rfl, ?_⟩
     ·rcases aaQ.mp eJ with eJ | eJ
      ·exact hn q d' eJ
      ·have:d'=d:=by simpa using eJ
       rw [this];exact hk
     ·rw [sn]
  ·obtain ⟨done,Ι,o5,e1,e2,hn,rfl,rfl⟩:=hJ;cases Ι with
   | cons d Ι=>cases e2
   | nil=>
    rw [aaU] at e1;subst e1;exact ⟨iV,h⟩
theorem kX{α:Type}{p:List α->Prop}(h0:p [])(hs:∀xs x,p xs->p (xs++[x]))(xs:List α):p xs:=by
 have key:∀ys:List α,p ys.reverse:=λys=>by
  induction ys with
  | nil=>exact h0
  | cons y ys ih=>rw [List.reverse_cons];exact hs _ _ ih
 have:=key xs.reverse;rwa [List.reverse_reverse] at this
def rep(c:Nat->Nat)(ds:List bT):List bT:=ds.foldl (λes d=>if N51.has (es.map (Δ c)) (Δ c d) then es else es++[d]) []
theorem g_(c:Nat->Nat)(ds:List bT)(d:bT):rep c (ds++[d])=if N51.has ((rep c ds).map (Δ c)) (Δ c d) then rep c ds else rep c ds++[d]:=by unfold rep;rw [List.foldl_append];rfl
theorem kG(c:Nat->Nat):∀(ds:List bT),(∀e∈rep c ds,e∈ds)/\(rep c ds).length<=ds.length:=λds=>by
 induction ds using kX with
 | h0=>exact ⟨λ_ z=>(nomatch z),aal _⟩
 | hs ds d ih=>
  rw [g_,aag];by_cases q:N51.has ((rep c ds).map (Δ c)) (Δ c d)=true
  ·rw [aaI q];exact ⟨λe he=>aaW _ (ih.1 e he),aam ih.2 (Nat.le_add_right _ _)⟩
  ·rw [aaF q,aag]
   exact ⟨λe he=>by
    rcases aaQ.mp he with he | he
    ·exact aaW _ (ih.1 e he)
    ·exact aax _ he,aby ih.2 _⟩
theorem Cn(c:Nat->Nat)(k:Str):∀(ds:List bT),(Ν c (.ν k ds)).1=(rep c ds).map (Δ c):=λds=>by
 induction ds using kX with
 | h0=>rw [vz];rfl
 | hs ds d ih=>
  rw [g_,qz];show N51.putK _ _=_;unfold N51.putK;rw [ih];by_cases q:N51.has ((rep c ds).map (Δ c)) (Δ c d)=true
  ·rw [aaI q,aaI q]
  ·rw [aaF q,aaF q,aav];rfl
section
theorem Kj:∀(ds:List bT),(∀d∈ds,∀e∈ds,Δ c' d=Δ c' e↔Δ c d=Δ c e)->rep c' ds=rep c ds:=λds=>by
 induction ds using kX with
 | h0=>intro _;rfl
 | hs ds d ih=>
  intro h;rw [g_,g_,ih λd hd e he=>h d (aaW _ hd) e (aaW _ he)];have q:Δ c' d∈(rep c ds).map (Δ c')↔Δ c d∈(rep c ds).map (Δ c):=by
   rw [aaj,aaj];constructor
   ·rintro ⟨e,he,ee⟩;exact ⟨e,he,(h e (List.mem_append_left _ ((kG c ds).1 e he)) d (by simp)).mp ee⟩
   ·rintro ⟨e,he,ee⟩;exact ⟨e,he,(h e (List.mem_append_left _ ((kG c ds).1 e he)) d (by simp)).mpr ee⟩
  have q:=(N51.gx (ks:=(rep c ds).map (Δ c')) (k:=Δ c' d)).trans (q.trans N51.gx.symm);by_cases z:N51.has ((rep c ds).map (Δ c)) (Δ c d)=true
  ·rw [aaI z,aaI (q.mpr z)]
  ·rw [aaF z,aaF (λy=>z (q.mp y))]
theorem ES{k:Str}{x x':NK}:∀(ds:List bT),(∀d∈ds,Δ c' d=x'↔Δ c d=x)->b9 c' k ds x'=b9 c k ds x:=λds=>by
 induction ds using kX with
 | h0=>intro _;rfl
 | hs ds d ih=>
  intro h;rw [fU,fU,ih λd hd=>h d (aaW _ hd)];have q:=h d (by simp);by_cases z:Δ c d=x
  ·rw [aaI z,aaI (q.mpr z)]
  ·rw [aaF z,aaF (λy=>z (q.mp y))]
end
def mi(c:Nat->Nat)(k:Str)(ds:List bT)(e:bT):bT:=(((c e.1.toNat:Nat):Int),e.2.1,if k="chance" then [b9 c k ds (Δ c e)] else [])
def EY(c:Nat->Nat):Rw->Rw
 | .fin p=> .fin p
 | .ν k ds=> .ν k ((rep c ds).map (mi c k ds))
theorem Fd{r:Rw}(Ln:∀t,t < n->c t∈ls)(to:∀d∈bW r,0<=d.1/\d.1 < n):EY (λi=>ls.idxOf (c i)) r=rS ls c r:=by
 cases r with
 | fin p=>rfl
 | ν k ds=>
  have inj:∀d∈ds,∀e∈ds,Δ (λi=>ls.idxOf (c i)) d=Δ (λi=>ls.idxOf (c i)) e↔Δ c d=Δ c e:=λd hd e he=>by have a:=to d hd;have b:=to e he;have l:Δ (λi=>ls.idxOf (c i)) e=dz e.2.1 (ls.idxOf (c e.1.toNat)):=rfl;have l2:Δ c e=dz e.2.1 (c e.1.toNat):=rfl;rw [l,l2,fY,fY];exact ⟨λz=>⟨z.1,Gv (Ln _ (by omega)) (Ln _ (by omega)) z.2⟩,λz=>⟨z.1,by rw [z.2]⟩⟩
  show Rw.ν k _=Rw.ν k _;refine aa3 _ ?_;rw [Kj ds inj];have ez:A5 c (.ν k ds)=(rep c ds).map λe=>(Δ c e,b9 c k ds (Δ c e)):=by
   unfold A5;rw [yU,Cn];generalize rep c ds=es
   induction es with
   | nil=>rfl
   | cons e es ih=>rw [aaD,aaD,aaD,aa4,ih]
  rw [ez,aay];by_cases q:k="chance"
  ·rw [aaI q];refine aaR λe he=> ?_;have hm:=(kG c ds).1 e he;unfold mi;rw [aaI q,ES (c:=c) (x:=Δ c e) ds λd hd=>inj d hd e hm];show _=jd ls (Δ c e,_);unfold jd;rw [r8,uu]
  ·rw [aaF q,aay];refine aaR λe he=> ?_;unfold mi;rw [aaF q];show _=Mj (jd ls (Δ c e,_));unfold Mj jd;rw [r8,uu]
def yR:DF:=λas M q _=>∃n:Int,as=[.int n]/\∀p,c5 p=true->q (Τ p) M
theorem ou:ψ ["_law_number_here","_law_bottom"] ["_law_number_here"] (ο l9):= .of rfl
theorem vC(F:dH K "_law_share" "_law_share" l9 f fd)(E:Ev K mg Cm)(aE:aL P w K mg base 1 "_law_lowest" ["_law_top","_law_bottom"] DG cm cg):aB P w K mg base (cQ P w) 2 f fd ["_law_number_here"] (dw K yR):=by
 refine F.fZ ou (λds M q x h=> ?_) (λbK A outer s H E' hr=>⟨_,(η (τ 1 ou.nd (Γ (ji (ζ ι (ζ (ak ι (aD (jv 0) ι)) ε aN) aU)) (aD (bO (jv 0) ι) ι)))
   (μ (χ (ax aE hr ξ (ζ (aD (bO (jv 0) ι) (jv 1)) (Υ (jv 1) ε) aN))))),λds M q x h=> ?_⟩)
 ·obtain ⟨n,rfl,_⟩:=h;rfl
 ·obtain ⟨n,rfl,h⟩:=h;refine ⟨by decide,fI,⟨by decide,bg (k:=11) (by decide)⟩,by decide, ?_⟩;obtain ⟨b,eb,b0,b1⟩:∃b:Int,gS [Dt.int 2, .int (1+n % 1000)] (n / 1000 % 2)=some (.int b)/\0 < b/\b<=1000:=by
   have:n / 1000 % 2=0\/n / 1000 % 2=1:=by omega
   rcases this with e | e <;> rw [e]
   ·exact ⟨_,ao,by decide,by decide⟩
   ·exact ⟨_,Ζ (j:=1) rfl,by omega,by omega⟩
  refine π rfl eb ?_;exact ⟨⟨by decide,bg (k:=13) (by decide)⟩,b0,_,_,rfl,b0,bg (k:=11) (by omega),h _ (wH (aaM _ (by omega)) (aaJ _ b0) b1)⟩
theorem kf{α:Type}{te:DE}{cs:En}{ok:Ms->Prop}{M:Ms}{k:List Dt->Ms->Prop}{g f:α->Dt}(ho:ok M):∀(es:List α) (ae:List Dt),(∀e∈es,∀q:DQ,q (f e) M->te (some (g e)::cs) M q jj)->k (ae++es.map f) M->gI te cs ok (es.map g) ae M k
 | [],ae,_,h=>⟨ho,by simpa using h⟩
 | e::es,ae,hf,h=>⟨ho,hf e aak _ (kf ho es _ (λx hx=>hf x (aai _ hx)) (by
   rw [aaD] at h
   simpa using h))⟩
abbrev dm(c:Nat->Nat)(e:bT):Dt:= .tup [Τ e.2.1, .int (c e.1.toNat:Nat)]
def fB(c:Nat->Nat)(es:List bT)(d:bT)(j:Nat):Bool:=match es[j]? with | some e=>decide (e.2.1=d.2.1)&&decide (c e.1.toNat=c d.1.toNat) | none=>false
theorem Fw(c:Nat->Nat)(es:List bT)(d:bT):(List.range (es.map (dm c)).length).any (fB c es d)=N51.has (es.map (Δ c)) (Δ c d):=by
 rw [abc,abQ,N51.gx,aaj];have l2:Δ c d=dz d.2.1 (c d.1.toNat):=rfl;constructor
 ·rintro ⟨j,hj,hb⟩;unfold fB at hb;cases e:es[j]? with
  | none=>rw [e] at hb;cases hb
  | some x=>
   rw [e] at hb;have hb:(decide (x.2.1=d.2.1)&&decide (c x.1.toNat=c d.1.toNat))=true:=hb;rw [aan,decide_eq_true_eq,decide_eq_true_eq] at hb;exact ⟨x,aat e,by rw [l2];exact fY.mpr hb⟩
 ·rintro ⟨x,hx,e⟩;obtain ⟨j,hj⟩:=aba.mp hx;refine ⟨j,by rw [aac];exact aaL.mpr (aad.mp hj).1, ?_⟩;rw [l2] at e;obtain ⟨a,b⟩:=fY.mp e;unfold fB;rw [hj];show (decide (x.2.1=d.2.1)&&decide (c x.1.toNat=c d.1.toNat))=true;rw [aaq a,aaq b];rfl
def LA:DF:=λas M q _=>∃(r:Rw) (n:Nat) (c:Nat->Nat) (dc:Dt),as=[Μ r,dc]/\(∀E,gu (M++E) dc=some (bZ n c))/\Rr n r/\∀E,q (Μ (EY c r)) (M++E)
theorem iq:ψ ["_law_row","_law_where","_law_pairs","_law_door"] ["_law_row","_law_where"] (ο rW):= .of rfl
theorem zV(F:dH K "_law_put" "_law_put" rW f fd)(E:Ev K mg Cm){xJ:Addr}{wu:FuncData}(gZ:aL P w K mg base 4 "_law_part_of" ["_law_row","_law_classes","_law_pair"] HS xJ wu):aB P w K mg base (cQ P w) 6 f fd ["_law_row","_law_where"] (dw K LA):=by
 refine F.fZ iq (λds M q x h=> ?_) (λbK A outer s H E' hr=>⟨_,(η (aC (cb hr (Γ (jv 0) ι) fE) (μ (χ (jv 0))) Λ)
   (η (τ 2 iq.nd (kY ε))
   (η (j9 (bF (Γ (jv 0) ι)) (au (i:=3) iq.nd rfl (Or.inl rfl)) bo (μ (aC (KI 2 hr (aq (ζ (Γ (jv 3) ι) (ζ (Γ (jv 1) (Γ (jv 3) ι)) ε az) az)) (jv 2)) (μ (iI (iD (jv 2) (ζ (aq (ζ (Γ (jv 3) ι) (ζ (Γ (jv 1) (Γ (jv 3) ι)) ε az) az)) ε fK)))) Λ)))
   (η (aC (ml hr (Γ (jv 0) ι) fE) (μ (χ (aq (ζ (Γ (jv 0) ι) (ζ (dG (ys:=[]) (Θ:=[]) (.of iq rfl rfl rfl) (bF (jv 2)) (λC s H fp=>(aq (ζ (Γ (jv 0) ι) (ζ (Γ (jv 0) ι) ε az) az)))) ε) az)))) Λ)
   (μ (χ (aq (ζ (Γ (jv 0) ι) (ζ (dG (ys:=["_law_row","_law_where"]) (Θ:=[0,1]) (.of iq rfl rfl rfl) (bF (jv 2)) (λC s H fp=>(aq (ζ (Γ (jv 0) ι) (ζ (Γ (jv 0) ι) (ζ (ax gZ hr (cM (P:=P) (w:=w)) (Υ (jv 1) (Υ (jv 2) (Υ (jv 0) ε)))) ε aQ) az) az)))) ε) az)))))))),λds M q x h=> ?_⟩)
 ·obtain ⟨r,n,c,dc,rfl,_⟩:=h;rfl
 ·obtain ⟨r,n,c,dc,rfl,hc,rk,h⟩:=h;walk_at "vc";cases r with
  | fin p=>
   have:=h [];rw [aaU] at this;refine (π (d:= .tup [.str "end",Τ p]) (xs:=[.str "end",Τ p]) rfl ao ?_:cN (.tup [.str "end",Τ p]) (.int 0) M _);exact ⟨λ_=>this,λz=>(nomatch z)⟩
  | ν k ds=>
  have rk:ug n k ds:=rk;have J4:k≠"end":=rk.ok.1;have Dc:ds.length<=12:=rk.ok.2.1;refine (π (d:= .tup [.str k, .lst (ds.map aH)]) (xs:=[.str k, .lst (ds.map aH)]) rfl ao ?_:cN (.tup [.str k, .lst (ds.map aH)]) (.int 0) M _);refine ⟨λz=>aaH (aaB z) J4,λ_=> ?_⟩;dsimp only [BI];walk_at "vc";refine ⟨by decide, ?_⟩;dsimp only [CH,dX];walk_at "vc";refine (G7 (k:=k) (e:= .lst (ds.map aH)) ?_:cN (.tup [.str k, .lst (ds.map aH)]) (.int 1) _ _);show jH _ _ _ (λ_=>True) (ds.map aH) [some (Μ (.ν k ds)),some dc,some (.loc M.length),none] (M++[.lst []]);refine fJ (λxs ρ M'=>∃(done Ι:List bT) (o3:Option Dt),ds=done++Ι/\xs=Ι.map aH/\M'=M++[.lst ((rep c done).map (dm c))]/\ρ=[some (Μ (.ν k ds)),some dc,some (.loc M.length),o3]) (λ_ _ _ _=>trivial) (λx xs ρ M' hJ ih=> ?_) (λρ M' hJ=> ?_) _ _ _ ⟨[],ds,none,rfl,rfl,rfl,rfl⟩
  ·obtain ⟨done,Ι,o3,e1,e2,rfl,rfl⟩:=hJ;cases Ι with
   | nil=>cases e2
   | cons d Ι=>
    cases e2;have md:d∈ds:=by rw [e1];simp
    obtain ⟨t0,tn⟩:=rk.to d md;obtain ⟨t,et⟩:=Int.eq_ofNat_of_zero_le t0;have tl:t < n:=by omega
    have O8:c d.1.toNat=c t:=by rw [et];rfl
    have HF:gS (bZ n c) d.1=some (.int (c d.1.toNat:Nat)):=by rw [O8,et];exact Ζ (gf tl)
    have rl:(rep c done).length<=12:=by
     have:=(kG c done).2;have:ds.length=done.length+(d::Ι).length:=by rw [e1,aag]
     omega
    have sn:=g_ c done d;generalize Pm:(jH (gN 3) _ _ _ (Ι.map aH):En->Ms->Prop)=Nx at ih⊢;have ga:(M++[MO.lst ((rep c done).map (dm c))])[M.length]? =some (.lst ((rep c done).map (dm c))):=cj;walk_at "vc";refine yT ?_;refine uO ?_;refine (π (d:=dc) (hc _) HF ?_:cN dc (.int d.1) _ _);refine ⟨iV,(rep c done).map (dm c),fB c (rep c done) d,c7 ga,λj z hz=> ?_, ?_⟩
    ·rw [aah] at hz;obtain ⟨e,ee,rfl⟩:=aaO.mp hz;unfold fB;rw [ee];exact uL
    rw [Fw];refine ⟨λhb=> ?_,λhb=> ?_⟩
    ·have hb:¬N51.has ((rep c done).map (Δ c)) (Δ c d)=true:=λz=>by rw [z] at hb;cases hb
     rw [aaF hb] at sn;dsimp only [E8];walk_at "vc";refine ⟨⟨_,_,rfl,ga⟩, ?_⟩;refine yT ?_;refine uO ?_;refine (π (d:=dc) (hc _) HF ?_:cN dc (.int d.1) _ _);refine ⟨iV,M.length,_,_,rfl,rfl,ga,by rw [aac];exact aaP rl (by decide), ?_⟩;refine ih _ _ ⟨done++[d],Ι,some (aH d),by rw [e1];simp,rfl, ?_,rfl⟩;rw [abb _ _ (aal _),abn,sn,aav];rfl
    ·have hb:N51.has ((rep c done).map (Δ c)) (Δ c d)=true:=by
      cases z:N51.has ((rep c done).map (Δ c)) (Δ c d) with
      | true=>rfl
      | false=>rw [z] at hb;cases hb
     rw [aaI hb] at sn;refine ih _ _ ⟨done++[d],Ι,some (aH d),by rw [e1];simp,rfl,by rw [sn],rfl⟩
  ·obtain ⟨done,Ι,o3,e1,e2,rfl,rfl⟩:=hJ;cases Ι with
   | cons d Ι=>cases e2
   | nil=>
   rw [aaU] at e1;subst e1;have ga:(M++[MO.lst ((rep c ds).map (dm c))])[M.length]? =some (.lst ((rep c ds).map (dm c))):=cj;have rl:(rep c ds).length<=12:=aam (kG c ds).2 Dc;walk_at "vc";refine (π (d:= .tup [.str k, .lst (ds.map aH)]) (xs:=[.str k, .lst (ds.map aH)]) rfl ao ?_:cN (.tup [.str k, .lst (ds.map aH)]) (.int 0) _ _);refine ⟨λz=> ?_,λz=> ?_⟩
   ·have z:k≠"chance":=by intro e;subst e;exact aaH z (by decide)
    refine (π (d:= .tup [.str k, .lst (ds.map aH)]) (xs:=[.str k, .lst (ds.map aH)]) rfl ao ?_:cN (.tup [.str k, .lst (ds.map aH)]) (.int 0) _ _);dsimp only [gU];refine aP (i:=2) (d:= .loc M.length) rfl (tm ga) ⟨by rw [aac];exact aam rl (by decide), ?_⟩;refine kf (f:=λe=>aH (mi c k ds e)) ga _ _ (λe he q' hq=> ?_) ?_
    ·have ed:aH (mi c k ds e)= .tup [.int (c e.1.toNat:Nat),Τ e.2.1]:=by unfold aH mi;rw [if_neg z];rfl
     rw [ed] at hq;dsimp only [wG,dY,jO];walk_at "vc";refine (π (d:=dm c e) (xs:=[Τ e.2.1, .int (c e.1.toNat:Nat)]) rfl (Ζ (j:=1) rfl) ?_:cN (dm c e) (.int 1) _ _);refine (π (d:=dm c e) (xs:=[Τ e.2.1, .int (c e.1.toNat:Nat)]) rfl ao ?_:cN (dm c e) (.int 0) _ _);exact ⟨iV,hq⟩
    have hh:=h [.lst ((rep c ds).map (dm c))];have er:Μ (EY c (.ν k ds))= .tup [.str k, .lst ([]++(rep c ds).map λe=>aH (mi c k ds e))]:=by show Dt.tup [.str k, .lst (((rep c ds).map (mi c k ds)).map aH)]=_;rw [aay];rfl
    rw [er] at hh;exact ⟨iV,hh⟩
   ·have z:k="chance":=by
     by_cases e:k="chance"
     ·exact e
     ·exact aaH z (by rw [aaK e];decide)
    refine (π (d:= .tup [.str k, .lst (ds.map aH)]) (xs:=[.str k, .lst (ds.map aH)]) rfl ao ?_:cN (.tup [.str k, .lst (ds.map aH)]) (.int 0) _ _);dsimp only [gU];refine aP (i:=2) (d:= .loc M.length) rfl (tm ga) ⟨by rw [aac];exact aam rl (by decide), ?_⟩;refine kf (f:=λe=>aH (mi c k ds e)) ga _ _ (λe he q' hq=> ?_) ?_
    ·have ed:aH (mi c k ds e)= .tup [.int (c e.1.toNat:Nat),Τ e.2.1,Τ (b9 c k ds (Δ c e))]:=by unfold aH mi;rw [if_pos z];rfl
     rw [ed] at hq;dsimp only [wG,dY,jO,yo];walk_at "vc";refine (π (d:=dm c e) (xs:=[Τ e.2.1, .int (c e.1.toNat:Nat)]) rfl (Ζ (j:=1) rfl) ?_:cN (dm c e) (.int 1) _ _);refine (π (d:=dm c e) (xs:=[Τ e.2.1, .int (c e.1.toNat:Nat)]) rfl ao ?_:cN (dm c e) (.int 0) _ _);exact ⟨k,ds,n,c,dc,e.2.1,c e.1.toNat,rfl,hc _,rk,Nb,hq⟩
    have hh:=h [.lst ((rep c ds).map (dm c))];have er:Μ (EY c (.ν k ds))= .tup [.str k, .lst ([]++(rep c ds).map λe=>aH (mi c k ds e))]:=by show Dt.tup [.str k, .lst (((rep c ds).map (mi c k ds)).map aH)]=_;rw [aay];rfl
    rw [er] at hh;exact ⟨iV,hh⟩
theorem qO{f:Nat->Bool}(h:∀j,f j=true):l.all f=true:=aaX.mpr λj _=>h j
theorem pb(i:Int):gM M n (.int i) (.int i) true:=by have:=gM.flat (M:=M) (n:=n) (d:= .int i) (e:= .int i) rfl rfl;rwa [show eT (V.int i) (V.int i)=true by unfold eT;simp] at this
theorem vK(x:Str):gM M n (.str x) (.str x) true:=by have:=gM.flat (M:=M) (n:=n) (d:= .str x) (e:= .str x) rfl rfl;rwa [show eT (V.str x) (V.str x)=true by unfold eT;simp] at this
theorem j6(h:∀d∈ds,gM M n d d true):gM M (n+1) (.tup ds) (.tup ds) true:=by
 have:=gM.tup (M:=M) (n:=n) (ds:=ds) (es:=ds) (f:=λ_=>true) λj d e h1 h2=>by rw [h1] at h2;cases h2;exact h d (aat h1)
 rwa [qO λ_=>rfl,abP] at this
theorem nU{e:Dt}(h1:fC M d=some ds)(h2:fC M e=some ds)(h:∀d∈ds,gM M n d d true):gM M (n+1) d e true:=by
 have:=gM.lst (M:=M) (n:=n) (d:=d) (e:=e) (f:=λ_=>true) h1 h2 rfl λj d e h1 h2=>by rw [h1] at h2;cases h2;exact h d (aat h1)
 rwa [qO λ_=>rfl] at this
theorem nC(p:Fr):gM M (n+1) (Τ p) (Τ p) true:=j6 λd hd=>by have hd:d∈[Dt.int p.1,Dt.int p.2]:=hd;simp only [List.mem_cons,List.not_mem_nil,or_false] at hd;rcases hd with rfl | rfl <;> exact pb _
theorem oJ(γ:List Rw):gM M 5 (.lst (γ.map Μ)) (.lst (γ.map Μ)) true:=nU rfl rfl λd hd=>by
 obtain ⟨r,_,rfl⟩:=aaj.mp hd;cases r with
 | fin p=>
  refine j6 λd hd=> ?_;have hd:d∈[Dt.str "end",Τ p]:=hd;simp only [List.mem_cons,List.not_mem_nil,or_false] at hd;rcases hd with rfl | rfl
  ·exact vK _
  ·exact nC p
 | ν k ds=>
  refine j6 λd hd=> ?_;have hd:d∈[Dt.str k, .lst (ds.map aH)]:=hd;simp only [List.mem_cons,List.not_mem_nil,or_false] at hd;rcases hd with rfl | rfl
  ·exact vK _
  ·refine nU rfl rfl λd hd=> ?_;obtain ⟨x,_,rfl⟩:=aaj.mp hd;refine j6 λd hd=> ?_;rcases aaz.mp hd with e | hd
   ·rw [e];exact pb _
   ·rcases aaz.mp hd with e | hd
    ·rw [e];exact nC _
    ·obtain ⟨p,_,rfl⟩:=aaj.mp hd;exact nC p
theorem k_{E:Ms}{n:Nat}:∀(γ:List Rw) (j:Nat),(∀i m,(gJ γ)[i]? =some m->E[j+i]? =some m)->fF n E (je (n+j) γ) (γ.map Μ)
 | [],_,_=> .nil
 | .fin p::r,j,h=> .cons (.old (kF (.fin p))) (k_ r j h)
 | .ν k ds::r,j,h=> .cons (.tup (.cons (.old trivial) (.cons (.AA (Nat.le_add_right _ _) (by rw [abF];exact h 0 _ rfl) (fF.old (dD ds))) .nil))) (k_ r (j+1) λi m e=>by rw [show j+1+i=j+(i+1) by omega];exact h (i+1) m e)
theorem C8(γ:List Rw)(M:Ms)(x:MO):fF M.length (gJ γ++[x]) (je M.length γ) (γ.map Μ):=
 k_ γ 0 λi m e=>by rw [Nat.zero_add,aaE (aad.mp e).1];exact e
theorem oz{q:DQ}{γ:List Rw}(h:q (.lst (γ.map Μ)) M):mW M q (.loc (M.length+(gJ γ).length)) (M++gJ γ++[.lst (je M.length γ)]):=by rw [aa8];exact jn (d':= .lst (γ.map Μ)) (.AA (Nat.le_add_right _ _) (by simp) (C8 γ M _)) h
theorem Fe{K:fv}:PySem.W.kitOne K (.ref C) (.ref C)=some true:=by unfold PySem.W.kitOne;rw [aaI (abP _)]
theorem CN(n:Nat)(c:Nat->Nat):[]++(List.filter (λx=>match x with | .int j=>decide (c j.toNat=j.toNat) | _=>false) (bX 0 ((n:Int)).toNat)).map (λx=>x)=j3 (N51.cC n c):=by
 rw [aaS,List.map_id',aa6,uy,List.filter_map];have:((λx=>match x with | Dt.int j=>decide (c j.toNat=j.toNat) | _=>false) ∘ λi:Nat=>Dt.int (0+i))=λj:Nat=>decide (c j=j):=by
  funext i
  show decide (c (0+(i:Int)).toNat=(0+(i:Int)).toNat)=_;rw [abo,aa6]
 rw [this];unfold j3 N51.cC;exact aaR λi _=>by show Dt.int (0+(i:Int))=Dt.int (i:Int);rw [abo]
theorem cp:ψ ["_law_script","_law_base_here","_law_origin_here","_law_rows","_law_some","_law_floor","_law_classes","_law_least","_law_found","_law_made","_law_where","_law_place","_law_one","_law_due","_law_kept","_law_again"] ["_law_script"] (ο Kb):= .of rfl
theorem Jg(F:dH K "law" "law" Kb f fd)(E:Ev K mg Cm){CZ:Addr}{Eh:FuncData}(lZ:aL P w K mg base 6 "_law_base" ["_law_script"] Ht CZ Eh){xy:Addr}{xK:FuncData}(ic:aL P w K mg base 4 "_law_origin" ["_law_script","_law_many"] y_ xy xK){B_:Addr}{CB:FuncData}(mh:aL P w K mg base 6 "_law_copy" ["_law_script","_law_base_here","_law_origin_here","_law_place"] Hk B_ CB){xS:Addr}{xo:FuncData}(hX:aL P w K mg base 4 "_law_spoilt" ["_law_script","_law_rows"] yk xS xo){zS:Addr}{Aj:FuncData}(jo:aL P w K mg base 2 "_law_share" ["_law_number_here"] yR zS Aj)(Α:aL P w K mg base 2 "_law_number" ["_law_script","_law_k"] tI aT aR){jP:Addr}{jx:FuncData}(cx:ET P w K mg base 5 "Floor" Cm ["self","share","rows"] (C2 Cm) jP jx){sS:Addr}{sy:FuncData}(fS:aL P w K mg base 9 "parted" ["floor"] (sN Cm) sS sy){A2:Addr}{Ae:FuncData}(f_:aL P w K mg base 11 "together" ["floor"] (qJ Cm) A2 Ae){Gx:Addr}{E_:FuncData}(oZ:aL P w K mg base 6 "_law_put" ["_law_row","_law_where"] LA Gx E_){wo:Addr}{xB:FuncData}(c9:eL P w K mg base 2 Cm "rows" ["self"] (G8 Cm) wo xB)(bp:eL P w K mg base 1 Cm "size" ["self"] (yY Cm) d_ eF){iw:Addr}{ie:FuncData}(bR:eL P w K mg base 1 Cm "share" ["self"] (xl Cm) iw ie):aB P w K mg base (cQ P w) 12 f fd ["_law_script"] (dw K I0):=by
 refine F.fZ cp (λds M q x h=> ?_) (λbK A outer s H E' hr=>⟨_,(η (τ 1 cp.nd (bN (ax lZ hr ξ (Υ (jv 0) ε))))
   (η (τ 2 cp.nd (ax ic hr ξ (Υ (jv 0) (ζ (bL E.bx (Υ (jv 1) ε)) ε aQ))))
   (η (τ 3 cp.nd (tT (ys:=["_law_script","_law_base_here","_law_origin_here"]) (Θ:=[0,1,2]) (.of cp rfl rfl rfl) (bA E.bb (ζ (bL E.bx (Υ (jv 2) ε)) ε aQ)) (λC s H fp=>(bN (ax mh hr (cM (P:=P) (w:=w)) (Υ (jv 1) (Υ (jv 2) (Υ (jv 3) (Υ (jv 0) ε)))))))))
   (η (τ 3 cp.nd (ax hX hr ξ (Υ (jv 0) (Υ (jv 3) ε))))
   (η (τ 4 cp.nd (ax jo hr ξ (ζ (ax Α hr ξ (Υ (jv 0) (ζ ι ε aU))) ε aQ)))
   (η (τ 5 cp.nd (bN (Dy cx hr ξ (Υ (jv 4) (ζ (bN (su E.gB (Υ (jv 3) ε))) ε aQ)))))
   (η (τ 6 cp.nd (Γ (ax fS hr ξ (Υ (jv 5) ε)) (qS ι)))
   (η (kn (i:=7) cp.nd rfl (Or.inl rfl) (ys:=["_law_classes"]) (Θ:=[6]) (.of cp rfl rfl rfl) (yK (bA E.bb (ζ (bL E.bx (Υ (jv 3) ε)) ε aQ))) (λC s H fp=>(cb hr (Γ (jv 1) (jv 0)) (jv 0))) (λC s H fp=>(jv 0)))
   (η (τ 8 cp.nd (ax f_ hr ξ (Υ (jv 5) ε)))
   (η (aC (JW.jt (mq (lL (eG (ui K E.bj (Υ (jv 8) (Υ (Gb E.ni vX) ε))))) (mq (ml hr (bL E.bx (Υ (jv 8) ε)) ι) (kZ (lL (eG (IE K E.bj (ζ (Γ (jv 8) ι) (Υ (KR E.C4) ε) az)))))))) (μ (χ Il)) Λ)
   (η (nK (jv 8) (lN rfl (bB (au (i:=9) cp.nd rfl (Or.inl rfl)) (bB (au (i:=10) cp.nd rfl (Or.inr rfl)) iK))))
   (η (aC (JW.jt (mq (lL (eG (ui K E.bj (Υ (jv 10) (Υ (Gb E.gB jN) ε))))) (kZ (ml hr (bL E.bx (Υ (jv 10) ε)) (bL E.bx (Υ (jv 3) ε)))))) (μ (χ Il)) Λ)
   (η (l' (bA E.bb (ζ (bL E.bx (Υ (jv 3) ε)) ε aQ)) (au (i:=11) cp.nd rfl (Or.inl rfl)) bo (η (τ 12 cp.nd (Γ (jv 10) (jv 11)))
   (μ (aC (JW.jt (mq (lL (eG (ui K E.bj (Υ (jv 12) (Υ (Gb E.zu Ag) ε))))) (mq (eG (ui K E.bj (Υ (jv 12) (Υ (Gb E.uC xZ) ε)))) (kZ (ml hr (jv 12) (sD 1 hr (jv 7) (ζ (Γ (jv 6) (jv 11)) ε az))))))) (μ (χ Il)) Λ))))
   (η (hU (i:=13) cp.nd rfl (Or.inl rfl) (ys:=["_law_where","_law_rows"]) (Θ:=[10,3]) (.of cp rfl rfl rfl) (bF (jv 7)) (λC s H fp=>(bN (ax oZ hr (cM (P:=P) (w:=w)) (ζ (Γ (jv 2) (jv 0)) (Υ (jv 1) ε) az)))))
   (η (τ 14 cp.nd (bN (su E.gB (Υ (jv 10) ε))))
   (η (iI (GQ (jv 10)))
   (η (τ 15 cp.nd (ax f_ hr ξ (Υ (jv 5) ε)))
   (η (aC (JW.jt (mq (wW 1 hr (Γ (jv 15) ι) (jv 14)) (kZ (wW 5 hr (bN (eU c9 hr ξ (Γ (jv 15) ι))) (jv 13))))) (μ (χ Il)) Λ)
   (μ (χ (dU (B6 5 hr (bN (eU c9 hr ξ (jv 9))) (jv 13)) (dU (B6 1 hr (eU bR hr ξ (jv 9)) (jv 4)) (dU (N6 hr (eU bp hr ξ (jv 9)) (bL E.bx (Υ (jv 7) ε))) (g8 (B6 5 hr (bN (eU c9 hr ξ (jv 5))) (jv 3)))))))))))))))))))))))))),λds M q x h=> ?_⟩)
 ·obtain ⟨ns,rfl,_⟩:=h;rfl
 ·obtain ⟨ns,rfl,h⟩:=h;refine ⟨ns,rfl,λbs E0 d hb fz=>⟨E0,_,rfl,fz, ?_⟩⟩;have zm:=hb.zm;have n1:=hb.n1;walk_at "vc";refine (Φ (d:= .lst (bs.map kl)) (xs:=bs.map kl) rfl ?_:dJ [.lst (bs.map kl)] _ _);rw [aac];refine ⟨ns,bs.length,rfl,n1,zm,λos ho=> ?_⟩;have o1:=ho.n1;have Gd:=ho.zm;dsimp only [nZ,xH];refine MI (d:= .lst (os.map Dt.int)) (xs:=os.map Dt.int) rfl rfl ?_;rw [aac];refine ⟨⟨by omega,by omega⟩,by rw [cF];exact aam (show _<=12 by omega) (by decide), ?_⟩;refine jI (f:=Μ) (Lk os.length) _ [] (λ_ z=>(nomatch z)) (λx vy q' hq=> ?_) λplain Sy eI=> ?_
  ·obtain ⟨k,hk,rfl⟩:=fW vy;have hk:k < os.length:=by simpa using hk
   rw [abo];exact ⟨ns,bs,os,k,rfl,hb,ho,hk,λr E hr=>jn (.old (kF r)) (hq r hr)⟩
  have Sy:plain.length=os.length:=by rw [Sy,cF];simp
  rw [<-Sy] at eI;refine ⟨ns,plain,rfl,by omega,by omega,eI,λγ OD Fq=> ?_⟩;rw [<-OD] at Fq;refine ⟨ns,3,rfl,by decide,by decide,λn hn=>⟨n,rfl,λsh Pq=> ?_⟩⟩;have fk:Fk γ:=HJ (by omega) Fq;have fl:SH sh γ:=⟨fk.fl,Fq,by omega,Pq⟩;refine EV (ki γ) ?_;refine ⟨M.length, .lst (γ.map Μ),sh,γ.map Μ,γ,λ_=>True,rfl,cj,rfl,pL γ,Pq,by omega,by omega,λr hr=>(Fq r hr).good,rfl,ve ?_⟩;refine ⟨sh,γ,rfl,fk.fl,λm kr ls M1 st hl x1 ca=> ?_⟩;have p1:=st.pos;obtain ⟨li,la,rfl⟩:∃li la,ls=li++[la]:=⟨ls.dropLast,ls.getLast (λe=>by subst e;have hl:0=m:=hl;omega),(aa1 _).symm⟩;have Me:(li++[la])[m - 1]? =some la:=by rw [aag] at hl;have hl:li.length+1=m:=hl;rw [aaw (by omega),show m - 1 - li.length=0 by omega];rfl
  have K7:gS ((li++[la]).map Dt.loc) (-1)=some (.loc la):=by rw [aav];exact kK
  obtain ⟨lo1,_,aa⟩:=ca.each (m - 1) la Me;have at':=ca.at';have hc:=x_ γ (m - 1);dsimp only [Le,dC,Ar];refine (π (d:= .loc kr) (i:= -1) (cD ca.at') K7 ?_:cN (.loc kr) (.int (-1)) M1 _);dsimp only [yd,Rz,xH];refine MI (d:= .lst (γ.map Μ)) (xs:=γ.map Μ) rfl rfl ?_;rw [aac];refine ⟨⟨by omega,by omega⟩,by rw [cF];exact aam (show _<=12 by omega) (by decide), ?_⟩;refine dF trivial (λx=>match x with | .int j=>decide (i_ γ (m - 1) j.toNat=j.toNat) | _=>false) (λx=>x) _ _ (λx vy q' p' h1 h2=> ?_) ?_
  ·obtain ⟨j,hj,rfl⟩:=fW vy;have hj:j < γ.length:=by simpa using hj
   rw [abo] at h1 h2⊢;walk_at "vc";refine (π (d:= .loc la) (cD aa) (Ζ (gf hj)) ?_:cN (.loc la) (.int ((j:Nat):Int)) _ _);have e:decide ((i_ γ (m - 1) j:Int)=(j:Int))=decide (i_ γ (m - 1) j=j):=by rw [decide_eq_decide];omega
   show match decide ((i_ γ (m - 1) j:Int)=(j:Int)) with | true=>_ | false=>_
   rw [e];cases c:decide (i_ γ (m - 1) j=j) with
   | true=>exact h1 c
   | false=>exact h2 c
  rw [CN];refine ⟨sh,γ,rfl,fl,λm2 kw M2 So x2 lw aw=> ?_⟩;have em:=st.uniq So;subst em;have Vp:=x2 _ _ aa;have xG:∀t,t < γ.length->i_ γ (m - 1) t∈gP γ m:=λt ht=>N51.bh.mpr ⟨by have:=hc.le t ht;omega,hc.fx t ht⟩;refine ⟨_,_,_,_,true,rfl,rfl,rfl,xI,λz=>(nomatch z),λ_=> ?_⟩;refine (Φ (d:= .tup [Χ Cm sh (ar γ m), .loc kw]) (xs:=[Χ Cm sh (ar γ m), .loc kw]) rfl ?_:dJ [.tup [Χ Cm sh (ar γ m), .loc kw]] _ _);refine ⟨λz=>by have z:(!decide ((2:Int)=2))=true:=z;exact aaH z (by decide),λ_=> ?_⟩;refine (π (d:= .tup [Χ Cm sh (ar γ m), .loc kw]) (xs:=[Χ Cm sh (ar γ m), .loc kw]) rfl ao ?_:cN (.tup [Χ Cm sh (ar γ m), .loc kw]) (.int 0) _ _);refine ⟨Cm,_,_,Cm,true,rfl,E.yC,Fe,⟨λz=>(nomatch z),λ_=> ?_⟩⟩;dsimp only [vH];walk_at "vc";have wl:(j3 (uV γ m)).length=γ.length:=by rw [eZ];unfold uV;rw [List.length_map,List.length_range]
  have wg:∀j,j < γ.length->(j3 (uV γ m))[j]? =some (.int (((gP γ m).idxOf (i_ γ (m - 1) j):Nat):Int)):=λj hj=>by unfold j3 uV;rw [aah,aah,aaV hj];rfl
  refine ⟨_,_,_,_,true,rfl,Fh aw,rfl,xI,λz=>(nomatch z),λ_=> ?_⟩;refine (Φ (d:= .loc kw) (cD aw) ?_:dJ [.loc kw] _ _);refine (Φ (d:= .lst (γ.map Μ)) (xs:=γ.map Μ) rfl ?_:dJ [.lst (γ.map Μ)] _ _);rw [wl,aac];refine ⟨λz=>aaH z (by rw [aaq rfl];decide),λ_=> ?_⟩;refine (Φ (d:= .lst (γ.map Μ)) (xs:=γ.map Μ) rfl ?_:dJ [.lst (γ.map Μ)] _ _);rw [aac];refine ⟨⟨by omega,by omega⟩, ?_⟩;refine dR (λzs ρ M3=>∃(n k:Nat) (uJ Gd:Option Dt),zs=bX k n/\k+n=γ.length/\M3=M2/\ρ=[some (.cT ns),some (.lst (bs.map kl)),some (.lst (os.map Dt.int)),some (.lst (γ.map Μ)),some (Τ sh),some (Χ Cm sh γ),some (.loc la),some (.lst (j3 (gP γ m))),some (.tup [Χ Cm sh (ar γ m), .loc kw]),some (Χ Cm sh (ar γ m)),some (.loc kw),uJ,Gd,none,none,none]) (λx zs ρ M3 hj AF=> ?_) (λρ M3 hj=> ?_) _ _ _ ⟨γ.length,0,none,none,by simp,by simp,rfl,rfl⟩
  ·obtain ⟨n,k,uJ,Gd,ex,Mb,rfl,rfl⟩:=hj;obtain ⟨j,rfl,rfl,rfl⟩:=fX ex;have kx:k < γ.length:=by omega
   generalize Pm:(lD (gN 11) _ _ (bX ((k:Int)+1) j):En->Ms->Prop)=Nx at AF⊢;walk_at "vc";refine (π (d:= .loc kw) (cD aw) (Ζ (wg k kx)) ?_:cN (.loc kw) (.int ((k:Nat):Int)) _ _);refine ⟨_,_,_,_,true,rfl,rfl,rfl,xI,λz=>(nomatch z),λ_=> ?_⟩;refine ⟨_,_,_,_,false,rfl,rfl,rfl,E.ib,λz=>(nomatch z),λ_=> ?_⟩
   try dsimp only [xk]
   try walk_at "vc"
   refine ⟨⟨_,rfl⟩, ?_⟩;refine (π (d:= .loc la) (cD Vp) (Ζ (gf kx)) ?_:cN (.loc la) (.int ((k:Nat):Int)) _ _);obtain ⟨fx,y1,y2,y3,y4⟩:=oU M3 (xG _ kx);refine ⟨_,j3 (gP γ m),fx,_,rfl,rfl,y1,y2,y3,y4, ?_⟩;exact ⟨λz=>absurd z (by rw [decide_eq_true rfl];decide),λ_=>AF _ _ ⟨j,k+1,_,_,by simp,by omega,rfl,rfl⟩⟩
  ·obtain ⟨n,k,uJ,Gd,ex,Mb,rfl,rfl⟩:=hj;have V1:j3 (uV γ m)=bZ γ.length (λt=>(gP γ m).idxOf (i_ γ (m - 1) t)):=by rw [y8];rfl
   have Dc:(gP γ m).length<=12:=aam (N51.r_ _ _) fk.fl.len;walk_at "vc";dsimp only [gU];refine aP (i:=7) (d:= .lst (j3 (gP γ m))) rfl rfl ⟨by rw [eZ];exact aam Dc (by decide), ?_⟩;refine kf (f:=λi:Nat=>Μ (rS (gP γ m) (i_ γ (m - 1)) (γ.getD i (.fin (0,1))))) (g:=λj:Nat=>Dt.int (j:Nat)) trivial (gP γ m) [] (λi hi q' hq=> ?_) ?_
   ·have hm:=N51.bh.mp hi;have er:γ[i]? =some γ[i]:=aaa hm.1;have eg:γ.getD i (.fin (0,1))=γ[i]:=by rw [aao,er];rfl
    rw [eg] at hq;have mr:=aat er;walk_at "vc";refine (π (d:= .lst (γ.map Μ)) (xs:=γ.map Μ) rfl (Ζ (by rw [aah,er];rfl)) ?_:cN (.lst (γ.map Μ)) (.int ((i:Nat):Int)) _ _);refine ⟨γ[i],γ.length,_, .loc kw,rfl,λE=>by rw [cD (dr aw),V1],fk.rk _ mr,λE=>jn (.old (kF _)) ?_⟩;rw [Fd xG (fk.fl.to _ mr)];exact hq
   have ej:[]++(gP γ m).map (λi:Nat=>Μ (rS (gP γ m) (i_ γ (m - 1)) (γ.getD i (.fin (0,1)))))=(ar γ m).map Μ:=by unfold ar;rw [aaS,aay];rfl
   rw [ej];show (match gu M3 (.loc kw) with | some xs=>mW M3 _ (.loc M3.length) (M3++[.lst xs]) | none=>False);rw [cD aw];refine cZ (xt _) ?_;refine ⟨kw,_,rfl,aw, ?_⟩;refine ⟨sh,γ,rfl,fl,λm3 Ld M4 Py x3 Yr Tn=> ?_⟩;have em:=st.uniq Py;subst em;have el:(ar γ m).length=(gP γ m).length:=aac ..;have jf:∀r∈ar γ m,pZ (ar γ m).length r:=λr hr=>by rw [el];obtain ⟨t,ht,rfl⟩:=aaj.mp hr;have hm:=N51.bh.mp ht;refine vT (n:=γ.length) (fl.fit _ ?_) xG;rw [aao,aaa hm.1];exact aaY _
   have fj:Fk (ar γ m):=HJ (by omega) jf;refine (π (d:= .tup [Χ Cm sh (ar γ m), .loc Ld]) (xs:=[Χ Cm sh (ar γ m), .loc Ld]) rfl (Ζ (j:=1) rfl) ?_:cN (.tup [Χ Cm sh (ar γ m), .loc Ld]) (.int 1) _ _);refine ⟨true, .inr ⟨_,c7 Tn⟩, .inr ⟨_,rfl⟩,nU (c7 Tn) rfl (λd hd=>by obtain ⟨z,_,rfl⟩:=aaj.mp hd;exact pb _),λz=>(nomatch z),λ_=> ?_⟩;dsimp only [rG];walk_at "vc";refine (π (d:= .tup [Χ Cm sh (ar γ m), .loc Ld]) (xs:=[Χ Cm sh (ar γ m), .loc Ld]) rfl ao ?_:cN (.tup [Χ Cm sh (ar γ m), .loc Ld]) (.int 0) _ _);refine ⟨⟨_,_, .inl rfl,rfl⟩,sh,ar γ m,rfl,fj.fl.len,fj.fl.ok,oz ?_⟩;refine ⟨true, .inr ⟨_,rfl⟩, .inr ⟨_,rfl⟩,oJ _,λz=>(nomatch z),λ_=> ?_⟩;refine ⟨⟨_,_, .inl rfl,rfl⟩,sh,ar γ m,rfl,fj.fl.len,fj.fl.ok,oz ?_⟩;refine ⟨true, .inr ⟨_,rfl⟩, .inr ⟨_,rfl⟩,oJ _,λ_=> ?_,λz=>(nomatch z)⟩;refine ⟨⟨_,_, .inl rfl,rfl⟩,sh,ar γ m,rfl, ?_⟩;refine ⟨true, .inl ⟨_,rfl⟩, .inl ⟨_,rfl⟩,nC _,λ_=> ?_,λz=>(nomatch z)⟩;refine ⟨⟨_,_, .inl rfl,rfl⟩,sh,ar γ m,rfl, ?_⟩;refine (Φ (d:= .lst (j3 (gP γ m))) (xs:=j3 (gP γ m)) rfl ?_:dJ [.lst (j3 (gP γ m))] _ _);rw [eZ,el];refine ⟨λ_=> ?_,λz=>aaH z (by rw [aaq rfl];decide)⟩;refine ⟨⟨_,_, .inl rfl,rfl⟩,sh,γ,rfl,fk.fl.len,fk.fl.ok,oz ?_⟩;exact ⟨true, .inr ⟨_,rfl⟩, .inr ⟨_,rfl⟩,oJ _,h.2 M4⟩
structure FT(K:fv)(f:Addr)(x:Str)(st:Stmt):Prop where
 a:PySem.W.nsIn K mainGlobals x=some (some (.ref f))
 e:∃fd,dH K x x st f fd
structure FM(K:fv)(C f:Addr)(m x:Str)(st:Stmt):Prop where
 a:PySem.W.findIn K (.ref C) m=some (some (.ref f))
 i:PySem.W.isFn K (.ref f)=true
 e:∃fd,dH K m x st f fd
section
variable{K:fv}{m x:Str}{st:Stmt}{oc:Value}{od an:Option Addr}{C_:Array (Option Value)}{kV doc pm bK ct:Value}
theorem FT.of(a:PySem.W.nsIn K mainGlobals x=some (some (.ref f)))(l:K.lookup f=some ⟨oc,od, .func (PySem.W.fnOf x x (iN st) (e_ st) (ο st) .none kV doc pm an bK ct),C_⟩)(c:PySem.W.codeIn K bK x=true)(k:PySem.W.keepIn K (.ref f)=true):FT K f x st:=⟨a,_,B3 l c k⟩
theorem FM.of(a:PySem.W.findIn K (.ref C) m=some (some (.ref f)))(i:PySem.W.isFn K (.ref f)=true)(l:K.lookup f=some ⟨oc,od, .func (PySem.W.fnOf m x (iN st) (e_ st) (ο st) .none kV doc pm an bK ct),C_⟩)(c:PySem.W.codeIn K bK x=true)(k:PySem.W.keepIn K (.ref f)=true):FM K C f m x st:=⟨a,i,_,B3 l c k⟩
end
section
variable{P:List Value->Prop}
theorem Oh(h:P []):∀us:List Value,us.length=0->P us
 | [],_=>h
 | _::_,e=>nomatch e
theorem c8(h:∀a0:Value,P [a0]):∀us:List Value,us.length=1->P us
 | [],e=>nomatch e
 | a::us,e=>Oh (P:=λus=>P (a::us)) (h a) us (Nat.succ.inj e)
theorem cP(h:∀a0 a1:Value,P [a0,a1]):∀us:List Value,us.length=2->P us
 | [],e=>nomatch e
 | a::us,e=>c8 (P:=λus=>P (a::us)) (h a) us (Nat.succ.inj e)
theorem vU(h:∀a0 a1 a2:Value,P [a0,a1,a2]):∀us:List Value,us.length=3->P us
 | [],e=>nomatch e
 | a::us,e=>cP (P:=λus=>P (a::us)) (h a) us (Nat.succ.inj e)
theorem HL(h:∀a0 a1 a2 a3:Value,P [a0,a1,a2,a3]):∀us:List Value,us.length=4->P us
 | [],e=>nomatch e
 | a::us,e=>vU (P:=λus=>P (a::us)) (h a) us (Nat.succ.inj e)
end
theorem ux{K:fv}(h:PySem.W.subIn K (.type "int") (.type "bool")=some false):PySem.W.kitOne K (.type "int") (.type "bool")=some false:=by unfold PySem.W.kitOne PySem.W.kitCls;rw [aaF (by decide+kernel)];show (if PySem.W.kitMeta "bool"=true then _ else _)=_;rw [aaI (by decide+kernel)];exact h
theorem u7{K:fv}(h:PySem.W.subIn K (.type "int") (.type "str")=some false):PySem.W.kitOne K (.type "int") (.type "str")=some false:=by unfold PySem.W.kitOne PySem.W.kitCls;rw [aaF (by decide+kernel)];show (if PySem.W.kitMeta "str"=true then _ else _)=_;rw [aaI (by decide+kernel)];exact h
theorem qi{K:fv}(h:PySem.W.subIn K (.type "tuple") (.type "str")=some false):PySem.W.kitOne K (.type "tuple") (.type "str")=some false:=by unfold PySem.W.kitOne PySem.W.kitCls;rw [aaF (by decide+kernel)];show (if PySem.W.kitMeta "str"=true then _ else _)=_;rw [aaI (by decide+kernel)];exact h
theorem ql{K:fv}(h:PySem.W.subIn K (.type "tuple") (.type "int")=some false):PySem.W.kitOne K (.type "tuple") (.type "int")=some false:=by unfold PySem.W.kitOne PySem.W.kitCls;rw [aaF (by decide+kernel)];show (if PySem.W.kitMeta "int"=true then _ else _)=_;rw [aaI (by decide+kernel)];exact h
theorem tG{K:fv}(h:PySem.W.subIn K (.type "list") (.type "str")=some false):PySem.W.kitOne K (.type "list") (.type "str")=some false:=by unfold PySem.W.kitOne PySem.W.kitCls;rw [aaF (by decide+kernel)];show (if PySem.W.kitMeta "str"=true then _ else _)=_;rw [aaI (by decide+kernel)];exact h
theorem sx{K:fv}(h:PySem.W.subIn K (.type "list") (.type "int")=some false):PySem.W.kitOne K (.type "list") (.type "int")=some false:=by unfold PySem.W.kitOne PySem.W.kitCls;rw [aaF (by decide+kernel)];show (if PySem.W.kitMeta "int"=true then _ else _)=_;rw [aaI (by decide+kernel)];exact h
theorem n8{K:fv}(h:PySem.W.subIn K (.type "tuple") (.type "list")=some false):PySem.W.kitOne K (.type "tuple") (.type "list")=some false:=by unfold PySem.W.kitOne PySem.W.kitCls;rw [aaF (by decide+kernel)];show (if PySem.W.kitMeta "list"=true then _ else _)=_;rw [aaI (by decide+kernel)];exact h
theorem nO{K:fv}(h:PySem.W.subIn K (.type "list") (.type "tuple")=some false):PySem.W.kitOne K (.type "list") (.type "tuple")=some false:=by unfold PySem.W.kitOne PySem.W.kitCls;rw [aaF (by decide+kernel)];show (if PySem.W.kitMeta "tuple"=true then _ else _)=_;rw [aaI (by decide+kernel)];exact h
open PySem.W in
theorem all_mk{l:OpenLaw}{K:Frag}{h:Heap}{fa Cm zw f1 f2 f3 f4 f5 f6 f7 f8 f9 VG Wn S9 Ww Vu Wu WO W3 Vi Wd Vh Wr Xg Wx V0 W8 Xn Vc Xd Xo Uy Wy VB V8 XT VS W2 VM UA Ui Vg:Addr}(X:K.In h)(G:h.Ns mainGlobals mg)(US:mg "law"=some (.ref fa))
  {t_ qa qf iS:Tok}
  (uB:nsIn K mainGlobals "MOST_DOORS"=some (some (.int (6) t_)))
  (qh:nsIn K mainGlobals "MOST_BOTTOM"=some (some (.int (1000000) qa)))
  (qr:nsIn K mainGlobals "MOST_PLACES"=some (some (.int (12) qf)))
  (iR:nsIn K mainGlobals "MOST_SHARE_BOTTOM"=some (some (.int (1000) iS)))
  (yS:nsIn K mainGlobals "Floor"=some (some (.ref Cm))) (fg:plainGet K Cm Str.empty=true) (e6:hasDictIn K Cm=true) (fb:plainOver K Cm=true) (eX:findIn K (.ref Cm) "__setattr__"=some (some (.builtin "object.__setattr__"))) (Fl:makesIn K Cm=true) (Fo:keepIn K (.ref Cm)=true)
  (tX:findIn K (.ref Cm) "kept_rows"=some none)
  (qc:findIn K (.ref Cm) "kept_share"=some none)
  {CO Du:Tok} {DV:Option Addr} {Df:Array (Option Value)} {Eg:Nat} (CS:nsIn K mainGlobals "HANDS"=some (some (.ref zw))) (Cv:K.lookup zw=some ⟨.type "tuple",DV, .seq #[(.str "one" CO),(.str "other" Du)] Eg,Df⟩)
  (vS:subIn K (.type "int") (.type "bool")=some false)
  (xb:subIn K (.type "int") (.type "str")=some false)
  (si:subIn K (.type "tuple") (.type "str")=some false)
  (tL:subIn K (.type "tuple") (.type "int")=some false)
  (u3:subIn K (.type "list") (.type "str")=some false)
  (uS:subIn K (.type "list") (.type "int")=some false)
  (qd:subIn K (.type "tuple") (.type "list")=some false)
  (p9:subIn K (.type "list") (.type "tuple")=some false)
  (t1:FT K f1 "_law_far" rM)
  (t2:FT K f2 "_law_number" jz)
  (t3:FT K f3 "_law_lowest" jq)
  (t4:FT K f4 "_law_pay" sY)
  (t5:FT K f5 "_law_row_of_places" dq)
  (t6:FT K f6 "_law_rest" oN)
  (t7:FT K f7 "_law_base" pI)
  (t8:FT K f8 "_law_origin" jK)
  (t9:FT K f9 "_law_piece" lE)
  (UR:FT K VG "_law_copy" oj)
  (UY:FT K Wn "_law_spoilt" jY)
  (Ub:FT K S9 "_law_share" l9)
  (Ug:FT K Ww "fits_share" jD)
  (Wm:FT K Vu "fits_pay" nP)
  (XI:FT K Wu "fits_door" lS)
  (VY:FT K WO "fits_doors" jC)
  (Uq:FT K W3 "common_divisor" d7)
  (XH:FT K Vi "common_bottom" fi)
  (Vz:FT K Wd "fits_chances" gD)
  (TF:FT K Vh "fits_row" pO)
  (Us:FT K Wr "copied_row" jE)
  (Xy:FM K Cm Xg "__init__" "Floor.__init__" js)
  (V5:FT K Wx "classes_by" jW)
  (Wo:FM K Cm V0 "size" "Floor.size" jS)
  (Uu:FM K Cm W8 "kind" "Floor.kind" ju)
  (T8:FM K Cm Xn "pay" "Floor.pay" lP)
  (UM:FT K Vc "first_classes" fo)
  (Xp:FM K Cm Xd "doors" "Floor.doors" ir)
  (Xh:FT K Xo "fraction" lA)
  (VA:FT K Uy "plus" B7)
  (W7:FT K Wy "pairs_of" oo)
  (Wj:FT K VB "next_classes" gj)
  (Wz:FT K V8 "parted" tS)
  (Ul:FT K XT "joined_row" jU)
  (UP:FM K Cm VS "share" "Floor.share" ig)
  (XR:FT K W2 "together" l_)
  (VD:FT K VM "_law_part_of" jL)
  (T':FT K UA "_law_put" rW)
  (XC:FM K Cm Ui "rows" "Floor.rows" j0)
  (Vw:FT K Vg "law" Kb)
  (Mv:nsIn K mainGlobals "len"=some none)
  (Md:nsIn K mainGlobals "abs"=some none)
  (sP:nsIn K mainGlobals "isinstance"=some none)
  (NH:nsIn K mainGlobals "int"=some none)
  (Kn:nsIn K mainGlobals "bool"=some none)
  (OB:nsIn K mainGlobals "str"=some none)
  (FI:nsIn K mainGlobals "tuple"=some none)
  (J3:nsIn K mainGlobals "list"=some none)
  (Gz:nsIn K mainGlobals "range"=some none)
  (vW:nsIn K mainGlobals "enumerate"=some none)
  (NJ:nsIn K mainGlobals "any"=some none)
  (N7:nsIn K mainGlobals "all"=some none)
  (MD:nsIn K mainGlobals "sum"=some none)
  (LU:nsIn K mainGlobals "zip"=some none)
  (CG:nsIn K mainGlobals "sorted"=some none)
  (LB:nsIn K mainGlobals "set"=some none)
  (Oe:findIn K (.ref Cm) "__class__"=some (some (.builtin "object.__class__")))
  (N8:specialIn K (.builtin "object.__class__") "__get__"=some (some (.builtin "getset_descriptor.__get__")))
  (Mi:takesIn K (.builtin "object.__class__")=some true)
  (M6:mroIn K Cm (.type "object")=some true)
  :∃fd:FuncData,(∀(s:Shared) (v:Value),BindsTo s fd ⟨[v],[]⟩ [("_law_script",v)])/\∀base:Heap,K.In base->base.Ns mainGlobals mg->aB l.prog w K mg base O3 12 fa fd ["_law_script"] (vG K):=by
 obtain ⟨a1,_,F1⟩:=t1;obtain ⟨a2,_,F2⟩:=t2;obtain ⟨a3,_,F3⟩:=t3;obtain ⟨a4,_,F4⟩:=t4;obtain ⟨a5,_,F5⟩:=t5;obtain ⟨a6,_,F6⟩:=t6;obtain ⟨a7,_,F7⟩:=t7;obtain ⟨a8,_,F8⟩:=t8;obtain ⟨a9,_,F9⟩:=t9;obtain ⟨KD,_,Rk⟩:=UR;obtain ⟨Mz,_,Se⟩:=UY;obtain ⟨UN,_,RC⟩:=Ub;obtain ⟨Wc,_,Qr⟩:=Ug;obtain ⟨VX,_,Sa⟩:=Wm;obtain ⟨Wt,_,RA⟩:=XI;obtain ⟨Xw,_,R4⟩:=VY;obtain ⟨XS,_,Ss⟩:=Uq;obtain ⟨UK,_,RI⟩:=XH;obtain ⟨Wl,_,Rb⟩:=Vz;obtain ⟨VL,_,QF⟩:=TF;obtain ⟨Wf,_,RP⟩:=Us;obtain ⟨Vb,V9,_,TQ⟩:=Xy;obtain ⟨WS,_,Ri⟩:=V5;obtain ⟨VI,Ud,_,Sk⟩:=Wo;obtain ⟨T7,XY,_,RN⟩:=Uu;obtain ⟨XZ,Vf,_,PX⟩:=T8;obtain ⟨WK,_,Qf⟩:=UM;obtain ⟨Wi,Vo,_,R3⟩:=Xp;obtain ⟨VN,_,Q6⟩:=Xh;obtain ⟨T2,_,Qj⟩:=VA;obtain ⟨Xq,_,PN⟩:=W7;obtain ⟨Vq,_,Sl⟩:=Wj;obtain ⟨VH,_,Si⟩:=Wz;obtain ⟨UZ,_,Qc⟩:=Ul;obtain ⟨UL,Xi,_,RX⟩:=UP;obtain ⟨Wb,_,Sb⟩:=XR;obtain ⟨WV,_,RK⟩:=VD;obtain ⟨U_,_,Q_⟩:=T';obtain ⟨UE,VF,_,Ro⟩:=XC;obtain ⟨Ut,dL,SW⟩:=Vw;have e:=US.symm.trans (mg_of X G Ut);cases e;have rV:=mg_of X G uB;have qv:=mg_of X G qh;have pT:=mg_of X G qr;have iX:=mg_of X G iR;have bx:=mg_none_of X G Mv;have pK:=mg_none_of X G Md;have bj:=mg_none_of X G sP;have zu:=mg_none_of X G NH;have uC:=mg_none_of X G Kn;have DL:=mg_none_of X G OB;have ni:=mg_none_of X G FI;have gB:=mg_none_of X G J3;have bb:=mg_none_of X G Gz;have fe:=mg_none_of X G vW;have yg:=mg_none_of X G NJ;have y9:=mg_none_of X G N7;have vZ:=mg_none_of X G MD;have Cc:=mg_none_of X G LU;have kS:=mg_none_of X G CG;have yH:=mg_none_of X G LB;have E:Ev K mg Cm:={bx:=bx,pK:=pK,bj:=bj,zu:=zu,uC:=uC,DL:=DL,ni:=ni,gB:=gB,bb:=bb,fe:=fe,yg:=yg,y9:=y9,vZ:=vZ,Cc:=Cc,kS:=kS,yH:=yH,ib:=ux vS,VJ:=u7 xb,VQ:=qi si,XF:=ql tL,Ue:=tG u3,T_:=sx uS,Uk:=n8 qd,klt:=nO p9,cH:=⟨fg,e6,fb,eX⟩,bH:=tX,fq:=qc,C4:=mg_of X G yS,yC:=⟨⟨fg,e6,fb,eX⟩,Oe,N8,Mi,M6⟩,DU:=⟨_,_,_,_,mg_of X G CS,Cv,rfl,rfl,fI, .cons ⟨_,rfl⟩ (.cons ⟨_,rfl⟩ .nil)⟩,mE:=⟨_,rV⟩,gz:=⟨_,qv⟩,kq:=⟨_,pT⟩,eA:=⟨_,iX⟩};refine ⟨dL,λs v=>by obtain ⟨_,_,_,_,_,_,_,_,_,rfl,_⟩:=SW.ex;exact .of_eq rfl,λbase _ _=> ?_⟩;have mc:= @aL.mk l.prog w K mg base;have cG:=mc (Ac F1 E) (F1.binds λ_ _ _ _ _ _=>cP λ_ _=>rfl) (mg_of X G a1) F1.kp;have Α:=mc (uD F2 E cG) (F2.binds λ_ _ _ _ _ _=>cP λ_ _=>rfl) (mg_of X G a2) F2.kp;have aE:=mc (uh F3 E) (F3.binds λ_ _ _ _ _ _=>cP λ_ _=>rfl) (mg_of X G a3) F3.kp;have eD:=mc (Af F4 E aE) (F4.binds λ_ _ _ _ _ _=>c8 λ_=>rfl) (mg_of X G a4) F4.kp;have cU:=mc (j8 F5 E eD) (F5.binds λ_ _ _ _ _ _=>c8 λ_=>rfl) (mg_of X G a5) F5.kp;have ma:=mc (xc F6 E Α cG) (F6.binds λ_ _ _ _ _ _=>cP λ_ _=>rfl) (mg_of X G a6) F6.kp;have lZ:=mc (wk F7 E Α cU eD ma) (F7.binds λ_ _ _ _ _ _=>c8 λ_=>rfl) (mg_of X G a7) F7.kp;have ic:=mc (tD F8 E Α) (F8.binds λ_ _ _ _ _ _=>cP λ_ _=>rfl) (mg_of X G a8) F8.kp;have gk:=mc (uX F9 E Α cG) (F9.binds λ_ _ _ _ _ _=>vU λ_ _ _=>rfl) (mg_of X G a9) F9.kp;have mh:=mc (x5 Rk E gk aE) (Rk.binds λ_ _ _ _ _ _=>HL λ_ _ _ _=>rfl) (mg_of X G KD) Rk.kp;have hX:=mc (tE Se E Α) (Se.binds λ_ _ _ _ _ _=>cP λ_ _=>rfl) (mg_of X G Mz) Se.kp;have jo:=mc (vC RC E aE) (RC.binds λ_ _ _ _ _ _=>c8 λ_=>rfl) (mg_of X G UN) RC.kp;have h9:=mc (sk Qr E) (Qr.binds λ_ _ _ _ _ _=>c8 λ_=>rfl) (mg_of X G Wc) Qr.kp;have dQ:=mc (xQ Sa E) (Sa.binds λ_ _ _ _ _ _=>c8 λ_=>rfl) (mg_of X G VX) Sa.kp;have jJ:=mc (uQ RA E dQ) (RA.binds λ_ _ _ _ _ _=>cP λ_ _=>rfl) (mg_of X G Wt) RA.kp;have fc:=mc (sA R4 E jJ) (R4.binds λ_ _ _ _ _ _=>cP λ_ _=>rfl) (mg_of X G Xw) R4.kp;have ba:=mc (lJ Ss E) (Ss.binds λ_ _ _ _ _ _=>cP λ_ _=>rfl) (mg_of X G XS) Ss.kp;have eB:=mc (mY RI E ba) (RI.binds λ_ _ _ _ _ _=>c8 λ_=>rfl) (mg_of X G UK) RI.kp;have fm:=mc (pF Rb E eB) (Rb.binds λ_ _ _ _ _ _=>c8 λ_=>rfl) (mg_of X G Wl) Rb.kp;have lq:=mc (xD QF E dQ fc fm) (QF.binds λ_ _ _ _ _ _=>cP λ_ _=>rfl) (mg_of X G VL) QF.kp;have cu:=mc (ur RP E) (RP.binds λ_ _ _ _ _ _=>c8 λ_=>rfl) (mg_of X G Wf) RP.kp;have cx:ET l.prog w K mg base _ "Floor" Cm _ _ _ _:=⟨uo TQ E h9 lq cu,(TQ.binds λ_ _ _ _ _ _=>vU λ_ _ _=>rfl),⟨Fl,Vb,V9,Fo⟩,mg_of X G yS⟩;have cv:=mc (rJ Ri E) (Ri.binds λ_ _ _ _ _ _=>c8 λ_=>rfl) (mg_of X G WS) Ri.kp;have bp:eL l.prog w K mg base _ Cm "size" _ _ _ _:=⟨sG Sk E,(Sk.binds λ_ _ _ _ _ _=>c8 λ_=>rfl),⟨fg,e6,fb,eX⟩,⟨VI,Ud,Sk.kp⟩⟩;have Ξ:eL l.prog w K mg base _ Cm "kind" _ _ _ _:=⟨uk RN E,(RN.binds λ_ _ _ _ _ _=>cP λ_ _=>rfl),⟨fg,e6,fb,eX⟩,⟨T7,XY,RN.kp⟩⟩;have cV:eL l.prog w K mg base _ Cm "pay" _ _ _ _:=⟨vo PX E Ξ,(PX.binds λ_ _ _ _ _ _=>cP λ_ _=>rfl),⟨fg,e6,fb,eX⟩,⟨XZ,Vf,PX.kp⟩⟩;have dW:=mc (mX Qf E cv bp cV Ξ) (Qf.binds λ_ _ _ _ _ _=>c8 λ_=>rfl) (mg_of X G WK) Qf.kp;have gs:eL l.prog w K mg base _ Cm "doors" _ _ _ _:=⟨qk R3 E Ξ,(R3.binds λ_ _ _ _ _ _=>cP λ_ _=>rfl),⟨fg,e6,fb,eX⟩,⟨Wi,Vo,R3.kp⟩⟩;have jm:=mc (vp Q6 E ba) (Q6.binds λ_ _ _ _ _ _=>cP λ_ _=>rfl) (mg_of X G VN) Q6.kp;have w4:=mc (GB Qj E jm) (Qj.binds λ_ _ _ _ _ _=>cP λ_ _=>rfl) (mg_of X G T2) Qj.kp;have dP:=mc (xm PN E gs Ξ w4) (PN.binds λ_ _ _ _ _ _=>vU λ_ _ _=>rfl) (mg_of X G Xq) PN.kp;have c6:=mc (pe Sl E cv bp dP) (Sl.binds λ_ _ _ _ _ _=>cP λ_ _=>rfl) (mg_of X G Vq) Sl.kp;have fS:=mc (z7 Si E dW c6) (Si.binds λ_ _ _ _ _ _=>c8 λ_=>rfl) (mg_of X G VH) Si.kp;have iB:=mc (tj Qc E Ξ cV dP) (Qc.binds λ_ _ _ _ _ _=>HL λ_ _ _ _=>rfl) (mg_of X G UZ) Qc.kp;have bR:eL l.prog w K mg base _ Cm "share" _ _ _ _:=⟨qb RX E,(RX.binds λ_ _ _ _ _ _=>c8 λ_=>rfl),⟨fg,e6,fb,eX⟩,⟨UL,Xi,RX.kp⟩⟩;have f_:=mc (v8 Sb E fS iB cx bR) (Sb.binds λ_ _ _ _ _ _=>c8 λ_=>rfl) (mg_of X G Wb) Sb.kp;have gZ:=mc (sU RK E aE) (RK.binds λ_ _ _ _ _ _=>vU λ_ _ _=>rfl) (mg_of X G WV) RK.kp;have oZ:=mc (zV Q_ E gZ) (Q_.binds λ_ _ _ _ _ _=>cP λ_ _=>rfl) (mg_of X G U_) Q_.kp;have c9:eL l.prog w K mg base _ Cm "rows" _ _ _ _:=⟨ud Ro E cu,(Ro.binds λ_ _ _ _ _ _=>c8 λ_=>rfl),⟨fg,e6,fb,eX⟩,⟨UE,VF,Ro.kp⟩⟩;exact Jj (Jg SW E lZ ic mh hX jo Α cx fS f_ oZ c9 bp bR)
theorem walk{l:PySem.W.OpenLaw}{q:Program}{loose:List Str}{XP:(Str->Option Value)->Heap->Prop}{YP:World->Heap->Prop}{d:DefRec}{K:Params->fv}(hn:l.most=some 63)(Oi:d.params.defaults=[])
  (hY:∀(w:World) (h:Heap),YP w h->(K w.params).In h)
  (F:∀(w:World) (mg:Str->Option Value) (fa:Addr) (h:Heap),(K w.params).In h->h.Ns mainGlobals mg->mg d.name=some (.ref fa)->
   ∃fd:FuncData,(∀(s:Shared) (u:Value),BindsTo s fd ⟨[u],[]⟩ [("_law_script",u)])/\∀base:Heap,(K w.params).In base->base.Ns mainGlobals mg->aB l.prog w (K w.params) mg base O3 12 fa fd ["_law_script"] (vG (K w.params))):
  PySem.W.WalkO q loose XP YP l.row.toRowW d [] (λf vs=>PySem.call f vs):=
 L2.tY (n:=63) (k:=12) (x:="_law_script") (CX:=λ_=>O3) (sp:=λw=>vG (K w.params)) hn (by decide) Oi ⟨rfl,by decide,by decide⟩ hY F (λ_ _ a ns hl _ hS=>⟨a,ns,rfl,hS,hl,λ_=>rfl⟩) λ_ _ _ _ _ z=>z
end
end Pg
open PySem PySem.W PyProof.Rows
set_option maxRecDepth 100000 in
set_option maxHeartbeats 0 in
theorem PySem.Challenge.cw_chanceduel_k52_put_together_holds : PySem.Challenge.rw_chanceduel_k52_put_together.Holds := by
 w_on;o_law
 refine holds_open (q:=Hd.q) (loose:=[]) (Xt:=Hd.Xt) (XP:=XL Hd.q [])
  (Yf:=Hd.H.obs) (Ya:=Hd.H.val) (YP:=Hd.H.says) Hd.left Hd.H.of Hd.H.keeps
  (λs e=>xl_of s (Bool.and_eq_true_iff.mp e).1) XL.keeps (by rfl) (by rfl) (by rfl)
  (λs e=>recFacts_of (Bool.and_eq_true_iff.mp e).2) (by rfl) (by assumption) (by decide+kernel)
  ⟨rfl,rfl,rfl,rfl,rfl,by decide+kernel⟩ ?hw ?hc
 (case hw=>w_witness2)
 refine Pg.walk (l:=PySem.Challenge.rw_chanceduel_k52_put_together) rfl rfl (fun w h Y=>PySem.W.kIn_of Y) ?F
 case F=>
  k_fill
  intro w mg fa h KX G Gp
  refine' Pg.all_mk KX G Gp ?_ ?_ ?_ ?_ ?_ ?_ ?_ ?_ ?_ ?_ ?_ ?_ ?_ ?_ ?_ ?_ ?_ ?_ ?_ ?_ ?_ ?_ ?_ ?_ ?_ ?_ ?_ ?_ ?_ ?_ ?_ ?_ ?_ ?_ ?_ ?_ ?_ ?_ ?_ ?_ ?_ ?_ ?_ ?_ ?_ ?_ ?_ ?_ ?_ ?_ ?_ ?_ ?_ ?_ ?_ ?_ ?_ ?_ ?_ ?_ ?_ ?_ ?_ ?_ ?_ ?_ ?_ ?_ ?_ ?_ ?_ ?_ ?_ ?_ ?_ ?_ ?_ ?_ ?_ ?_ ?_ ?_ ?_
  all_goals try first | (refine' Pg.FT.of ?_ ?_ ?_ ?_ <;> try k_is) | (refine' Pg.FM.of ?_ ?_ ?_ ?_ ?_ <;> try k_is) | k_is | k_exc | kernel_rfl
