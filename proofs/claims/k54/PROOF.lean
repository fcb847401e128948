import PyProof.Rows.All
import Wide.All
import OpenK.AllK
import Wide.FinOn
import Lean
import PyProof.EqAt
import PyProof.EqKinds
import PyProof.TupleCall
import PyProof.NeKinds
import PyProof.ZipIter
import PyProof.DictUpdate
import PyProof.FactsAll.dict_1
import PyProof.DictIter
import PyProof.DictWalks
import PyProof.TupleKey
import PyProof.ListRange
import PyProof.SetNew
import PyProof.SetKind
import PyProof.DictKinds
import PyProof.ListNew
import PyProof.CollectWalk
import PyProof.FactsAll.set
import PyProof.Rows.SortWalk
import KE.KDictLaws
import PySem.Challenge.RW_chanceduel_k54_whole_copies_come_togethe
set_option Elab.async false
set_option linter.all false
set_option maxRecDepth 100000
set_option maxHeartbeats 4000000
set_option compiler.extract_closed false
def aaa:=@List.getElem?_eq_getElem
def aab:=@PySem.wpAny_bind
def aac:=@List.length_map
def aad:=@List.getElem?_eq_some_iff
def aae:=@PySem.wpAny_pure
def aaf:=@List.mem_map
def aag:=@List.mem_cons_of_mem
def aah:=@PySem.Heap.get?_push_of_some
def aai:=@List.length_append
def aaj:=@List.getElem?_map
def aak:=@List.mem_cons_self
def aal:=@Nat.le_refl
def aam:=@decide_eq_true
def aan:=@List.getD_eq_getElem?_getD
def aao:=@List.map_append
def aap:=@List.getElem_mem
def aaq:=@of_decide_eq_true
def aar:=@List.mem_append_right
def aas:=@List.map_map
def aat:=@PySem.Heap.lt_size
def aau:=@Bool.false_ne_true
def aav:=@List.map_cons
def aaw:=@PySem.Heap.get?_push_size
def aax:=@Nat.le_trans
def aay:=@List.size_toArray
def aaz:=@Bool.and_eq_true
def aaA:=@if_neg
def aaB:=@List.mem_cons
def aaC:=@List.getElem?_append_right
def aaD:=@List.mem_of_getElem?
def aaE:=@Nat.lt_of_lt_of_le
def aaF:=@if_pos
def aaG:=@Option.some.inj
def aaH:=@List.mem_append_left
def aaI:=@absurd
def aaJ:=@List.getElem?_append_left
def aaK:=@decide_eq_false
def aaL:=@List.mem_append
def aaM:=@Nat.ne_of_lt
def aaN:=@Nat.lt_of_le_of_lt
def aaO:=@List.length_cons
def aaP:=@List.mem_range
def aaQ:=@Option.map_eq_some_iff
def aaR:=@List.nil_append
def aaS:=@List.map_congr_left
def aaT:=@Int.emod_nonneg
def aaU:=@List.zip_cons_cons
def aaV:=@Int.emod_lt_of_pos
def aaW:=@List.append_nil
def aaX:=@Int.le_of_lt
def aaY:=@List.getElem?_zip_eq_some
def aaZ:=@List.set_append_right
def aa0:=@List.getElem?_range
def aa1:=@List.length_replicate
def aa2:=@congrArg
def aa3:=@List.dropLast_concat_getLast
def aa4:=@List.getElem?_set_ne
def aa5:=@List.all_eq_true
def aa6:=@Int.toNat_natCast
def aa7:=@Array.length_toList
def aa8:=@Nat.lt_or_ge
def aa9:=@Nat.sub_self
def aba:=@List.getElem?_set_self
def abb:=@Int.eq_of_mul_eq_mul_left
def abc:=@Array.getElem?_toList
def abd:=@List.mem_iff_getElem?
def abe:=@List.length_zip
def abf:=@List.mem_singleton
def abg:=@List.sum_cons
def abh:=@List.range_succ_eq_map
def abi:=@List.replicate_succ
def abj:=@List.append_assoc
def abk:=@List.drop_eq_getElem_cons
def abl:=@Array.getElem?_eq_getElem
def abm:=@List.getElem?_eq_none
def abn:=@Int.mul_ediv_cancel_left
def abo:=@Nat.lt_irrefl
def abp:=@List.length_eq_zero_iff
def abq:=@Bool.eq_iff_iff
def abr:=@List.nodup_cons
def abt:=@List.length_pos_of_mem
def abu:=@Int.fmod_eq_emod_of_nonneg
def abv:=@PySem.wpAny_mono
def abw:=@List.lookup_cons
def abx:=@List.flatten_cons
def aby:=@List.length_range
def abz:=@List.ext_getElem?
def abA:=@Nat.zero_le
def abB:=@List.all_cons
def abC:=@List.any_cons
def abD:=@Nat.add_sub_cancel_left
def abE:=@Int.eq_ofNat_of_zero_le
def abF:=@List.length_take
def abG:=@Array.getElem?_eq_none
def abH:=@of_decide_eq_false
def abI:=@List.length_set
def abJ:=@List.take_append_drop
def abK:=@Int.zero_add
def abL:=@Int.mul_assoc
def abM:=@Array.getElem?_eq_some_iff
def abN:=@Int.fdiv_eq_ediv_of_nonneg
def abO:=@Int.natAbs_of_nonneg
def abP:=@PySem.F.slot_dict_getitem
def abQ:=@Int.natAbs_mul
def abR:=@List.length_drop
def abS:=@Nat.le_of_lt
def abT:=@Option.isSome_iff_exists
def abU:=@Nat.min_self
def abV:=@Int.mul_comm
def abW:=@List.mem_filter
def abX:=@List.mem_filterMap
def abY:=@List.range_succ
def abZ:=@List.sum_append
def ab0:=@List.pairwise_cons
def ab1:=@List.nodup_append
def ab2:=@Int.mul_pos
namespace Hd
open PySem PySem.W PyProof.Rows
def at_(i:Nat):Stmt:=PySem.Challenge.pw_chanceduel_k54_whole_copies_come_togethe.main.body.getD i (.Pass ⟨0,0,0,0⟩)
def LF:Stmt->Nat->Stmt
  | .ClassDef _ _ _ b _ _ _ _ _ _ _,j=>b.getD j (.Pass ⟨0,0,0,0⟩)
  | s,_=>s
def dA:Stmt->Arguments
  | .FunctionDef _ a _ _ _ _ _ _ _ _=>a
  | _=>⟨[],[],none,[],[],none,[]⟩
def dB:Stmt->List Stmt
  | .FunctionDef _ _ b _ _ _ _ _ _ _=>b
  | _=>[]
def dS:Stmt->Scope
  | .FunctionDef _ _ _ _ _ _ c _ _ _=>c
  | _=>{kind:= .function,names:=[],isGenerator:=false,isCoroutine:=false}
abbrev row:=PySem.Challenge.rw_chanceduel_k54_whole_copies_come_togethe.row
abbrev en(P:Params)(x:Str)(t:Tok)(v:Value):DictEntry:=⟨PyData.keyHash P x, .str x t,v⟩
def q:Program:={PySem.Challenge.pw_chanceduel_k54_whole_copies_come_togethe with main:={PySem.Challenge.pw_chanceduel_k54_whole_copies_come_togethe.main with body:=[at_ 0,at_ 2,at_ 3,at_ 4,at_ 5,at_ 7,at_ 8,at_ 9,at_ 11,at_ 12,at_ 13,at_ 14,at_ 15,at_ 16,at_ 17,at_ 18,at_ 19,at_ 20,at_ 22,at_ 23,at_ 24,at_ 25,at_ 27,at_ 28,at_ 29,at_ 30,at_ 31,at_ 32,at_ 33,at_ 35,at_ 36,at_ 37,at_ 38,at_ 39,at_ 40,at_ 41,at_ 42,at_ 43,at_ 44,at_ 45,at_ 46,at_ 47,at_ 48,at_ 49]}}
abbrev cO(x q:Str)(t l n f a m:Nat):Obj:=⟨.type "code",none, .fields #[.str x t, .str q (t+1), .str "/claim/cut.py" (t+2), .int l 0, .int n 0, .int 0 0, .int 0 0, .int f 0, .ref a, .bool true, .int 181 0, .ref (a+1), .none, .ref (a+2), .ref (a+3), .ref (a+4), .int m 0, .int l 0, .str "/claim/cut.py" (m+1)], #[]⟩
abbrev dO(x q:Str)(t l n f a m:Nat):Obj:=⟨.type "code",none, .fields #[.str x t, .str q (t+1), .str "/claim/cut.py" (t+2), .int l 0, .int n 0, .int 0 0, .int 0 0, .int f 0, .ref a, .bool true, .int 181 0, .ref (a+1), .none, .none, .none, .ref (a+2), .int m 0, .int l 0, .str "/claim/cut.py" (m+1)], #[]⟩
abbrev eO(x:Str)(a d b t u:Nat):Obj:=⟨.type "type",none, .cls ⟨x,[.ref 31],[.ref a, .ref 31, .type "ValueError", .type "Exception", .type "BaseException", .type "object"],d,x,true,[],[],false,none,false⟩, #[some (.ref b),none,some (.str x t),some (.str x u),some (.builtin "ValueError.__new__"),some (.bool true)]⟩
abbrev fO(x q:Str)(s:Stmt)(m:Value)(c:Nat):Obj:=⟨.type "function",none, .func ⟨x,q,(dA s), .stmts (dB s),(dS s),3,[], .none, .none, .none,m,none, .ref c, .none,0⟩, #[]⟩
abbrev m0:Value:= .str "chanceduel.parts" 271
abbrev m1:Value:= .str "chanceduel.places" 301
abbrev m2:Value:= .str "chanceduel.floors" 359
abbrev m3:Value:= .str "chanceduel.alikes" 481
abbrev m4:Value:= .str "law_chanceduel_k54_whole_copies_come_togethe" 534
noncomputable def K:Params->Frag:=λP=>
(nat_lit 2,⟨.none,none,(.dict #[] 0), #[]⟩)::
(nat_lit 3,⟨(.type "dict"),none,(.dict #[(en P "__name__" 165 m4),(en P "__doc__" 166 .none),(en P "__package__" 167 .none),(en P "__loader__" 168 (.builtin "__main__.__loader__#opaque")),(en P "__spec__" 169 .none),(en P "__annotations__" 170 (.ref 6)),(en P "__builtins__" 171 (.ref 4)),(en P "__file__" 173 (.str "/claim/cut.py" 172)),(en P "__cached__" 174 .none),(en P "_wall" 193 (.ref 21)),(en P "DuelError" 213 (.ref 31)),(en P "NoNumber" 229 (.ref 44)),(en P "NoFloor" 245 (.ref 56)),(en P "NoPlace" 270 (.ref 75)),(en P "common_divisor" 283 (.ref 84)),(en P "fraction" 292 (.ref 91)),(en P "plus" 300 (.ref 98)),(en P "HANDS" 305 (.ref 99)),(en P "MOST_DOORS" 307 (.int 6 306)),(en P "MOST_BOTTOM" 309 (.int 1000000 308)),(en P "fits_pay" 316 (.ref 106)),(en P "fits_door" 324 (.ref 113)),(en P "common_bottom" 333 (.ref 120)),(en P "fits_chances" 339 (.ref 125)),(en P "fits_doors" 345 (.ref 130)),(en P "fits_row" 351 (.ref 135)),(en P "copied_row" 358 (.ref 142)),(en P "MOST_PLACES" 362 (.int 12 361)),(en P "MOST_SHARE_BOTTOM" 364 (.int 1000 363)),(en P "fits_share" 371 (.ref 149)),(en P "Floor" 480 (.ref 232)),(en P "classes_by" 488 (.ref 241)),(en P "first_classes" 494 (.ref 246)),(en P "pairs_of" 506 (.ref 253)),(en P "next_classes" 512 (.ref 258)),(en P "parted" 521 (.ref 265)),(en P "joined_row" 527 (.ref 270)),(en P "together" 533 (.ref 275)),(en P "_law_far" 543 (.ref 282)),(en P "_law_number" 553 (.ref 289)),(en P "_law_rest" 562 (.ref 296)),(en P "_law_lowest" 572 (.ref 303)),(en P "_law_pay" 580 (.ref 310)),(en P "_law_row_of_places" 586 (.ref 315)),(en P "_law_base" 604 (.ref 322)),(en P "_law_origin" 610 (.ref 327)),(en P "_law_piece" 621 (.ref 334)),(en P "_law_copy" 627 (.ref 339)),(en P "_law_part_of" 639 (.ref 346)),(en P "_law_same" 650 (.ref 353)),(en P "_law_first" 656 (.ref 358)),(en P "_law_alike" 662 (.ref 363)),(en P "law" 668 (.ref 368))] 53), #[]⟩)::
(nat_lit 30,⟨(.type "dict"),none,(.dict #[(en P "__module__" 203 (.str "chanceduel.errors" 194)),(en P "__firstlineno__" 207 (.int 5 206)),(en P "__static_attributes__" 208 (.ref 29)),(en P "__weakref__" 210 (.ref 32)),(en P "__doc__" 211 .none)] 3), #[]⟩)::
(nat_lit 31,⟨(.type "type"),none,(.cls ⟨"DuelError",[(.type "ValueError")],[(.ref 31),(.type "ValueError"),(.type "Exception"),(.type "BaseException"),(.type "object")],30,"DuelError",true,[],[(.ref 44),(.ref 56),(.ref 75)],false,none,false⟩), #[(some (.ref 22)),none,(some (.str "DuelError" 196)),(some (.str "DuelError" 204)),(some (.builtin "ValueError.__new__")),(some (.bool true))]⟩)::
(nat_lit 44,eO "NoNumber" 44 43 35 214 222)::
(nat_lit 56,eO "NoFloor" 56 55 47 230 238)::
(nat_lit 75,eO "NoPlace" 75 74 59 246 254)::
(nat_lit 83,cO "common_divisor" "common_divisor" 273 17 2 3 78 281)::
(nat_lit 84,fO "common_divisor" "common_divisor" (at_ 7) m0 83)::
(nat_lit 90,cO "fraction" "fraction" 284 25 2 3 85 290)::
(nat_lit 91,fO "fraction" "fraction" (at_ 8) m0 90)::
(nat_lit 97,cO "plus" "plus" 293 32 2 3 92 298)::
(nat_lit 98,fO "plus" "plus" (at_ 9) m0 97)::
(nat_lit 99,⟨(.type "tuple"),none,(.seq #[(.str "one" 303),(.str "other" 304)] 0), #[]⟩)::
(nat_lit 105,cO "fits_pay" "fits_pay" 310 38 1 3 100 314)::
(nat_lit 106,fO "fits_pay" "fits_pay" (at_ 14) m1 105)::
(nat_lit 112,cO "fits_door" "fits_door" 317 40 2 3 107 322)::
(nat_lit 113,fO "fits_door" "fits_door" (at_ 15) m1 112)::
(nat_lit 119,cO "common_bottom" "common_bottom" 325 42 1 3 114 331)::
(nat_lit 120,fO "common_bottom" "common_bottom" (at_ 16) m1 119)::
(nat_lit 124,dO "fits_chances" "fits_chances" 334 47 1 3 121 337)::
(nat_lit 125,fO "fits_chances" "fits_chances" (at_ 17) m1 124)::
(nat_lit 129,dO "fits_doors" "fits_doors" 340 53 2 3 126 343)::
(nat_lit 130,fO "fits_doors" "fits_doors" (at_ 18) m1 129)::
(nat_lit 134,dO "fits_row" "fits_row" 346 57 2 3 131 349)::
(nat_lit 135,fO "fits_row" "fits_row" (at_ 19) m1 134)::
(nat_lit 141,cO "copied_row" "copied_row" 352 66 1 3 136 356)::
(nat_lit 142,fO "copied_row" "copied_row" (at_ 20) m1 141)::
(nat_lit 148,cO "fits_share" "fits_share" 365 73 1 3 143 369)::
(nat_lit 149,fO "fits_share" "fits_share" (at_ 24) m2 148)::
(nat_lit 160,dO "__init__" "Floor.__init__" 384 77 3 3 157 387)::
(nat_lit 161,fO "__init__" "Floor.__init__" (LF (at_ 25) 0) m2 160)::
(nat_lit 167,cO "size" "Floor.size" 390 88 1 3 162 394)::
(nat_lit 168,fO "size" "Floor.size" (LF (at_ 25) 1) m2 167)::
(nat_lit 174,cO "share" "Floor.share" 397 91 1 3 169 401)::
(nat_lit 175,fO "share" "Floor.share" (LF (at_ 25) 2) m2 174)::
(nat_lit 181,cO "kind" "Floor.kind" 404 94 2 3 176 409)::
(nat_lit 182,fO "kind" "Floor.kind" (LF (at_ 25) 3) m2 181)::
(nat_lit 188,cO "doors" "Floor.doors" 412 97 2 3 183 417)::
(nat_lit 189,fO "doors" "Floor.doors" (LF (at_ 25) 4) m2 188)::
(nat_lit 195,cO "pay" "Floor.pay" 420 102 2 3 190 425)::
(nat_lit 196,fO "pay" "Floor.pay" (LF (at_ 25) 5) m2 195)::
(nat_lit 200,dO "rows" "Floor.rows" 428 107 1 3 197 431)::
(nat_lit 201,fO "rows" "Floor.rows" (LF (at_ 25) 6) m2 200)::
(nat_lit 231,⟨(.type "dict"),none,(.dict #[(en P "__module__" 379 m2),(en P "__firstlineno__" 383 (.int 75 382)),(en P "__init__" 389 (.ref 161)),(en P "size" 396 (.ref 168)),(en P "share" 403 (.ref 175)),(en P "kind" 411 (.ref 182)),(en P "doors" 419 (.ref 189)),(en P "pay" 427 (.ref 196)),(en P "rows" 433 (.ref 201)),(en P "shown" 443 (.ref 208)),(en P "all_shown" 452 (.ref 215)),(en P "look" 461 (.ref 222)),(en P "best" 470 (.ref 229)),(en P "__static_attributes__" 473 (.ref 230)),(en P "__dict__" 475 (.ref 233)),(en P "__weakref__" 477 (.ref 234)),(en P "__doc__" 478 .none)] 4), #[]⟩)::
(nat_lit 232,⟨(.type "type"),none,(.cls ⟨"Floor",[(.type "object")],[(.ref 232),(.type "object")],231,"Floor",true,[],[],false,none,false⟩), #[none,none,(some (.str "Floor" 372)),(some (.str "Floor" 380)),(some (.builtin "object.__new__")),(some (.bool true))]⟩)::
(nat_lit 240,dO "classes_by" "classes_by" 483 122 1 3 237 486)::
(nat_lit 241,fO "classes_by" "classes_by" (at_ 27) m3 240)::
(nat_lit 245,dO "first_classes" "first_classes" 489 124 1 3 242 492)::
(nat_lit 246,fO "first_classes" "first_classes" (at_ 28) m3 245)::
(nat_lit 252,cO "pairs_of" "pairs_of" 495 126 3 3 247 504)::
(nat_lit 253,fO "pairs_of" "pairs_of" (at_ 29) m3 252)::
(nat_lit 257,dO "next_classes" "next_classes" 507 135 2 3 254 510)::
(nat_lit 258,fO "next_classes" "next_classes" (at_ 30) m3 257)::
(nat_lit 264,cO "parted" "parted" 513 137 1 3 259 519)::
(nat_lit 265,fO "parted" "parted" (at_ 31) m3 264)::
(nat_lit 269,dO "joined_row" "joined_row" 522 144 4 3 266 525)::
(nat_lit 270,fO "joined_row" "joined_row" (at_ 32) m3 269)::
(nat_lit 274,dO "together" "together" 528 152 1 3 271 531)::
(nat_lit 275,fO "together" "together" (at_ 33) m3 274)::
(nat_lit 281,cO "_law_far" "_law_far" 536 158 2 3 276 541)::
(nat_lit 282,fO "_law_far" "_law_far" (at_ 35) m4 281)::
(nat_lit 288,cO "_law_number" "_law_number" 544 160 2 3 283 551)::
(nat_lit 289,fO "_law_number" "_law_number" (at_ 36) m4 288)::
(nat_lit 295,cO "_law_rest" "_law_rest" 554 166 2 3 290 560)::
(nat_lit 296,fO "_law_rest" "_law_rest" (at_ 37) m4 295)::
(nat_lit 302,cO "_law_lowest" "_law_lowest" 563 171 2 3 297 570)::
(nat_lit 303,fO "_law_lowest" "_law_lowest" (at_ 38) m4 302)::
(nat_lit 309,cO "_law_pay" "_law_pay" 573 177 1 3 304 578)::
(nat_lit 310,fO "_law_pay" "_law_pay" (at_ 39) m4 309)::
(nat_lit 314,dO "_law_row_of_places" "_law_row_of_places" 581 182 1 3 311 584)::
(nat_lit 315,fO "_law_row_of_places" "_law_row_of_places" (at_ 40) m4 314)::
(nat_lit 321,cO "_law_base" "_law_base" 587 186 1 3 316 602)::
(nat_lit 322,fO "_law_base" "_law_base" (at_ 41) m4 321)::
(nat_lit 326,dO "_law_origin" "_law_origin" 605 207 2 3 323 608)::
(nat_lit 327,fO "_law_origin" "_law_origin" (at_ 42) m4 326)::
(nat_lit 333,cO "_law_piece" "_law_piece" 611 212 3 3 328 619)::
(nat_lit 334,fO "_law_piece" "_law_piece" (at_ 43) m4 333)::
(nat_lit 338,dO "_law_copy" "_law_copy" 622 219 4 3 335 625)::
(nat_lit 339,fO "_law_copy" "_law_copy" (at_ 44) m4 338)::
(nat_lit 345,cO "_law_part_of" "_law_part_of" 628 241 3 3 340 637)::
(nat_lit 346,fO "_law_part_of" "_law_part_of" (at_ 45) m4 345)::
(nat_lit 352,cO "_law_same" "_law_same" 640 250 3 3 347 648)::
(nat_lit 353,fO "_law_same" "_law_same" (at_ 46) m4 352)::
(nat_lit 357,dO "_law_first" "_law_first" 651 258 1 3 354 654)::
(nat_lit 358,fO "_law_first" "_law_first" (at_ 47) m4 357)::
(nat_lit 362,dO "_law_alike" "_law_alike" 657 269 3 3 359 660)::
(nat_lit 363,fO "_law_alike" "_law_alike" (at_ 48) m4 362)::
(nat_lit 367,dO "law" "law" 663 275 1 3 364 666)::
(nat_lit 368,fO "law" "law" (at_ 49) m4 367)::[]
noncomputable abbrev H:Hook:=kHook K [2,3,30,31,44,56,75,83,84,90,91,97,98,99,105,106,112,113,119,120,124,125,129,130,134,135,141,142,148,149,160,161,167,168,174,175,181,182,188,189,195,196,200,201,231,232,240,241,245,246,252,253,257,258,264,265,269,270,274,275,281,282,288,289,295,296,302,303,309,310,314,315,321,322,326,327,333,334,338,339,345,346,352,353,357,358,362,363,367,368] (λ_=>by kernel_rfl)
abbrev Xt:Shared->Bool:=λs=>xlAt q [] s&&recOk (RowW.records row.toRowW) s
theorem UE{A B C:Type}{o:Option C}{f:C->A}{g:C->B}{a:A}{b:B}(h:o.map f=some a)(k:o.map g=some b):o.map (λs=>(f s,g s))=some (a,b):=by
  cases o with
  | none=>exact nomatch h
  | some c=>injection h with h;injection k with k;subst h;subst k;rfl
section
variable{A B C D E F G X:Type}{o:Option X}{f:X->A×B×C×D×E×F×G}{t:A×B×C×D×E×F×G}
def p1:A×B×C×D×E×F×G->A
  | (a,_,_,_,_,_,_)=>a
def p2:A×B×C×D×E×F×G->B×C
  | (_,b,c,_,_,_,_)=>(b,c)
def p3:A×B×C×D×E×F×G->D
  | (_,_,_,d,_,_,_)=>d
def p5:A×B×C×D×E×F×G->E
  | (_,_,_,_,e,_,_)=>e
def p6:A×B×C×D×E×F×G->F
  | (_,_,_,_,_,f,_)=>f
def p4:A×B×C×D×E×F×G->G
  | (_,_,_,_,_,_,g)=>g
theorem pr(h:o.map (λx=>p1 (f x))=some t.1)(g:o.map (λx=>p2 (f x))=some (t.2.1,t.2.2.1))(k:o.map (λx=>p3 (f x))=some t.2.2.2.1)(k1:o.map (λx=>p5 (f x))=some t.2.2.2.2.1)(k2:o.map (λx=>p6 (f x))=some t.2.2.2.2.2.1)(l:o.map (λx=>p4 (f x))=some t.2.2.2.2.2.2):o.map f=some t:=by
  cases o with
  | none=>exact nomatch h
  | some x=>
    replace h:p1 (f x)=t.1:=aaG h;replace g:p2 (f x)=(t.2.1,t.2.2.1):=aaG g;replace k:p3 (f x)=t.2.2.2.1:=aaG k;replace k1:p5 (f x)=t.2.2.2.2.1:=aaG k1;replace k2:p6 (f x)=t.2.2.2.2.2.1:=aaG k2;replace l:p4 (f x)=t.2.2.2.2.2.2:=aaG l;show some (f x)=some t;revert h g k k1 k2 l;generalize f x=u;obtain ⟨a,b,c,d,e,f',y⟩:=u;obtain ⟨a',b',c',d',e',Wz,y'⟩:=t;intro h g k k1 k2 l;cases (h:a=a');cases (g:(b,c)=(b',c'));cases (k:d=d');cases (k1:e=e');cases (k2:f'=Wz);cases (l:y=y');rfl
end
def Ra{A B:Type}(o:Option A)(c:A->Bool)(T:A->Option B):Option (A×B):=o.bind λa=>match c a with
  | true=>(T a).map λb=>(a,b)
  | false=>none
def Q2 {A B:Type} (o:Option A) (c:A->Bool) (T:A->Option B) (k:A->B->Bool):Option B:=o.bind λa=>match c a with
  | true=>(T a).bind λb=>match k a b with
    | true=>some b
    | false=>none
  | false=>none
theorem Vg {A B C:Type} {o:Option A} {c:A->Bool} {T:A->Option B} {k:A->B->Bool} {g:B->C} {v:C} (h:(Ra o c T).map (λx=>k x.1 x.2)=some true) (l:(Ra o c T).map (λx=>g x.2)=some v):(Q2 o c T k).map g=some v:=by
  unfold Ra at h l;unfold Q2;cases o with
  | none=>exact nomatch h
  | some a=>
    dsimp only [Option.bind] at h l⊢;cases hc:c a with
    | false=>rw [hc] at h;exact nomatch h
    | true=>
      rw [hc] at h l;dsimp only at h l⊢;cases hT:T a with
      | none=>rw [hT] at h;exact nomatch h
      | some b=>
        rw [hT] at h l;injection h with h;injection l with l
        dsimp only [Option.bind];rw [show k a b=true from h];exact aa2 some l
noncomputable abbrev oA(p:Program)(w:World)(N:Nat):Option Shared:=(Fast.tw10274390034422433532 Fast.tw14364793385576792824 (opening p) w N (Fast.tw1435165496053646825 (opening p)).1 (Fast.tw1435165496053646825 (opening p)).2).bind (fenceModules? p)
abbrev cA(s:Shared):Bool:=s.heap.isNs mainGlobals&&s.gens.size==0
noncomputable abbrev tA(p:Program)(w:World)(N:Nat)(s₀:Shared):Option Shared:=Fast.tw14082659384304107361 Fast.tw14364793385576792824 p w s₀.heap.objs.size (s₀.heap.nsMap mainGlobals "__annotations__") N s₀ (topStub p)
abbrev kA(p:Program)(s₀ s₁:Shared):Bool:=staticsOk (importedModules p.main.body) s₀.heap s₁.heap&&namesBound p s₁.heap&&gensDone s₁&&laidKept s₀.heap s₁.heap
theorem oe(p:Program)(w:World)(N:Nat):openEnds treeTable p w N=Q2 (oA p w N) cA (tA p w N) (kA p):=by unfold openEnds fencedOpening topFrom Q2 oA tA;rewrite [Fast.te14082659384304107361,Fast.te14364793385576792824,Fast.te10274390034422433532,Fast.te1435165496053646825];rfl
noncomputable abbrev go(w:World):=Ra (oA row.prog w 5110) cA (tA row.prog w 5110)
abbrev gd:=openGood q []
noncomputable abbrev sn(x:Shared×Shared):=Fast.tw4187177175401517315 q [] (importedModules row.prog.main.body) Xt true x.2
theorem la(w:World):(go w).map (λx=>p1 (sn x))=some gd.1:=by kernel_rfl
theorem lb(w:World):(go w).map (λx=>p2 (sn x))=some (gd.2.1,gd.2.2.1):=by kernel_rfl
theorem lc(w:World):(go w).map (λx=>p3 (sn x))=some gd.2.2.2.1:=by kernel_rfl
theorem le(w:World):(go w).map (λx=>p5 (sn x))=some gd.2.2.2.2.1:=by kernel_rfl
theorem lg(w:World):(go w).map (λx=>p6 (sn x))=some gd.2.2.2.2.2.1:=by kernel_rfl
theorem ld(w:World):(go w).map (λx=>p4 (sn x))=some gd.2.2.2.2.2.2:=by kernel_rfl
theorem lk(w:World):(go w).map (λx=>kA row.prog x.1 x.2)=some true:=by kernel_rfl
theorem lo(w:World):(go w).map (λx=>H.obs x.2)=some (H.val w):=by kernel_rfl
theorem Py(w:World):(openEnds treeTable row.prog w 5110).map (openSeen q [] (importedModules row.prog.main.body) Xt true)=some gd:=by rewrite [oe,Fast.te4187177175401517315];exact Vg (lk w) (pr (la w) (lb w) (lc w) (le w) (lg w) (ld w))
theorem Pa(w:World):(openEnds treeTable row.prog w 5110).map H.obs=some (H.val w):=by rewrite [oe];exact Vg (lk w) (lo w)
theorem left:LeftO row.prog q [] Xt H.obs H.val 5110:=λw=>UE (Py w) (Pa w)
end Hd
theorem fI:2<=PySem.sizeLine:=by decide
abbrev fv:=PySem.W.Frag
namespace L2
open PySem PySem.Spec PyProof.Rows
variable{us:List Value}{a b dx C:Addr}{P prog:Program}{w:World}{h h' base:Heap}{δ:List (Addr×Obj)}{s:Shared}{g':Array GenState}{ch fp:List Addr}{i k:Nat}{x:Str}{M:Model}{A:Around}{E Q:Value->Shared->Prop}{u:Value}{pos:Pos}{e c tg:Expr}{es:List Expr}{body:List Stmt}{f:Value->Value->Sem Value}{op:CmpOp}{mA mg:Str->Option Value}{kw:List (Str×Value)}{outer:List Env}{ps:List Str}
abbrev Key:=Sum Int Str
def tw:Key->Value->Bool
 | .inl k,v=>Value.isInt k v
 | .inr x,v=>Value.isStrOf x v
def UD(w:World):Key->Int
 | .inl k=>hashInt k
 | .inr x=>hashStr w x
theorem aV:∀{k:Key} {v:Value},tw k v=true->(∃i t,k=Sum.inl i/\v=Value.int i t)\/(∃x t,k=Sum.inr x/\v=Value.str x t)
 | .inl i,v,h=>by obtain ⟨t,e⟩:=Value.isInt_shape (k:=i) (v:=v) h;exact .inl ⟨i,t,rfl,e⟩
 | .inr x,v,h=>by obtain ⟨t,e⟩:=Value.isStrOf_shape (x:=x) (v:=v) h;exact .inr ⟨x,t,rfl,e⟩
theorem Cv(i:Int)(t:Tok):tw (.inl i) (.int i t)=true:=by simp [tw,Value.isInt]
theorem A'(x:Str)(t:Tok):tw (.inr x) (.str x t)=true:=by simp [tw,Value.isStrOf]
theorem Kf(a b:Int):decide ((Sum.inl a:Key)=Sum.inl b)=(a==b):=by
 by_cases e:a=b
 ·subst e;simp
 ·have h:¬(Sum.inl a:Key)=Sum.inl b:=λq=>e (Sum.inl.inj q);rw [aaK h];exact (beq_eq_false_iff_ne.mpr e).symm
theorem Kn(a b:Str):decide ((Sum.inr a:Key)=Sum.inr b)=decide (a=b):=by
 by_cases e:a=b
 ·subst e;simp
 ·have h:¬(Sum.inr a:Key)=Sum.inr b:=λq=>e (Sum.inr.inj q);rw [aaK h,aaK e]
theorem K8(a:Int)(b:Str):decide ((Sum.inl a:Key)=Sum.inr b)=false:=aaK (λq=>nomatch q)
theorem MX(a:Str)(b:Int):decide ((Sum.inr a:Key)=Sum.inl b)=false:=aaK (λq=>nomatch q)
def ax(prog:Program)(w:World):PySem.KeyKind prog w Key where
 is:=tw
 hash:=UD w
 inj:=λv a b ha hb=>by
  rcases aV ha with ⟨i,t,rfl,rfl⟩ | ⟨x,t,rfl,rfl⟩
  ·rcases aV hb with ⟨j,u,rfl,e⟩ | ⟨y,u,rfl,e⟩
   ·injection e with e1 _;rw [e1]
   ·exact nomatch e
  ·rcases aV hb with ⟨j,u,rfl,e⟩ | ⟨y,u,rfl,e⟩
   ·exact nomatch e
   ·injection e with e1 _;rw [e1]
 byValue:=λk v h=>by rcases aV h with ⟨i,t,rfl,rfl⟩ | ⟨x,t,rfl,rfl⟩ <;> rfl
 pyHash:=λhv h=>by
  rcases aV hv with ⟨i,t,rfl,rfl⟩ | ⟨x,t,rfl,rfl⟩
  ·exact wpAny_pyHash_int h
  ·exact wpAny_pyHash_str h
 eqBool:=λhu hv h=>by
  rcases aV hu with ⟨i,t,rfl,rfl⟩ | ⟨x,t,rfl,rfl⟩
  ·rcases aV hv with ⟨j,u,rfl,rfl⟩ | ⟨y,u,rfl,rfl⟩
   ·rw [Kf] at h;exact wpAny_eqBool_int h
   ·rw [K8] at h;exact SeqAt.EqAt.int_str i t y u _ _ _ _ h
  ·rcases aV hv with ⟨j,u,rfl,rfl⟩ | ⟨y,u,rfl,rfl⟩
   ·rw [MX] at h;exact SeqAt.EqAt.str_int x t j u _ _ _ _ h
   ·rw [Kn] at h;exact wpAny_eqBool_str h
 «strs»:=λk x t v h=>by
  rcases aV h with ⟨i,u,rfl,e⟩ | ⟨y,u,rfl,e⟩
  ·exact nomatch e
  ·injection e with e1 _
   subst e1;cases v <;> rfl
theorem xh(prog:Program)(w:World)(i:Int)(t:Tok):(ax prog w).is (.inl i) (.int i t)=true:=Cv i t
theorem v9(prog:Program)(w:World)(x:Str)(t:Tok):(ax prog w).is (.inr x) (.str x t)=true:=A' x t
inductive V where
 | bV | bl (b:Bool) | int (i:Int) | str (x:Str) | CJ (b:Array UInt8) | Rt (b:UInt64) | ref (a:Addr) | ty (n:String)
 deriving DecidableEq
variable{v:V}
def ag:V->Value->Prop
 | .bV,u=>u=Value.none
 | .bl b,u=>u=Value.bool b
 | .int i,u=>∃t,u=Value.int i t
 | .str x,u=>∃t,u=Value.str x t
 | .CJ b,u=>∃t,u=Value.bytes b t
 | .Rt b,u=>∃t,u=Value.float b t
 | .ref a,u=>u=Value.ref a
 | .ty n,u=>u=Value.type n
abbrev ao:List V->List Value->Prop:=Paired ag
theorem ao.length{xs:List V}(r:ao xs us):xs.length=us.length:=Paired.length r
theorem ao.get:∀{xs:List V} {us:List Value} {i:Nat} {x:V},ao xs us->xs[i]? =some x->∃u,us[i]? =some u/\ag x u
 | _,_,_,_, .nil,e=>by simp at e
 | _,_,0,_, .cons r _,e=>by simp at e;subst e;exact ⟨_,rfl,r⟩
 | _,_,i+1,x, .cons _ t,e=>by obtain ⟨u,h1,h2⟩:=ao.get (i:=i) (x:=x) t (by simpa using e);exact ⟨u,by simpa using h1,h2⟩
theorem ao.append:∀{xs ys:List V} {us ws:List Value},ao xs us->ao ys ws->ao (xs++ys) (us++ws)
 | _,_,_,_, .nil,s=>s
 | _,_,_,_, .cons r t,s=> .cons r (ao.append t s)
theorem ao.take:∀{xs:List V} {us:List Value} (n:Nat),ao xs us->ao (xs.take n) (us.take n)
 | _,_,0,_=> .nil
 | _,_,_+1, .nil=> .nil
 | _,_,n+1, .cons r t=> .cons r (ao.take n t)
theorem ao.drop:∀{xs:List V} {us:List Value} (n:Nat),ao xs us->ao (xs.drop n) (us.drop n)
 | _,_,0,r=>r
 | _,_,_+1, .nil=> .nil
 | _,_,n+1, .cons _ t=>ao.drop n t
def fZ:Option V->Option Value->Prop
 | some v,some u=>ag v u
 | none,none=>True
 | _,_=>False
def KV{κ:Type}:List (κ×V)->List (κ×Value)->Prop:=Paired λ(p:κ×V) (q:κ×Value)=>p.1=q.1/\ag p.2 q.2
def kV:Key->V
 | .inl i=> .int i
 | .inr x=> .str x
inductive HO where
 | lst (xs:List V)
 | tup (xs:List V)
 | dK (ω:List (Key×V)) | dT (ω:List (List Key×V))
 | set (S:Int->Bool) (n:Nat)
 | ins (C dx:Addr) (fs:List (Str×V))
 | own (x:Addr)
 | xd (fs:List (Str×V))
 | met (f x:Addr)
 | Jc (lo hi:Int)
 | AS (o:Obj) (u:HO)
 | IW (ps:Array Value)
 | ext (φ:Heap->Prop)
variable{o:HO}
abbrev Hp:=Addr->Option HO
def upd(H:Hp)(a:Addr)(o:HO):Hp:=λb=>if b=a then some o else H b
theorem Τ{H:Hp}:upd H a o a=some o:=by unfold upd;rw [if_pos rfl]
theorem Ζ{H:Hp}(h:b≠a):upd H a o b=H b:=by unfold upd;rw [if_neg h]
theorem bG{H:Hp}(h:H a=some o)(h':H b=none):a≠b:=by intro e;subst e;rw [h] at h';cases h'
section
variable(P:Program)(w:World)
def bh(H:Hp)(h:Heap)(a:Addr):HO->Prop
 | .lst xs=>xs.length<=sizeLine/\∃(its:List Value) (n:Nat),ao xs its/\h.get? a=some {cls:= .type "list",data:= .seq its.toArray n}
 | .tup xs=>xs.length<=sizeLine/\∃its:List Value,ao xs its/\IsTup h a its.toArray
 | .dK ω=>ω.length<=sizeLine/\(a==sysModules)=false/\∃vs,KV ω vs/\h.DictOf (ax P w) a vs
 | .dT ω=>ω.length<=sizeLine/\(a==sysModules)=false/\∃xs:List (List Key×Addr×Value),
   Paired (λ(p:List Key×V) (q:List Key×Addr×Value)=>p.1=q.1/\H q.2.1=some (.tup (p.1.map kV))/\ag p.2 q.2.2) ω xs/\
   ∃o es ep,h.get? a=some o/\o.ExactDict/\o.data= .dict es ep/\es.toList=xs.map (entryOfKey (tupleKind (ax P w)))/\(xs.map (·.1)).Nodup
 | .set S n=>h.SetOf (intKind P w) a S n
 | .ins C dx fs=>H dx=some (.own a)/\fs.length<=1000/\dx≠a/\h.get? a=some (PySem.W.instObj C dx)/\
   ∃mA,h.Ns1 dx mA/\(∀f,fZ (fs.lookup f) (mA f))/\PySem.Within mA (fs.map (·.1))
 | .own _=>∃o,h.get? a=some o
 | .xd fs=>∃mA,h.Ns1 a mA/\∀f,fZ (fs.lookup f) (mA f)
 | .Jc lo hi=>∃t u v,h.get? a=some {cls:= .type "range",data:= .fields #[.int lo t, .int hi u, .int 1 v]}
 | .AS o u=>h.get? a=some o/\bh H h a u
 | .IW ps=>h.get? a=some {cls:= .none,data:= .fields ps}
 | .met f x=>h.get? a=some (PySem.W.methodObj (.ref f) (.ref x))
 | .ext φ=>φ h/\(∃o,h.get? a=some o)/\∀h1 h2:Heap,φ h1->(∀o,h1.get? a=some o->h2.get? a=some o)->φ h2
def iL(H:Hp)(h:Heap):Prop:=∀a o,H a=some o->bh P w H h a o
end
section
variable{H H':Hp}
theorem bh.lt(x:bh P w H h a o):a < h.objs.size:=by
 cases o with
 | lst xs=>obtain ⟨_,_,_,_,e⟩:=x;exact aat e
 | tup xs=>obtain ⟨_,_,_,p⟩:=x;exact p.lt
 | dK ω=>obtain ⟨_,_,_,_,o,_,_,e,_⟩:=x;exact aat e
 | dT ω=>obtain ⟨_,_,_,_,o,_,_,e,_⟩:=x;exact aat e
 | set S n=>obtain ⟨o,_,_,_,e,_⟩:=x;exact aat e
 | ins C dx fs=>obtain ⟨_,_,_,e,_⟩:=x;exact aat e
 | own y=>obtain ⟨_,e⟩:=x;exact aat e
 | xd fs=>obtain ⟨_,⟨_,_,_,e,_⟩,_⟩:=x;exact aat e
 | Jc lo hi=>obtain ⟨_,_,_,e⟩:=x;exact aat e
 | AS ob u=>obtain ⟨e,_⟩:=x;exact aat e
 | IW ps=>exact aat (show h.get? a=some _ from x)
 | met f y=>exact aat (show h.get? a=some _ from x)
 | ext φ=>obtain ⟨_,⟨_,e⟩,_⟩:=x;exact aat e
theorem Paired.PN{α β:Type}{F G:α->β->Prop}:∀{l₁:List α} {l₂:List β},Paired F l₁ l₂->(∀a b,F a b->G a b)->Paired G l₁ l₂
 | _,_, .nil,_=> .nil
 | _,_, .cons r t,f=> .cons (f _ _ r) (Paired.PN t f)
theorem bh.Cq(x:bh P w H h a o)(k:∀b u,(b=a\/H b=some (.own a))->h.get? b=some u->h'.get? b=some u)
  (ho:∀b,H b=some (.own a)->H' b=some (.own a)) (ht:∀b xs,H b=some (.tup xs)->H' b=some (.tup xs)):bh P w H' h' a o:=by
 induction o with
 | lst xs=>obtain ⟨z,its,n,r,e⟩:=x;exact ⟨z,its,n,r,k _ _ (.inl rfl) e⟩
 | tup xs=>obtain ⟨z,its,r,ob,e,c⟩:=x;exact ⟨z,its,r,ob,k _ _ (.inl rfl) e,c⟩
 | dK ω=>obtain ⟨z,y,vs,r,ob,es,ep,e,c⟩:=x;exact ⟨z,y,vs,r,ob,es,ep,k _ _ (.inl rfl) e,c⟩
 | dT ω=>
  obtain ⟨z,y,xs,r,ob,es,ep,e,c⟩:=x;exact ⟨z,y,xs,Paired.PN r λp q z=>⟨z.1,ht _ _ z.2.1,z.2.2⟩,ob,es,ep,k _ _ (.inl rfl) e,c⟩
 | set S n=>obtain ⟨ob,es,ep,t,e,c⟩:=x;exact ⟨ob,es,ep,t,k _ _ (.inl rfl) e,c⟩
 | ins C dx fs=>
  obtain ⟨d,z,ne,e,mA,⟨od,es,ep,e2,c⟩,r⟩:=x;exact ⟨ho _ d,z,ne,k _ _ (.inl rfl) e,mA,⟨od,es,ep,k _ _ (.inr d) e2,c⟩,r⟩
 | own y=>obtain ⟨ob,e⟩:=x;exact ⟨ob,k _ _ (.inl rfl) e⟩
 | xd fs=>obtain ⟨mA,⟨od,es,ep,e,c⟩,r⟩:=x;exact ⟨mA,⟨od,es,ep,k _ _ (.inl rfl) e,c⟩,r⟩
 | Jc lo hi=>obtain ⟨t,u,v,e⟩:=x;exact ⟨t,u,v,k _ _ (.inl rfl) e⟩
 | AS ob u ih=>obtain ⟨e,q⟩:=x;exact ⟨k _ _ (.inl rfl) e,ih q⟩
 | IW ps=>
  have e:h.get? a=some {cls:= .none,data:= .fields ps}:=x;show h'.get? a=some {cls:= .none,data:= .fields ps};exact k a _ (.inl rfl) e
 | met f y=>
  have e:h.get? a=some (PySem.W.methodObj (.ref f) (.ref y)):=x;show h'.get? a=some (PySem.W.methodObj (.ref f) (.ref y));exact k a _ (.inl rfl) e
 | ext φ=>obtain ⟨p,⟨o,e⟩,st⟩:=x;exact ⟨st _ _ p λo q=>k _ _ (.inl rfl) q,⟨o,k _ _ (.inl rfl) e⟩,st⟩
theorem iL.lt(x:iL P w H h)(e:H a=some o):a < h.objs.size:=(x a o e).lt
theorem iL.fresh(x:iL P w H h)(e:h.objs.size<=a):H a=none:=by
 cases q:H a with
 | none=>rfl
 | some u=>exact aaI (aaE (x.lt q) e) (abo _)
theorem iL.kept(x:iL P w H h)(k:∀b u,h.get? b=some u->h'.get? b=some u):iL P w H h':=λa o e=>
 (x a o e).Cq (λb u _ q=>k b u q) (λ_ q=>q) λ_ _ q=>q
theorem iL.laid(x:iL P w H h)(k:∀b u,h.get? b=some u->h'.get? b=some u)(hp:h.objs.size<=a)(new:bh P w (upd H a o) h' a o):iL P w (upd H a o) h':=λb u e=>by
 have hn:=x.fresh hp;by_cases hb:b=a
 ·subst hb;rw [Τ] at e;cases e;exact new
 ·rw [Ζ hb] at e;exact (x b u e).Cq (λc v _ q=>k c v q) (λc q=>by rw [Ζ (bG q hn)];exact q) λc xs q=>by rw [Ζ (bG q hn)];exact q
end
def Rd(H:Hp)(a:Addr)(u:HO):Prop:=H a=some u\/∃o,H a=some (.AS o u)
theorem Rd.of{H:Hp}{u:HO}(h:H a=some u):Rd H a u:= .inl h
theorem Rd.ok{H:Hp}{u:HO}(r:Rd H a u)(x:iL P w H h):bh P w H h a u:=by
 rcases r with r | ⟨o,r⟩
 ·exact x a u r
 ·obtain ⟨_,q⟩:=x a _ r;exact q
def Lf:Option HO->Prop
 | some (.lst _)=>True
 | some (.dK _)=>True
 | some (.dT _)=>True
 | some (.set _ _)=>True
 | some (.ins _ _ _)=>True
 | some (.ext _)=>True
 | _=>False
section
variable{H:Hp}{x e:Addr}{o':HO}
theorem iL.write(ok:iL P w H h)(mu:Lf (H x))(he:e=x\/H e=some (.own x))(k:∀b u,b≠e->h.get? b=some u->h'.get? b=some u)(Nt:∃u,h'.get? e=some u)
  (new:bh P w (upd H x o') h' x o'):iL P w (upd H x o') h':=λb u q=>by
 have Og:∀c y,H c=some (.own y)->c≠x:=λc y r z=>by subst z;rw [r] at mu;exact mu
 have Sy:∀c xs,H c=some (.tup xs)->c≠x:=λc xs r z=>by subst z;rw [r] at mu;exact mu
 by_cases hb:b=x
 ·subst hb;rw [Τ] at q;cases q;exact new
 ·rw [Ζ hb] at q;by_cases Iq:b=e
  ·have q':H b=some (.own x):=by
    rcases he with z | z
    ·exact aaI (Iq.trans z) hb
    ·rw [Iq];exact z
   rw [q] at q';cases q';obtain ⟨v,hv⟩:=Nt;exact ⟨v,by rw [Iq];exact hv⟩
  ·refine (ok b u q).Cq (λc v hc r=>k c v ?_ r) (λc r=>by rw [Ζ (Og c b r)];exact r) λc xs r=>by rw [Ζ (Sy c xs r)];exact r
   rcases hc with rfl | hc
   ·exact Iq
   ·rintro rfl;rcases he with z | z
    ·exact Og c b hc z
    ·rw [hc] at z;cases z;exact hb rfl
end
structure Un(fs ex:List Addr)(H H':Hp)(h h':Heap):Prop where
 keep:∀b o,h.get? b=some o->H b=none->b∉fs->b∉ex->h'.get? b=some o
 slot:∀b o,h.get? b=some o->H b=none->b∈fs->b∉ex->∃sl,h'.get? b=some {o with slots:=sl}
 free:∀b o,h.get? b=some o->H b=none->b∉ex->H' b=none
 there:∀b o,h.get? b=some o->b∉ex->∃o',h'.get? b=some o'
 nV:∀b xs,H b=some (.tup xs)->H' b=some (.tup xs)
 nh:∀b o u,H b=some (.AS o u)->H' b=some (.AS o u)
 oq:∀b ps,H b=some (.IW ps)->∃more,H' b=some (.IW (ps++more))
section
variable{fs TX ex Iw:List Addr}{H H1 H2:Hp}{h1 h2:Heap}{x e:Addr}
theorem Un.any(u:Un fs ex H H1 h h1){ob:Obj}(q:h.get? b=some ob)(n:H b=none)(hx:b∉ex):∃sl,h1.get? b=some {ob with slots:=sl}:=by
 by_cases hb:b∈fs
 ·exact u.slot b ob q n hb hx
 ·exact ⟨ob.slots,u.keep b ob q n hb hx⟩
theorem Un.kept(k:∀b u,h.get? b=some u->h'.get? b=some u):Un fs ex H H h h':=
 ⟨λb ob q _ _ _=>k b ob q,λb ob q _ _ _=>⟨ob.slots,k b ob q⟩,λ_ _ _ n _=>n,λb ob q _=>⟨ob,k b ob q⟩,λ_ _ q=>q,λ_ _ _ q=>q,λ_ ps q=>⟨#[],by rw [q];simp⟩⟩
theorem Un.refl:Un fs ex H H h h:=Un.kept λ_ _ q=>q
theorem Un.laid(k:∀b u,h.get? b=some u->h'.get? b=some u)(hp:h.objs.size<=a)(hn:H a=none):Un fs ex H (upd H a o) h h' where
 keep:=λb u q _ _ _=>k b u q
 slot:=λb u q _ _ _=>⟨u.slots,k b u q⟩
 free:=λb u q n _=>by rw [Ζ (aaM (aaE (aat q) hp))];exact n
 there:=λb u q _=>⟨u,k b u q⟩
 nV:=λb xs q=>by rw [Ζ (bG q hn)];exact q
 nh:=λb u xs q=>by rw [Ζ (bG q hn)];exact q
 oq:=λb ps q=>⟨#[],by rw [Ζ (bG q hn),q];simp⟩
theorem Un.write(mu:Lf (H x))(he:e=x\/H e=some (.own x))(k:∀b u,b≠e->h.get? b=some u->h'.get? b=some u)(Nt:∃u,h'.get? e=some u):Un fs ex H (upd H x o) h h':=by
 have hx:∀b,H b=none->b≠x:=λb n z=>by subst z;rw [n] at mu;exact mu
 have hb:∀b,H b=none->b≠e:=λb n z=>by
  subst z;rcases he with r | r
  ·exact hx b n r
  ·rw [n] at r;cases r
 have hm:∀b u,H b=some u->¬Lf (some u)->b≠x:=λb u q nm z=>by subst z;rw [q] at mu;exact nm mu
 refine ⟨λb u q n _ _=>k b u (hb b n) q,λb u q n _ _=>⟨u.slots,k b u (hb b n) q⟩,λb u q n _=>by rw [Ζ (hx b n)];exact n,λb u q _=> ?_,
  λb xs q=>by rw [Ζ (hm b _ q λz=>z)];exact q,λb u xs q=>by rw [Ζ (hm b _ q λz=>z)];exact q,λb ps q=>⟨#[],by rw [Ζ (hm b _ q λz=>z),q];simp⟩⟩
 by_cases Iq:b=e
 ·subst Iq;exact Nt
 ·exact ⟨u,k b u Iq q⟩
end
def QX(h:Heap)(H:Hp):List Addr:=(List.range h.objs.size).filter λa=>(H a).isSome
def uv(h:Heap)(H:Hp):Heap:=PySem.W.hideAll h (QX h H)
theorem Bs(h:Heap)(H:Hp):(uv h H).objs.size=h.objs.size:=PySem.W.hideAll_size _ _
theorem Gr{H:Hp}{o:Obj}(e:h.get? b=some o)(n:H b=none):(uv h H).get? b=some o:=
 PySem.W.hideAll_get _ e λhm=>by have q:(H b).isSome=true:=(abW.mp hm).2;rw [n] at q;simp at q
theorem IG{H:Hp}{o:Obj}(e:(uv h H).get? b=some o):h.get? b=some o/\H b=none:=by
 have e':h.get? b=some o:=PySem.W.of_hideAll (QX h H) e;refine ⟨e', ?_⟩;cases q:H b with
 | none=>rfl
 | some x=>
  have hm:b∈QX h H:=List.mem_filter.mpr ⟨List.mem_range.mpr (Heap.lt_size e'),by simp [q]⟩;have z:(uv h H).get? b=none:=PySem.W.hideAll_none (QX h H) hm;rw [z] at e;cases e
structure Mod(K:fv)(mg:Str->Option Value)(base:Heap):Prop where
 Qf:K.In base
 glob:base.Ns mainGlobals mg
 blt:∃mb,base.Ns builtinsNs mb/\∀x:Str,x≠"__name__"->mb x=bootBuiltins x
 nolimit:base.NoLimit
structure Cx where
 prog:Program
 w:World
 K:fv
 mg:Str->Option Value
 base:Heap
 A:Around
 N:List Str
 s₀:Shared
 H₀:Hp
 env:Env
 outer:List Env
 stack:List Env
 ex:List Addr
 fn:Str->Bool
 calm:Bool
 pn:List (Addr×Obj)
 xe:Value->Shared->Prop
variable{X:Cx}
def n8(l:List Env):List Addr:=l.filterMap (·.frame)
abbrev Cx.fs(X:Cx):List Addr:=n8 X.outer
def SA(sc:Scope)(x:Str):Prop:=sc.names.lookup x=some .local\/sc.names.lookup x=some .cell\/sc.names.lookup x=some .free
def Loc(sc:Scope)(x:Str):Prop:=sc.names.lookup x=some .local\/sc.names.lookup x=some .cell
def UG(env:Env)(h:Heap)(m:Str->Option Value)(x:Str)(u:Value):Prop:=
 (env.kindOf x=some .local/\m x=some u)\/((env.kindOf x=some .cell\/env.kindOf x=some .free)/\∃c,env.cells.lookup x=some c/\h.IsCell c (some u))
structure Cx.Ok(X:Cx):Prop where
 mod:Mod X.K X.mg X.base
 kind:X.env.scope.kind= .function
 glob:X.env.globals=mainGlobals
 blt:X.env.builtins=builtinsNs
 above:X.s₀.heap.objs.size<=X.env.locals
 inj:∀x y c,X.env.cells.lookup x=some c->X.env.cells.lookup y=some c->x=y
 has:∀x,(X.env.kindOf x=some .cell\/X.env.kindOf x=some .free)->∃c,X.env.cells.lookup x=some c
 Ud:∀x c,X.fn x=true->X.env.cells.lookup x=some c->X.s₀.heap.objs.size<=c
 hd:X.calm=true->X.A.handled=none
 frames:X.A.frames=some X.stack
 VE:X.stack=X.outer\/(X.stack=X.env::X.outer/\X.env.frame=some X.env.locals)
 Vu:∀b∈X.ex,b≠X.env.locals/\∀x c,X.env.cells.lookup x=some c->c≠b
 bs:∀b o,X.base.get? b=some o->X.s₀.heap.get? b=some o/\X.H₀ b=none
 NI:X.base.objs.size<=X.s₀.heap.objs.size
 Ky:∀b o,X.base.get? b=some o->b∉X.ex
 Mu:∀b∈X.ex,b∉X.fs
 rL:X.s₀.heap.FunFrames X.base X.outer
 Ob:∀b∈X.fs,X.H₀ b=none
structure Inv(X:Cx)(δ:List (Addr×Obj))(σ:List (Option V))(H:Hp)(s:Shared):Prop where
 ok:X.Ok
 os:s.os=X.s₀.os
 bare:AllBare s.gens
 base:Un X.fs X.ex X.H₀ H X.s₀.heap s.heap
 loc:∃m,s.heap.Ns X.env.locals m/\∀(i:Nat) (x:Str) (v:V),X.N[i]? =some x->σ[i]? =some (some v)->SA X.env.scope x->∃u,ag v u/\UG X.env s.heap m x u
 cell:∀x c,X.env.cells.lookup x=some c->∃v,s.heap.IsCell c v
 free:H X.env.locals=none
 nL:∀x c,X.env.cells.lookup x=some c->H c=none
 pin:∀p∈X.pn++δ,s.heap.get? p.1=some p.2/\H p.1=none/\p.1≠X.env.locals/\p.1∉X.fs/\∀v,p.2.data≠ .cell v
 aB:iL X.prog X.w H s.heap
 len:σ.length=X.N.length
section
variable{σ:List (Option V)}{H H':Hp}
theorem Cx.Ok.TB(ok:X.Ok){o:Obj}(e:X.base.get? b=some o):b∉X.fs:=λhb=>by have:=(ok.rL.mem hb).1;rw [e] at this;cases this
theorem Inv.bs(I:Inv X δ σ H s):∀b o,X.base.get? b=some o->s.heap.get? b=some o/\H b=none:=λb o e=>
 ⟨I.base.keep b o (I.ok.bs b o e).1 (I.ok.bs b o e).2 (I.ok.TB e) (I.ok.Ky b o e),I.base.free b o (I.ok.bs b o e).1 (I.ok.bs b o e).2 (I.ok.Ky b o e)⟩
theorem Inv.bk(I:Inv X δ σ H s):∀b o,X.base.get? b=some o->s.heap.get? b=some o:=λb o e=>(I.bs b o e).1
theorem Inv.mod(I:Inv X δ σ H s):Mod X.K X.mg X.base:=I.ok.mod
theorem Inv.z5(I:Inv X δ σ H s):X.K.In s.heap:=I.ok.mod.Qf.keeps I.bk
theorem Inv.lt(I:Inv X δ σ H s):X.env.locals < s.heap.objs.size:=let ⟨_,hn,_⟩:=I.loc;hn.lt
theorem Inv.sz(I:Inv X δ σ H s):X.s₀.heap.objs.size<=s.heap.objs.size:=aax I.ok.above (abS I.lt)
theorem Inv.Ul(I:Inv X δ σ H s)(h:s.heap.objs.size<=a):a∉X.fs:=λhb=>by obtain ⟨_,o,ho,_⟩:=I.ok.rL.mem hb;exact aaI (aaE (aat ho) (aax I.sz h)) (abo _)
theorem Inv.HK(I:Inv X δ σ H s):∀x c,X.env.cells.lookup x=some c->c≠X.env.locals:=λx c e z=>by obtain ⟨v,o,ho,hd⟩:=I.cell x c e;obtain ⟨m,⟨o',es,ep,oy,df,_⟩,_⟩:=I.loc;rw [z,oy] at ho;cases ho;rw [df] at hd;cases hd
theorem Inv.rL(I:Inv X δ σ H s):s.heap.FunFrames X.base X.outer:=by
 have all:∀(l:List Env),(∀b∈n8 l,b∈X.fs)->X.s₀.heap.FunFrames X.base l->s.heap.FunFrames X.base l:=by
  intro l
  induction l with
  | nil=>intro _ _;trivial
  | cons env r ih=>
   intro hs hl;obtain ⟨hk,⟨L,o,hf,hn,ho,hd⟩,hr⟩:=hl;have hL:L∈X.fs:=hs L (by unfold n8;rw [List.filterMap_cons,hf];exact List.mem_cons_self);obtain ⟨sl,e⟩:=I.base.slot L o ho (I.ok.Ob L hL) hL λz=>I.ok.Mu L z hL;exact ⟨hk,⟨L,_,hf,hn,e,hd⟩,ih (λb hb=>hs b (by unfold n8;rw [List.filterMap_cons,hf];exact List.mem_cons_of_mem _ hb)) hr⟩
 exact all X.outer (λ_ hb=>hb) I.ok.rL
theorem Inv.stack(I:Inv X δ σ H s):s.heap.FunFrames X.base X.stack:=by
 rcases I.ok.VE with e | ⟨e,hf⟩
 ·rw [e];exact I.rL
 ·rw [e];obtain ⟨m,hn,_⟩:=I.loc;refine .cons (by rw [I.ok.kind];decide) hf hn ?_ I.rL;exact Heap.get?_none_of_le (aax I.ok.NI I.ok.above)
theorem Inv.uZ(I:Inv X δ σ H s):∀b∈n8 X.stack,b∈X.env.locals::X.fs:=λb hb=>by
 rcases I.ok.VE with e | ⟨e,hf⟩
 ·rw [e] at hb;exact aag _ hb
 ·rw [e] at hb;unfold n8 at hb;rw [List.filterMap_cons,hf] at hb;exact hb
theorem Inv.uR(I:Inv X δ σ H s):∀b∈n8 X.stack,H b=none:=λb hb=>by
 rcases aaB.mp (I.uZ b hb) with e | hb
 ·rw [e];exact I.free
 ·obtain ⟨_,o,ho,_⟩:=I.ok.rL.mem hb;exact I.base.free b o ho (I.ok.Ob b hb) λz=>I.ok.Mu b z hb
theorem Inv.step{t':Nat}{d':Drawn}(I:Inv X δ σ H s)
  (Au:∀b∈ch,(b∈X.ex\/X.s₀.heap.objs.size<=b)/\b≠X.env.locals/\(∀x c,X.env.cells.lookup x=some c->c≠b)/\∀p∈X.pn++δ,p.1≠b)
  (keep:∀b o,b≠X.env.locals->b∉X.fs->b∉ch->s.heap.get? b=some o->H b=none->h'.get? b=some o)
  (slot:∀b o,b≠X.env.locals->b∈X.fs->b∉ch->s.heap.get? b=some o->H b=none->∃sl,h'.get? b=some {o with slots:=sl}) (free:∀b o,b∉ch->s.heap.get? b=some o->H b=none->H' b=none)
  (there:∀b o,b∉ch->s.heap.get? b=some o->∃o',h'.get? b=some o')
  (nV:∀b xs,H b=some (.tup xs)->H' b=some (.tup xs)) (nh:∀b o u,H b=some (.AS o u)->H' b=some (.AS o u)) (oq:∀b ps,H b=some (.IW ps)->∃more,H' b=some (.IW (ps++more)))
  (ns:∀m,s.heap.Ns X.env.locals m->h'.Ns X.env.locals m) (aB:iL X.prog X.w H' h') (hg:AllBare g'):
  Inv X δ σ H' {s with heap:=h',gens:=g',drawn:=d',toks:=t'}:=by
 have VJ:∀b o,X.s₀.heap.get? b=some o->b≠X.env.locals:=λb o e=>aaM (aaE (aat e) I.ok.above);have Rn:∀b o,X.s₀.heap.get? b=some o->b∉X.ex->b∉ch:=λb o e hx hb=>by
  rcases (Au b hb).1 with z | z
  ·exact hx z
  ·exact aaI (aaE (aat e) z) (abo _)
 have cellK:∀x c,X.env.cells.lookup x=some c->∀v,s.heap.IsCell c v->h'.IsCell c v:=λx c e v ⟨o,ho,hd⟩=>by
  have Qi:c∉ch:=λz=>(Au c z).2.2.1 x c e rfl;by_cases hc:c∈X.fs
  ·obtain ⟨sl,q⟩:=slot c o (I.HK x c e) hc Qi ho (I.nL x c e);exact ⟨_,q,hd⟩
  ·exact ⟨o,keep c o (I.HK x c e) hc Qi ho (I.nL x c e),hd⟩
 refine ⟨I.ok,I.os,hg,⟨λb o e n hb hx=> ?_,λb o e n hb hx=> ?_,λb o e n hx=> ?_,λb o e hx=> ?_,λb xs e=>nV b xs (I.base.nV b xs e),λb o xs e=>nh b o xs (I.base.nh b o xs e),λb ps e=> ?_⟩, ?_,λx c e=> ?_, ?_,λx c e=> ?_,λp hp=> ?_,aB,I.len⟩
 ·exact keep b o (VJ b o e) hb (Rn b o e hx) (I.base.keep b o e n hb hx) (I.base.free b o e n hx)
 ·obtain ⟨sl,e1⟩:=I.base.slot b o e n hb hx;obtain ⟨YS,e2⟩:=slot b _ (VJ b o e) hb (Rn b o e hx) e1 (I.base.free b o e n hx);exact ⟨YS,e2⟩
 ·obtain ⟨o',e1⟩:=I.base.there b o e hx;exact free b o' (Rn b o e hx) e1 (I.base.free b o e n hx)
 ·obtain ⟨o',e1⟩:=I.base.there b o e hx;exact there b o' (Rn b o e hx) e1
 ·obtain ⟨m1,e1⟩:=I.base.oq b ps e;obtain ⟨m2,e2⟩:=oq b _ e1;exact ⟨m1++m2,by rw [e2,Array.append_assoc]⟩
 ·obtain ⟨m,hn,hl⟩:=I.loc;refine ⟨m,ns m hn,λi x v e1 e2 e3=> ?_⟩;obtain ⟨u,r,l⟩:=hl i x v e1 e2 e3;refine ⟨u,r, ?_⟩;rcases l with l | ⟨k,c,e,z⟩
  ·exact .inl l
  ·exact .inr ⟨k,c,e,cellK x c e _ z⟩
 ·obtain ⟨v,z⟩:=I.cell x c e;exact ⟨v,cellK x c e v z⟩
 ·obtain ⟨m,⟨o,_,_,ho,_⟩,_⟩:=I.loc;exact free _ o (λz=>(Au _ z).2.1 rfl) ho I.free
 ·obtain ⟨v,o,ho,hd⟩:=I.cell x c e;exact free c o (λz=>(Au c z).2.2.1 x c e rfl) ho (I.nL x c e)
 ·obtain ⟨e,n,ne,nf,d⟩:=I.pin p hp;have Qi:p.1∉ch:=λz=>(Au p.1 z).2.2.2 p hp rfl;exact ⟨keep p.1 p.2 ne nf Qi e n,free p.1 p.2 Qi e n,ne,nf,d⟩
theorem Inv.un{t':Nat}(I:Inv X δ σ H s)(u:Un X.fs [] H H' s.heap h')(aB:iL X.prog X.w H' h'):Inv X δ σ H' {s with heap:=h',toks:=t'}:=by
 obtain ⟨m,⟨o,es,ep,ho,r⟩,_⟩:=id I.loc;obtain ⟨sl,hL⟩:=u.any ho I.free (by simp)
 exact I.step (g':=s.gens) (d':=s.drawn) (ch:=[]) (λ_ z=>nomatch z) (λb o _ hb _ e n=>u.keep b o e n hb (by simp)) (λb o _ hb _ e n=>u.slot b o e n hb (by simp)) (λb o _ e n=>u.free b o e n (by simp)) (λb o _ e=>u.there b o e (by simp)) u.nV u.nh u.oq (λm' hm=>by
  obtain ⟨o',es',Uv,oy,r'⟩:=hm;rw [ho] at oy;cases oy
  exact ⟨_,es',Uv,hL,r'⟩) aB I.bare
theorem Inv.call{t':Nat}{d':Drawn}(I:Inv X δ σ H s)(u:Un (n8 X.stack) ch H H' s.heap h')(aB:iL X.prog X.w H' h')(hg:AllBare g')
  (Au:∀b∈ch,(b∈X.ex\/X.s₀.heap.objs.size<=b)/\b≠X.env.locals/\(∀x c,X.env.cells.lookup x=some c->c≠b)/\∀p∈X.pn++δ,p.1≠b):
  Inv X δ σ H' {s with heap:=h',gens:=g',drawn:=d',toks:=t'}:=by
 obtain ⟨m,⟨o,es,ep,ho,r⟩,_⟩:=id I.loc;obtain ⟨sl,hL⟩:=u.any ho I.free λz=>(Au _ z).2.1 rfl
 exact I.step (ch:=ch) Au (λb o hL hb hc e n=>u.keep b o e n (λz=>(aaB.mp (I.uZ b z)).elim hL hb) hc) (λb o _ _ hc e n=>u.any e n hc) (λb o hc e n=>u.free b o e n hc) (λb o hc e=>u.there b o e hc) u.nV u.nh u.oq (λm' hm=>by
  obtain ⟨o',es',Uv,oy,r'⟩:=hm;rw [ho] at oy;cases oy
  exact ⟨_,es',Uv,hL,r'⟩) aB hg
theorem Inv.turned{t':Nat}{it:Addr}(I:Inv X δ σ H s)(k:∀b o,b≠it->s.heap.get? b=some o->h'.get? b=some o)(hn:H it=none)(hL:it≠X.env.locals)
  (h1:it∈X.ex\/X.s₀.heap.objs.size<=it) (h2:∀x c,X.env.cells.lookup x=some c->c≠it) (h3:∀p∈X.pn++δ,p.1≠it):Inv X δ σ H {s with heap:=h',toks:=t'}:=by
 have U4:∀b u,H b=some u->b≠it:=λb u e z=>by rw [z,hn] at e;cases e
 refine I.step (g':=s.gens) (d':=s.drawn) (ch:=[it]) (λb hb=> ?_) (λb o _ _ hc e _=>k b o (λz=>hc (by simp [z])) e) (λb o _ _ hc e _=>⟨o.slots,k b o (λz=>hc (by simp [z])) e⟩) (λ_ _ _ _ n=>n)
  (λb o hc e=>⟨o,k b o (λz=>hc (by simp [z])) e⟩) (λ_ _ e=>e) (λ_ _ _ e=>e) (λb ps e=>⟨#[],by rw [e];simp⟩) (λm hm=> ?_) (λb u e=> ?_) I.bare
 ·have e:b=it:=by simpa using hb
  subst e;exact ⟨h1,hL,h2,h3⟩
 ·obtain ⟨o,es,ep,ho,r⟩:=hm;exact ⟨o,es,ep,k _ o (Ne.symm hL) ho,r⟩
 ·refine (I.aB b u e).Cq (λc v hc q=>k c v ?_ q) (λ_ q=>q) λ_ _ q=>q;rcases hc with z | z
  ·rw [z];exact U4 b u e
  ·exact U4 c _ z
theorem Inv.tok(I:Inv X δ σ H s)(t:Nat):Inv X δ σ H {s with toks:=t}:=I.un (h':=s.heap) (t':=t) Un.refl I.aB
theorem Inv.kept{t':Nat}(I:Inv X δ σ H s)(k:∀b u,s.heap.get? b=some u->h'.get? b=some u):Inv X δ σ H {s with heap:=h',toks:=t'}:=I.un (Un.kept k) (I.aB.kept k)
theorem Inv.laid{t':Nat}(I:Inv X δ σ H s)(k:∀b u,s.heap.get? b=some u->h'.get? b=some u)(hp:s.heap.objs.size<=a)(new:bh X.prog X.w (upd H a o) h' a o):
  Inv X δ σ (upd H a o) {s with heap:=h',toks:=t'}:=I.un (Un.laid k hp (I.aB.fresh hp)) (I.aB.laid k hp new)
theorem Inv.write{x e:Addr}{t':Nat}(I:Inv X δ σ H s)(mu:Lf (H x))(he:e=x\/H e=some (.own x))(k:∀b u,b≠e->s.heap.get? b=some u->h'.get? b=some u)(Nt:∃u,h'.get? e=some u)
  (new:bh X.prog X.w (upd H x o) h' x o):Inv X δ σ (upd H x o) {s with heap:=h',toks:=t'}:=I.un (Un.write mu he k Nt) (I.aB.write mu he k Nt new)
theorem Inv.AJ{Js:List (Addr×Obj)}(I:Inv X δ σ H s)(h:∀p∈Js,s.heap.get? p.1=some p.2/\H p.1=none/\p.1≠X.env.locals/\p.1∉X.fs/\∀v,p.2.data≠ .cell v):Inv X Js σ H s:=
 ⟨I.ok,I.os,I.bare,I.base,I.loc,I.cell,I.free,I.nL,λp hp=>(aaL.mp hp).elim (λz=>I.pin p (aaH _ z)) (h p),I.aB,I.len⟩
theorem wY{N:List Str}(hN:N.Nodup){j:Nat}(a:N[i]? =some x)(b:N[j]? =some x):i=j:=by obtain ⟨h1,e1⟩:=aad.mp a;obtain ⟨h2,e2⟩:=aad.mp b;exact (List.getElem_inj hN).mp (e1.trans e2.symm)
theorem sF{Q:Unit->Shared->Prop}(I:Inv X δ σ H s)(hN:X.N.Nodup)(hi:X.N[i]? =some x)(hx:Loc X.env.scope x)(r:ag v u)
  (h:∀s',Inv X δ (σ.set i (some v)) H s'->(∃a,Heap.SameBut a s.heap s'.heap/\(a=X.env.locals\/X.env.cells.lookup x=some a))->Q () s') (hf:X.fn x=true\/X.env.scope.names.lookup x=some .local:=by first | exact .inl rfl | exact .inr rfl | assumption):wpAny M A (storeName X.env x u) Q E s:=by
 obtain ⟨m,hn,hl⟩:=id I.loc;have So:(X.env.scope.kind== .class || (X.env.scope.kind== .module&&X.env.locals != X.env.globals))=false:=by rw [I.ok.kind];rfl
 have O8:i < σ.length:=by rw [I.len];exact (aad.mp hi).1
 have HK:=I.HK;have tracked:∀{a:Addr} {h':Heap},(∃o,s.heap.get? a=some o/\H a=none)->Heap.SameBut a s.heap h'->iL X.prog X.w H h':=λ{a h'} ha hs b ob e=>by
  obtain ⟨_,_,JQ⟩:=ha;refine (I.aB b ob e).Cq (λc w' hc q=>(hs.2 c ?_).trans q) (λ_ q=>q) λ_ _ q=>q;rintro rfl;rcases hc with rfl | hc
  ·rw [JQ] at e;cases e
  ·rw [JQ] at hc;cases hc
 rcases hx with hk | hk
 ·refine wpAny_storeName_local hk hn (λh' LV hs=> ?_) So;obtain ⟨oL,_,_,OH,_⟩:=id hn;refine h _ ⟨I.ok,I.os,I.bare,⟨λb o e n hb hx=> ?_,λb o e n hb hx=> ?_,I.base.free,λb o e hx=> ?_,I.base.nV,I.base.nh,I.base.oq⟩,⟨_,LV,λj y v' e1 e2 e3=> ?_⟩,λy c e=> ?_,I.free,I.nL,λp hp=> ?_,tracked ⟨oL,OH,I.free⟩ hs,by simpa using I.len⟩ ⟨_,hs, .inl rfl⟩
  ·exact (hs.2 b (aaM (aaE (aat e) I.ok.above))).trans (I.base.keep b o e n hb hx)
  ·obtain ⟨sl,e1⟩:=I.base.slot b o e n hb hx;exact ⟨sl,(hs.2 b (aaM (aaE (aat e) I.ok.above))).trans e1⟩
  ·obtain ⟨o',e1⟩:=I.base.there b o e hx;exact ⟨o',(hs.2 b (aaM (aaE (aat e) I.ok.above))).trans e1⟩
  ·by_cases hj:j=i
   ·subst hj;rw [hi] at e1;cases e1;rw [aba O8] at e2;cases e2;exact ⟨u,r, .inl ⟨hk,by simp⟩⟩
   ·rw [aa4 (Ne.symm hj)] at e2;obtain ⟨u',r',q⟩:=hl j y v' e1 e2 e3;refine ⟨u',r', ?_⟩;rcases q with ⟨k,e⟩ | ⟨k,c,e,z⟩
    ·refine .inl ⟨k, ?_⟩;have:y≠x:=λe=>hj (wY hN e1 (e▸hi));simp [this,e]
    ·exact .inr ⟨k,c,e,z.sameBut hs (HK y c e)⟩
  ·obtain ⟨w',z⟩:=I.cell y c e;exact ⟨w',z.sameBut hs (HK y c e)⟩
  ·obtain ⟨e,n,ne,nf,d⟩:=I.pin p hp;exact ⟨(hs.2 p.1 ne).trans e,n,ne,nf,d⟩
 ·have TH:X.fn x=true:=by
   rcases hf with z | z
   ·exact z
   ·rw [z] at hk;cases hk
  obtain ⟨c,hc⟩:=I.ok.has x (.inl hk);obtain ⟨w',z⟩:=I.cell x c hc;refine wpAny_storeName_cell I.ok.kind hk hc z (λh' Rh hs=> ?_);obtain ⟨oc,U2,Tr⟩:=id z;refine h {s with heap:=h'} ⟨I.ok,I.os,I.bare,⟨λb o e n hb hx=> ?_,λb o e n hb hx=> ?_,I.base.free,λb o e hx=> ?_,I.base.nV,I.base.nh,I.base.oq⟩,⟨m,hn.sameBut hs (Ne.symm (HK x c hc)),λj y v' e1 e2 e3=> ?_⟩,λy c' e=> ?_,I.free,I.nL,λp hp=> ?_,tracked ⟨oc,U2,I.nL x c hc⟩ hs,by simpa using I.len⟩ ⟨c,hs, .inr hc⟩
  ·exact (hs.2 b (aaM (aaE (aat e) (I.ok.Ud x c TH hc)))).trans (I.base.keep b o e n hb hx)
  ·obtain ⟨sl,e1⟩:=I.base.slot b o e n hb hx;exact ⟨sl,(hs.2 b (aaM (aaE (aat e) (I.ok.Ud x c TH hc)))).trans e1⟩
  ·obtain ⟨o',e1⟩:=I.base.there b o e hx;exact ⟨o',(hs.2 b (aaM (aaE (aat e) (I.ok.Ud x c TH hc)))).trans e1⟩
  ·by_cases hj:j=i
   ·subst hj;rw [hi] at e1;cases e1;rw [aba O8] at e2;cases e2;exact ⟨u,r, .inr ⟨.inl hk,c,hc,Rh⟩⟩
   ·rw [aa4 (Ne.symm hj)] at e2;obtain ⟨u',r',q⟩:=hl j y v' e1 e2 e3;refine ⟨u',r', ?_⟩;rcases q with q | ⟨k,c',e,z'⟩
    ·exact .inl q
    ·refine .inr ⟨k,c',e,z'.sameBut hs ?_⟩;rintro rfl;exact hj (wY hN e1 (I.ok.inj _ _ _ e hc▸hi))
  ·by_cases K7:c'=c
   ·subst K7;exact ⟨_,Rh⟩
   ·obtain ⟨w2,z2⟩:=I.cell y c' e;exact ⟨w2,z2.sameBut hs K7⟩
  ·obtain ⟨e,n,ne,nf,d⟩:=I.pin p hp;refine ⟨(hs.2 p.1 ?_).trans e,n,ne,nf,d⟩;intro q;rw [q,U2] at e;have q':oc=p.2:=aaG e;exact d w' (by rw [<-q'];exact Tr)
theorem lN{Q:Unit->Shared->Prop}(I:Inv X δ σ H s)(hN:X.N.Nodup)(hi:X.N[i]? =some x)(hx:Loc X.env.scope x)(r:ag v u)
  (h:∀s',Inv X δ (σ.set i (some v)) H s'->Q () s') (hf:X.fn x=true\/X.env.scope.names.lookup x=some .local:=by first | exact .inl rfl | exact .inr rfl | assumption):wpAny M A (storeName X.env x u) Q E s:=
 sF I hN hi hx r (λs' I' _=>h s' I') hf
theorem Inv.Qc{s':Shared}(I:Inv X δ σ H s)(ho:s'.os=s.os)(u:Un (n8 X.stack) ch H H' s.heap s'.heap)(aB:iL X.prog X.w H' s'.heap)(hg:AllBare s'.gens)
  (Au:∀b∈ch,(b∈X.ex\/X.s₀.heap.objs.size<=b)/\b≠X.env.locals/\(∀x c,X.env.cells.lookup x=some c->c≠b)/\∀p∈X.pn++δ,p.1≠b):Inv X δ σ H' s':=by
 obtain ⟨h',g',d',t',o'⟩:=s';have e:o'=s.os:=ho;subst e;exact I.call (g':=g') (t':=t') (d':=d') u aB hg Au
end
abbrev XK:=Value->Option Addr->Hp->Prop
abbrev St:=List (Option V)
variable{σ:St}
abbrev VK:=V->Hp->Prop
abbrev TE:=St->Hp->VK->Prop
variable{ta te:TE}
abbrev TT:=St->Hp->(Bool->Hp->Prop)->Prop
abbrev TA:=St->Hp->(List V->Hp->Prop)->Prop
structure vW where
 nx:St->Hp->Prop
 rt:VK
 bk:St->Hp->Prop:=λ_ _=>False
 ct:St->Hp->Prop:=λ_ _=>False
abbrev TS:=vW->St->Hp->Prop
def EP(X:Cx)(δ:List (Addr×Obj))(σ:St)(Q:VK)(u:Value)(s':Shared):Prop:=∃v H',Inv X δ σ H' s'/\ag v u/\Q v H'
def TP(X:Cx)(δ:List (Addr×Obj))(σ:St)(Q:Bool->Hp->Prop)(b:Bool)(s':Shared):Prop:=∃H',Inv X δ σ H' s'/\Q b H'
def AP(X:Cx)(δ:List (Addr×Obj))(σ:St)(Q:List V->Hp->Prop)(us:List Value)(s':Shared):Prop:=∃vs H',Inv X δ σ H' s'/\ao vs us/\Q vs H'
def SP(X:Cx)(δ:List (Addr×Obj))(D:vW)(f:Flow)(s':Shared):Prop:=
 match f with
 | .next=>∃σ' H',Inv X δ σ' H' s'/\D.nx σ' H'
 | .brk=>∃σ' H',Inv X δ σ' H' s'/\D.bk σ' H'
 | .cont=>∃σ' H',Inv X δ σ' H' s'/\D.ct σ' H'
 | .ret u=>∃v σ' H',Inv X δ σ' H' s'/\ag v u/\D.rt v H'
def PE(X:Cx)(e:Expr)(t:TE):Prop:=
 ∀(δ:List (Addr×Obj)) (s:Shared) (σ:St) (H:Hp) (Q:VK),Inv X δ σ H s->t σ H Q->wpAny (model X.prog X.w) X.A (eval e X.env) (EP X δ σ Q) X.xe s
def PT(X:Cx)(e:Expr)(t:TT):Prop:=
 ∀(δ:List (Addr×Obj)) (s:Shared) (σ:St) (H:Hp) (Q:Bool->Hp->Prop),Inv X δ σ H s->t σ H Q->wpAny (model X.prog X.w) X.A (isTrue e X.env (eval e X.env)) (TP X δ σ Q) X.xe s
def PW(X:Cx)(e:Expr)(t:TT):Prop:=
 ∀(whole:Sem Value) (δ:List (Addr×Obj)) (s:Shared) (σ:St) (H:Hp) (Q:Bool->Hp->Prop),Inv X δ σ H s->t σ H Q->wpAny (model X.prog X.w) X.A (isTrue e X.env whole) (TP X δ σ Q) X.xe s
def PA(X:Cx)(es:List Expr)(t:TA):Prop:=
 ∀(pos:Pos) (δ:List (Addr×Obj)) (s:Shared) (σ:St) (H:Hp) (Q:List V->Hp->Prop),Inv X δ σ H s->t σ H Q->wpAny (model X.prog X.w) X.A (spliced (backTo pos (starEach es X.env))) (AP X δ σ Q) X.xe s
def PS(X:Cx)(st:Stmt)(t:TS):Prop:=
 ∀(δ:List (Addr×Obj)) (s:Shared) (σ:St) (H:Hp) (D:vW),Inv X δ σ H s->t D σ H->wpAny (model X.prog X.w) X.A (exec st X.env) (SP X δ D) X.xe s
def CK(X:Cx)(st:List Stmt)(t:TS):Prop:=
 ∀(δ:List (Addr×Obj)) (s:Shared) (σ:St) (H:Hp) (D:vW),Inv X δ σ H s->t D σ H->wpAny (model X.prog X.w) X.A (execs st X.env) (SP X δ D) X.xe s
theorem bx{α:Type}{t:Sem α}{Q Q':α->Shared->Prop}(h:wpAny M A t Q E s)(hQ:∀a s,Q a s->Q' a s):wpAny M A t Q' E s:=abv h hQ λ_ _ x=>x
section
def TF(i:Nat):TE:=λσ H Q=>∃v,σ[i]? =some (some v)/\Q v H
def tC(v:V):TE:=λ_ H Q=>Q v H
theorem MY(hN:X.N[i]? =some x)(hv:SA X.env.scope x)(hd:(x==("__debug__":Str))=false:=by decide)(Df:(x==("__classdict__":Str))=false:=by decide):PE X (.Name x pos) (TF i):=by
 intro δ s σ H Q I h;obtain ⟨v,e,h⟩:=h;obtain ⟨m,hn,hl⟩:=I.loc;obtain ⟨u,r,l⟩:=hl i x v hN e hv;have fin:EP X δ σ Q u s:=⟨v,H,I,r,h⟩;rcases l with ⟨hk,hm⟩ | ⟨hk,c,hc,J1⟩
 ·exact wpAny_Name (wpAny_loadName_local I.ok.kind hk hn hm fin) hd
 ·rcases hk with hk | hk
  ·exact wpAny_Name (wpAny_loadName_cell I.ok.kind hk hc J1 fin) hd
  ·exact wpAny_Name (wpAny_loadName_free I.ok.kind hk hc J1 fin Df) hd
theorem K5{i j pos}:PE X (.Constant (.int i) j pos) (tC (.int i)):=λ_ _ _ H _ I h=>wpAny_Constant_int ⟨.int i,H,I.tok _,⟨_,rfl⟩,h⟩
theorem O1{b j pos}:PE X (.Constant (.bool b) j pos) (tC (.bl b)):=λ_ _ _ H _ I h=>Constant_bool ⟨.bl b,H,I,rfl,h⟩
theorem LM{j pos}:PE X (.Constant .none j pos) (tC .bV):=λ_ _ _ H _ I h=>Constant_none ⟨.bV,H,I,rfl,h⟩
theorem KN{x j pos}:PE X (.Constant (.str x) j pos) (tC (.str x)):=λ_ _ _ H _ I h=>Calls.Constant_str ⟨.str x,H,I.tok _,⟨_,rfl⟩,h⟩
def Gl(X:Cx)(x:Str):Prop:=X.env.kindOf x=some .globalImplicit
theorem vq{H:Hp}(I:Inv X δ σ H s)(hg:Gl X x)(hm:X.mg x=some u)(h:Q u s)
  (hd:(x==("__debug__":Str))=false:=by decide):wpAny (model X.prog X.w) X.A (eval (.Name x pos) X.env) Q E s:=
 Calls.Name_function_global I.ok.kind hg (Calls.loadGlobal_global (by rw [I.ok.glob];exact I.mod.glob.keeps I.bk) hm h) hd
theorem vH{H:Hp}(I:Inv X δ σ H s)(hg:Gl X x)(hm:X.mg x=none)(hv:bootBuiltins x=some u)(h:Q u s)
  (hn:x≠"__name__":=by decide) (hd:(x==("__debug__":Str))=false:=by decide):wpAny (model X.prog X.w) X.A (eval (.Name x pos) X.env) Q E s:=by
 obtain ⟨mb,h1,h2⟩:=I.mod.blt;exact Calls.Name_function_global I.ok.kind hg (Calls.loadGlobal_builtin (by rw [I.ok.glob];exact I.mod.glob.keeps I.bk) hm (by rw [I.ok.blt];exact h1.keeps I.bk) ((h2 x hn).trans hv) h) hd
theorem A5(hg:Gl X x)(hm:X.mg x=some u)(r:ag v u)(hd:(x==("__debug__":Str))=false:=by decide):PE X (.Name x pos) (tC v):=
 λ_ _ _ H _ I h=>vq I hg hm ⟨v,H,I,r,h⟩ hd
variable{a b:Expr}{tb:TE}
def tB(t:TE):TT:=λσ H Q=>t σ H λx H1=>∃c,x= .bl c/\Q c H1
theorem Ke{t:TE}(h:PE X e t)(he:∀whole,isTrue e X.env whole=(do let v<-whole;standAt e.pos;holding [v] (truthy v)):=by intro _;rfl):PT X e (tB t):=by intro δ s σ H Q I hw;refine isTrue_plain (bx (h δ s σ H _ I hw) λv s1 ⟨x,H1,I1,r1,q1⟩=> ?_) (he _);obtain ⟨d,rfl,q⟩:=q1;cases r1;exact wpAny_truthy_bool ⟨H1,I1,q⟩
variable{tA QD:TT}{Η:List Expr}
def SU(t u:TT):TT:=λσ H Q=>t σ H λc H1=>if c=true then u σ H1 Q else Q false H1
def Xe(t u:TT):TT:=λσ H Q=>t σ H λc H1=>if c=true then Q true H1 else u σ H1 Q
def Uw(t:TT):TT:=λσ H Q=>t σ H λc H1=>Q (!c) H1
theorem pw_and1(ha:PT X a tA):PW X (.BoolOp .And [a] pos) tA:=by
 intro wh δ s σ H Q I h;refine isTrue_and (bx (ha δ s σ H Q I h) λc s1 e=> ?_);cases c with
 | true=>exact isTrue_and_nil e
 | false=>exact e
theorem pw_or1(ha:PT X a tA):PW X (.BoolOp .Or [a] pos) tA:=by
 intro wh δ s σ H Q I h;refine isTrue_or (bx (ha δ s σ H Q I h) λc s1 e=> ?_);cases c with
 | false=>exact isTrue_or_nil e
 | true=>exact e
theorem pw_and(ha:PT X a tA)(hb:PW X (.BoolOp .And (b::Η) pos) QD):PW X (.BoolOp .And (a::b::Η) pos) (SU tA QD):=by
 intro wh δ s σ H Q I h;refine isTrue_and (bx (ha δ s σ H _ I h) λc s1 ⟨H1,I1,q1⟩=> ?_);cases c with
 | true=>exact hb wh δ s1 σ H1 Q I1 q1
 | false=>exact ⟨H1,I1,q1⟩
theorem pw_or(ha:PT X a tA)(hb:PW X (.BoolOp .Or (b::Η) pos) QD):PW X (.BoolOp .Or (a::b::Η) pos) (Xe tA QD):=by
 intro wh δ s σ H Q I h;refine isTrue_or (bx (ha δ s σ H _ I h) λc s1 ⟨H1,I1,q1⟩=> ?_);cases c with
 | true=>exact ⟨H1,I1,q1⟩
 | false=>exact hb wh δ s1 σ H1 Q I1 q1
theorem Kt(ha:PT X a tA):PT X (.UnaryOp .Not a pos) (Uw tA):=by intro δ s σ H Q I h;exact isTrue_not (ha δ s σ H (λc H1=>Q (!c) H1) I h)
def Qm(ta tb:TE):TE:=λσ H Q=>ta σ H λx H1=>∃c,x= .bl c/\if c=true then tb σ H1 Q else Q (.bl false) H1
def S_(ta tb:TE):TE:=λσ H Q=>ta σ H λx H1=>∃c,x= .bl c/\if c=true then Q (.bl true) H1 else tb σ H1 Q
theorem Ls{op}{t:TE}(h:PE X a t):PE X (.BoolOp op [a] pos) t:=λδ s σ H Q I hw=>BoolOp_one (h δ s σ H Q I hw)
theorem LR(ha:PE X a ta)(hb:PE X (.BoolOp .And (b::Η) pos) tb):PE X (.BoolOp .And (a::b::Η) pos) (Qm ta tb):=by
 intro δ s σ H Q I h;refine BoolOp_and (bx (ha δ s σ H _ I h) λv s1 ⟨x,H1,I1,r1,q1⟩=> ?_);obtain ⟨c,rfl,q1⟩:=q1;cases r1;refine wpAny_truthy_bool ?_;cases c with
 | true=>exact hb δ s1 σ H1 Q I1 q1
 | false=>exact ⟨.bl false,H1,I1,rfl,q1⟩
theorem NZ(ha:PE X a ta)(hb:PE X (.BoolOp .Or (b::Η) pos) tb):PE X (.BoolOp .Or (a::b::Η) pos) (S_ ta tb):=by
 intro δ s σ H Q I h;refine BoolOp_or (bx (ha δ s σ H _ I h) λv s1 ⟨x,H1,I1,r1,q1⟩=> ?_);obtain ⟨c,rfl,q1⟩:=q1;cases r1;refine wpAny_truthy_bool ?_;cases c with
 | false=>exact hb δ s1 σ H1 Q I1 q1
 | true=>exact ⟨.bl true,H1,I1,rfl,q1⟩
def Xr(t:TT)(ta tb:TE):TE:=λσ H Q=>t σ H λc H1=>if c=true then ta σ H1 Q else tb σ H1 Q
theorem DG(hc:PT X c tA)(ha:PE X a ta)(hb:PE X b tb):PE X (.IfExp c a b pos) (Xr tA ta tb):=by
 intro δ s σ H Q I h;refine wpAny_IfExp (bx (hc δ s σ H _ I h) λd s1 ⟨H1,I1,q1⟩=> ?_);cases d with
 | true=>exact ha δ s1 σ H1 Q I1 q1
 | false=>exact hb δ s1 σ H1 Q I1 q1
end
def fm(K:fv)(H:Hp)(a:Addr)(xs:List V):Prop:=
 Rd H a (.lst xs)\/
  ∃(o:Obj) (its:Array Value) (n:Nat),K.lookup a=some o/\o.cls= .type "list"/\o.dict=none/\o.data= .seq its n/\its.size<=sizeLine/\ao xs its.toList
def ju(K:fv)(H:Hp)(a:Addr)(xs:List V):Prop:=
 Rd H a (.tup xs)\/
  ∃(o:Obj) (its:Array Value) (n:Nat),K.lookup a=some o/\o.cls= .type "tuple"/\o.data= .seq its n/\its.size<=sizeLine/\ao xs its.toList
def Sq:Value->Option V
 | .none=>some .bV
 | .bool b=>some (.bl b)
 | .int i _=>some (.int i)
 | .str x _=>some (.str x)
 | .bytes b _=>some (.CJ b)
 | .float b _=>some (.Rt b)
 | .ref a=>some (.ref a)
 | .type n=>some (.ty n)
 | _=>none
theorem ag.abs{x:V}(r:ag x u):Sq u=some x:=by
 cases x with
 | bV=>cases r;rfl
 | bl _=>cases r;rfl
 | int _=>obtain ⟨t,rfl⟩:=r;rfl
 | str _=>obtain ⟨t,rfl⟩:=r;rfl
 | CJ _=>obtain ⟨t,rfl⟩:=r;rfl
 | Rt _=>obtain ⟨t,rfl⟩:=r;rfl
 | ref _=>cases r;rfl
 | ty _=>cases r;rfl
theorem ag.inj{x y:V}{u:Value}(r:ag x u)(q:ag y u):x=y:=aaG (r.abs.symm.trans q.abs)
theorem ao.inj:∀{xs ys:List V} {us:List Value},ao xs us->ao ys us->xs=ys
 | _,_,_, .nil, .nil=>rfl
 | _,_,_, .cons r t, .cons r' t'=>by rw [r.inj r',ao.inj t t']
section
variable{H:Hp}{xs ys:List V}
theorem fm.of{K:fv}(h:H a=some (.lst xs)):fm K H a xs:= .inl (.inl h)
theorem ju.of{K:fv}(h:H a=some (.tup xs)):ju K H a xs:= .inl (.inl h)
theorem Inv.list(I:Inv X δ σ H s)(h:fm X.K H a xs):∃its:List Value,ao xs its/\PlainL s.heap a its.toArray/\xs.length<=sizeLine:=by
 rcases h with h | ⟨o,its,n,hk,hc,hd,hs,hz,r⟩
 ·obtain ⟨z,its,n,r,e⟩:=h.ok I.aB;exact ⟨its,r,⟨_,n,e,rfl,rfl,rfl⟩,z⟩
 ·refine ⟨its.toList,r,⟨o,n,I.z5 a o hk,hc,hd,by simpa using hs⟩, ?_⟩;have e:=r.length;simp only [Array.length_toList] at e;omega
theorem Inv.tuple(I:Inv X δ σ H s)(h:ju X.K H a xs):∃its:List Value,ao xs its/\IsTup s.heap a its.toArray/\xs.length<=sizeLine:=by
 rcases h with h | ⟨o,its,n,hk,hc,hs,hz,r⟩
 ·obtain ⟨z,its,r,p⟩:=h.ok I.aB;exact ⟨its,r,p,z⟩
 ·refine ⟨its.toList,r,⟨o,I.z5 a o hk,hc,n,by simpa using hs⟩, ?_⟩;have e:=r.length;simp only [Array.length_toList] at e;omega
theorem Inv.cg(I:Inv X δ σ H s)(h:fm X.K H a xs)(h':fm X.K H a ys):xs=ys:=by
 obtain ⟨its,r,⟨o,n,e,_,_,d⟩,_⟩:=I.list h;obtain ⟨its',r',⟨o',n',e',_,_,d'⟩,_⟩:=I.list h';rw [e] at e';cases e';rw [d] at d';injection d' with d1 _
 have:its=its':=by simpa using congrArg Array.toList d1
 subst this;exact r.inj r'
theorem Inv.gs(I:Inv X δ σ H s)(h:ju X.K H a xs)(h':ju X.K H a ys):xs=ys:=by
 obtain ⟨its,r,⟨o,e,_,n,d⟩,_⟩:=I.tuple h;obtain ⟨its',r',⟨o',e',_,n',d'⟩,_⟩:=I.tuple h';rw [e] at e';cases e';rw [d] at d';injection d' with d1 _
 have:its=its':=by simpa using congrArg Array.toList d1
 subst this;exact r.inj r'
end
section
variable{st:Stmt}{Η:List Stmt}{t u:TS}
def Od:TS:=λD σ H=>D.nx σ H
def T8(t u:TS):TS:=λD σ H=>t {D with nx:=u D} σ H
theorem Io:CK X [] Od:=λ_ _ σ H _ I h=>wpAny_execs_nil ⟨σ,H,I,h⟩
theorem EY(h1:PS X st t)(h2:CK X Η u):CK X (st::Η) (T8 t u):=by
 intro δ s σ H D I h;refine wpAny_execs_cons (bx (h1 δ s σ H {D with nx:=u D} I h) λf s1 q=> ?_);cases f with
 | next=>
  obtain ⟨σ',H',I',q⟩:=q;exact h2 δ s1 σ' H' D I' q
 | ret v=>exact q
 | brk=>exact q
 | cont=>exact q
theorem IK(h1:PS X st t):CK X [st] t:=by
 intro δ s σ H D I h;refine wpAny_execs_cons (bx (h1 δ s σ H D I h) λf s1 q=> ?_);cases f with
 | next=>exact wpAny_execs_nil q
 | ret v=>exact q
 | brk=>exact q
 | cont=>exact q
theorem Inv.quiet{H:Hp}(I:Inv X δ σ H s):interactive X.env=false:=by simp [interactive,I.ok.kind]
def Of(te:TE):TS:=λD σ H=>te σ H λ_ H1=>D.nx σ H1
theorem IF(he:PE X e te)(hs:swapsWith e none pos.line X.env=pure false:=by rfl):PS X (.Expr e pos) (Of te):=by intro δ s σ H D I h;exact wpAny_Expr_any (bx (he δ s σ H _ I h) λv s1 ⟨x,H1,I1,r1,q1⟩=>⟨σ,H1,I1,q1⟩) I.quiet hs
def Tf(te:TE):TS:=λD σ H=>te σ H D.rt
theorem Ln(he:PE X e te):PS X (.Return (some e) pos) (Tf te):=by intro δ s σ H D I h;exact wpAny_Return_some (bx (he δ s σ H _ I h) λv s1 ⟨x,H1,I1,r1,q1⟩=>⟨x,σ,H1,I1,r1,q1⟩)
def Tn(c:TT)(t u:TS):TS:=λD σ H=>c σ H λb H1=>if b=true then t D σ H1 else u D σ H1
theorem Pk{a b:List Stmt}{tc:TT}(hc:PT X c tc)(ha:CK X a t)(hb:CK X b u):PS X (.If c a b pos) (Tn tc t u):=by
 intro δ s σ H D I h;refine wpAny_If (bx (hc δ s σ H _ I h) λd s1 ⟨H1,I1,q1⟩=> ?_);cases d with
 | true=>exact ha δ s1 σ H1 D I1 q1
 | false=>exact hb δ s1 σ H1 D I1 q1
end
abbrev TG:=V->St->Hp->(St->Hp->Prop)->Prop
abbrev Mw:=List V->St->Hp->(St->Hp->Prop)->Prop
def PG(X:Cx)(target:Expr)(t:TG):Prop:=
 ∀(δ:List (Addr×Obj)) (s:Shared) (σ:St) (H:Hp) (v:V) (u:Value) (Q:St->Hp->Prop),Inv X δ σ H s->ag v u->t v σ H Q->
  wpAny (model X.prog X.w) X.A (assign target X.env u) (λ_ s'=>∃σ' H',Inv X δ σ' H' s'/\Q σ' H') X.xe s
def Rk(X:Cx)(ts:List Expr)(t:Mw):Prop:=
 ∀(δ:List (Addr×Obj)) (s:Shared) (σ:St) (H:Hp) (vs:List V) (us:List Value) (Q:St->Hp->Prop),Inv X δ σ H s->ao vs us->t vs σ H Q->
  wpAny (model X.prog X.w) X.A (assignInOrder ((assignEach ts X.env).map (·.2)) us) (λ_ s'=>∃σ' H',Inv X δ σ' H' s'/\Q σ' H') X.xe s
section
def ie(i:Nat):TG:=λv σ H Q=>Q (σ.set i (some v)) H
theorem aw(hN:X.N.Nodup)(hi:X.N[i]? =some x)(hx:Loc X.env.scope x)(hf:X.fn x=true\/X.env.scope.names.lookup x=some .local:=by first | exact .inl rfl | exact .inr rfl | assumption):PG X (.Name x pos) (ie i):=by intro δ s σ H v u Q I r h;exact wpAny_assign_Name (lN I hN hi hx r (λs' I'=>⟨_,H,I',h⟩) hf)
def Hj:Mw:=λvs σ H Q=>vs=[]/\Q σ H
def nu(t:TG)(u:Mw):Mw:=λvs σ H Q=>∃v r,vs=v::r/\t v σ H λσ' H'=>u r σ' H' Q
theorem lV:Rk X [] Hj:=by intro δ s σ H vs us Q I r h;obtain ⟨e,h⟩:=h;subst e;cases r;exact assignInOrder_nil ⟨σ,H,I,h⟩
theorem cf{t:TG}{u:Mw}(h1:PG X e t)(h2:Rk X es u)
  (hs:(assignEach (e::es) X.env).map (·.2)=assign e X.env::(assignEach es X.env).map (·.2):=by rfl):Rk X (e::es) (nu t u):=by
 intro δ s σ H vs us Q I r h;obtain ⟨v,vr,e1,h⟩:=h;subst e1;cases r with
 | cons r rr=>
  rw [hs];refine assignInOrder_cons (bx (h1 δ s σ H _ _ _ I r h) λ_ s1 ⟨σ1,H1,I1,q1⟩=> ?_);exact h2 δ s1 σ1 H1 _ _ Q I1 rr q1
def G6(K:fv)(n:Nat)(t:Mw):TG:=λv σ H Q=>∃a xs,v= .ref a/\ju K H a xs/\xs.length=n/\t xs σ H Q
theorem qP{t:Mw}{n:Nat}(hc:X.calm=true)(h:Rk X es t)
  (hn:(assignEach es X.env).length=n:=by rfl) (B1:(assignEach es X.env).findIdx? (·.1)=none:=by rfl):PG X (.Tuple es k pos) (G6 X.K n t):=by
 intro δ s σ H v u Q I r hw;obtain ⟨a,xs,e1,hq,hl,hw⟩:=hw;subst e1;cases r;obtain ⟨its,rv,ht,hz⟩:=I.tuple hq;refine assign_Tuple_tuple (I.ok.hd hc) ht (by simp [hn,<-hl,rv.length]) B1 λh' hx=> ?_;have I1:Inv X δ σ H {s with heap:=h'}:=I.kept (t':=s.toks) λb o e=>hx b o (aaM (aat e)) e;exact h δ _ σ H xs _ Q I1 (by simpa using rv) hw
def NY(te:TE)(g:TG):TS:=λD σ H=>te σ H λx H1=>g x σ H1 D.nx
theorem C3{g:TG}(he:PE X e te)(hg:PG X tg g)(hs:swapsWithSole [tg] e pos.line X.env=pure false:=by rfl)(hw:swappedStores [tg] e X.env=pure none:=by rfl)
  (h1:(assignEach [tg] X.env).map (·.2)=[assign tg X.env]:=by rfl):PS X (.Assign [tg] e pos) (NY te g):=by
 intro δ s σ H D I h;refine wpAny_Assign_stores (bx (he δ s σ H _ I h) λv s1 ⟨x,H1,I1,r1,q1⟩=> ?_) hs hw;rw [h1];exact bx (hg δ s1 σ H1 x v _ I1 r1 q1) λ_ s2 q=>q
theorem Lj{pos':Pos}(hN:X.N.Nodup)(hi:X.N[i]? =some x)(hx:Loc X.env.scope x)(he:PE X e te)(hs:swapsWith e (some (.Name x pos')) pos.line X.env=pure false:=by rfl)(hf:X.fn x=true\/X.env.scope.names.lookup x=some .local:=by first | exact .inl rfl | exact .inr rfl | assumption):
  PS X (.Assign [.Name x pos'] e pos) (NY te (ie i)):=by
 intro δ s σ H D I h;refine wpAny_Assign_Name (bx (he δ s σ H _ I h) λv s1 ⟨y,H1,I1,r1,q1⟩=> ?_) hs;exact lN I1 hN hi hx r1 (λs2 I2=>⟨_,H1,I2,q1⟩) hf
def R4(i j:Nat)(ta:TA):TS:=λD σ H=>ta σ H λvs H1=>∃v w,vs=[v,w]/\D.nx ((σ.set i (some v)).set j (some w)) H1
theorem Nk{j:Nat}{y:Str}{a b:Expr}{ta:TA}{px py pt:Pos}{kt k2 Lq}(hc:X.calm=true)(hN:X.N.Nodup)(hi:X.N[i]? =some x)(hj:X.N[j]? =some y)(QC:i≠j)
  (hx:X.env.scope.names.lookup x=some .local) (hy:X.env.scope.names.lookup y=some .local) (ha:PA X [a,b] ta)
  (hw:swappedStores [.Tuple [.Name x px, .Name y py] kt pt] (.Tuple [a,b] k2 Lq) X.env=pure (some [x,y]))
  (hs:swapsWithSole [.Tuple [.Name x px, .Name y py] kt pt] (.Tuple [a,b] k2 Lq) pos.line X.env=pure false:=by rfl):
  PS X (.Assign [.Tuple [.Name x px, .Name y py] kt pt] (.Tuple [a,b] k2 Lq) pos) (R4 i j ta):=by
 intro δ s σ H D I h;rw [exec_Assign_arm];refine aab (wpAny_standAt ?_);rw [hs];refine aab (aae ?_);rw [aaA (by decide)];refine aab (Tuple_ (bx (ha _ δ s σ H _ I h) λus s1 ⟨vs,H1,I1,r1,q1⟩=> ?_));obtain ⟨v,w,e1,q1⟩:=q1;subst e1;obtain ⟨u1,u2,rfl,rv,uQ⟩:∃u1 u2,us=[u1,u2]/\ag v u1/\ag w u2:=by
  cases r1 with
  | cons p q=>
   cases q with
   | cons p' q'=>
    cases q';exact ⟨_,_,rfl,p,p'⟩
 refine wpAny_newObj_type ?_ fI;have I2:Inv X δ σ H1 {s1 with heap:=s1.heap.push {cls:= .type "tuple",data:= .seq [u1,u2].toArray}}:=I1.kept (t':=s1.toks) λb o e=>aah _ e;rw [hw];refine aab (aae ?_);show wpAny (model X.prog X.w) X.A (do rule "assign.swapped-stores";let items<-unpackItems (.ref s1.heap.objs.size) 2 none;assignInOrder [λv=>bindName X.env y v,λv=>bindName X.env x v] items.reverse;pure Flow.next) _ _ _;refine aab (wpAny_rule (aab (unpackItems_tuple (items:= #[u1,u2]) (I.ok.hd hc) (IsTup.new s1.heap _) λh' ZS=> ?_)));have I3:=I2.kept (h':=h') (t':=s1.toks) λb o e=>ZS b o (aaM (aat e)) e;show wpAny _ _ (assignInOrder [λv=>bindName X.env y v,λv=>bindName X.env x v] [u2,u1] >>= λ_=>pure Flow.next) _ _ _;refine aab (assignInOrder_cons (wpAny_bindName (lN I3 hN hj (.inl hy) uQ (λs2 I4=> ?_) (.inr hy))));refine assignInOrder_cons (wpAny_bindName (lN I4 hN hi (.inl hx) rv (λs3 I5=>assignInOrder_nil (aae ?_)) (.inr hx)));rw [List.set_comm _ _ (Ne.symm QC)] at I5;exact ⟨_,H1,I5,q1⟩
end
section
def MG(c:TT)(tb:TS):TS:=λD σ H=>∃W:Nat->St->Hp->Prop,(∃m,W m σ H)/\∀m σ H,W m σ H->
 c σ H λb H1=>if b=true then∃N:St->Hp->Prop,(∀σ' H',N σ' H'->∃m',m' < m/\W m' σ' H')/\tb {D with nx:=N,ct:=N,bk:=D.nx} σ H1 else D.nx σ H1
theorem CT{tc:TT}{tb:TS}(hp:PassesOwn (model X.prog X.w) X.A X.env X.xe)(hc:PT X c tc)(hb:CK X body tb):PS X (.While c body [] pos) (MG tc tb):=by
 intro δ s σ H D I h;obtain ⟨W,⟨m0,w0⟩,turn⟩:=h;refine wpAny_While (codeAny_whileLoop (λn s'=>∃σ' H',Inv X δ σ' H' s'/\W n σ' H') ?_ m0 ⟨σ,H,I,w0⟩);rintro n s1 ⟨σ1,H1,I1,w1⟩;refine wpAny_passesOwn hp (bx (hc δ s1 σ1 H1 _ I1 (turn n σ1 H1 w1)) λb s2 ⟨H2,I2,q2⟩=> ?_);cases b with
 | true=>
  obtain ⟨N,hN,q2⟩:=q2;rw [aaF rfl];refine wpAny_passesOwn hp (bx (hb δ s2 σ1 H2 _ I2 q2) λf s3 q3=> ?_);cases f with
  | next=>
   obtain ⟨σ3,H3,I3,n3⟩:=q3;obtain ⟨m',hm,w3⟩:=hN σ3 H3 n3;exact ⟨m',hm,σ3,H3,I3,w3⟩
  | cont=>
   obtain ⟨σ3,H3,I3,n3⟩:=q3;obtain ⟨m',hm,w3⟩:=hN σ3 H3 n3;exact ⟨m',hm,σ3,H3,I3,w3⟩
  | brk=>exact q3
  | ret v=>exact q3
 | false=>
  rw [aaA aau];exact wpAny_execs_nil ⟨σ1,H2,I2,q2⟩
end
structure It where
 go:Nat->Hp->Prop
 Qp:Nat->Hp->V->Hp->Prop
 stop:Nat->Hp->Prop
def rT(X:Cx)(δ:List (Addr×Obj))(H:Hp)(b:Addr):Prop:=
 H b=none/\b≠X.env.locals/\b∉X.fs/\(b∈X.ex\/X.s₀.heap.objs.size<=b)/\(∀x c,X.env.cells.lookup x=some c->c≠b)/\∀p∈X.pn++δ,p.1≠b
theorem Inv.yP{H H':Hp}(I:Inv X δ σ H s)(hb:s.heap.objs.size<=b)(hn:H' b=none):rT X δ H' b:=by
 refine ⟨hn,Nat.ne_of_gt (aaE I.lt hb),I.Ul hb, .inr (aax I.sz hb),λx c e z=> ?_,λp hp z=> ?_⟩
 ·obtain ⟨v,q⟩:=I.cell x c e;exact aaI (aaE q.lt (by rw [z];exact hb)) (abo _)
 ·exact aaI (aaE (aat (I.pin p hp).1) (by rw [z];exact hb)) (abo _)
structure si(P:Program)(w:World)(K:fv)(tg:Expr)(J:It)(fp:List Addr)(it:Addr)(tn:Nat->Heap->Prop):Prop where
 mem:it∈fp
 obj:∀i h,tn i h->∀b∈fp,∃o,h.get? b=some o/\∀v,o.data≠ .cell v
 keep:∀i h h',tn i h->(∀b∈fp,∀o,h.get? b=some o->h'.get? b=some o)->tn i h'
 item:∀(X:Cx),X.prog=P->X.w=w->X.K=K->X.calm=true->∀(i:Nat) (δ:List (Addr×Obj)) (s:Shared) (σ:St) (H:Hp) (E:Value->Shared->Prop),Inv X δ σ H s->(∀b∈fp,rT X δ H b)->tn i s.heap->J.go i H->
  wpAny (model P w) X.A (pyNext (.ref it)) (λr s1=>∃u,r=some u/\
   wpAny (model P w) X.A (letOwnedTupleGo tg (.ref it) u) (λ_ s2=>∃x H',Inv X δ σ H' s2/\ag x u/\J.Qp i H x H'/\tn (i+1) s2.heap/\∀b∈fp,H' b=none) E s1) E s
 done:∀(X:Cx),X.prog=P->X.w=w->X.K=K->X.calm=true->∀(i:Nat) (δ:List (Addr×Obj)) (s:Shared) (σ:St) (H:Hp) (E:Value->Shared->Prop),Inv X δ σ H s->(∀b∈fp,rT X δ H b)->tn i s.heap->J.stop i H->
  wpAny (model P w) X.A (pyNext (.ref it)) (λr s1=>r=none/\Inv X δ σ H s1) E s
 self:∀(A:Around) (i:Nat) (s:Shared) (Q:Value->Shared->Prop) (E:Value->Shared->Prop),tn i s.heap->Q (.ref it) s->wpAny (model P w) A (pyIter (.ref it)) Q E s
abbrev TI:=St->Hp->(It->Hp->Prop)->Prop
def Dy(X:Cx)(δ:List (Addr×Obj))(σ:St)(tg:Expr)(R:It->Hp->Prop)(QP:Value)(s2:Shared):Prop:=
 ∃(it:Addr) (fp:List Addr) (tn:Nat->Heap->Prop) (J:It) (H':Hp),QP= .ref it/\Inv X δ σ H' s2/\si X.prog X.w X.K tg J fp it tn/\tn 0 s2.heap/\(∀b∈fp,rT X δ H' b)/\R J H'
def PI(X:Cx)(tg iter:Expr)(wi:TI):Prop:=
 ∀(δ:List (Addr×Obj)) (s:Shared) (σ:St) (H:Hp) (R:It->Hp->Prop),Inv X δ σ H s->wi σ H R->
  wpAny (model X.prog X.w) X.A (eval iter X.env) (λv s1=>wpAny (model X.prog X.w) X.A (pyIter v) (Dy X δ σ tg R) X.xe s1) X.xe s
theorem pG   {E : Value -> Shared -> Prop}   {it : Addr}  {o : Obj} {n : String} {vs : Array Value} {Q : Unit -> Shared -> Prop} (ho : s.heap.get? it = some o) (hc : o.cls = .type n) (hd : o.data = .fields vs)
    (hn : ["enumerate", "zip", "dict_itemiterator", "dict_reverseitemiterator", "odict_iterator", "itertools.zip_longest", "itertools.pairwise"].contains n = false) (hQ : Q () s) : wpAny M A (letOwnedTupleGo tg (.ref it) u) Q E s := by
  unfold letOwnedTupleGo
  cases tg <;> first
    | exact aae hQ
    | (cases u <;> first
        | exact aae hQ
        | (refine aab (wpAny_load ho ?_)
           rw [hc, hd];show wpAny M A (if (["enumerate", "zip", "dict_itemiterator", "dict_reverseitemiterator", "odict_iterator", "itertools.zip_longest", "itertools.pairwise"].contains n && vs[0]? == some (rawInt _)) = true then _ else _) Q E s;rw [aaA (by intro h; rw [hn, Bool.false_and] at h; cases h)]
           exact aae hQ))
def QO(K:fv)(a:Addr):It:=
 ⟨λi H=>∃xs x,fm K H a xs/\xs[i]? =some x,λi H x H'=>H'=H/\∀xs,fm K H a xs->xs[i]? =some x,λi H=>∃xs,fm K H a xs/\xs.length<=i⟩
def RU(K:fv)(a:Addr):It:=
 ⟨λi H=>∃xs x,ju K H a xs/\xs[i]? =some x,λi H x H'=>H'=H/\∀xs,ju K H a xs->xs[i]? =some x,λi H=>∃xs,ju K H a xs/\xs.length<=i⟩
def Q3(lo:Int)(n:Nat):It:=⟨λi _=>i < n,λi H x H'=>H'=H/\x= .int (lo+i),λi _=>n<=i⟩
theorem Ce{K:fv}(a it:Addr):si P w K tg (QO K a) [it] it (λi h=>h.IsListIter it a i) where
 mem:=by simp
 obj:=λi h st b hb=>by
  have e:b=it:=by simpa using hb
  subst e;obtain ⟨o,e,c,d⟩:=st;exact ⟨o,e,λv z=>by rw [d] at z;cases z⟩
 keep:=λi h h' st k=>st.at λo e=>k it (by simp) o e
 item:=by intro X hP hw hK hc i δ s σ H E I hf st hg;subst hP hw hK;obtain ⟨xs,x,hq,hx⟩:=hg;obtain ⟨its,rv,p,hz⟩:=I.list hq;obtain ⟨u,hu,ru⟩:=rv.get hx;obtain ⟨f0,f1,f2,f3,f4,f5⟩:=hf it (by simp);refine wpAny_pyNext_list_item st p.isList (x:=u) (by simpa using hu) λh' oJ sb=> ?_;have I1:Inv X δ σ H {s with heap:=h'}:=I.turned (t':=s.toks) (λb o hb e=>(sb.2 b hb).trans e) f0 f1 f3 f4 f5;obtain ⟨o,e,c,d⟩:=id oJ;exact ⟨u,rfl,pG (s:={s with heap:=h'}) e c d (by decide) ⟨x,H,I1,ru,⟨rfl,λys hy=>by rw [I.cg hy hq];exact hx⟩,oJ,λb hb=>(hf b hb).1⟩⟩
 done:=by intro X hP hw hK hc i δ s σ H E I hf st hg;subst hP hw hK;obtain ⟨xs,hq,hx⟩:=hg;obtain ⟨its,rv,p,hz⟩:=I.list hq;obtain ⟨f0,f1,f2,f3,f4,f5⟩:=hf it (by simp);have hl:=rv.length;exact wpAny_pyNext_list_end (I.ok.hd hc) st p.isList (by simp;omega) λh' eb=>⟨rfl,I.turned (t':=s.toks) (λb o hb e=>eb b o hb e) f0 f1 f3 f4 f5⟩
 self:=λ_ _ _ _ _ st h=>wpAny_pyIter_listiter st h
theorem yn{K:fv}(a it:Addr):si P w K tg (RU K a) [it] it (λi h=>h.IsTupleIter it a i) where
 mem:=by simp
 obj:=λi h st b hb=>by
  have e:b=it:=by simpa using hb
  subst e;obtain ⟨o,e,c,d⟩:=st;exact ⟨o,e,λv z=>by rw [d] at z;cases z⟩
 keep:=λi h h' st k=>st.at λo e=>k it (by simp) o e
 item:=by intro X hP hw hK hc i δ s σ H E I hf st hg;subst hP hw hK;obtain ⟨xs,x,hq,hx⟩:=hg;obtain ⟨its,rv,p,hz⟩:=I.tuple hq;obtain ⟨u,hu,ru⟩:=rv.get hx;obtain ⟨f0,f1,f2,f3,f4,f5⟩:=hf it (by simp);refine wpAny_pyNext_tuple_item st (show s.heap.IsTuple a its.toArray from p) (x:=u) (by simpa using hu) λh' oJ sb=> ?_;have I1:Inv X δ σ H {s with heap:=h'}:=I.turned (t':=s.toks) (λb o hb e=>(sb.2 b hb).trans e) f0 f1 f3 f4 f5;obtain ⟨o,e,c,d⟩:=id oJ;exact ⟨u,rfl,pG (s:={s with heap:=h'}) e c d (by decide) ⟨x,H,I1,ru,⟨rfl,λys hy=>by rw [I.gs hy hq];exact hx⟩,oJ,λb hb=>(hf b hb).1⟩⟩
 done:=by intro X hP hw hK hc i δ s σ H E I hf st hg;subst hP hw hK;obtain ⟨xs,hq,hx⟩:=hg;obtain ⟨its,rv,p,hz⟩:=I.tuple hq;obtain ⟨f0,f1,f2,f3,f4,f5⟩:=hf it (by simp);have hl:=rv.length;exact wpAny_pyNext_tuple_end (I.ok.hd hc) st (show s.heap.IsTuple a its.toArray from p) (by simp;omega) λh' eb=>⟨rfl,I.turned (t':=s.toks) (λb o hb e=>eb b o hb e) f0 f1 f3 f4 f5⟩
 self:=λ_ _ _ _ _ st h=>wpAny_pyIter_tupleiter st h
theorem ym{K:fv}(it:Addr)(lo:Int)(n:Nat):si P w K tg (Q3 lo n) [it] it (λi h=>IsRangeIter h it (lo+(i:Nat) * 1) ((n:Int) - (i:Nat)) 1) where
 mem:=by simp
 obj:=λi h st b hb=>by
  have e:b=it:=by simpa using hb
  subst e
  exact ⟨_,st,λv z=>by
   have z':Data.fields _=Data.cell v:=z
   cases z'⟩
 keep:=λi h h' st k=>k it (by simp) _ st
 item:=by intro X hP hw hK hc i δ s σ H E I hf st hg;subst hP hw hK;obtain ⟨f0,f1,f2,f3,f4,f5⟩:=hf it (by simp);have W:=Walks.range (prog:=X.prog) (w:=X.w) (I.ok.hd hc) it lo 1 n;refine W.item i s _ _ hg st λv h' tk hv oJ kk=> ?_;obtain ⟨t,rfl⟩:=hv;have I1:Inv X δ σ H {s with heap:=h',toks:=tk}:=I.turned (λb o hb e=>kk b o (by simpa using hb) e) f0 f1 f3 f4 f5;refine ⟨_,rfl,pG (s:={s with heap:=h',toks:=tk}) (n:="range_iterator") oJ rfl rfl (by decide) ⟨.int (lo+i),H,I1,⟨t, ?_⟩,⟨rfl,rfl⟩,oJ,λb hb=>(hf b hb).1⟩⟩;rw [Int.mul_one]
 done:=by intro X hP hw hK hc i δ s σ H E I hf st hg;subst hP hw hK;obtain ⟨f0,f1,f2,f3,f4,f5⟩:=hf it (by simp);exact wpAny_pyNext_range_end (I.ok.hd hc) st (by have:n<=i:=hg;omega) λh' eb=>⟨rfl,I.turned (t':=s.toks) (λb o hb e=>eb b o hb e) f0 f1 f3 f4 f5⟩
 self:=λ_ _ _ _ _ st h=>wpAny_pyIter_rangeiter st h
section
theorem EI{H:Hp}{R:It->Hp->Prop}{lo hi:Int}{t u v:Tok}{tk:Nat}(I:Inv X δ σ H s)(h1: -(2 ^ 62)<=lo)(h2:lo < 2 ^ 62)(h3: -(2 ^ 62)<=hi)(h4:hi < 2 ^ 62)
  (q:R (Q3 lo (hi - lo).toNat) H):wpAny (model X.prog X.w) X.A (pyIter (.ref s.heap.objs.size)) (Dy X δ σ tg R) E {s with heap:=s.heap.push {cls:= .type "range",data:= .fields #[.int lo t, .int hi u, .int 1 v]},toks:=tk}:=by
 refine wpAny_pyIter_range (IsRange.new ..) (small_one h1 h2 h3 h4) ?_;have I1:Inv X δ σ H {s with heap:=s.heap.push {cls:= .type "range",data:= .fields #[.int lo t, .int hi u, .int 1 v]},toks:=tk}:=I.kept λb o e=>aah _ e
 refine ⟨(s.heap.push {cls:= .type "range",data:= .fields #[.int lo t, .int hi u, .int 1 v]}).objs.size,[(s.heap.push {cls:= .type "range",data:= .fields #[.int lo t, .int hi u, .int 1 v]}).objs.size],_,_,H,rfl,
  I1.kept (t':=tk) λb o e=>aah _ e,ym _ lo (hi - lo).toNat, ?_,λb hb=> ?_,q⟩
 ·have e1:lo+((0:Nat):Int) * 1=lo:=by simp
  have e2:(((hi - lo).toNat:Nat):Int) - ((0:Nat):Int)=Builtin.Range.rangeSize lo hi 1:=by rw [rangeSize_one];split <;> omega
  show IsRangeIter _ _ (lo+((0:Nat):Int) * 1) ((((hi - lo).toNat:Nat):Int) - ((0:Nat):Int)) 1;rw [e1,e2];exact aaw _ rfl
 ·have e:b=(s.heap.push {cls:= .type "range",data:= .fields #[.int lo t, .int hi u, .int 1 v]}).objs.size:=by simpa using hb
  subst e;exact I1.yP (aal _) (I1.aB.fresh (aal _))
def QF(ta:TA):TI:=λσ H R=>ta σ H λvs H1=>∃j:Int,vs=[.int j]/\ -(2 ^ 62)<=j/\j < 2 ^ 62/\R (Q3 0 j.toNat) H1
theorem B4{a:Expr}{ta:TA}{p:Pos}(hg:Gl X "range")(hm:X.mg "range"=none)(ha:PA X [a] ta)(hs:starEach [a] X.env=[(false,eval a X.env)]:=by rfl):PI X tg (.Call (.Name "range" p) [a] [] pos) (QF ta):=by
 intro δ s σ H R I h;refine Call_ (vH I hg hm boot_range (PyProof.Rows.callWith_type1 (bx (ha pos δ s σ H _ I h) λus s1 ⟨vs,H1,I1,r1,q1⟩=> ?_) hs rfl));obtain ⟨j,e,q1,q2,q⟩:=q1;subst e;cases r1 with
 | cons r rr=>
  cases rr;obtain ⟨t,rfl⟩:=r;exact call_range_1 (EI I1 (by omega) (by omega) q1 q2 (by simpa using q))
def RZ(wi:TI)(g:TG)(tb:TS):TS:=λD σ H=>wi σ H λJ H1=>∃W:Nat->Nat->St->Hp->Prop,(∃m,W 0 m σ H1)/\∀i m σ H,W i m σ H->
 (J.stop i H/\D.nx σ H)\/(J.go i H/\∃N:St->Hp->Prop,(∀σ' H',N σ' H'->∃m',m' < m/\W (i+1) m' σ' H')/\∀x H',J.Qp i H x H'->g x σ H' λσ2 H2=>tb {D with nx:=N,ct:=N,bk:=D.nx} σ2 H2)
def uk(fp:List Addr)(h:Heap):List (Addr×Obj):=fp.filterMap λb=>(h.get? b).map λo=>(b,o)
theorem dr{o:Obj}(hb:b∈fp)(e:h.get? b=some o):(b,o)∈uk fp h:=abX.mpr ⟨b,hb,by rw [e];rfl⟩
theorem Bt{p:Addr×Obj}(hp:p∈uk fp h):p.1∈fp/\h.get? p.1=some p.2:=by
 obtain ⟨b,hb,e⟩:=abX.mp hp;cases q:h.get? b with
 | none=>rw [q] at e;cases e
 | some o=>
  rw [q] at e;have e':(b,o)=p:=aaG e;subst e';exact ⟨hb,q⟩
theorem Inv.pinned{H:Hp}(I:Inv X δ σ H s)(hf:∀b∈fp,rT X δ H b)(ho:∀b∈fp,∃o,s.heap.get? b=some o/\∀v,o.data≠ .cell v):Inv X (δ++uk fp s.heap) σ H s:=
 I.AJ λp hp=>(aaL.mp hp).elim (λz=>I.pin p (aar _ z)) λz=>by obtain ⟨hb,e⟩:=Bt z;obtain ⟨f0,f1,f2,_⟩:=hf p.1 hb;obtain ⟨o,e',d⟩:=ho p.1 hb;rw [e] at e';cases e';exact ⟨e,f0,f1,f2,d⟩
theorem Inv.iE{pl:List (Addr×Obj)}{H:Hp}(I:Inv X (δ++pl) σ H s):Inv X δ σ H s:=I.AJ λp hp=>I.pin p (aar _ (aaH _ hp))
theorem Eo{iter:Expr}{wi:TI}{g:TG}{tb:TS}(hp:PassesOwn (model X.prog X.w) X.A X.env X.xe)(hc:X.calm=true)(hi:PI X tg iter wi)(hg:PG X tg g)(hb:CK X body tb)
  (hs:∀x,foldedSetIterable iter X.env x=pure x:=by intro _;rfl):PS X (.For tg iter body [] pos) (RZ wi g tb):=by
 intro δ s σ H D I h;refine wpAny_For (bx (hi δ s σ H _ I h) λv s1 h1=>bx h1 λQP s2 h2=> ?_) hs;obtain ⟨it,fp,tn,J,H2,e,I2,T,O4,f2,W,⟨m0,w0⟩,turn⟩:=h2;subst e;have Mm:∀{H':Hp},(∀b∈fp,H' b=none)->∀b∈fp,rT X δ H' b:=λhn b hb=>⟨hn b hb,(f2 b hb).2⟩;refine codeAny_forLoop_any (λn s'=>∃i σ' H',Inv X δ σ' H' s'/\tn i s'.heap/\(∀b∈fp,H' b=none)/\W i n σ' H') ?_ m0 ⟨0,σ,H2,I2,O4,λb hb=>(f2 b hb).1,w0⟩;rintro n s3 ⟨i,σ3,H3,I3,Va,U7,w3⟩;rcases turn i n σ3 H3 w3 with ⟨stop,qn⟩ | ⟨go,N,hN,step⟩
 ·refine wpAny_passesOwn hp (bx (T.done X rfl rfl rfl hc i δ s3 σ3 H3 X.xe I3 (Mm U7) Va stop) λr s4 ⟨hr,I4⟩=> ?_);subst hr;exact wpAny_execs_nil ⟨σ3,H3,I4,qn⟩
 ·refine wpAny_passesOwn hp (bx (T.item X rfl rfl rfl hc i δ s3 σ3 H3 X.xe I3 (Mm U7) Va go) λr s4 ⟨u,hr,h4⟩=> ?_);subst hr;refine wpAny_passesOwn hp (bx h4 λ_ s5 ⟨x,H5,I5,r5,y5,NV,Ru⟩=> ?_);have Wk:=I5.pinned (Mm Ru) (T.obj _ _ NV);refine wpAny_passesOwn hp (bx (hg _ s5 σ3 H5 x u _ Wk r5 (step x H5 y5)) λ_ s6 ⟨σ6,H6,I6,q6⟩=> ?_);refine wpAny_passesOwn hp (bx (hb _ s6 σ6 H6 _ I6 q6) λf s7 q7=> ?_);have again:∀{σ7:St} {H7:Hp},Inv X (δ++uk fp s5.heap) σ7 H7 s7->N σ7 H7->∃m,m < n/\∃i σ' H',Inv X δ σ' H' s7/\tn i s7.heap/\(∀b∈fp,H' b=none)/\W i m σ' H':=λ{σ7 H7} I7 n7=>by obtain ⟨m',hm,w7⟩:=hN σ7 H7 n7;refine ⟨m',hm,i+1,σ7,H7,I7.iE,T.keep _ _ _ NV λb hb o e=>(I7.pin (b,o) (aar _ (aar _ (dr hb e)))).1,λb hb=> ?_,w7⟩;obtain ⟨o,e,d⟩:=T.obj _ _ NV b hb;exact (I7.pin (b,o) (aar _ (aar _ (dr hb e)))).2.1
  cases f with
  | next=>obtain ⟨σ7,H7,I7,n7⟩:=q7;exact again I7 n7
  | cont=>obtain ⟨σ7,H7,I7,n7⟩:=q7;exact again I7 n7
  | brk=>obtain ⟨σ7,H7,I7,q7⟩:=q7;exact ⟨σ7,H7,I7.iE,q7⟩
  | ret v=>obtain ⟨x7,σ7,H7,I7,r7,q7⟩:=q7;exact ⟨x7,σ7,H7,I7.iE,r7,q7⟩
end
abbrev R2:=V->V->Hp->VK->Prop
def jj(X:Cx)(f:Value->Value->Sem Value)(r:R2):Prop:=
 ∀(δ:List (Addr×Obj)) (s:Shared) (σ:St) (H:Hp) (x y:V) (v u:Value) (Q:VK),Inv X δ σ H s->ag x v->ag y u->r x y H Q->
  wpAny (model X.prog X.w) X.A (f v u) (EP X δ σ Q) X.xe s
def Q4(X:Cx)(f:Value->Sem Value)(r:V->Hp->VK->Prop):Prop:=
 ∀(δ:List (Addr×Obj)) (s:Shared) (σ:St) (H:Hp) (x:V) (v:Value) (Q:VK),Inv X δ σ H s->ag x v->r x H Q->
  wpAny (model X.prog X.w) X.A (f v) (EP X δ σ Q) X.xe s
def cH(X:Cx)(f:Value)(r:List V->Hp->VK->Prop):Prop:=
 ∀(δ:List (Addr×Obj)) (s:Shared) (σ:St) (H:Hp) (xs:List V) (us:List Value) (Q:VK),Inv X δ σ H s->ao xs us->r xs H Q->
  wpAny (model X.prog X.w) X.A (call f us) (EP X δ σ Q) X.xe s
def OV(r:R2)(ta tb:TE):TE:=λσ H Q=>ta σ H λx H1=>tb σ H1 λy H2=>r x y H2 Q
def U5(r:V->Hp->VK->Prop)(ta:TE):TE:=λσ H Q=>ta σ H λx H1=>r x H1 Q
def rI(C:Int->Int->Prop)(g:Int->Int->V):R2:=λx y H Q=>∃i j,x= .int i/\y= .int j/\C i j/\Q (g i j) H
def By(g:Int->Int->V):R2:=λx y H Q=>∃i j,x= .int i/\y= .int j/\Q (g i j) H
def rU(g:Int->V):V->Hp->VK->Prop:=λx H Q=>∃i,x= .int i/\Q (g i) H
section
variable{a b:Expr}{tb tc:TE}
theorem L8(ha:PE X a ta)(hb:PE X b tb){H:Hp}{R:V->V->Hp->Prop}(I:Inv X δ σ H s)
  (h:ta σ H λx H1=>tb σ H1 λy H2=>R x y H2)
  (hf:∀v u s2 x y H2,Inv X δ σ H2 s2->ag x v->ag y u->R x y H2->wpAny (model X.prog X.w) X.A (f v u) Q X.xe s2):
  wpAny (model X.prog X.w) X.A (eval a X.env) (λv s₁=>wpAny (model X.prog X.w) X.A (eval b X.env) (λu s₂=>wpAny (model X.prog X.w) X.A (f v u) Q X.xe s₂) X.xe s₁) X.xe s:=by
 refine bx (ha δ s σ H _ I h) λv s1 ⟨x,H1,I1,r1,q1⟩=> ?_;refine bx (hb δ s1 σ H1 _ I1 q1) λu s2 ⟨y,H2,I2,r2,q2⟩=> ?_;exact hf v u s2 x y H2 I2 r1 r2 q2
theorem PL{op:Operator}{r:R2}(ho:jj X (binaryOp op) r)(ha:PE X a ta)(hb:PE X b tb):PE X (.BinOp a op b pos) (OV r ta tb):=by intro δ s σ H Q I h;exact wpAny_BinOp (L8 ha hb I h λv u s2 x y H2 I2 rx ry q=>ho δ s2 σ H2 x y v u Q I2 rx ry q)
theorem NX{op:UnaryOp}{r:V->Hp->VK->Prop}(ho:Q4 X (unaryOp op) r)(ha:PE X a ta):PE X (.UnaryOp op a pos) (U5 r ta):=by intro δ s σ H Q I h;exact UnaryOp_ (bx (ha δ s σ H _ I h) λv s1 ⟨x,H1,I1,r1,q1⟩=>ho δ s1 σ H1 x v Q I1 r1 q1)
theorem QR{C:Int->Int->Prop}{g:Int->Int->Int}
  (rule:∀(i j:Int) (t u:Tok) (s:Shared) (Q:Value->Shared->Prop) (E:Value->Shared->Prop),C i j->Q (.int (g i j) s.toks) {s with toks:=s.toks+1}->wpAny (model X.prog X.w) X.A (f (.int i t) (.int j u)) Q E s):
  jj X f (rI C λi j=> .int (g i j)):=by
 intro δ s σ H x y v u Q I rx ry h;obtain ⟨i,j,rfl,rfl,hc,q⟩:=h;obtain ⟨t,rfl⟩:=rx;obtain ⟨t',rfl⟩:=ry;exact rule i j t t' s _ _ hc ⟨.int (g i j),H,I.tok _,⟨_,rfl⟩,q⟩
theorem Pb{g:Int->Int->Int}
  (rule:∀(i j:Int) (t u:Tok) (s:Shared) (Q:Value->Shared->Prop) (E:Value->Shared->Prop),Q (.int (g i j) s.toks) {s with toks:=s.toks+1}->wpAny (model X.prog X.w) X.A (f (.int i t) (.int j u)) Q E s):
  jj X f (By λi j=> .int (g i j)):=by
 intro δ s σ H x y v u Q I rx ry h;obtain ⟨i,j,rfl,rfl,q⟩:=h;obtain ⟨t,rfl⟩:=rx;obtain ⟨t',rfl⟩:=ry;exact rule i j t t' s _ _ ⟨.int (g i j),H,I.tok _,⟨_,rfl⟩,q⟩
theorem IP{g:Int->Int->Bool}
  (rule:∀(i j:Int) (t u:Tok) (s:Shared) (Q:Value->Shared->Prop) (E:Value->Shared->Prop),Q (.bool (g i j)) s->wpAny (model X.prog X.w) X.A (f (.int i t) (.int j u)) Q E s):
  jj X f (By λi j=> .bl (g i j)):=by
 intro δ s σ H x y v u Q I rx ry h;obtain ⟨i,j,rfl,rfl,q⟩:=h;obtain ⟨t,rfl⟩:=rx;obtain ⟨t',rfl⟩:=ry;exact rule i j t t' s _ _ ⟨.bl (g i j),H,I,rfl,q⟩
def pR(i j:Int):Prop:=0<=j/\j<=1000000/\i.natAbs < 2 ^ 64
theorem Mc:jj X (binaryOp .Add) (By λi j=> .int (i+j)):=Pb λ_ _ _ _ _ _ _ q=>add_int q
theorem KS:jj X (binaryOp .Sub) (By λi j=> .int (i - j)):=Pb λ_ _ _ _ _ _ _ q=>sub_int q
theorem Me:jj X (binaryOp .Mod) (rI (λ_ j=>0 < j) λi j=> .int (i % j)):=QR λi j _ _ _ _ _ hc q=>by have h1:(0:Int) < j:=hc;exact mod_int' (by omega) (by rw [abu i (by omega)];exact q)
theorem Kl:jj X (binaryOp .Pow) (rI pR λi j=> .int (i ^ j.toNat)):=QR λ_ _ _ _ _ _ _ hc q=>pow_int_small hc.1 hc.2.1 hc.2.2 q
theorem W_{f:Value->Sem Value}{g:Int->Int}
  (rule:∀(i:Int) (t:Tok) (s:Shared) (Q:Value->Shared->Prop) (E:Value->Shared->Prop),Q (.int (g i) s.toks) {s with toks:=s.toks+1}->wpAny (model X.prog X.w) X.A (f (.int i t)) Q E s):
  Q4 X f (rU λi=> .int (g i)):=by
 intro δ s σ H x v Q I rx h;obtain ⟨i,rfl,q⟩:=h;obtain ⟨t,rfl⟩:=rx;exact rule i t s _ _ ⟨.int (g i),H,I.tok _,⟨_,rfl⟩,q⟩
theorem Li:Q4 X (unaryOp .USub) (rU λi=> .int (-i)):=W_ λ_ _ _ _ _ q=>neg_int q
end
def N4:V->V->Bool
 | .bV, .bV=>true | .bV, .int _=>true | .int _, .bV=>true | .bV, .bl _=>true | .bl _, .bV=>true | .bV, .str _=>true | .str _, .bV=>true
 | .int _, .int _=>true | .bl _, .bl _=>true | .str _, .str _=>true | .CJ _, .CJ _=>true
 | .int _, .str _=>true | .str _, .int _=>true | .bl _, .str _=>true | .str _, .bl _=>true
 | _,_=>false
def VC:R2:=λx y H Q=>N4 x y=true/\Q (.bl (decide (x=y))) H
def Vf:R2:=λx y H Q=>N4 x y=true/\Q (.bl (!decide (x=y))) H
theorem Aq{i j:Int}:decide (V.int i=V.int j)=(i==j):=by rw [abq];simp
theorem E3{i j:Bool}:decide (V.bl i=V.bl j)=(i==j):=by rw [abq];simp
theorem zR{i j:Str}:decide (V.str i=V.str j)=(i==j):=by rw [abq];simp
theorem AW{i j:Array UInt8}:decide (V.CJ i=V.CJ j)=(i.toList==j.toList):=by rw [abq];cases i;cases j;simp
section
variable{a b:Expr}{tb tc:TE}
theorem ay{H:Hp}{Q:VK}{k k':Bool}(I:Inv X δ σ H s)(q:Q (.bl k) H)(e:k=k'):EP X δ σ Q (.bool k') s:=by subst e;exact ⟨.bl k,H,I,rfl,q⟩
theorem Jp:jj X (compareOp .Eq) VC:=by
 intro δ s σ H x y v u Q I rx ry h;obtain ⟨hs,q⟩:=h;cases x with
 | bV=>
  cases rx;cases y with
  | bV=>cases ry;exact PySem.EqNone.eq_none_none (ay I q (by simp))
  | bl j=>cases ry;exact PySem.EqNone.eq_none_bool (ay I q (by simp))
  | int j=>obtain ⟨t',rfl⟩:=ry;exact PySem.EqNone.eq_none_int (ay I q (by simp))
  | str j=>obtain ⟨t',rfl⟩:=ry;exact PySem.EqNone.eq_none_str (ay I q (by simp))
  | _=>exact aaI (show false=true from hs) aau
 | bl i=>
  cases rx;cases y with
  | bV=>cases ry;exact PySem.EqNone.eq_bool_none (ay I q (by simp))
  | bl j=>cases ry;exact eq_bool (ay I q E3)
  | str j=>obtain ⟨t',rfl⟩:=ry;exact PySem.EqMixed.eq_bool_str (ay I q (by simp))
  | _=>exact aaI (show false=true from hs) aau
 | int i=>
  obtain ⟨t,rfl⟩:=rx;cases y with
  | bV=>cases ry;exact PySem.EqNone.eq_int_none (ay I q (by simp))
  | int j=>obtain ⟨t',rfl⟩:=ry;exact eq_int (ay I q Aq)
  | str j=>obtain ⟨t',rfl⟩:=ry;exact PySem.EqMixed.eq_int_str (ay I q (by simp))
  | _=>exact aaI (show false=true from hs) aau
 | str i=>
  obtain ⟨t,rfl⟩:=rx;cases y with
  | bV=>cases ry;exact PySem.EqNone.eq_str_none (ay I q (by simp))
  | bl j=>cases ry;exact PySem.EqMixed.eq_str_bool (ay I q (by simp))
  | int j=>obtain ⟨t',rfl⟩:=ry;exact PySem.EqMixed.eq_str_int (ay I q (by simp))
  | str j=>obtain ⟨t',rfl⟩:=ry;exact eq_str (ay I q zR)
  | _=>exact aaI (show false=true from hs) aau
 | CJ i=>
  obtain ⟨t,rfl⟩:=rx;cases y with
  | CJ j=>obtain ⟨t',rfl⟩:=ry;exact PySem.W.eq_bytes (ay I q AW)
  | _=>exact aaI (show false=true from hs) aau
 | _=>cases y <;> exact aaI (show false=true from hs) aau
theorem O_:jj X (compareOp .NotEq) Vf:=by
 intro δ s σ H x y v u Q I rx ry h;obtain ⟨hs,q⟩:=h;cases x with
 | bV=>
  cases rx;cases y with
  | bV=>cases ry;exact PySem.EqNone.ne_none_none (ay I q (by simp))
  | bl j=>cases ry;exact PySem.EqNone.ne_none_bool (ay I q (by simp))
  | int j=>obtain ⟨t',rfl⟩:=ry;exact PySem.EqNone.ne_none_int (ay I q (by simp))
  | str j=>obtain ⟨t',rfl⟩:=ry;exact PySem.EqNone.ne_none_str (ay I q (by simp))
  | _=>exact aaI (show false=true from hs) aau
 | bl i=>
  cases rx;cases y with
  | bV=>cases ry;exact PySem.EqNone.ne_bool_none (ay I q (by simp))
  | bl j=>cases ry;exact ne_bool (ay I q (aa2 not E3))
  | str j=>obtain ⟨t',rfl⟩:=ry;exact PySem.EqMixed.ne_bool_str (ay I q (by simp))
  | _=>exact aaI (show false=true from hs) aau
 | int i=>
  obtain ⟨t,rfl⟩:=rx;cases y with
  | bV=>cases ry;exact PySem.EqNone.ne_int_none (ay I q (by simp))
  | int j=>obtain ⟨t',rfl⟩:=ry;exact ne_int (ay I q (aa2 not Aq))
  | str j=>obtain ⟨t',rfl⟩:=ry;exact PySem.EqMixed.ne_int_str (ay I q (by simp))
  | _=>exact aaI (show false=true from hs) aau
 | str i=>
  obtain ⟨t,rfl⟩:=rx;cases y with
  | bV=>cases ry;exact PySem.EqNone.ne_str_none (ay I q (by simp))
  | bl j=>cases ry;exact PySem.EqMixed.ne_str_bool (ay I q (by simp))
  | int j=>obtain ⟨t',rfl⟩:=ry;exact PySem.EqMixed.ne_str_int (ay I q (by simp))
  | str j=>obtain ⟨t',rfl⟩:=ry;exact ne_str (ay I q (aa2 not zR))
  | _=>exact aaI (show false=true from hs) aau
 | CJ i=>
  obtain ⟨t,rfl⟩:=rx;cases y with
  | CJ j=>obtain ⟨t',rfl⟩:=ry;exact PySem.W.ne_bytes (ay I q (aa2 not AW))
  | _=>exact aaI (show false=true from hs) aau
 | _=>cases y <;> exact aaI (show false=true from hs) aau
theorem JN:jj X (compareOp .Lt) (By λi j=> .bl (decide (i < j))):=IP λ_ _ _ _ _ _ _ q=>lt_int q
theorem OL:jj X (compareOp .LtE) (By λi j=> .bl (decide (i<=j))):=IP λ_ _ _ _ _ _ _ q=>le_int q
theorem PU:jj X (compareOp .Gt) (By λi j=> .bl (decide (j < i))):=IP λ_ _ _ _ _ _ _ q=>gt_int q
theorem Ol:jj X (compareOp .GtE) (By λi j=> .bl (decide (j<=i))):=IP λ_ _ _ _ _ _ _ q=>ge_int q
theorem jj.or{r r':R2}(h:jj X f r)(h':jj X f r'):jj X f (λx y H Q=>r x y H Q\/r' x y H Q):=by
 intro δ s σ H x y v u Q I rx ry q;rcases q with q | q
 ·exact h δ s σ H x y v u Q I rx ry q
 ·exact h' δ s σ H x y v u Q I rx ry q
theorem iT(b:Expr)(h:op≠ .In:=by decide)(h2:op≠ .NotIn:=by decide):behindInMarks op b=false:=by
 have e1:(op==CmpOp.In)=false:=by cases op <;> first | rfl | exact aaI rfl h
 have e2:(op==CmpOp.NotIn)=false:=by cases op <;> first | rfl | exact aaI rfl h2
 cases b <;> simp [behindInMarks,e1,e2]
theorem Hg{r:R2}(ho:jj X (compareOp op) r)(ha:PE X a ta)(hb:PE X b tb)(hm:behindInMarks op b=false):PE X (.Compare a [op] [b] pos) (OV r ta tb):=by intro δ s σ H Q I h;exact wpAny_Compare1 (L8 ha hb I h λv u s2 x y H2 I2 rx ry q=>ho δ s2 σ H2 x y v u Q I2 rx ry q) hm
def N7(t:TE):TT:=λσ H Q=>t σ H λx H'=>∃k,x= .bl k/\Q k H'
theorem Ik{r:R2}(ho:jj X (compareOp op) r)(ha:PE X a ta)(hb:PE X b tb)(hm:behindInMarks op b=false):PT X (.Compare a [op] [b] pos) (N7 (OV r ta tb)):=by
 intro δ s σ H Q I h
 refine wpAny_isTrue_Compare1 (bx (ha δ s σ H _ I h) λv s1 ⟨x,H1,I1,r1,q1⟩=>bx (hb δ s1 σ H1 _ I1 q1) λu s2 ⟨y,H2,I2,r2,q2⟩=>
  bx (ho δ s2 σ H2 x y v u _ I2 r1 r2 q2) λc s3 ⟨z,H3,I3,r3,k,e,q3⟩=> ?_) hm
 subst e;cases r3;exact wpAny_truthy_bool ⟨H3,I3,q3⟩
theorem qJ:(sizeLine:Nat) < 2 ^ 63:=by rw [sizeLine_eq];decide
theorem y4:jj X (binaryOp .Add) (λx y H Q=>∃i j,x= .str i/\y= .str j/\i.length+j.length<=sizeLine/\Q (.str (i++j)) H):=by intro δ s σ H x y v u Q I rx ry h;obtain ⟨i,j,rfl,rfl,hz,q⟩:=h;obtain ⟨t,rfl⟩:=rx;obtain ⟨t',rfl⟩:=ry;exact add_str (λt' tk=>⟨.str (i++j),H,I.tok _,⟨_,rfl⟩,q⟩) hz
theorem gF{x:V}(r:ao [x] us):∃u,us=[u]/\ag x u:=by
 cases r with
 | cons r1 r2=>cases r2;exact ⟨_,rfl,r1⟩
theorem Ew:cH X (.builtin "abs") (λxs H Q=>∃i,xs=[.int i]/\Q (.int (if i < 0 then -i else i)) H):=by intro δ s σ H xs us Q I r h;obtain ⟨i,rfl,q⟩:=h;obtain ⟨u,rfl,t,rfl⟩:=gF r;exact call_abs_int λu tk=>⟨.int (if i < 0 then -i else i),H,I.tok _,⟨_,rfl⟩,q⟩
end
structure zm(h:Heap)(x dx C:Addr)(mA:Str->Option Value):Prop where
 obj:h.get? x=some (PySem.W.instObj C dx)
 ns:h.Ns1 dx mA
 ne:dx≠x
theorem Cf(n:h.Ns1 dx mA):∃od,h.get? dx=some od/\∀name,PySem.W.lookIn name od=some (mA name):=by
 obtain ⟨o,es,ep,ho,hd,hk,_,hm⟩:=n;refine ⟨o,ho,λname=> ?_⟩;have e:=hm name;unfold nsFind findBy at e;rw [<-Array.find?_toList] at e;unfold PySem.W.lookIn;rw [hd];dsimp only;split
 ·rename_i y q;rw [q] at e;exact aa2 some e
 ·rename_i q;rw [q] at e;have a:es.toList.any (·.refKey)=false:=by rw [List.any_eq_false];intro y hy;obtain ⟨z,t,rH⟩:=hk y (Array.mem_toList_iff.mp hy);simp [DictEntry.refKey,rH]
  have a':¬es.toList.any (·.refKey)=true:=by rw [a];exact aau
  rw [aaA a'];exact aa2 some e
theorem zm.look{x:Addr}(I:zm h x dx C mA):∃od,PySem.W.InstAt h x (PySem.W.instObj C dx) C (some od)/\∀name,PySem.W.lookIn name od=some (mA name):=
 let ⟨od,ho,hl⟩:=Cf I.ns
 ⟨od,⟨I.obj,rfl,rfl,ho⟩,hl⟩
section
variable{K:fv}{x f:Addr}{name:Str}{v:Value}
theorem Jd{expr:Bool}(X:K.In s.heap)(I:zm s.heap x dx C mA)(hg:PySem.W.plainGet K C name=true)(hh:PySem.W.hasDictIn K C=true)
  (ha:PySem.W.findIn K (.ref C) name=some none) (hv:mA name=some v) (AV:PySem.W.handedIn v=true) (h:Q v {s with toks:=s.toks+1}):
  wpAny (model prog w) A (getAttr (.ref x) name expr) Q E s:=by
 obtain ⟨od,J,hl⟩:=I.look;exact PySem.W.get_value X J (PySem.W.plainGet_of hg).1 (PySem.W.findObj_own hh ha rfl (by rw [hl,hv])) AV h
theorem Es{pl:Sem Bool}{Q:Value×List Value->Shared->Prop}(X:K.In s.heap)(I:zm s.heap x dx C mA)(hg:PySem.W.plainGet K C name=true)
  (hf:PySem.W.findIn K (.ref C) name=some (some (.ref f))) (ht:PySem.W.isFn K (.ref f)=true) (hv:mA name=none) (h:Q (.ref f,[.ref x]) s):
  wpAny (model prog w) A (getMethod (.ref x) name pl) Q E s:=by
 obtain ⟨od,J,hl⟩:=I.look;exact PySem.W.method_fn X J (PySem.W.plainGet_of hg).1 (PySem.W.plainGet_of hg).2 hf (beq_iff_eq.mp ht) (by show (PySem.W.lookIn name od).map (·.isSome)=some false;rw [hl,hv];rfl) h
theorem Hv{ns:List Str}{Q:Unit->Shared->Prop}(X:K.In s.heap)(I:zm s.heap x dx C mA)
  (hs:PySem.W.findIn K (.ref C) "__setattr__"=some (some (.builtin "object.__setattr__"))) (hp:PySem.W.plainOver K C=true) (ht:PySem.W.takerIn K C name=some none) (hh:PySem.W.hasDictIn K C=true)
  (hw:PySem.Within mA ns) (hsz:ns.length<=sizeLine)
  (h:∀h',zm h' x dx C (λy=>if y=name then some v else mA y)->Heap.SameBut dx s.heap h'->Q () {s with heap:=h',toks:=s.toks+2}):
  wpAny (model prog w) A (setAttr (.ref x) name v) Q E s:=by
 obtain ⟨od,J,hl⟩:=I.look;refine PySem.W.set_plain X J hs (PySem.W.osa_open (s:={s with toks:=s.toks+1}) (r:=none) X J hp ht λb=> ?_);obtain ⟨cd,hc,df⟩:=PySem.W.any_some hh;have hx:s.heap.get? x=some ⟨.ref C,some dx, .plain, #[]⟩:=I.obj;refine aab (aae (aab (aab (wpAny_loadPart hx (aab (PySem.W.Looks.here (s:={s with toks:=s.toks+1}) (PySem.W.looks_clsIn X hc) ?_))))));rw [df];refine aae (a:=some dx) (aab (aae (aab ?_)));refine wpAny_nsSet1 (s:={s with toks:=s.toks+1}) I.ns λh' NJ VT=> ?_;obtain ⟨oD,Z4,epD,XG,ZD,Zv⟩:=NJ.count (PySem.Within.cons name v hw);refine aab (wpAny_lookBehind XG (by rw [ZD];exact pastItsLine_dict (aax Zv (by rw [aaO];omega))) ?_);exact aae (h _ ⟨(VT.2 _ (Ne.symm I.ne)).trans I.obj,NJ,I.ne⟩ VT)
theorem E1{R:Result->Shared->Prop}{vs:List Value}(X:K.In s.heap)(hm:PySem.W.makesIn K C=true)
  (hi:PySem.W.findIn K (.ref C) "__init__"=some (some (.ref f))) (hf:PySem.W.typeIn K (.ref f)=some (.type "function"))
  (h:codeAny (model prog w) (A.under (.builtin "type.__call__" ⟨.ref C::vs,kw⟩)) (.call (.ref f) ⟨.ref (s.heap.objs.size+1)::vs,kw⟩) (PySem.W.InitBack (s.heap.objs.size+1) R)
   {s with heap:=(s.heap.push PySem.W.emptyDict).push (PySem.W.instObj C s.heap.objs.size)}):
  codeAny (model prog w) A (.call (.ref C) ⟨vs,kw⟩) R s:=by
 obtain ⟨hh,g,d,t,os⟩:=s;exact PySem.W.make_core (PySem.W.makes_of X hm) (PySem.W.looks_findIn X hi) (λself=>PySem.W.bind_fn X self hf) (.inl rfl) h
end
def ir(f:Str)(v:V):List (Str×V)->List (Str×V)
 | []=>[(f,v)]
 | (g,x)::r=>if g=f then (g,v)::r else (g,x)::ir f v r
theorem nM(f g:Str)(v:V):∀fs:List (Str×V),(ir f v fs).lookup g=if g=f then some v else fs.lookup g
 | []=>by
  show List.lookup g [(f,v)]=_;by_cases h:g=f
  ·have hb:(g==f)=true:=beq_iff_eq.mpr h;simp only [List.lookup,hb,if_pos h]
  ·have hb:(g==f)=false:=beq_eq_false_iff_ne.mpr h;simp only [List.lookup,hb,if_neg h]
 | (k,x)::r=>by
  have ih:=nM f g v r;rw [show ir f v ((k,x)::r)=(if k=f then (k,v)::r else (k,x)::ir f v r) from rfl];by_cases hk:k=f
  ·rw [aaF hk];by_cases h:g=k
   ·have hb:(g==k)=true:=beq_iff_eq.mpr h;simp only [List.lookup,hb,if_pos (h.trans hk)]
   ·have hb:(g==k)=false:=beq_eq_false_iff_ne.mpr h;simp only [List.lookup,hb,if_neg (λe:g=f=>h (e.trans hk.symm))]
  ·rw [aaA hk];by_cases h:g=k
   ·have hb:(g==k)=true:=beq_iff_eq.mpr h;simp only [List.lookup,hb,if_neg (λe:g=f=>hk (h.symm.trans e))]
   ·have hb:(g==k)=false:=beq_eq_false_iff_ne.mpr h;simp only [List.lookup,hb];exact ih
theorem mZ(f:Str)(v:V):∀fs:List (Str×V),f∈(ir f v fs).map (·.1)/\∀g,g∈fs.map (·.1)->g∈(ir f v fs).map (·.1)
 | []=>⟨by simp [ir],λg h=>by simp at h⟩
 | (k,x)::r=>by
  obtain ⟨i1,i2⟩:=mZ f v r;rw [show ir f v ((k,x)::r)=(if k=f then (k,v)::r else (k,x)::ir f v r) from rfl];by_cases hk:k=f
  ·rw [aaF hk];subst hk;exact ⟨by simp,λg h=>by simpa using h⟩
  ·rw [aaA hk];refine ⟨?_,λg h=> ?_⟩
   ·rw [aav];exact aag _ i1
   ·rw [aav] at h⊢;rcases aaB.mp h with e | e
    ·exact aaB.mpr (.inl e)
    ·exact aag _ (i2 g e)
theorem nH(f:Str)(v:V):∀fs:List (Str×V),(ir f v fs).length<=fs.length+1
 | []=>by simp [ir]
 | (k,x)::r=>by
  have ih:=nH f v r;rw [show ir f v ((k,x)::r)=(if k=f then (k,v)::r else (k,x)::ir f v r) from rfl];by_cases hk:k=f
  ·rw [aaF hk,aaO,aaO];omega
  ·rw [aaA hk,aaO,aaO];omega
theorem fZ.some_of{o:Option Value}(r:fZ (some v) o):∃u,o=some u/\ag v u:=by
 cases o with
 | none=>exact (show False from r).elim
 | some u=>exact ⟨u,rfl,r⟩
theorem fZ.none_of{o:Option Value}(r:fZ none o):o=none:=by
 cases o with
 | none=>rfl
 | some u=>exact (show False from r).elim
theorem BE(r:ag v u):PySem.W.handedIn u=true:=by
 cases v with
 | bV=>cases (show u=Value.none from r);rfl
 | bl b=>cases (show u=Value.bool b from r);rfl
 | int i=>obtain ⟨t,e⟩:=(show∃t,u=Value.int i t from r);cases e;rfl
 | str x=>obtain ⟨t,e⟩:=(show∃t,u=Value.str x t from r);cases e;rfl
 | CJ b=>obtain ⟨t,e⟩:=(show∃t,u=Value.bytes b t from r);cases e;rfl
 | Rt b=>obtain ⟨t,e⟩:=(show∃t,u=Value.float b t from r);cases e;rfl
 | ref a=>cases (show u=Value.ref a from r);rfl
 | ty n=>cases (show u=Value.type n from r);rfl
section
variable{H H':Hp}{fs TX:List (Str×V)}
theorem ur(aB:iL P w H h)(e:H a=some (.ins C dx fs)):∃mA,zm h a dx C mA/\(∀f,fZ (fs.lookup f) (mA f))/\PySem.Within mA (fs.map (·.1))/\fs.length<=1000/\H dx=some (.own a):=by obtain ⟨d,z,ne,ob,mA,n,r,q⟩:=(show bh P w H h a (.ins C dx fs) from aB a _ e);exact ⟨mA,⟨ob,n,ne⟩,r,q,z,d⟩
end
structure BJ(K:fv)(C:Addr):Prop where
 pg:PySem.W.plainGet K C Str.empty=true
 hd:PySem.W.hasDictIn K C=true
 po:PySem.W.plainOver K C=true
 sa:PySem.W.findIn K (.ref C) "__setattr__"=some (some (.builtin "object.__setattr__"))
theorem BJ.get{K:fv}{C:Addr}(c:BJ K C)(f:Str):PySem.W.plainGet K C f=true:=c.pg
def fT(K:fv)(C:Addr)(f:Str):Prop:=PySem.W.findIn K (.ref C) f=some none
theorem fT.NW{K:fv}{f:Str}(n:fT K C f):PySem.W.takerIn K C f=some none:=by unfold PySem.W.takerIn;rw [show PySem.W.findIn K (.ref C) f=some none from n];rfl
structure Je(K:fv)(C:Addr)(m:Str)(f:Addr):Prop where
 at_:PySem.W.findIn K (.ref C) m=some (some (.ref f))
 fn:PySem.W.isFn K (.ref f)=true
 kp:PySem.W.keepIn K (.ref f)=true
section
variable{H:Hp}{fs:List (Str×V)}{f:Str}
theorem zt{b:Bool}(I:Inv X δ σ H s)(e:H a=some (.ins C dx fs))(c:BJ X.K C)(n:fT X.K C f)(l:fs.lookup f=some v)
  (h:∀u s',Inv X δ σ H s'->ag v u->Q u s'):wpAny (model X.prog X.w) A (getAttr (.ref a) f b) Q E s:=by
 obtain ⟨mA,O,r,_,_,_⟩:=ur I.aB e;obtain ⟨u,hu,ru⟩:=fZ.some_of (v:=v) (o:=mA f) (by rw [<-l];exact r f);exact Jd I.z5 O (c.get f) c.hd n hu (BE ru) (h u _ (I.tok _) ru)
theorem qG{m:Str}{g:Addr}{pl:Sem Bool}{Q:Value×List Value->Shared->Prop}(I:Inv X δ σ H s)(e:H a=some (.ins C dx fs))(c:BJ X.K C)(k:Je X.K C m g)(l:fs.lookup m=none)
  (h:Q (.ref g,[.ref a]) s):wpAny (model X.prog X.w) A (getMethod (.ref a) m pl) Q E s:=by
 obtain ⟨mA,O,r,_,_,_⟩:=ur I.aB e;have hn:mA m=none:=fZ.none_of (by rw [<-l];exact r m);exact Es I.z5 O (c.get m) k.at_ k.fn hn h
theorem yt{y:V}{Q:Unit->Shared->Prop}(I:Inv X δ σ H s)(e:H a=some (.ins C dx fs))(c:BJ X.K C)(n:fT X.K C f)(hl:fs.length < 1000)(ry:ag y u)
  (h:∀s',Inv X δ σ (upd H a (.ins C dx (ir f y fs))) s'->Q () s'):wpAny (model X.prog X.w) A (setAttr (.ref a) f u) Q E s:=by
 obtain ⟨mA,O,r,wi,_,ho⟩:=ur I.aB e;have hz:(fs.map (·.1)).length<=sizeLine:=by rw [aac,sizeLine_eq];omega
 refine Hv I.z5 O c.sa c.po n.NW c.hd wi hz λh' O' sb=>h _ ?_;have hd:∃o,h'.get? dx=some o:=let ⟨o,_,_,e',_⟩:=O'.ns;⟨o,e'⟩
 refine I.write (x:=a) (e:=dx) (by rw [e];exact True.intro) (.inr ho) (λb q hb z=>(sb.2 b hb).trans z) hd ?_;refine ⟨by rw [Ζ O.ne];exact ho, ?_,O.ne,O'.obj,_,O'.ns,λg=> ?_,λg hg=> ?_⟩
 ·have:=nH f y fs;omega
 ·show fZ ((ir f y fs).lookup g) (if g=f then some u else mA g);rw [nM];by_cases q:g=f
  ·rw [aaF q,aaF q];exact ry
  ·rw [aaA q,aaA q];exact r g
 ·by_cases q:g=f
  ·rw [q];exact (mZ f y fs).1
  ·refine (mZ f y fs).2 g (wi g λz=>hg ?_);show (if g=f then some u else mA g)=none;rw [aaA q];exact z
theorem Inv.made(I:Inv X δ σ H s):Inv X δ σ (upd (upd H s.heap.objs.size (.own (s.heap.objs.size+1))) (s.heap.objs.size+1) (.ins C s.heap.objs.size []))
  {s with heap:=(s.heap.push PySem.W.emptyDict).push (PySem.W.instObj C s.heap.objs.size)}:=by
 have e1:(s.heap.push PySem.W.emptyDict).get? s.heap.objs.size=some PySem.W.emptyDict:=aaw s.heap rfl;have e2:((s.heap.push PySem.W.emptyDict).push (PySem.W.instObj C s.heap.objs.size)).get? (s.heap.objs.size+1)=some (PySem.W.instObj C s.heap.objs.size):=by have:=aaw (s.heap.push PySem.W.emptyDict) (o:=PySem.W.instObj C s.heap.objs.size) rfl;rwa [Heap.size_push] at this
 have e3:(s.heap.push PySem.W.emptyDict).Ns s.heap.objs.size (λ_=>none):=⟨PySem.W.emptyDict, #[],_,e1,rfl,(λe he=>absurd he (by simp)),λ_=>rfl⟩;have I1:=I.laid (a:=s.heap.objs.size) (o:= .own (s.heap.objs.size+1)) (h':=s.heap.push PySem.W.emptyDict) (t':=s.toks) (λb u q=>aah _ q) (aal _) ⟨_,e1⟩;refine I1.laid (a:=s.heap.objs.size+1) (o:= .ins C s.heap.objs.size []) (t':=s.toks) (λb u q=>aah _ q) (Nat.le_of_eq (Heap.size_push _ _)) ?_;have ne:s.heap.objs.size≠s.heap.objs.size+1:=aaM (Nat.lt_succ_self _);refine ⟨by rw [Ζ ne,Τ],abA _,ne,e2,λ_=>none,(Heap.Ns1.of_empty e3).at λo q=>aah _ q,λ_=>True.intro,λy hy=>aaI rfl hy⟩
theorem HZ{env:Env}{f:Str}(hb:attributeBase e f env (eval e env)=eval e env)
  (h:wpAny (model prog w) A (eval e env) (λo s₁=>wpAny (model prog w) A (getAttr o f true) Q E s₁) E s):wpAny (model prog w) A (eval (.Attribute e f pos) env) Q E s:=
 Attribute_any_ h (by rw [arm_eval_Attribute,hb])
end
def Ta(K:fv)(ta:TE)(f:Str):TE:=λσ H Q=>ta σ H λx H1=>∃a C dx fs v,x= .ref a/\H1 a=some (.ins C dx fs)/\BJ K C/\fT K C f/\fs.lookup f=some v/\Q v H1
def R8(K:fv)(ta tv:TE)(f:Str):TS:=λD σ H=>tv σ H λy H1=>ta σ H1 λx H2=>∃a C dx fs,x= .ref a/\H2 a=some (.ins C dx fs)/\BJ K C/\fT K C f/\fs.length < 1000/\
 D.nx σ (upd H2 a (.ins C dx (ir f y fs)))
section
variable{o value:Expr}{f:Str}{pos' K_:Pos}{tv:TE}
theorem Ll(he:PE X e ta)(hb:attributeBase e f X.env (eval e X.env)=eval e X.env):PE X (.Attribute e f pos) (Ta X.K ta f):=by intro δ s σ H Q I h;refine HZ hb (bx (he δ s σ H _ I h) λu s1 ⟨x,H1,I1,rx,a,C,dx,fs,v,ex,ea,c,n,l,q⟩=> ?_);subst ex;obtain rfl:u=Value.ref a:=rx;exact zt I1 ea c n l λu' s2 I2 ru=>⟨v,H1,I2,ru,q⟩
theorem Mx(ha:PE X o ta)(hv:PE X value tv)(hs:swapsWith value (some (.Attribute o f pos')) pos.line X.env=pure false):PS X (.Assign [.Attribute o f pos'] value pos) (R8 X.K ta tv f):=by intro δ s σ H D I h;refine plainObj_wpAny_Assign_Attribute (bx (hv δ s σ H _ I h) λu s1 ⟨y,H1,I1,ry,q⟩=>bx (ha δ s1 σ H1 _ I1 q) λov s2 ⟨x,H2,I2,rx,a,C,dx,fs,ex,ea,c,n,l,q2⟩=> ?_) hs;subst ex;obtain rfl:ov=Value.ref a:=rx;exact yt I2 ea c n l ry λs3 I3=>⟨σ,_,I3,q2⟩
end
structure bt(k:Nat)(A:Around):Prop where
 hd:A.handled=none
 dp:A.depth+3 * k+5 < recursionLimit
 un:A.units+16 * k+200 < cLine
theorem bt.mono{j:Nat}(r:bt k A)(h:j<=k):bt j A:=⟨r.hd,by have:=r.dp;omega,by have:=r.un;omega⟩
theorem bt.deeper(r:bt (k+1) A)(env:Env):bt k (A.deeper env):=
 ⟨r.hd,by have:=r.dp;show A.depth+1+3 * k+5 < _;omega,by have:=r.un;show A.units+3+16 * k+200 < _;omega⟩
theorem yN:(A.under (.builtin "type.__call__" ⟨.ref C::us,kw⟩)).depth=A.depth+1:=by
 first | rfl | simp [Around.under,Code.weight,Code.isCreation,Code.isGuard,Code.isCaller,Code.frames,Code.isFrame,guardIds]
theorem zL:(A.under (.builtin "type.__call__" ⟨.ref C::us,kw⟩)).units=A.units+1:=by
 first | rfl | simp [Around.under,Code.cUnits,Code.frames,Code.isFrame]
theorem bt.make(r:bt (k+1) A)(C:Addr)(us:List Value)(kw:List (Str×Value)):bt k (A.under (.builtin "type.__call__" ⟨.ref C::us,kw⟩)):=
 ⟨r.hd,by have:=r.dp;rw [yN];omega,by have:=r.un;rw [zL];omega⟩
theorem bt.depth(r:bt k A):A.depth < recursionLimit:=by have:=r.dp;omega
theorem bt.units(r:bt k A):A.units+64 < cLine:=by have:=r.un;omega
theorem bt.yY(r:bt k A):A.units < cLine:=by have:=r.un;omega
def OM:TA:=λ_ H Q=>Q [] H
def N6(ta:TE)(tr:TA):TA:=λσ H Q=>ta σ H λx H1=>tr σ H1 λxs H2=>Q (x::xs) H2
section
variable{t:TA}
theorem zf:PA X [] OM:=λ_ _ _ _ H Q I h=>Calls.spliced_nil ⟨[],H,I, .nil,h⟩
theorem vV(ha:PE X e te)(hr:PA X es t)(hs:starEach (e::es) X.env=(false,eval e X.env)::starEach es X.env:=by rfl):PA X (e::es) (N6 te t):=by intro pos δ s σ H Q I h;rw [hs];show wpAny _ _ (spliced ((false,eval e X.env)::backTo pos (starEach es X.env))) _ _ s;refine Calls.spliced_cons (bx (ha δ s σ H _ I h) λu s1 ⟨x,H1,I1,r1,q1⟩=> ?_);exact bx (hr pos δ s1 σ H1 _ I1 q1) λus s2 ⟨xs,H2,I2,r2,q2⟩=>⟨x::xs,H2,I2, .cons r1 r2,q2⟩
def SQ(t:TA):TE:=λσ H Q=>t σ H λxs H1=>xs.length<=sizeLine/\∀p,H1 p=none->Q (.ref p) (upd H1 p (.tup xs))
def Sj(t:TA):TE:=λσ H Q=>t σ H λxs H1=>xs.length<=sizeLine/\∀p,H1 p=none->Q (.ref p) (upd H1 p (.lst xs))
theorem Mg{x1}(h:PA X es t):PE X (.Tuple es x1 pos) (SQ t):=by intro δ s σ H Q I hq;refine wpAny_Tuple_spliced (bx (h pos δ s σ H _ I hq) λus s1 ⟨xs,H1,I1,r,z,q⟩=>⟨by rw [<-r.length];exact z, ?_⟩);have hf:H1 s1.heap.objs.size=none:=I1.aB.fresh (aal _);refine ⟨.ref s1.heap.objs.size,upd H1 s1.heap.objs.size (.tup xs),I1.laid (t':=s1.toks) (λb u e=>aah _ e) (aal _) ?_,rfl,q _ hf⟩;exact ⟨z,us,r,⟨_,aaw _ rfl,rfl,_,rfl⟩⟩
theorem FP(h:PA X es t):PE X (.List es pos) (Sj t):=by intro δ s σ H Q I hq;refine wpAny_List_spliced (bx (h pos δ s σ H _ I hq) λus s1 ⟨xs,H1,I1,r,z,q⟩=>⟨by rw [<-r.length];exact z, ?_⟩);have hf:H1 s1.heap.objs.size=none:=I1.aB.fresh (aal _);refine ⟨.ref s1.heap.objs.size,upd H1 s1.heap.objs.size (.lst xs),I1.laid (t':=s1.toks) (λb u e=>aah _ e) (aal _) ?_,rfl,q _ hf⟩;exact ⟨z,us,0,r,aaw _ rfl⟩
end
abbrev Sp:=List V->Hp->VK->XK->Prop
abbrev yb:=List Env->Hp->Shared->XK->Value->Shared->Prop
structure yD(P:Program)(w:World)(K:fv)(mg:Str->Option Value)(base:Heap)(A:Around)(outer:List Env)(s:Shared)(H:Hp):Prop where
 frames:A.frames=some outer
 mod:Mod K mg base
 bs:∀b o,base.get? b=some o->s.heap.get? b=some o/\H b=none
 NI:base.objs.size<=s.heap.objs.size
 rL:s.heap.FunFrames base outer
 Ob:∀b∈n8 outer,H b=none
 aB:iL P w H s.heap
 bare:AllBare s.gens
def CE(outer:List Env)(P:Program)(w:World)(H:Hp)(s:Shared)(Q:VK)(u:Value)(s':Shared):Prop:=
 ∃v H',s'.os=s.os/\AllBare s'.gens/\Un (n8 outer) [] H H' s.heap s'.heap/\iL P w H' s'.heap/\ag v u/\Q v H'
def CR(CX:yb)(outer:List Env)(P:Program)(w:World)(H:Hp)(s:Shared)(Q:VK)(E:XK)(r:Result)(s':Shared):Prop:=
 match r with
 | .ok (.ret u)=>CE outer P w H s Q u s'
 | .ok _=>False
 | .error e=>CX outer H s E e s'
structure aC(P:Program)(w:World)(K:fv)(mg:Str->Option Value)(base:Heap)(CX:yb)(k:Nat)(f:Addr)(fd:FuncData)(ps:List Str)(sp:Sp):Prop where
 len:∀vs H Q E,sp vs H Q E->vs.length=ps.length
 run:∀(A:Around) (outer:List Env) (s:Shared) (H:Hp) (args:Args) (us:List Value) (vs:List V) (Q:VK) (E:XK),bt k A->yD P w K mg base A outer s H->BindsTo s fd args (ps.zip us)->ao vs us->sp vs H Q E->
  codeAny (model P w) A (.call (.ref f) args) (CR CX outer P w H s Q E) s
theorem yD.make{K:fv}{H:Hp}(e:yD P w K mg base A outer s H)(C:Addr)(us:List Value)(kw:List (Str×Value)):
  yD P w K mg base (A.under (.builtin "type.__call__" ⟨.ref C::us,kw⟩)) outer s H:=⟨by first | exact e.frames | (simpa [Around.under,Code.envs,Code.isFrame,pushEnvs] using e.frames),e.mod,e.bs,e.NI,e.rL,e.Ob,e.aB,e.bare⟩
section
variable{H:Hp}{s':Shared}
theorem Inv.OU(I:Inv X δ σ H s):yD X.prog X.w X.K X.mg X.base X.A X.stack s H:=
 ⟨I.ok.frames,I.ok.mod,I.bs,aax I.ok.NI I.sz,I.stack,I.uR,I.aB,I.bare⟩
theorem Inv.after{Q:VK}(I:Inv X δ σ H s)(h:CE X.stack X.prog X.w H s Q u s'):EP X δ σ Q u s':=by obtain ⟨v,H',os,bare,un,aB,r,q⟩:=h;obtain ⟨hh,g,d,t,Ry⟩:=s';obtain rfl:Ry=s.os:=os;exact ⟨v,H',I.call (h':=hh) (g':=g) (d':=d) (t':=t) (ch:=[]) un aB bare (λb z=>absurd z (by simp)),r,q⟩
end
def ij(K:fv)(fd:FuncData)(ps:List Str)(ds:List Value):Prop:=
 ∀(s:Shared) (us:List Value),K.In s.heap->(us++ds).length=ps.length->BindsTo s fd ⟨us,[]⟩ (ps.zip (us++ds))
theorem ij.all{K:fv}{fd:FuncData}(h:∀us:List Value,us.length=ps.length->bindArgs fd ⟨us,[]⟩=pure (ps.zip us)):ij K fd ps []:=λs us _ hl=>by rw [aaW] at hl⊢;exact .of_eq (h us hl)
section
variable{CX:yb}{f:Addr}{fd:FuncData}{sp:Sp}{ow:List V}{ds:List Value}{E:XK}{m:Str}{p apos:Pos}{o:Expr}{t:TA}
structure Mk(K:fv)(C f:Addr):Prop where
 makes:PySem.W.makesIn K C=true
 init:PySem.W.findIn K (.ref C) "__init__"=some (some (.ref f))
 fn:PySem.W.isFn K (.ref f)=true
 kp:PySem.W.keepIn K (.ref C)=true
end
structure Δ(N P:List Str)(sc:Scope):Prop where
 kind:sc.kind= .function
 co:sc.isCoroutine=false
 gen:sc.isGenerator=false
 nd:N.Nodup
 pre:N.take P.length=P
 par:∀x∈P,sc.names.lookup x=some .local\/sc.names.lookup x=some .cell
 Nb:∀y∈sc.names,y.2≠ .free
theorem tO{kindOf:Str->Option NameKind}{x:Str}:∀{binds:List (Str×Value)} {m:Str->Option Value},(∀v,(x,v)∉binds)->bindL kindOf binds m x=m x
 | [],_,_=>rfl
 | (n,v)::r,m,h=>by
  unfold bindL;rw [tO λw hw=>h w (aag _ hw)];split
  ·have:x≠n:=by rintro rfl;exact h v aak
   simp [this]
  ·rfl
theorem tK{kindOf:Str->Option NameKind}{x:Str}:∀{binds:List (Str×Value)} {m:Str->Option Value},(∀v,(x,v)∉binds)->bindC kindOf binds m x=m x
 | [],_,_=>rfl
 | (n,v)::r,m,h=>by
  unfold bindC;rw [tK λw hw=>h w (aag _ hw)];split
  ·rfl
  ·have:x≠n:=by rintro rfl;exact h v aak
   simp [this]
theorem tm{kindOf:Str->Option NameKind}{x:Str}{v:Value}:∀{P:List Str} {vs:List Value} {i:Nat} {m:Str->Option Value},P.Nodup->P[i]? =some x->vs[i]? =some v->kindOf x=some .local->
  bindL kindOf (P.zip vs) m x=some v
 | [],_,_,_,_,h,_,_=>by simp at h
 | _::_,[],_,_,_,_,h,_=>by simp at h
 | p::P,w::vs,0,m,nd,h1,h2,hk=>by simp at h1 h2;subst h1;subst h2;show bindL kindOf ((p,w)::P.zip vs) m p=_;unfold bindL;rw [tO λv hv=>(abr.mp nd).1 (List.of_mem_zip hv).1,aaF hk];simp
 | p::P,w::vs,i+1,m,nd,h1,h2,hk=>by show bindL kindOf ((p,w)::P.zip vs) m x=_;unfold bindL;exact tm (i:=i) (List.nodup_cons.mp nd).2 (by simpa using h1) (by simpa using h2) hk
theorem sV{kindOf:Str->Option NameKind}{x:Str}{v:Value}:∀{P:List Str} {vs:List Value} {i:Nat} {m:Str->Option Value},P.Nodup->P[i]? =some x->vs[i]? =some v->kindOf x≠some .local->
  bindC kindOf (P.zip vs) m x=some v
 | [],_,_,_,_,h,_,_=>by simp at h
 | _::_,[],_,_,_,_,h,_=>by simp at h
 | p::P,w::vs,0,m,nd,h1,h2,hk=>by simp at h1 h2;subst h1;subst h2;show bindC kindOf ((p,w)::P.zip vs) m p=_;unfold bindC;rw [tK λv hv=>(abr.mp nd).1 (List.of_mem_zip hv).1,aaA hk];simp
 | p::P,w::vs,i+1,m,nd,h1,h2,hk=>by show bindC kindOf ((p,w)::P.zip vs) m x=_;unfold bindC;exact sV (i:=i) (List.nodup_cons.mp nd).2 (by simpa using h1) (by simpa using h2) hk
def i6(N:List Str)(vs:List V):St:=vs.map some++List.replicate (N.length - vs.length) none
def ui(CX:yb)(P:Program)(w:World)(K:fv)(mg:Str->Option Value)(base:Heap)(N:List Str)(qual:Str)(scope:Scope)(f:Addr)(cd:Value)(A:Around)(outer:List Env)(s:Shared)(H:Hp)(E:XK):Cx where
 prog:=P
 w:=w
 K:=K
 mg:=mg
 base:=base
 A:=A.deeper (envOfC qual scope s.heap.objs.size f cd)
 N:=N
 s₀:=s
 H₀:=H
 env:=envOfC qual scope s.heap.objs.size f cd
 outer:=outer
 stack:=envOfC qual scope s.heap.objs.size f cd::outer
 ex:=[]
 calm:=true
 fn:=λ_=>true
 pn:=[]
 xe:=λe s'=>wpAny (model P w) (A.deeper (envOfC qual scope s.heap.objs.size f cd)) (leaving (envOfC qual scope s.heap.objs.size f cd) e) (λ_ Jn=>CX outer H s E e Jn) (λe' Jn=>CX outer H s E e' Jn) s'
theorem xH{sc:Scope}{n:Nat}(h:sc.names.lookup x=some .cell):∃c,(cellsFrom n sc.names []).lookup x=some c:=by have q:=PySem.W.cellsFrom_some sc.names n [] (.inl h);exact abT.mp q
theorem Be{CX:yb}{K:fv}{N:List Str}{qual:Str}{scope:Scope}{f:Addr}{cd:Value}{s1:Shared}{H:Hp}{E:XK}{vs:List V}
  (S:Δ N ps scope) (hd:A.handled=none) (e0:yD P w K mg base A outer s H) (hl:vs.length=ps.length) (r:ao vs us)
  (x:InCallC s s.heap.objs.size (bindL (envOfC qual scope s.heap.objs.size f cd).kindOf (ps.zip us) λ_=>none) (cellsFrom (s.heap.objs.size+1) scope.names []) (bindC (envOfC qual scope s.heap.objs.size f cd).kindOf (ps.zip us) λ_=>none) s1):
  Inv (ui CX P w K mg base N qual scope f cd A outer s H E) [] (i6 N vs) H s1:=by
 have fQ:ps.length<=N.length:=by have:=aa2 List.length S.pre;rw [abF] at this;omega
 obtain ⟨h1,tk,rfl,hk⟩:=x.done;have PX:∀b:Addr,b∉(ui CX P w K mg base N qual scope f cd A outer s H E).ex:=λb z=>absurd (show b∈([]:List Addr) from z) (by simp)
 refine ⟨⟨e0.mod,S.kind,rfl,rfl,aal _,λy z c h1 h2=> ?_,λy hy=> ?_,λy c _ h=> ?_,λ_=>hd,Around.frames_deeper e0.frames, .inr ⟨rfl,rfl⟩,λb z=>aaI z (PX b),e0.bs,e0.NI,λb _ _=>PX b,λb z=>aaI z (PX b),e0.rL,e0.Ob⟩,
  rfl,e0.bare,Un.kept hk,⟨_,x.toInCall.ns,λi y v h1 h2 h3=> ?_⟩,λy c h=>⟨_,x.cell y c h⟩,e0.aB.fresh (Nat.le_refl _),λy c h=> ?_,λp hp=>absurd (show p∈([]:List (Addr×Obj)) from hp) (by simp),e0.aB.kept hk, ?_⟩
 ·exact name_of_addr x.apart (PySem.mem_of_lookup h1) (PySem.mem_of_lookup h2)
 ·have hy:scope.names.lookup y=some .cell\/scope.names.lookup y=some .free:=hy;rcases hy with hy | hy
  ·exact xH hy
  ·exact aaI rfl (S.Nb _ (PySem.mem_of_lookup hy))
 ·exact abS (x.above y c (PySem.mem_of_lookup h))
 ·have hi:i < vs.length:=by
   unfold i6 at h2;by_cases hi:i < vs.length
   ·exact hi
   ·rw [List.getElem?_append_right (by simpa using hi)] at h2;rw [List.getElem?_replicate] at h2;split at h2 <;> cases h2
  have ha:vs[i]? =some v:=by
   unfold i6 at h2;rw [List.getElem?_append_left (by simpa using hi),List.getElem?_map] at h2;cases e:vs[i]? with
   | none=>rw [e] at h2;cases h2
   | some a=>rw [e] at h2;cases h2;rfl
  obtain ⟨u,hu,rv⟩:=r.get ha;have hp:ps[i]? =some y:=by rw [<-S.pre,List.getElem?_take_of_lt (by omega)];exact h1
  have Vc:ps.Nodup:=by rw [<-S.pre];exact S.nd.sublist (List.take_sublist _ _)
  refine ⟨u,rv, ?_⟩;rcases S.par y (aaD hp) with k | k
  ·exact .inl ⟨k,tm Vc hp hu k⟩
  ·obtain ⟨c,e⟩:=xH (n:=s.heap.objs.size+1) k;refine .inr ⟨.inl k,c,e, ?_⟩;have q:=x.cell y c e;rw [sV Vc hp hu (by show scope.names.lookup y≠_;rw [k];decide)] at q;exact q
 ·exact e0.aB.fresh (abS (x.above y c (PySem.mem_of_lookup h)))
 ·unfold i6;show _=N.length;rw [aai,aac,aa1];omega
theorem Oa{CX:yb}{K:fv}{f:Addr}{name qual:Str}{params:Arguments}{scope:Scope}{dV kV doc pm b8 ct oc:Value}{an od:Option Addr}
  {DL:Array (Option Value)} {N:List Str} {sp:Sp} (lk:K.lookup f=some ⟨oc,od, .func (PySem.W.fnOf name qual params body scope dV kV doc pm an b8 ct),DL⟩) (Df:PySem.W.codeIn K b8 qual=true) (S:Δ N ps scope)
  (len:∀vs H Q E,sp vs H Q E->vs.length=ps.length)
  (w4:∀(A:Around) (outer:List Env) (s:Shared) (H:Hp) (vs:List V) (Q:VK) (E:XK),bt k (A.deeper (envOfC qual scope s.heap.objs.size f b8))->sp vs H Q E->
   ∃t,CK (ui CX P w K mg base N qual scope f b8 A outer s H E) body t/\t {nx:=λ_ H'=>Q .bV H',rt:=Q} (i6 N vs) H):
  aC P w K mg base CX (k+1) f (PySem.W.fnOf name qual params body scope dV kV doc pm an b8 ct) ps sp:=by
 refine ⟨len,λA outer s H args us vs Q E hr e0 hb r JP=> ?_⟩;have hl:=len _ _ _ _ JP;have KX:K.In s.heap:=e0.mod.Qf.keeps λb o e=>(e0.bs b o e).1;have lim:s.heap.NoLimit:=e0.mod.nolimit.keeps λb o e=>(e0.bs b o e).1;have Qu:∀y∈ps.zip us,scope.names.lookup y.1=some .local\/(scope.names.lookup y.1=some .cell/\((cellsFrom (s.heap.objs.size+1) scope.names []).lookup y.1).isSome=true):=λ⟨n,v⟩ hy=>by
  rcases S.par n (List.of_mem_zip hy).1 with q | q
  ·exact .inl q
  ·exact .inr ⟨q,PySem.W.cellsFrom_some _ _ _ (.inl q)⟩
 refine codeAny_call_function hr.depth (KX _ _ lk) rfl S.co S.gen rfl (PySem.W.codeRec_of KX Df) (hb _ _ _ _ ?_);refine wpAny_newFunctionEnv_cells S.kind Qu λenv he s1 x=> ?_;subst he;refine ⟨lim.keeps x.toInCall.keep,codeAny_func ?_⟩;obtain ⟨t,ht,hq⟩:=w4 A outer s H vs Q E (hr.deeper _) JP;have I:Inv (ui CX P w K mg base N qual scope f b8 A outer s H E) [] (i6 N vs) H s1:=Be S hr.hd e0 hl r x;refine abv (ht [] s1 (i6 N vs) H _ I hq) (λfl s' hs=> ?_) λe s' hs=>hs
 have fin:∀{σ':St} {H':Hp} {v:V} {u:Value},Inv (ui CX P w K mg base N qual scope f b8 A outer s H E) [] σ' H' s'->ag v u->Q v H'->CE outer P w H s Q u s':=
  λ{σ' H' v u} J rv q=>⟨v,H',J.os,J.bare,J.base,J.aB,rv,q⟩
 cases fl with
 | ret u=>
  obtain ⟨v,σ',H',J,rv,q⟩:=hs;exact fin J rv q
 | next=>
  obtain ⟨σ',H',J,q⟩:=hs;exact fin (v:=V.bV) (u:=Value.none) J rfl q
 | brk=>
  obtain ⟨_,_,_,q⟩:=hs;exact False.elim q
 | cont=>
  obtain ⟨_,_,_,q⟩:=hs;exact False.elim q
section
variable{p:Pos}{t:TA}{id T:String}{r:List V->Hp->VK->Prop}
def Tu(r:List V->Hp->VK->Prop)(t:TA):TE:=λσ H Q=>t σ H λvs H1=>r vs H1 Q
theorem rh(hc:cH X (.builtin id) r)(hg:Gl X x)(hm:X.mg x=none)(hv:bootBuiltins x=some (.builtin id))(ha:PA X (e::es) t)(hn:x≠"__name__":=by decide)(sf:(x==("__debug__":Str))=false:=by decide)
  (he:starEach (e::es) X.env=(false,eval e X.env)::starEach es X.env:=by rfl) (fQ:(backTo pos (starEach es X.env)).any (·.1)=false:=by rfl):PE X (.Call (.Name x p) (e::es) [] pos) (Tu r t):=by
 intro δ s σ H Q I h;refine wpAny_Call_Name_kw (vH I hg hm hv ?_ hn sf);exact PyProof.Rows.callWith_builtin1 (bx (ha pos δ s σ H _ I h) λus s1 ⟨vs,H1,I1,r1,q1⟩=>hc δ s1 σ H1 vs us Q I1 r1 q1) he fQ
theorem jh(hc:cH X (.type T) r)(hg:Gl X x)(hm:X.mg x=none)(hv:bootBuiltins x=some (.type T))(ha:PA X (e::es) t)(hn:x≠"__name__":=by decide)(sf:(x==("__debug__":Str))=false:=by decide)
  (he:starEach (e::es) X.env=(false,eval e X.env)::starEach es X.env:=by rfl) (fQ:(backTo pos (starEach es X.env)).any (·.1)=false:=by rfl):PE X (.Call (.Name x p) (e::es) [] pos) (Tu r t):=by
 intro δ s σ H Q I h;refine wpAny_Call_Name_kw (vH I hg hm hv ?_ hn sf);exact PyProof.Rows.callWith_type1 (bx (ha pos δ s σ H _ I h) λus s1 ⟨vs,H1,I1,r1,q1⟩=>hc δ s1 σ H1 vs us Q I1 r1 q1) he fQ
end
end L2
namespace HT
open PySem PyProof.Rows
section
variable{prog:Program}{w:World}{A:Around}{E:Value->Shared->Prop}{s:Shared}
theorem HL{t b:Addr}{vs ws:List Value}{Q:Value->Shared->Prop}(ht:IsTup s.heap t vs.toArray)(hb:IsTup s.heap b ws.toArray)(hv:vs≠[])
  (h1:ws=[]->Q (.ref t) s) (h2:ws≠[]->Q (.ref s.heap.objs.size) {s with heap:=s.heap.push {cls:= .type "tuple",data:= .seq (vs++ws).toArray}})
  (hsz:vs.length+ws.length<=sizeLine):wpAny (model prog w) A (binaryOp .Add (.ref t) (.ref b)) Q E s:=by
 obtain ⟨⟨cls,dd,data,sl⟩,ho,hc,n,hd⟩:=id ht;obtain ⟨⟨Ws,OI,data2,kQ⟩,Np,UL,n2,hd2⟩:=id hb;simp only at hc hd UL hd2;subst hc hd UL hd2;have e:vs.toArray++ws.toArray=(vs++ws).toArray:=by simp
 by_cases hw:ws=[]
 ·exact concat_meets ⟨_,ho,rfl⟩ ⟨_,Np,rfl⟩ noFill_tuple_add seq_tuple_add PySem.F.slot_tuple_add PySem.F.entry_tuple_add (PySem.F.args_tuple_add_2 _ _)
   (tuple_addW1 t b vs.toArray ws.toArray n n2 dd OI sl kQ (by simpa using hv) (by simp [hw])) ⟨ho,Np,h1 hw⟩
 ·refine concat_meets ⟨_,ho,rfl⟩ ⟨_,Np,rfl⟩ noFill_tuple_add seq_tuple_add PySem.F.slot_tuple_add PySem.F.entry_tuple_add (PySem.F.args_tuple_add_2 _ _)
   (tuple_addW2 t b vs.toArray ws.toArray n n2 dd OI sl kQ (by simpa using hv) (by simpa using hw) (by rw [List.size_toArray,List.size_toArray];exact hsz)) ⟨ho,Np, ?_⟩
  rw [e];exact h2 hw
def dY(n d:Nat):Option Int->Nat
 | none=>d
 | some v=>if v < 0 then (v+(n:Int)).toNat else min v.toNat n
theorem xM(n d:Nat):dY n d none=d:=rfl
theorem oG(n d k:Nat):dY n d (some (k:Int))=min k n:=by show (if (k:Int) < 0 then ((k:Int)+(n:Int)).toNat else min (k:Int).toNat n)=min k n;rw [aaA (by omega),aa6]
theorem Ku(n d:Nat)(hd:d<=n)(o:Option Int):dY n d o<=n:=by
 cases o with
 | none=>exact hd
 | some v=>
  show (if v < 0 then (v+(n:Int)).toNat else min v.toNat n)<=n;by_cases hv:v < 0
  ·rw [aaF hv];omega
  ·rw [aaA hv];exact Nat.min_le_right _ _
theorem Ah(v:Int)(n d:Nat):(if v < 0 then max (v+(n:Int)) 0 else min v (n:Int))=((dY n d (some v):Nat):Int):=by
 show (if v < 0 then max (v+(n:Int)) 0 else min v (n:Int))=(((if v < 0 then (v+(n:Int)).toNat else min v.toNat n):Nat):Int);by_cases hv:v < 0
 ·simp only [if_pos hv];omega
 ·simp only [if_neg hv];omega
theorem y9(lo hi:Option Int)(n:Nat):Builtin.Slice.sliceAdjust lo hi 1 (n:Int)=(((dY n 0 lo:Nat):Int),((dY n n hi:Nat):Int)):=by
 have h1:¬((1:Int) < 0):=by omega
 unfold Builtin.Slice.sliceAdjust;simp only [h1,if_false];refine Prod.ext ?_ ?_
 ·cases lo with
  | none=>rfl
  | some v=>exact Ah v n 0
 ·cases hi with
  | none=>rfl
  | some v=>exact Ah v n n
theorem zJ(i j:Nat):Builtin.Slice.slicePlaces (i:Int) (j:Int) 1=j - i:=by
 unfold Builtin.Slice.slicePlaces;have h1:(1:Int) > 0:=by omega
 simp only [h1,if_true,Int.ediv_one];split <;> omega
theorem pJ{v:Value}{o:Option Int}{Q:Option Int->Shared->Prop}(p:IsPart v o)(h:Q o s):wpAny (model prog w) A (Builtin.Slice.slicePartIndex v) Q E s:=by
 cases p with
 | none=>exact slicePart_none h
 | int i t=>exact slicePart_int h
theorem mf{sl:Addr}{vl vu:Value}{lo hi:Option Int}{n:Nat}{Q:Int×Int×Nat->Shared->Prop}(hs:s.heap.IsSliceOf sl vl vu .none)(pl:IsPart vl lo)(pu:IsPart vu hi)
  (h:Q (((dY n 0 lo:Nat):Int),1,dY n n hi - dY n 0 lo) s):wpAny (model prog w) A (Builtin.Slice.sliceApplied (.ref sl) (pure (n:Int))) Q E s:=by
 obtain ⟨os,M8,VN,Nn⟩:=id hs;unfold Builtin.Slice.sliceApplied Builtin.Slice.sliceFields;refine aab (aab (wpAny_field M8 Nn (x:=vl) rfl (aab (wpAny_field M8 Nn (x:=vu) rfl (aab (wpAny_field M8 Nn (x:= .none) rfl (aae ?_)))))));refine aab (slicePart_none ?_);show wpAny _ _ (if ((1:Int)==0)=true then _ else _) _ _ s;rw [aaA (by decide)];refine aab (pJ pl (aab (pJ pu (aab (aae ?_)))));show wpAny _ _ (match Builtin.Slice.sliceAdjust lo hi 1 (n:Int) with | (lo,hi)=>pure (lo,(1:Int),Builtin.Slice.slicePlaces lo hi 1)) _ _ s;rw [y9 lo hi n];show wpAny _ _ (pure (((dY n 0 lo:Nat):Int),(1:Int),Builtin.Slice.slicePlaces ((dY n 0 lo:Nat):Int) ((dY n n hi:Nat):Int) 1)) _ _ s;rw [zJ];exact aae h
theorem FY(xs:Array Value)(i k:Nat):((List.range k).filterMap λ(m:Nat)=>xs[((i:Int)+(m:Int) * 1).toNat]?).toArray=((xs.toList.drop i).take k).toArray:=by
 have e:(λ(m:Nat)=>xs[((i:Int)+(m:Int) * 1).toNat]?)=λm=>xs[i+m]? :=by
  funext m
  have:((i:Int)+(m:Int) * 1).toNat=i+m:=by omega
  rw [this]
 rw [e];have:=pick_run xs i k;rw [List.filterMap_map] at this;have e2:((λx=>xs[x]?) ∘ λx=>i+x)=λm=>xs[i+m]? :=rfl;rw [e2] at this;rw [this]
theorem kX{t sl:Addr}{items:Array Value}{vl vu:Value}{lo hi:Option Int}{Q:Value->Shared->Prop}(ht:IsTup s.heap t items)(hs:s.heap.IsSliceOf sl vl vu .none)(pl:IsPart vl lo)(pu:IsPart vu hi)
  (hw:¬(dY items.size 0 lo=0/\dY items.size items.size hi=items.size))
  (h:Q (.ref s.heap.objs.size) {s with heap:=s.heap.push {cls:= .type "tuple",data:= .seq ((items.toList.drop (dY items.size 0 lo)).take (dY items.size items.size hi - dY items.size 0 lo)).toArray}})
  (hsz:items.size<=sizeLine):wpAny (model prog w) A (getItem (.ref t) (.ref sl)) Q E s:=by
 have Aa:sizeOk (.seq ((items.toList.drop (dY items.size 0 lo)).take (dY items.size items.size hi - dY items.size 0 lo)).toArray):=by show ((items.toList.drop (dY items.size 0 lo)).take (dY items.size items.size hi - dY items.size 0 lo)).toArray.size<=sizeLine;rw [aay,abF,abR,aa7];omega
 have hj:dY items.size items.size hi<=items.size:=Ku _ _ (aal _) hi;obtain ⟨os,M8,VN,Nn⟩:=id hs;have Zh:s.TypeIs (.ref sl) "slice":=⟨os,M8,VN⟩;unfold getItem
 try with_reducible refine wpAny_holding ?_
 first | refine aab (aae ?_) | skip
 refine aab (wpAny_sequenceKey ht.typeIs (by decide) ?_)
 refine aab (wpAny_callSpecial?_slot (name:=Str.ofString "__getitem__") ht.typeIs PyProof.Rows.slot_tuple_getitem
  (wpAny_call_entry PyProof.Rows.slot_tuple_getitem ht.typeIs entry_tuple_getitem ?_ (args_tuple_getitem _ _)))
 show wpAny _ _ (Builtin.Tuple.tupleItemsOf (.ref t) >>= _) _ _ s;refine aab (tupleItemsOf_ ht ?_);refine aab (wpAny_typeOf Zh ?_);rw [aaF (by decide)];refine aab (mf hs pl pu ?_);have Nq:¬((((dY items.size 0 lo:Nat):Int)==0&&(1:Int)==1&&(dY items.size items.size hi - dY items.size 0 lo)==items.size)=true):=by intro q;rw [aaz,aaz] at q;have q1:((dY items.size 0 lo:Nat):Int)=0:=eq_of_beq q.1.1;have q2:dY items.size items.size hi - dY items.size 0 lo=items.size:=eq_of_beq q.2;exact hw ⟨by omega,by omega⟩
 show wpAny _ _ (if (((dY items.size 0 lo:Nat):Int)==0&&(1:Int)==1&&(dY items.size items.size hi - dY items.size 0 lo)==items.size)=true then _ else _) _ _ s;rw [aaA Nq,FY]
 first
  | exact aab (m:=Builtin.Tuple.tupleExact _) (wpAny_newObj_type (aae ⟨_,rfl,aae h⟩) Aa)
  | exact aab (m:=Builtin.Tuple.tupleExact _) (wpAny_newObj_type (aab (aae (aae ⟨_,rfl,aae h⟩))) Aa)
  | exact aab (aab (m:=Builtin.Tuple.tupleExact _) (wpAny_newObj_type (aae (aae ⟨_,rfl,aae h⟩)) Aa))
  | exact aab (aab (m:=Builtin.Tuple.tupleExact _) (wpAny_newObj_type (aae ⟨_,rfl,aae h⟩) Aa))
end
end HT
namespace L2
open PySem PySem.Spec PyProof.Rows
variable{X:Cx}{s:Shared}{δ:List (Addr×Obj)}
abbrev TO:=St->Hp->(Option Int->Hp->Prop)->Prop
def PO(X:Cx)(e:Option Expr)(t:TO):Prop:=
 ∀(δ:List (Addr×Obj)) (s:Shared) (σ:St) (H:Hp) (Q:Option Int->Hp->Prop),Inv X δ σ H s->t σ H Q->
  wpAny (model X.prog X.w) X.A (evalPart e X.env) (λu s'=>∃o H',Inv X δ σ H' s'/\IsPart u o/\Q o H') X.xe s
def HB:TO:=λ_ H Q=>Q none H
def Qz(t:TE):TO:=λσ H Q=>t σ H λx H1=>∃i,x= .int i/\Q (some i) H1
section
variable{e:Expr}{te:TE}{lo hi:Option Expr}{tl th:TO}{pos p2:Pos}
theorem oE:PO X none HB:=by intro δ s σ H Q I h;rw [evalPart_none];exact aae ⟨none,H,I, .none,h⟩
theorem oW(h:PE X e te):PO X (some e) (Qz te):=by intro δ s σ H Q I hw;rw [evalPart_some];refine bx (h δ s σ H _ I hw) λu s1 ⟨x,H1,I1,r1,q1⟩=> ?_;obtain ⟨i,rfl,q⟩:=q1;obtain ⟨t,rfl⟩:=r1;exact ⟨some i,H1,I1, .int i t,q⟩
def Uz(X:Cx)(r:V->Option Int->Option Int->Hp->VK->Prop):Prop:=
 ∀(δ:List (Addr×Obj)) (s:Shared) (σ:St) (H:Hp) (x:V) (v vl vu:Value) (lo hi:Option Int) (sl:Addr) (Q:VK),Inv X δ σ H s->ag x v->s.heap.IsSliceOf sl vl vu .none->IsPart vl lo->IsPart vu hi->r x lo hi H Q->
  ∃T id,typeLookup (.type T) "__getitem__"=pure (some (.builtin id))/\s.TypeIs v T/\wpAny (model X.prog X.w) X.A (getItem v (.ref sl)) (EP X δ σ Q) X.xe s
def Zm(r:V->Option Int->Option Int->Hp->VK->Prop)(te:TE)(tl th:TO):TE:=λσ H Q=>te σ H λx H1=>tl σ H1 λl H2=>th σ H2 λu H3=>r x l u H3 Q
theorem k9{r:V->Option Int->Option Int->Hp->VK->Prop}(hr:Uz X r)(he:PE X e te)(hl:PO X lo tl)(hu:PO X hi th):PE X (.Subscript e (.Slice lo hi none p2) pos) (Zm r te tl th):=by intro δ s σ H Q I h;refine Subscript_ (bx (he δ s σ H _ I h) λv s1 ⟨x,H1,I1,r1,q1⟩=> ?_);refine wpAny_Slice (bx (hl δ s1 σ H1 _ I1 q1) λvl s2 ⟨l,H2,I2,pl,q2⟩=>bx (hu δ s2 σ H2 _ I2 q2) λvu s3 ⟨u,H3,I3,pu,q3⟩=> ?_);rw [evalPart_none];refine aae ?_;have I4:Inv X δ σ H3 {s3 with heap:=s3.heap.push {cls:= .type "slice",data:= .fields #[vl,vu, .none]}}:=I3.kept (t':=s3.toks) λb ob q=>aah _ q;obtain ⟨T,id,hT,ht,hg⟩:=hr δ {s3 with heap:=s3.heap.push {cls:= .type "slice",data:= .fields #[vl,vu, .none]}} σ H3 x v vl vu l u s3.heap.objs.size Q I4 r1 (Heap.IsSliceOf.new ..) pl pu q3;show wpAny (model X.prog X.w) X.A (subscriptTail e (.Slice lo hi none p2) v (.ref s3.heap.objs.size)) (EP X δ σ Q) X.xe {s3 with heap:=s3.heap.push {cls:= .type "slice",data:= .fields #[vl,vu, .none]}};exact tail_any (ops:=[.ref s3.heap.objs.size,v]) ht hT hg (by with_unfolding_all rfl)
def se(xs:List V)(lo hi:Option Int):List V:=(xs.drop (HT.dY xs.length 0 lo)).take (HT.dY xs.length xs.length hi - HT.dY xs.length 0 lo)
theorem nG(xs:List V)(lo hi:Option Int):(se xs lo hi).length<=xs.length:=by unfold se;rw [abF,abR];omega
def SE(K:fv):V->Option Int->Option Int->Hp->VK->Prop:=λx lo hi H Q=>∃a xs,x= .ref a/\ju K H a xs/\
 ¬(HT.dY xs.length 0 lo=0/\HT.dY xs.length xs.length hi=xs.length)/\∀p,H p=none->Q (.ref p) (upd H p (.tup (se xs lo hi)))
theorem Fc:Uz X (SE X.K):=by
 intro δ s σ H x v vl vu lo hi sl Q I rx hs pl pu h;obtain ⟨a,xs,rfl,hx,hw,q⟩:=h;cases rx;obtain ⟨its,r,ht,hz⟩:=I.tuple hx;have hlen:its.toArray.size=xs.length:=by rw [aay];exact r.length.symm
 refine ⟨"tuple",_,PyProof.Rows.slot_tuple_getitem.lookup,ht.typeIs, ?_⟩;refine HT.kX ht hs pl pu (by rw [hlen];exact hw) ?_ (by rw [hlen];exact hz);rw [hlen];refine ⟨.ref s.heap.objs.size,_,I.laid (t':=s.toks) (o:= .tup (se xs lo hi)) (λb ob q=>aah _ q) (aal _) ?_,rfl,q _ (I.aB.fresh (aal _))⟩;exact ⟨aax (nG xs lo hi) hz,_,(r.drop (HT.dY xs.length 0 lo)).take (HT.dY xs.length xs.length hi - HT.dY xs.length 0 lo),IsTup.new _ _⟩
def JF(K:fv):R2:=λx y H Q=>∃a b xs ys,x= .ref a/\y= .ref b/\ju K H a xs/\ju K H b ys/\xs≠[]/\xs.length+ys.length<=sizeLine/\
 (ys=[]->Q (.ref a) H)/\(ys≠[]->∀p,H p=none->Q (.ref p) (upd H p (.tup (xs++ys))))
theorem ao.vg{xs:List V}{us:List Value}(r:ao xs us):us=[]↔xs=[]:=by
 cases r with
 | nil=>simp
 | cons _ _=>simp
theorem Hr:jj X (binaryOp .Add) (JF X.K):=by intro δ s σ H x y v u Q I rx ry h;obtain ⟨a,b,xs,ys,rfl,rfl,ha,hb,hx,hz,q1,q2⟩:=h;cases rx;cases ry;obtain ⟨its,r1,p1,_⟩:=I.tuple ha;obtain ⟨KZ,r2,p2,_⟩:=I.tuple hb;refine HT.HL p1 p2 (λz=>hx (r1.vg.mp z)) (λz=>⟨.ref a,H,I,rfl,q1 (r2.vg.mp z)⟩) (λz=> ?_) (by rw [<-r1.length,<-r2.length];exact hz);refine ⟨.ref s.heap.objs.size,_,I.laid (t':=s.toks) (o:= .tup (xs++ys)) (λb ob q=>aah _ q) (aal _) ?_,rfl,q2 (λw=>z (r2.vg.mpr w)) _ (I.aB.fresh (aal _))⟩;exact ⟨by rw [aai];exact hz,_,r1.append r2,IsTup.new _ _⟩
end
def GJ(n:Nat)(i:Int):Option Nat:=if 0<=i then (if i < n then some i.toNat else none) else if -(n:Int)<=i then some (i+n).toNat else none
def i9{α:Type}(xs:List α)(i:Int):Option α:=(GJ xs.length i).bind λj=>xs[j]?
theorem GU{n:Nat}{i:Int}{j:Nat}(h:GJ n i=some j):seqIndex? i n=some j/\j < n/\ -(n:Int)<=i/\i < n:=by
 unfold GJ at h;by_cases h0:0<=i
 ·rw [aaF h0] at h;by_cases h1:i < n
  ·rw [aaF h1] at h;have e:i.toNat=j:=aaG h;exact ⟨by rw [seqIndex_of h0 h1,e],by omega,by omega,h1⟩
  ·rw [aaA h1] at h;cases h
 ·rw [aaA h0] at h;by_cases h1: -(n:Int)<=i
  ·rw [aaF h1] at h;have e:(i+n).toNat=j:=aaG h;exact ⟨by rw [seqIndex_neg (by omega) h1,e],by omega,h1,by omega⟩
  ·rw [aaA h1] at h;cases h
theorem vO{α:Type}{xs:List α}{i:Int}{v:α}(h:i9 xs i=some v):∃j,seqIndex? i xs.length=some j/\xs[j]? =some v/\j < xs.length/\ -(xs.length:Int)<=i/\i < xs.length:=by
 unfold i9 at h;cases e:GJ xs.length i with
 | none=>rw [e] at h;cases h
 | some j=>
  rw [e] at h;obtain ⟨h1,h2,h3,h4⟩:=GU e;exact ⟨j,h1,h,h2,h3,h4⟩
theorem Ν{α:Type}{xs:List α}{j:Nat}{v:α}(h:xs[j]? =some v):i9 xs (j:Int)=some v:=by
 have hj:j < xs.length:=(aad.mp h).1;have e:GJ xs.length (j:Int)=some j:=by unfold GJ;rw [if_pos (by omega),if_pos (by omega)];simp
 unfold i9;rw [e];exact h
def uw(b:Expr):Prop:=∀o i,subscripted b false o i=operate [o,i] (getItem o i)
def GQ(X:Cx)(r:R2):Prop:=
 ∀(value slice:Expr) (δ:List (Addr×Obj)) (s:Shared) (σ:St) (H:Hp) (x y:V) (v u:Value) (Q:VK),Inv X δ σ H s->ag x v->ag y u->r x y H Q->
  subscripted slice false v u=operate [v,u] (getItem v u)->wpAny (model X.prog X.w) X.A (subscriptTail value slice v u) (EP X δ σ Q) X.xe s
def Vv(X:Cx)(id:String)(r:V->List V->Hp->VK->Prop):Prop:=
 ∀(δ:List (Addr×Obj)) (s:Shared) (σ:St) (H:Hp) (x:V) (xs:List V) (v:Value) (us:List Value) (Q:VK),Inv X δ σ H s->ag x v->ao xs us->r x xs H Q->
  wpAny (model X.prog X.w) X.A (call (.builtin id) (v::us)) (EP X δ σ Q) X.xe s
section
variable{a b:Expr}{ta tb:TE}{pos:Pos}
theorem GQ.or{r r':R2}(h:GQ X r)(h':GQ X r'):GQ X (λx y H Q=>r x y H Q\/r' x y H Q):=by
 intro value slice δ s σ H x y v u Q I rx ry q hs;rcases q with q | q
 ·exact h value slice δ s σ H x y v u Q I rx ry q hs
 ·exact h' value slice δ s σ H x y v u Q I rx ry q hs
theorem PK{r:R2}(hr:GQ X r)(ha:PE X a ta)(hb:PE X b tb)(hs:uw b):PE X (.Subscript a b pos) (OV r ta tb):=by intro δ s σ H Q I h;exact Subscript_ (L8 ha hb I h λv u s2 x y H2 I2 rx ry q=>hr a b δ s2 σ H2 x y v u Q I2 rx ry q (hs _ _))
def Pe(K:fv):R2:=λx y H Q=>∃p xs i v,x= .ref p/\y= .int i/\fm K H p xs/\i9 xs i=some v/\Q v H
def Qx(K:fv):R2:=λx y H Q=>∃p xs i v,x= .ref p/\y= .int i/\ju K H p xs/\i9 xs i=some v/\Q v H
def QI:R2:=λx y H Q=>∃z i c,x= .str z/\y= .int i/\z.length<=sizeLine/\i9 z.cps.toList i=some c/\Q (.str ⟨#[c]⟩) H
theorem IC:GQ X (Pe X.K):=by
 intro value slice δ s σ H x y v u Q I rx ry h hs;obtain ⟨p,xs,i,z,rfl,rfl,hq,he,q⟩:=h;cases rx;obtain ⟨t,rfl⟩:=ry;obtain ⟨its,r,pl,hz⟩:=I.list hq;obtain ⟨j,h1,h2,h3,h4,h5⟩:=vO he;obtain ⟨w,ew,uQ⟩:=r.get h2;have hl:=r.length;have hn:=qJ;have fin:EP X δ σ Q w s:=⟨z,H,I,uQ,q⟩;by_cases h0:0<=i
 ·have hj:i.toNat=j:=by rw [seqIndex_of h0 h5] at h1;exact aaG h1
  exact item_listR pl.isList h0 (by omega) (by rw [hj];simpa using ew) fin hs
 ·have hj:(i+(its.toArray.size:Int)).toNat=j:=by rw [seqIndex_neg (by omega) h4] at h1;rw [aay,<-hl];exact aaG h1
  exact subscriptTail_builtinR (x:=w) pl.isList.typeIs slot_list_getitem.lookup
   (wpAny_getItem_list_neg (Q:=λr s'=>r=w/\EP X δ σ Q r s') pl.isList (by omega) (by rw [List.size_toArray] <;> omega) (by omega) (by rw [hj];simpa using ew) ⟨rfl,fin⟩) hs
theorem MB:GQ X (Qx X.K):=by
 intro value slice δ s σ H x y v u Q I rx ry h hs;obtain ⟨p,xs,i,z,rfl,rfl,hq,he,q⟩:=h;cases rx;obtain ⟨t,rfl⟩:=ry;obtain ⟨its,r,pl,hz⟩:=I.tuple hq;obtain ⟨j,h1,h2,h3,h4,h5⟩:=vO he;obtain ⟨w,ew,uQ⟩:=r.get h2;have hl:=r.length;have hn:=qJ;have fin:EP X δ σ Q w s:=⟨z,H,I,uQ,q⟩
 exact subscriptTail_builtinR (x:=w) pl.typeIs slot_tuple_getitem.lookup
  (getItem_tuple (j:=j) (Q:=λr s'=>r=w/\EP X δ σ Q r s') pl (by omega) (by omega) (by rw [List.size_toArray,<-hl];exact h1) (by simpa using ew) ⟨rfl,fin⟩) hs
theorem K2:GQ X QI:=by
 intro value slice δ s σ H x y v u Q I rx ry h hs;obtain ⟨z,i,c,rfl,rfl,hz,he,q⟩:=h;obtain ⟨t,rfl⟩:=rx;obtain ⟨t',rfl⟩:=ry;obtain ⟨j,h1,h2,h3,h4,h5⟩:=vO he;have hl:z.cps.toList.length=z.length:=by simp [Str.length]
 rw [hl] at h1 h4 h5;have hn:=qJ
 exact tail_any (typeIs_str s z t) slot_str_getitem.lookup (getItem_str (c:=c) (by
  have e1:decide (i < -(2 ^ 63:Int))=false:=aaK (by omega);have e2:decide (i ≥ 2 ^ 63)=false:=aaK (by omega)
  rw [e1,e2,Bool.or_false]) (by rw [h1];simpa using h2) ⟨.str ⟨#[c]⟩,H,I.tok _,⟨_,rfl⟩,q⟩) hs
def U6(K:fv):R2:=λx y H Q=>Pe K x y H Q\/Qx K x y H Q\/QI x y H Q
theorem KJ:GQ X (U6 X.K):=IC.or (MB.or K2)
theorem uJ(lo hi:Option Int)(n:Nat):(sliceBounds lo hi none n).1=((HT.dY n 0 lo:Nat):Int)/\(sliceBounds lo hi none n).2.1=((HT.dY n n hi:Nat):Int)/\(sliceBounds lo hi none n).2.2=1:=by
 refine ⟨?_, ?_,rfl⟩
 ·cases lo with
  | none=>simp [sliceBounds,HT.dY]
  | some i=>
   simp only [sliceBounds,HT.dY,Option.getD_none,show (1:Int) > 0 by decide,if_true];by_cases h:i < 0
   ·simp only [h,if_true] <;> omega
   ·simp only [h,if_false] <;> omega
 ·cases hi with
  | none=>simp [sliceBounds,HT.dY]
  | some i=>
   simp only [sliceBounds,HT.dY,Option.getD_none,show (1:Int) > 0 by decide,if_true];by_cases h:i < 0
   ·simp only [h,if_true] <;> omega
   ·simp only [h,if_false] <;> omega
theorem r6(its:List Value)(lo hi:Option Int):slicePick its.toArray lo hi none=((its.drop (HT.dY its.length 0 lo)).take (HT.dY its.length its.length hi - HT.dY its.length 0 lo)).toArray:=by obtain ⟨h1,h2,h3⟩:=uJ lo hi its.toArray.size;unfold slicePick;rw [h1,h2,h3];simp only [sliceRange_one,pick_run,List.size_toArray] <;> rfl
def RG(K:fv):V->Option Int->Option Int->Hp->VK->Prop:=λx lo hi H Q=>∃a xs,x= .ref a/\fm K H a xs/\∀p,H p=none->Q (.ref p) (upd H p (.lst (se xs lo hi)))
theorem Ao:Uz X (RG X.K):=by intro δ s σ H x v vl vu lo hi sl Q I rx hs pl pu h;obtain ⟨a,xs,rfl,hx,q⟩:=h;cases rx;obtain ⟨its,r,ht,hz⟩:=I.list hx;have hlen:=r.length;refine ⟨"list",_,slot_list_getitem.lookup,ht.isList.typeIs, ?_⟩;refine wpAny_getItem_list_slice ht.isList hs pl pu .none (by simp) ?_ (by rw [List.size_toArray] <;> omega);rw [r6,<-hlen];refine ⟨.ref s.heap.objs.size,_,I.laid (t':=s.toks) (o:= .lst (se xs lo hi)) (λb ob q=>aah _ q) (aal _) ?_,rfl,q _ (I.aB.fresh (aal _))⟩;exact ⟨aax (nG xs lo hi) hz,_,0,(r.drop (HT.dY xs.length 0 lo)).take (HT.dY xs.length xs.length hi - HT.dY xs.length 0 lo),aaw _ rfl⟩
def c8:V->Bool
 | .bV=>true
 | .bl _=>true
 | .int _=>true
 | .str _=>true
 | _=>false
def gb:V->V->Bool
 | .bV, .bV=>true
 | .bl a, .bl b=>a==b
 | .bl a, .int b=>(if a then 1 else 0)==b
 | .int a, .bl b=>a==(if b then 1 else 0)
 | .int a, .int b=>a==b
 | .str a, .str b=>a==b
 | _,_=>false
theorem uT{A:Around}{y x:V}{u v:Value}(ry:ag y u)(rx:ag x v)(fy:c8 y=true)(fx:c8 x=true):SeqAt.EqAt A s u v (gb y x):=by
 cases y with
 | bV=>
  cases ry;cases x with
  | bV=>cases rx;exact SeqAt.EqAt.same _
  | bl b=>cases rx;exact SeqAt.EqAt.none_bool b
  | int b=>obtain ⟨t,rfl⟩:=rx;exact SeqAt.EqAt.none_int b t
  | str b=>obtain ⟨t,rfl⟩:=rx;exact SeqAt.EqAt.none_str b t
  | _=>exact aaI (show false=true from fx) aau
 | bl a=>
  cases ry;cases x with
  | bV=>cases rx;exact SeqAt.EqAt.bool_none a
  | bl b=>cases rx;exact SeqAt.EqAt.bool_bool a b
  | int b=>obtain ⟨t,rfl⟩:=rx;exact SeqAt.EqAt.bool_int a b t
  | str b=>obtain ⟨t,rfl⟩:=rx;exact SeqAt.EqAt.bool_str a b t
  | _=>exact aaI (show false=true from fx) aau
 | int a=>
  obtain ⟨t',rfl⟩:=ry;cases x with
  | bV=>cases rx;exact SeqAt.EqAt.int_none a t'
  | bl b=>cases rx;exact SeqAt.EqAt.int_bool a t' b
  | int b=>obtain ⟨t,rfl⟩:=rx;exact SeqAt.EqAt.int_int a t' b t
  | str b=>obtain ⟨t,rfl⟩:=rx;exact SeqAt.EqAt.int_str a t' b t
  | _=>exact aaI (show false=true from fx) aau
 | str a=>
  obtain ⟨t',rfl⟩:=ry;cases x with
  | bV=>cases rx;exact SeqAt.EqAt.str_none a t'
  | bl b=>cases rx;exact SeqAt.EqAt.str_bool a t' b
  | int b=>obtain ⟨t,rfl⟩:=rx;exact SeqAt.EqAt.str_int a t' b t
  | str b=>obtain ⟨t,rfl⟩:=rx;exact SeqAt.EqAt.str_str a t' b t
  | _=>exact aaI (show false=true from fx) aau
 | _=>exact aaI (show false=true from fy) aau
def IB(x:V)(u:Value):Bool:=match u with
 | .none=>gb .bV x
 | .bool b=>gb (.bl b) x
 | .int i _=>gb (.int i) x
 | .str z _=>gb (.str z) x
 | _=>false
theorem EG{x y:V}{u:Value}(r:ag y u)(f:c8 y=true):IB x u=gb y x:=by
 cases y with
 | bV=>cases r;rfl
 | bl b=>cases r;rfl
 | int i=>obtain ⟨t,rfl⟩:=r;rfl
 | str z=>obtain ⟨t,rfl⟩:=r;rfl
 | _=>exact aaI (show false=true from f) aau
theorem uy{x:V}:∀{xs:List V} {us:List Value},ao xs us->xs.all c8=true->us.any (IB x)=xs.any λy=>gb y x
 | _,_, .nil,_=>rfl
 | y::xs,u::us, .cons r t,f=>by rw [abB,aaz] at f;rw [abC,abC,EG r f.1,uy t f.2]
theorem pj{A:Around}{s:Shared}{x:V}{v:Value}(rx:ag x v)(fx:c8 x=true):∀{xs:List V} {us:List Value},ao xs us->xs.all c8=true->∀u∈us,SeqAt.EqAt A s u v (IB x u)
 | _,_, .nil,_=>λu hu=>by cases hu
 | y::xs,u::us, .cons r t,f=>λu' hu=>by
  rw [abB,aaz] at f;rcases aaB.mp hu with rfl | hu
  ·rw [EG r f.1];exact uT r rx f.1 fx
  ·exact pj rx fx t f.2 u' hu
def Q1(x:V)(xs:List V):Bool:=xs.any λy=>gb y x
def VP(K:fv)(neg:Bool):R2:=λx y H Q=>∃p xs,y= .ref p/\(fm K H p xs\/ju K H p xs)/\c8 x=true/\xs.all c8=true/\Q (.bl (if neg then !Q1 x xs else Q1 x xs)) H
theorem B6:jj X (compareOp .In) (VP X.K false):=by
 intro δ s σ H x y v u Q I rx ry h;obtain ⟨p,xs,rfl,hq,fx,fs,q⟩:=h;cases ry;rcases hq with hq | hq
 ·obtain ⟨its,r,pl,hz⟩:=I.list hq;refine SeqAt.in_listAt (IB x) pl.isList (λw hw=>pj rx fx r fs w (by simpa using hw)) ⟨.bl _,H,I,rfl, ?_⟩;rw [show its.toArray.any (IB x)=its.any (IB x) by simp,uy r fs];exact q
 ·obtain ⟨its,r,pl,hz⟩:=I.tuple hq;refine SeqAt.in_tupleAt (IB x) pl (λw hw=>pj rx fx r fs w (by simpa using hw)) ⟨.bl _,H,I,rfl, ?_⟩;rw [show its.toArray.any (IB x)=its.any (IB x) by simp,uy r fs];exact q
theorem vy:cH X (.builtin "len") (λxs H Q=>∃p ys,xs=[.ref p]/\(fm X.K H p ys\/ju X.K H p ys)/\Q (.int ys.length) H):=by
 intro δ s σ H xs us Q I r h;obtain ⟨p,ys,rfl,hq,q⟩:=h;obtain ⟨u,rfl,rx⟩:=gF r;cases rx;have hn:=qJ;rcases hq with hq | hq
 ·obtain ⟨its,r',pl,hz⟩:=I.list hq;have hlen:=r'.length;exact Calls.call_len_list pl.isList (by simp only [List.size_toArray] <;> omega) ⟨.int ys.length,H,I.tok _,⟨s.toks+1,by rw [List.size_toArray,hlen]⟩,q⟩
 ·obtain ⟨its,r',pl,hz⟩:=I.tuple hq;have hlen:=r'.length;exact len_tuple pl (by simp only [List.size_toArray] <;> omega) ⟨.int ys.length,H,I.tok _,⟨s.toks+1,by rw [List.size_toArray,hlen]⟩,q⟩
theorem vN:cH X (.builtin "len") (λxs H Q=>∃z,xs=[.str z]/\z.length<=sizeLine/\Q (.int z.length) H):=by intro δ s σ H xs us Q I r h;obtain ⟨z,rfl,hz,q⟩:=h;obtain ⟨u,rfl,t,rfl⟩:=gF r;have hn:=qJ;exact len_str (by omega) ⟨.int z.length,H,I.tok _,⟨_,rfl⟩,q⟩
theorem cH.or{f:Value}{r r':List V->Hp->VK->Prop}(h:cH X f r)(h':cH X f r'):cH X f (λxs H Q=>r xs H Q\/r' xs H Q):=by
 intro δ s σ H xs us Q I rs q;rcases q with q | q
 ·exact h δ s σ H xs us Q I rs q
 ·exact h' δ s σ H xs us Q I rs q
theorem uD:cH X (.type "list") (λxs H Q=>∃p ys,xs=[.ref p]/\(fm X.K H p ys\/ju X.K H p ys)/\∀l,H l=none->Q (.ref l) (upd H l (.lst ys))):=by
 intro δ s σ H xs us Q I r h;obtain ⟨p,ys,rfl,hq,q⟩:=h;obtain ⟨u,rfl,rx⟩:=gF r;cases rx
 have fin:∀(its:List Value),ao ys its->ys.length<=sizeLine->∀(h':Heap) (c':Nat),(∀b o',s.heap.get? b=some o'->h'.get? b=some o')->
   h'.get? s.heap.objs.size=some {cls:= .type "list",dict:=none,data:= .seq its.toArray c',slots:= #[]}->EP X δ σ Q (.ref s.heap.objs.size) {s with heap:=h'}:=λits r' hz h' c' kp e=>
  ⟨.ref s.heap.objs.size,_,I.laid (t':=s.toks) kp (aal _) (show bh X.prog X.w _ h' _ (.lst ys) from ⟨hz,its,c',r',e⟩),rfl,q _ (I.aB.fresh (aal _))⟩
 rcases hq with hq | hq
 ·obtain ⟨its,r',pl,hz⟩:=I.list hq;have hlen:=r'.length;obtain ⟨o,ho,hc,n,hd⟩:=pl.isList;exact call_list_seq p (.inl rfl) ho hc hd (λh' c' kp e=>fin its r' hz h' c' kp e) (by simp only [List.size_toArray] <;> omega)
 ·obtain ⟨its,r',pl,hz⟩:=I.tuple hq;have hlen:=r'.length;obtain ⟨o,ho,hc,n,hd⟩:=pl;exact call_list_seq p (.inr rfl) ho hc hd (λh' c' kp e=>fin its r' hz h' c' kp e) (by simp only [List.size_toArray] <;> omega)
def Vd(K:fv)(T:String)(x:V)(H:Hp):Prop:=match x with
 | .str _=>T="str"
 | .int _=>T="int"
 | .ref p=>(T="list"/\∃xs,fm K H p xs)\/(T="tuple"/\∃o,K.lookup p=some o/\o.cls= .type "tuple"/\o.dict=none)\/
   (T="dict"/\((∃ω,H p=some (.dK ω))\/∃ω,H p=some (.dT ω)))\/(T="set"/\∃S n,H p=some (.set S n))
 | _=>False
theorem KC{σ:St}{H:Hp}{T:String}{x:V}{v:Value}(I:Inv X δ σ H s)(r:ag x v)(ty:Vd X.K T x H):
  s.TypeIs v T/\∀a,v= .ref a->∃ob,s.heap.get? a=some ob/\ob.dict=none:=by
 cases x with
 | str z=>
  obtain ⟨t,rfl⟩:=r;cases (show T="str" from ty);exact ⟨typeIs_str s z t,λ_ e=>nomatch e⟩
 | int i=>
  obtain ⟨t,rfl⟩:=r;cases (show T="int" from ty);exact ⟨typeIs_int s i t,λ_ e=>nomatch e⟩
 | ref p=>
  cases r;rcases ty with ⟨rfl,xs,hq⟩ | ⟨rfl,o,hk,hc,hd⟩ | ⟨rfl,hk⟩ | ⟨rfl,S,n,hk⟩
  ·obtain ⟨its,_,pl,_⟩:=I.list hq;refine ⟨pl.isList.typeIs,λa e=> ?_⟩;cases e;obtain ⟨o,n,e,c,hd,_⟩:=pl;exact ⟨o,e,hd⟩
  ·refine ⟨⟨o,I.z5 p o hk,hc⟩,λa e=> ?_⟩;cases e;exact ⟨o,I.z5 _ o hk,hd⟩
  ·have z:∃o,s.heap.get? p=some o/\o.ExactDict:=by
    rcases hk with ⟨ω,hk⟩ | ⟨ω,hk⟩
    ·obtain ⟨_,_,_,_,o,_,_,e,ex,_⟩:=I.aB p _ hk;exact ⟨o,e,ex⟩
    ·obtain ⟨_,_,_,_,o,_,_,e,ex,_⟩:=I.aB p _ hk;exact ⟨o,e,ex⟩
   obtain ⟨o,e,ex⟩:=z;refine ⟨⟨o,e,ex.1⟩,λa e2=> ?_⟩;cases e2;exact ⟨o,e,ex.2.1⟩
  ·obtain ⟨o,_,_,_,e,ex,_⟩:=I.aB p _ hk;refine ⟨⟨o,e,ex.1⟩,λa e2=> ?_⟩;cases e2;exact ⟨o,e,ex.2.1⟩
 | _=>exact False.elim ty
def Zz(K:fv)(T:String)(r:V->List V->Hp->VK->Prop)(to:TE)(t:TA):TE:=λσ H Q=>to σ H λx H1=>Vd K T x H1/\t σ H1 λxs H2=>r x xs H2 Q
variable{o e:Expr}{es:List Expr}{to:TE}{t:TA}{name:Str}{apos aA:Pos}{T id:String}{r:V->List V->Hp->VK->Prop}
theorem FX(pa:PlainAttrs T)(slot:Slot T name id)(YW:typeOf (.builtin id)=pure (.type "method_descriptor"))(hm:Vv X id r)(ho:PE X o to)(ha:PA X (e::es) t)
  (pF:attributeBase o name X.env (eval o X.env)=eval o X.env:=by rfl)
  (zg:((backTo aA (starEach (e::es) X.env)).all (λx=> !x.1)&&(backToKw aA (keywordEach [] X.env)).all (λx=>x.1.isSome)
   &&decide ((e::es).length+([]:List Keyword).length+(if ([]:List Keyword).isEmpty then 0 else 1) < 30))=true:=by rfl)
  (pO:(apos.endLine==aA.line)=true:=by rfl) (hs:starEach (e::es) X.env=(false,eval e X.env)::starEach es X.env:=by rfl) (j6:(backTo aA (starEach es X.env)).any (·.1)=false:=by rfl):
  PE X (.Call (.Attribute o name apos) (e::es) [] aA) (Zz X.K T r to t):=by
 intro δ s σ H Q I h;refine wpAny_Call_method_late pF zg pO rfl (bx (ho δ s σ H _ I h) λv s1 ⟨x,H1,I1,r1,ty,q1⟩=> ?_);obtain ⟨h1,h2⟩:=KC I1 r1 ty;refine ⟨T,id,pa,slot,YW,h1,h2, ?_⟩;have hA:=ha aA δ s1 σ H1 _ I1 q1;rw [hs] at hA⊢;refine Calls.callWith_builtin (by show (false || (backTo aA (starEach es X.env)).any (·.1))=false;rw [j6] <;> rfl) (Calls.evalArgs_plain ?_);exact bx hA λus s2 ⟨vs,H2,I2,r2,q2⟩=>hm δ s2 σ H2 x vs v us Q I2 r1 r2 q2
end
def S4(X:Cx)(id:String)(r:V->List V->Hp->VK->Prop):Prop:=
 ∀(δ:List (Addr×Obj)) (s:Shared) (σ:St) (H:Hp) (x:V) (xs:List V) (v:Value) (us:List Value) (Q:VK),Inv X δ σ H s->ag x v->ao xs us->r x xs H Q->
  wpAny (model X.prog X.w) X.A (call (.builtin id) (v::us)) (EP X δ σ Q) X.xe s
theorem ao.one:∀{x:V} {us:List Value},ao [x] us->∃u,us=[u]/\ag x u
 | _,_, .cons r .nil=>⟨_,rfl,r⟩
theorem ao.rep{xs:List V}{us:List Value}(h:ao xs us):∀k:Nat,ao (List.replicate k xs).flatten (List.replicate k us).flatten
 | 0=> .nil
 | k+1=>by rw [abi,abi,abx,abx];exact ao.append h (ao.rep h k)
theorem tS(its:List Value):∀(k:Nat) (af:List Value),
  List.foldl (λx1 x2=>x1++x2) af.toArray (List.replicate k its.toArray)=(af++(List.replicate k its).flatten).toArray
 | 0,af=>by simp
 | k+1,af=>by
  have e:af.toArray++its.toArray=(af++its).toArray:=by simp
  have e2:(af++its)++(List.replicate k its).flatten=af++(List.replicate (k+1) its).flatten:=by rw [abi,abx,abj]
  rw [<-e2,<-tS its k (af++its),<-e,abi,List.foldl_cons]
section
variable{σ:St}{H:Hp}{l b:Addr}{xs ys zs:List V}
theorem Inv.T5{its its':List Value}{n:Nat}{f:Array Value->Array Value}{t':Nat}(I:Inv X δ σ H s)(hH:H l=some (.lst xs))
  (e:s.heap.get? l=some {cls:= .type "list",data:= .seq its.toArray n}) (hf:f its.toArray=its'.toArray) (hv:ao ys its') (hz:ys.length<=sizeLine):
  Inv X δ σ (upd H l (.lst ys)) {s with heap:=s.heap.update l (Obj.mapSeq f),toks:=t'}:=by
 have q:=PySem.IsL.update e f;rw [hf] at q;refine I.write (x:=l) (e:=l) (by rw [hH];exact trivial) (.inl rfl) (λb' u hb hu=>(Heap.get?_update_other s.heap (Obj.mapSeq f) (Ne.symm hb)).trans hu) ⟨_,q⟩ ?_;exact ⟨hz,its',_,hv,q⟩
theorem Inv.Kg{its:List Value}{t':Nat}(I:Inv X δ σ H s)(hv:ao ys its)(hz:ys.length<=sizeLine):
  Inv X δ σ (upd H s.heap.objs.size (.lst ys)) {s with heap:=s.heap.push {cls:= .type "list",data:= .seq its.toArray},toks:=t'}:=
 I.laid (λ_ _ q=>aah _ q) (aal _) ⟨hz,its,0,hv,aaw _ rfl⟩
theorem Inv.fresh(I:Inv X δ σ H s):H s.heap.objs.size=none:=I.aB.fresh (aal _)
theorem Inv.IU(I:Inv X δ σ H s)(hH:H l=some (.lst xs)):xs.length<=sizeLine/\∃(its:List Value) (n:Nat),ao xs its/\xs.length=its.length/\s.heap.get? l=some {cls:= .type "list",data:= .seq its.toArray n}:=by obtain ⟨z,its,n,r,e⟩:=I.aB l _ hH;exact ⟨z,its,n,r,r.length,e⟩
theorem FW{n:Nat}(h:n<=sizeLine):Builtin.List.listTooLong n=false:=by unfold Builtin.List.listTooLong;exact aaK (by omega)
end
section
def AB:V->List V->Hp->VK->Prop:=λx vs H Q=>∃l xs y,x= .ref l/\vs=[y]/\H l=some (.lst xs)/\xs.length < sizeLine/\Q .bV (upd H l (.lst (xs++[y])))
theorem sI:S4 X "list.append" AB:=by intro δ s σ H x vs v us Q I rx rv h;obtain ⟨l,xs,y,rfl,rfl,hH,hz,q⟩:=h;cases rx;obtain ⟨u,rfl,ru⟩:=rv.one;obtain ⟨z,its,n,r,hl,e⟩:=I.IU hH;refine call_meets F.slot_list_append ⟨_,e,rfl⟩ F.entry_list_append (F.args_list_append_2 _ _) (PySem.list_append l its.toArray n u (by rw [aay];omega)) ⟨e, ?_⟩;refine ⟨.bV,_,I.T5 (its':=its++[u]) hH e (by simp) (r.append (.cons ru .nil)) ?_,rfl,q⟩;rw [aai,List.length_singleton];omega
def NU:R2:=λx y H Q=>∃l b xs zs,x= .ref l/\y= .ref b/\H l=some (.lst xs)/\H b=some (.lst zs)/\xs.length+zs.length<=sizeLine/\∀p,H p=none->Q (.ref p) (upd H p (.lst (xs++zs)))
theorem MF:jj X (binaryOp .Add) NU:=by
 intro δ s σ H x y v u Q I rx ry h;obtain ⟨l,b,xs,zs,rfl,rfl,hH,hB,hz,q⟩:=h;cases rx;cases ry;obtain ⟨z,its,n,r,hl,e⟩:=I.IU hH;obtain ⟨z2,KZ,n2,r2,Gy,e2⟩:=I.IU hB;refine PySem.P.add_list e e2 ?_ (by rw [aay,aay];omega);have ea:its.toArray++KZ.toArray=(its++KZ).toArray:=by simp
 rw [ea];exact ⟨.ref _,_,I.Kg (t':=s.toks) (r.append r2) (by rw [aai];omega),rfl,q _ I.fresh⟩
def Pf:R2:=λx y H Q=>∃l k xs,x= .ref l/\y= .int k/\H l=some (.lst xs)/\ -(2 ^ 63)<=k/\k < 2 ^ 63/\xs.length * k.toNat<=sizeLine/\
 ∀p,H p=none->Q (.ref p) (upd H p (.lst (List.replicate k.toNat xs).flatten))
theorem Jf{α:Type}(xs:List α)(k:Nat):(List.replicate k xs).flatten.length=k * xs.length:=by
 induction k with
 | zero=>simp
 | succ k ih=>rw [abi,abx,aai,ih,Nat.succ_mul,Nat.add_comm]
theorem Kq:jj X (binaryOp .Mult) Pf:=by
 intro δ s σ H x y v u Q I rx ry h;obtain ⟨l,k,xs,rfl,rfl,hH,h1,h2,hz,q⟩:=h;cases rx;obtain ⟨t,rfl⟩:=ry;obtain ⟨z,its,n,r,hl,e⟩:=I.IU hH;have hlen:its.toArray.size * k.toNat<=sizeLine:=by rw [aay,<-hl];exact hz
 have S9:¬its.toArray.size * k.toNat > (2 ^ 63 - 1) / 8:=by
  have:(sizeLine:Nat)<=(2 ^ 63 - 1) / 8:=by decide
  omega
 have Tt:¬(!Builtin.List.listFitsIndex k)=true:=by rw [fitsIndex_both h1 h2];exact aau
 have PF:¬Builtin.List.listTooLong (its.toArray.size * k.toNat)=true:=by rw [FW hlen];exact aau
 have T1:List.foldl (λx1 x2=>x1++x2) #[] (List.replicate (if its.toArray.isEmpty=true then 0 else k.toNat) its.toArray)=(List.replicate k.toNat its).flatten.toArray:=by
  have f0:∀m:Nat,List.foldl (λx1 x2=>x1++x2) #[] (List.replicate m its.toArray)=(List.replicate m its).flatten.toArray:=λm=>by have:=tS its m [];rw [aaR] at this;exact this
  rw [f0];cases its with
  | nil=>simp
  | cons a r'=>rw [if_neg (by simp)]
 refine wpAny_binaryOp_repeat_ref (T:="list") (U:="int") (by decide) ⟨_,e,rfl⟩ (λs'=>typeIs_int s' k t) noFill_list_mul F.fills_int_mul F.slot_int_rmul repeat_list F.slot_int_index.lookup
  (call_meets F.slot_int_rmul (typeIs_int s k t) F.entry_int_rmul (F.args_int_rmul_2 _ _) (int___rmul___int_list k t l its.toArray n)
   ⟨e,rfl,⟨_,e,rfl⟩,call_meets F.slot_list_mul ⟨_,e,rfl⟩ F.entry_list_mul (F.args_list_mul_2 _ _) (AutoListH.list___mul___list_int_3 l its.toArray n k t Tt S9 PF) ⟨e, ?_⟩⟩)
 rw [T1];exact ⟨.ref _,_,I.Kg (t':=s.toks) (r.rep k.toNat) (by rw [Jf,Nat.mul_comm];exact hz),rfl,q _ I.fresh⟩
end
end L2
namespace Att
open PySem PySem.W PySem.Calls PyProof.Rows
theorem nZ{P:Params}{h:Heap}:∀(ns:List Int) (vs:List Value),WellAll P h vs (ns.map WData.int)->IntsAre vs ns:=by
 intro ns
 induction ns with
 | nil=>
  intro vs w;rw [List.map_nil] at w;cases w;exact .nil
 | cons n ns ih=>
  intro vs w;rw [aav] at w;cases w with
  | cons a b=>
   cases a;exact .cons _ _ (ih _ b)
theorem Ck{l:OpenLaw}{n:Nat}(hn:l.most=some n){P:Params}{h:Heap}{args:List WData}{vals:List Value}
  (Hz:l.row.toRowW.claim.pre args=true) (R1:WellAll P h vals args):
  ∃a vs ns,vals=[Value.ref a]/\args=[WData.list (ns.map WData.int)]/\h.get? a=some {cls:= .type "list",data:= .seq vs.toArray}/\IntsAre vs ns/\ns.length<=n:=by
 have NH:WShape.hasAll [] args [.list .int]=true:=(pre_splitW Hz).1;have hc:l.pre.holds [] {args:=args}=true:=(pre_splitW Hz).2;obtain ⟨d,r,rfl,h1,h2⟩:=hasAllW_cons NH;obtain rfl:=hasAllW_nil h2;obtain ⟨xs,rfl,h3⟩:=hasW_list h1;obtain ⟨ns,rfl⟩:=items_int h3;have hlen:ns.length<=n:=by
  unfold OpenLaw.pre at hc;have h4:(WTm.not (.lt (.lit (.int (n:Int))) (.len (.arg 0)))).holds [] {args:=[.list (ns.map .int)]}=true:=by have h4:=(holds_andW hc).1;rw [hn] at h4;exact h4
  have h5:=condW_of h4 (w_not (w_lt w_lit (w_len_list (w_arg rfl))));rw [aac] at h5;refine Nat.le_of_not_lt λq=> ?_;have q':(n:Int) < ((ns.length:Nat):Int):=by omega
  first
   | (rw [aam q'] at h5;exact aaI h5 (by decide))
   | (simp at h5;omega)
 cases R1 with
 | cons w1 w2=>
  cases w2;cases w1 with
  | list ho l7=>exact ⟨_,_,ns,rfl,rfl,ho,nZ ns _ l7,hlen⟩
theorem Cy(l:OpenLaw)(args:List WData):l.row.toRowW.claim.post args (.bool true) args=true:=
 postW_of (r:=l.row.toRowW) (X:=(true==true))
  (show WShape.has [] (.bool true) .bool=true by first | rfl | decide | simp [WShape.has,WShape.arms,WShape.armsAll])
  (show (WTm.eq .res (.lit (.bool true))).value [] {args:=args,res:=some (.bool true),after:=args}=some (.bool (true==true)) from w_eq_bool (w_res rfl) w_lit) rfl
theorem wx{l:OpenLaw}{n:Nat}{q:Program}{loose:List Str}{XP:(Str->Option Value)->Heap->Prop}{YP:World->Heap->Prop}{d:DefRec}
  (hn:l.most=some n) (Pn:d.params.defaults=[])
  (call:∀(w:World) (s₀ s₁:Shared) (mg mb:Str->Option Value) (fa:Addr) (o:Obj) (pm cd doc:Value) (a:Addr) (vs:List Value) (ns:List Int),
   Ground q loose [] XP w s₀ mg mb s₁.heap->YP w s₁.heap->
   s₁.heap.get? fa=some o->o.data= .func (docDef d.name d.params d.body d.scope pm cd doc)->s₁.heap.CodeRec cd d.name->mg d.name=some (.ref fa)->
   s₁.heap.get? a=some {cls:= .type "list",data:= .seq vs.toArray}->IntsAre vs ns->ns.length<=n->s₁.gens= #[]->
   codeAny (model l.prog w) callerA (.call (.ref fa) ⟨[.ref a],[]⟩) (λr s'=>r= .ok (.ret (.bool true))/\OldK s₁.heap s'.heap/\s'.os=s₁.os/\AllBare s'.gens) s₁):
  WalkO q loose XP YP l.row.toRowW d [] (λf vs=>PySem.call f vs):=by
 intro w s₀ s₁ mg mb G Y fa o pm cd doc dV kV ho hd Df hD IM hg args vals as Hz ZX Z7 R1 hlo;obtain rfl:dV= .none:=Dflts.none hD Pn;obtain rfl:kV= .none:=Dflts.noKw hD;obtain ⟨a,vs,ns,rfl,rfl,MQ,hints,hlen⟩:=Ck hn Hz R1;refine enter_call (codeAny_mono (call w s₀ s₁ mg mb fa o pm cd doc a vs ns G Y ho (fd_plain hd) Df IM MQ hints hlen hg) λr s' hq=> ?_);obtain ⟨rfl,h2,h3,h4⟩:=hq;exact ⟨.inl ⟨.bool true, .bool true,[],rfl,λ_=>rfl, .bool true,Cy l _,λ_=>⟨List.Pairwise.nil,λ_ hm=>(nomatch hm)⟩⟩,h2,h3,h4⟩
end Att
namespace L2
open PySem PySem.Spec PyProof.Rows
theorem tF:∀{vs:List Value} {ns:List Int},IntsAre vs ns->ao (ns.map V.int) vs
 | _,_, .nil=> .nil
 | _,_, .cons n t h=> .cons ⟨t,rfl⟩ (tF h)
def MM(H:Hp):Prop:=∀b,H b=none\/∃o xs,H b=some (.AS o (.lst xs))
theorem Dj{P:Program}{w:World}{K:fv}{mg mb:Str->Option Value}{CX:yb}{k:Nat}{fa a:Addr}{fd:FuncData}{x:Str}{sp:Sp}{s₁:Shared}{vs:List Value}{ns:List Int}
  (KX:K.In s₁.heap) (VS:s₁.heap.Ns mainGlobals mg) (hb:s₁.heap.Ns builtinsNs mb) (Wg:∀x:Str,x≠"__name__"->mb x=bootBuiltins x) (Td:s₁.heap.NoLimit) (hg:s₁.gens= #[])
  (ha:s₁.heap.get? a=some {cls:= .type "list",data:= .seq vs.toArray}) (hi:IntsAre vs ns) (hl:ns.length<=sizeLine) (hr:bt k callerA)
  (F:∀base:Heap,K.In base->base.Ns mainGlobals mg->aC P w K mg base CX k fa fd [x] sp) (OG:∀(s:Shared) (u:Value),BindsTo s fd ⟨[u],[]⟩ [(x,u)])
  (JP:∀H:Hp,MM H->fm K H a (ns.map V.int)->sp [.ref a] H (λv _=>v= .bl true) λ_ _ _=>False)
  (RL:∀H e s',CX [] H s₁ (λ_ _ _=>False) e s'->False):
  codeAny (model P w) callerA (.call (.ref fa) ⟨[.ref a],[]⟩) (λr s'=>r= .ok (.ret (.bool true))/\OldK s₁.heap s'.heap/\s'.os=s₁.os/\AllBare s'.gens) s₁:=by
 have rv:=tF hi;have UB:=hi.length
 have core:∀H:Hp,MM H->fm K H a (ns.map V.int)->iL P w H s₁.heap->(∀b,H b≠none->b=a)->(H a≠none->K.lookup a=none)->
   codeAny (model P w) callerA (.call (.ref fa) ⟨[.ref a],[]⟩) (λr s'=>r= .ok (.ret (.bool true))/\OldK s₁.heap s'.heap/\s'.os=s₁.os/\AllBare s'.gens) s₁:=by
  intro H hO hS aB hA hK;have Ak:∀{b:Addr} {o:Obj},s₁.heap.get? b=some o->H b=none->(uv s₁.heap H).get? b=some o:=λe n=>Gr e n;have PX:∀{b:Addr} {o:Obj} {es:Array DictEntry} {ep:Nat},s₁.heap.get? b=some o->o.data= .dict es ep->H b=none:=λ{b o es ep} e d=>by
   cases q:H b with
   | none=>rfl
   | some u=>
    have e':b=a:=hA b (by rw [q];simp);subst e';rw [ha] at e;cases e;have d':Data.seq vs.toArray _=Data.dict es ep:=d;cases d'
  have Rp:∀{b:Addr} {m:Str->Option Value},s₁.heap.Ns b m->(uv s₁.heap H).Ns b m:=λ{b m} ⟨o,es,ep,e,d,r⟩=>⟨o,es,ep,Ak e (PX e d),d,r⟩
  have VD:K.In (uv s₁.heap H):=λb o e=>Ak (KX b o e) (by
   cases q:H b with
   | none=>rfl
   | some u=>
    have e':b=a:=hA b (by rw [q];simp);subst e'
    rw [hK (by rw [q];simp)] at e;cases e)
  have hM:Mod K mg (uv s₁.heap H):=⟨VD,Rp VS,⟨mb,Rp hb,Wg⟩,let ⟨mc,h1,h2⟩:=Td;⟨mc,Rp h1,h2⟩⟩;have e0:yD P w K mg (uv s₁.heap H) callerA [] s₁ H:=⟨rfl,hM,λb o e=>IG e,Nat.le_of_eq (Bs _ _),trivial,λb hb=>absurd (show b∈([]:List Addr) from hb) (by simp),aB, .of_eq hg⟩;refine codeAny_mono ((F _ VD (Rp VS)).run callerA [] s₁ H ⟨[.ref a],[]⟩ [.ref a] [.ref a] _ _ hr e0 (OG s₁ (.ref a)) (.cons rfl .nil) (JP H hO hS)) λr s' h=> ?_;cases r with
  | error e=>exact (RL H e s' h).elim
  | ok fl=>
   cases fl with
   | next=>exact False.elim h
   | brk=>exact False.elim h
   | cont=>exact False.elim h
   | ret u=>
    obtain ⟨v,H',os,bare,un,TJ,r',q⟩:=h;have q':v= .bl true:=q;subst q';obtain rfl:u=Value.bool true:=r';refine ⟨rfl,OldK.of_keep λb o e=> ?_,os,bare⟩;cases q:H b with
    | none=>exact un.keep b o e q (by intro z;exact absurd (show b∈([]:List Addr) from z) (by simp)) (by simp)
    | some u=>
     rcases hO b with z | ⟨ob,xs,z⟩
     ·rw [q] at z;cases z
     ·have z2:=un.nh b ob _ z;obtain ⟨e1,_⟩:=aB b _ z;obtain ⟨e2,_⟩:=TJ b _ z2;rw [e] at e1;cases e1;exact e2
 cases hk:K.lookup a with
 | some o=>
  have e:=KX a o hk;rw [ha] at e;cases e;refine core (λ_=>none) (λ_=> .inl rfl) (.inr ⟨_,vs.toArray,_,hk,rfl,rfl,rfl,by rw [List.size_toArray,UB];exact hl,by simpa using rv⟩) (λb u z=>by have z':(none:Option HO)=some u:=z;cases z') (λb z=>absurd rfl z) λz=>absurd rfl z
 | none=>
  refine core (λb=>if b=a then some (.AS {cls:= .type "list",data:= .seq vs.toArray} (.lst (ns.map V.int))) else none) (λb=> ?_) (.inl (.inr ⟨{cls:= .type "list",data:= .seq vs.toArray},aaF rfl⟩)) (λb u z=> ?_) (λb z=> ?_) λ_=>hk
  ·by_cases hb:b=a
   ·exact .inr ⟨_,_,aaF hb⟩
   ·exact .inl (aaA hb)
  ·by_cases hb:b=a
   ·have z':=(aaF hb).symm.trans z;cases z';subst hb;exact ⟨ha,by rw [aac];exact hl,vs,_,rv,ha⟩
   ·have z':=(aaA hb).symm.trans z;cases z'
  ·by_cases hb:b=a
   ·exact hb
   ·exact aaI (aaA hb) z
theorem vF{l:PySem.W.OpenLaw}{n k:Nat}{q:Program}{loose:List Str}{XP:(Str->Option Value)->Heap->Prop}{YP:World->Heap->Prop}{d:DefRec}{K:Params->fv}{CX:World->yb}{sp:World->Sp}{x:Str}
  (hn:l.most=some n) (NJ:n<=sizeLine) (Pn:d.params.defaults=[]) (hr:bt k callerA)
  (hY:∀(w:World) (h:Heap),YP w h->(K w.params).In h)
  (F:∀(w:World) (mg:Str->Option Value) (fa:Addr) (h:Heap),(K w.params).In h->h.Ns mainGlobals mg->mg d.name=some (.ref fa)->
   ∃fd:FuncData,(∀(s:Shared) (u:Value),BindsTo s fd ⟨[u],[]⟩ [(x,u)])/\
    ∀base:Heap,(K w.params).In base->base.Ns mainGlobals mg->aC l.prog w (K w.params) mg base (CX w) k fa fd [x] (sp w))
  (JP:∀(w:World) (H:Hp) (a:Addr) (ns:List Int),ns.length<=n->MM H->fm (K w.params) H a (ns.map V.int)->sp w [.ref a] H (λv _=>v= .bl true) λ_ _ _=>False)
  (RL:∀(w:World) (H:Hp) (s:Shared) (e:Value) (s':Shared),CX w [] H s (λ_ _ _=>False) e s'->False):
  PySem.W.WalkO q loose XP YP l.row.toRowW d [] (λf vs=>PySem.call f vs):=by
 refine Att.wx hn Pn λw s₀ s₁ mg mb fa o pm cd doc a vs ns G Y ho hd Df IM MQ hints hlen hg=> ?_;have KX:=hY w _ Y;obtain ⟨fd,hb,hF⟩:=F w mg fa _ KX G.T.g IM;exact Dj KX G.T.g G.T.b G.T.builtins G.T.nolimit hg MQ hints (aax hlen NJ) hr hF hb (λH hO hS=>JP w H a ns hlen hO hS) λH e s'=>RL w H s₁ e s'
end L2
/- Xi SI Hw (shape;Xx,My.* are PB):
  My.Y7:a structure of Ja addresses Uu Tj OZ names (classes,BD);My.Txt K t:a structure (Prop) of Ja equations ot K;
  My.zk:{K} {implicit addresses ..} (e1:nsIn K mainGlobals "law"=some (some (.ref f))) (e2:K.lookup f=some ⟨oc,od, .func (fnOf "law" "law" params body scope dV kV doc pm an b8 ct),sl⟩) (e3:codeIn K b8 "law"=true) .. :∃t,My.Txt K t
set_option maxRecDepth 100000 in
set_option maxHeartbeats 0 in
theorem PySem.Challenge.cw_LID_holds : PySem.Challenge.rw_LID.Holds := by
 w_on;o_law;k_head;(case hw=>w_witness2)
 k_fill
 refine L2.vF (l:=PySem.Challenge.rw_LID) (n:=63) (k:=40) (x:="script") (CX:=fun w=> ..) (sp:=fun _=>My.MV) rfl (by decide) rfl ⟨rfl,by decide,by decide⟩ (fun w h Y=>PySem.W.kIn_of Y) ?F ?S ?C
 case F=>
  intro w mg fa h KX G IM;have T:∃t,My.Txt (L2.Ut KX) t:=by
   dsimp only [L2.Ut]
   refine' My.zk ?e1 ?e2 ?e3 ..
   (case e1=>PySem.W.k_is)
   (case e2=>PySem.W.k_is)
   ..
  obtain ⟨t,T⟩:=T;have e0:=IM.symm.trans (PySem.W.mg_of KX G T.WU);cases e0;exact ⟨_,λs u=> .of_eq rfl,λbase kb nb=>My.zj T kb nb⟩
 case S=>exact λw H a ns hl hO hS=> ..
 case C=>exact ..
(Ja tactic k_is has no namespace:write k_is) -/
namespace L2
open PySem PySem.Spec PyProof.Rows
variable{P:Program}{w:World}{mg:Str->Option Value}{base:Heap}{qual:Str}{st:Stmt}{f x:Addr}{fd:FuncData}{ps N xs ys:List Str}{A:Around}{k:Nat}{s:Shared}{env:Env}{outer:List Env}{X:Cx}{δ:List (Addr×Obj)}{scope:Scope}{Λ:List Nat}
def je(s:Stmt):Arguments:=match s with
 | .FunctionDef _ a _ _ _ _ _ _ _ _=>a
 | _=>{posonlyargs:=[],args:=[],vararg:=none,kwonlyargs:=[],kw_defaults:=[],kwarg:=none,defaults:=[]}
def fF(s:Stmt):List Stmt:=match s with
 | .FunctionDef _ _ b _ _ _ _ _ _ _=>b
 | _=>[]
def χ(s:Stmt):Scope:=match s with
 | .FunctionDef _ _ _ _ _ _ sc _ _ _=>sc
 | _=>{kind:= .function,names:=[],isGenerator:=false,isCoroutine:=false}
abbrev Rf:yb:=λ_ _ _ _ _ _=>False
abbrev E0:XK:=λ_ _ _=>False
structure eD(K:fv)(x qual:Str)(st:Stmt)(f:Addr)(fd:FuncData):Prop where
 ex:∃(oc:Value) (od:Option Addr) (kV doc pm:Value) (an:Option Addr) (b8 ct:Value) (DL:Array (Option Value)),
  fd=PySem.W.fnOf x qual (je st) (fF st) (χ st) .none kV doc pm an b8 ct/\K.lookup f=some ⟨oc,od, .func fd,DL⟩/\PySem.W.codeIn K b8 qual=true
 kp:PySem.W.keepIn K (.ref f)=true
section
variable{K:fv}
theorem eD.binds{x:Str}(F:eD K x qual st f fd)
  (h:∀(kV doc pm:Value) (an:Option Addr) (b8 ct:Value) (us:List Value),us.length=ps.length->bindArgs (PySem.W.fnOf x qual (je st) (fF st) (χ st) .none kV doc pm an b8 ct) ⟨us,[]⟩=pure (ps.zip us)):ij K fd ps []:=by
 obtain ⟨oc,od,kV,doc,pm,an,b8,ct,DL,rfl,lk,Df⟩:=F.ex;exact .all (h kV doc pm an b8 ct)
theorem F0{x:Str}{oc:Value}{od an:Option Addr}{DL:Array (Option Value)}{kV doc pm b8 ct:Value}(l:K.lookup f=some ⟨oc,od, .func (PySem.W.fnOf x qual (je st) (fF st) (χ st) .none kV doc pm an b8 ct),DL⟩)
  (c:PySem.W.codeIn K b8 qual=true) (k:PySem.W.keepIn K (.ref f)=true):eD K x qual st f (PySem.W.fnOf x qual (je st) (fF st) (χ st) .none kV doc pm an b8 ct):=⟨⟨oc,od,kV,doc,pm,an,b8,ct,DL,rfl,l,c⟩,k⟩
end
theorem Ph(hr:bt k A):A.units+1 < cLine:=aaN (Nat.add_le_add_left (by decide:1<=64) _) hr.units
theorem yz{A B:Prop}(h:B):if false=true then A else B:=by rw [aaA aau];exact h
theorem yU{A B:Prop}(h:A):if true=true then A else B:=by rw [aaF rfl];exact h
def cE(H H':Hp):Prop:=∀b o,H b=some o->H' b=some o
theorem cE.refl(H:Hp):cE H H:=λ_ _ h=>h
theorem cE.trans{H H1 H2:Hp}(a:cE H H1)(b:cE H1 H2):cE H H2:=λc o h=>b c o (a c o h)
theorem cE.free{H H':Hp}(e:cE H H'){l:Addr}(h:H' l=Option.none):H l=Option.none:=by
 cases q:H l with
 | none=>rfl
 | some o=>
  rw [e l o q] at h;cases h
theorem cE.seq{K:fv}{H H':Hp}{a:Addr}{xs:List V}(e:cE H H')(h:fm K H a xs):fm K H' a xs:=by
 rcases h with (h | ⟨o,h⟩) | h
 ·exact .inl (.inl (e _ _ h))
 ·exact .inl (.inr ⟨o,e _ _ h⟩)
 ·exact .inr h
section
def Ha(B:Heap)(l:List Env)(x:Addr)(o:Obj)(fl:Value)(h:Heap):Prop:=
 B.StaysIn h/\B.get? x=none/\h.FunFrames B l/\∃(vs:Array Value) (T:Addr) (oT:Obj) (ts:Array Value),h.get? x=some {o with data:= .fields vs}/\vs[2]? =some .none/\vs[1]? =some (.ref T)/\
  B.get? T=none/\T≠x/\h.get? T=some oT/\oT.data= .fields ts/\ts[3]? =some fl
section
variable{M:Model}{E:Value->Shared->Prop}{B:Heap}{l:List Env}{L:Addr}{o:Obj}{vs:Array Value}{Q:Unit->Shared->Prop}
theorem pB{h h':Heap}{T:Addr}{oT:Obj}{ts:Array Value}(hT:h.get? T=some oT)(hd:oT.data= .fields ts)(k:∀b,b≠T->h'.get? b=h.get? b):h.UpToSlots h':=λb ob e hn=>
 ⟨ob.slots,(k b λz=>by rw [z,hT] at e;cases e;exact hn _ hd).trans e⟩
theorem tR{h h':Heap}(hl:h.FunFrames B l)(u:h.UpToSlots h'):h'.FunFrames B l:=hl.of_keeps λb ob e hn=>by obtain ⟨sl,q⟩:=u b ob e hn;exact ⟨_,q,rfl⟩
theorem FG{head:Value}{Xv:Bool}(K0:A.frames=some (env::outer))(hf:env.frame=some L)(hB:B.StaysIn s.heap)(hn:B.get? x=none)(hl:s.heap.FunFrames B (env::outer))(hx:s.heap.get? x=some {o with data:= .fields vs})(h1:1 < vs.size)(h2:vs[2]? =some .none)
  (h:∀h',Ha B (env::outer) x o (rawInt L) h'->s.heap.UpToSlots h'->Q () {s with heap:=h'}):
  wpAny M A (do let a<-frameOf env;let pl<-entryPlaceOf L Xv;let n<-EntryCells.newEntry head a .none (rawInt L) .none pl;setField (.ref x) 1 n) Q E s:=by
 refine aab (wpAny_frameOf_fun K0 hl hf λg1 S1=>aab (wpAny_entryPlaceOf λpl fQ=> ?_));have nx:x∉(env::outer).filterMap (·.frame):=λz=>by obtain ⟨_,ob,e,d⟩:=hl.mem z;rw [hx] at e;cases e;exact d _ rfl
 have UW:g1.get? x=some {o with data:= .fields vs}:=(S1.2.1 x nx).trans hx;unfold EntryCells.newEntry newFields;refine aab (wpAny_newObj_type ?_ (fQ.sizeOk5 _ _ _ _ _));have Rr:=aah (h:=g1) {cls:= .type "traceback",dict:=none,data:= .fields ([head, .ref L, .none,rawInt L, .none]++(if pl.isEmpty then List.replicate 6 Value.none else pl)).toArray} UW;refine wpAny_setField Rr rfl h1 (h _ ?_ ?_)
 ·have up1:∀b ob,b≠x->g1.get? b=some ob->((g1.push {cls:= .type "traceback",dict:=none,data:= .fields ([head, .ref L, .none,rawInt L, .none]++(if pl.isEmpty then List.replicate 6 Value.none else pl)).toArray}).update x (Obj.mapFields (·.setIfInBounds 1 (Value.ref g1.objs.size)))).get? b=some ob:=λb ob nb e=>
   (Heap.get?_update_other _ _ (Ne.symm nb)).trans (aah _ e)
  have neT:g1.objs.size≠x:=Nat.ne_of_gt (aat UW)
  refine ⟨λb ob e=>up1 b ob (λz=>by rw [z,hn] at e;cases e) ((S1.2.1 b λz=>by rw [(hl.mem z).1] at e;cases e).trans (hB b ob e)),hn,hl.of_keeps λb ob e d=> ?_,vs.setIfInBounds 1 (.ref g1.objs.size),g1.objs.size,_,_,Heap.get?_update_self _ Rr rfl,by rw [Array.getElem?_setIfInBounds_ne (by decide)];exact h2,by simp [h1], ?_,neT,
   (Heap.get?_update_other _ _ (Ne.symm neT)).trans (aaw g1 rfl),rfl, ?_⟩
  ·obtain ⟨sl,q⟩:=S1.2.2 b ob e;exact ⟨_,up1 b _ (λz=>by rw [z,hx] at e;cases e;exact d _ rfl) q,rfl⟩
  ·cases q:B.get? g1.objs.size with
   | none=>rfl
   | some ob=>
    have:=aat (hB _ _ q);rw [<-S1.1] at this;exact aaI this (abo _)
  ·first
    | (simp;done)
    | (rcases fQ with rfl | ⟨_,_,_,_,_,_,_,rfl⟩ <;> simp)
 ·intro b ob e d;obtain ⟨sl,q⟩:=S1.2.2 b ob e;refine ⟨sl, ?_⟩;rw [Heap.get?_update_other _ _ (λz:x=b=>by rw [<-z,hx] at e;cases e;exact d _ rfl)];exact aah _ q
theorem N5(K0:A.frames=some (env::outer))(hf:env.frame=some L)(R:Ha B (env::outer) x o .none s.heap)
  (h:∀h',Ha B (env::outer) x o (rawInt L) h'->s.heap.UpToSlots h'->Q () {s with heap:=h'}):wpAny M A (noteFrame (.ref x) env) Q E s:=by
 obtain ⟨hB,hn,hl,vs,T,oT,ts,hx,h2,h1,nT,QU,hT,dT,h3⟩:=R;unfold noteFrame;simp only [hf];refine aab (wpAny_field hx rfl h1 ?_);rw [if_pos (show (Value.ref T != Value.none)=true by simp)];refine aab (wpAny_field hT dT h3 ?_);rw [if_neg (show¬((Value.none==rawInt L)=true) by simp [rawInt])];refine aab (wpAny_setField hT dT (abM.mp h3).1 ?_);have Eu:∀b,b≠T->(s.heap.update T (Obj.mapFields (·.setIfInBounds 3 Value.none))).get? b=s.heap.get? b:=λb nb=>Heap.get?_update_other _ _ (Ne.symm nb);have u:=pB hT dT Eu;exact FG K0 hf (λb ob e=>(Eu b λz=>by rw [z,nT] at e;cases e).trans (hB b ob e)) hn (tR hl u) ((Eu x (Ne.symm QU)).trans hx) (abM.mp h1).1 h2 λh' F' u'=>h h' F' (u.trans u')
theorem HF{fl:Value}(R:Ha B l x o fl s.heap)(h:∀h',Ha B l x o .none h'->s.heap.UpToSlots h'->Q () {s with heap:=h'}):wpAny M A (setFlight (.ref x) none) Q E s:=by obtain ⟨hB,hn,hl,vs,T,oT,ts,hx,h2,h1,nT,QU,hT,dT,h3⟩:=R;unfold setFlight;refine aab (wpAny_field hx rfl h1 ?_);rw [if_pos (show (Value.ref T != Value.none)=true by simp)];have z3:=(abM.mp h3).1;have Eu:∀b,b≠T->(s.heap.update T (Obj.mapFields (·.setIfInBounds 3 ((none:Option Addr).elim Value.none λf=>rawInt f)))).get? b=s.heap.get? b:=λb nb=>Heap.get?_update_other _ _ (Ne.symm nb);have u:=pB hT dT Eu;refine wpAny_setField hT dT z3 (h _ ⟨λb ob e=>(Eu b λz=>by rw [z,nT] at e;cases e).trans (hB b ob e),hn,tR hl u,vs,T,_,_,(Eu x (Ne.symm QU)).trans hx,h2,h1,nT,QU,Heap.get?_update_self _ hT (Obj.isFreed_of_fields (Obj.data_mapFields dT _)),Obj.data_mapFields dT _,by simp [z3]⟩ u)
theorem Lv{fl:Value}{h:Heap}(R:Ha B (env::outer) x o fl h):Ha B outer x o fl h:=by obtain ⟨hB,hn,⟨_,_,hl⟩,r⟩:=R;exact ⟨hB,hn,hl,r⟩
end
structure QT(P:Program)(w:World)(l:List Env)(H H':Hp)(h h' B:Heap)(x:Addr)(o:Obj):Prop where
 un:Un (n8 l) [] H H' h h'
 ok:iL P w H' B
 N_:Ha B l x o .none h'
 QS:∀b u,h.get? b=some u->H b=none->b∉n8 l->B.get? b=some u
 Pu:∀b u,h.get? b=some u->b∉n8 l->∃u',B.get? b=some u'
variable{l:List Env}{H H':Hp}{h h' Rz B:Heap}{o:Obj}
end
def dh(P:Program)(w:World):yb:=λouter H s E e s'=>
 ∃x o H' B,e= .ref x/\s'.os=s.os/\AllBare s'.gens/\QT P w outer H H' s.heap s'.heap B x o/\E o.cls o.dict H'
section
variable{σ:St}{H H':Hp}{Rz B:Heap}{ox:Obj}
theorem QT.leave(I:Inv X δ σ H s)(hex:X.ex=[])(B1:∀b∈n8 X.outer,b∈n8 X.stack)(ok:iL X.prog X.w H' B)(f:Ha B X.outer x ox .none Rz)(WN:X.s₀.heap.get? x=none)
  (QS:∀b o,b≠x->s.heap.get? b=some o->H b=none->b∉n8 X.stack->B.get? b=some o)
  (Pu:∀b o,b≠x->s.heap.get? b=some o->b∉n8 X.stack->∃o',B.get? b=some o')
  (sl:∀b o,s.heap.get? b=some o->b∈n8 X.stack->∃sl,Rz.get? b=some {o with slots:=sl})
  (free:∀b o,s.heap.get? b=some o->H b=none->H' b=none)
  (nV:∀b xs,H b=some (.tup xs)->H' b=some (.tup xs)) (nh:∀b o u,H b=some (.AS o u)->H' b=some (.AS o u))
  (oq:∀b ps,H b=some (.IW ps)->∃more,H' b=some (.IW (ps++more))):QT X.prog X.w X.outer X.H₀ H' X.s₀.heap Rz B x ox:=by
 have nX:∀b o,X.s₀.heap.get? b=some o->b≠x:=λb o e z=>by rw [z,WN] at e;cases e
 have jw:∀b:Addr,b∉X.ex:=λb z=>by rw [hex] at z;cases z
 have nS:∀b o,X.s₀.heap.get? b=some o->b∉n8 X.outer->b∉n8 X.stack:=λb o e hb z=>
  (aaB.mp (I.uZ b z)).elim (λq=>aaM (aaE (aat e) I.ok.above) q) hb
 refine ⟨⟨λb o e n hb _=> ?_,λb o e n hb _=> ?_,λb o e n _=> ?_,λb o e _=> ?_,λb xs e=>nV b xs (I.base.nV b xs e),λb o u e=>nh b o u (I.base.nh b o u e),λb ps e=> ?_⟩,ok,f,λb o e n hb=> ?_,λb o e hb=> ?_⟩
 ·exact f.1 b o (QS b o (nX b o e) (I.base.keep b o e n hb (jw b)) (I.base.free b o e n (jw b)) (nS b o e hb))
 ·obtain ⟨s1,e1⟩:=I.base.slot b o e n hb (jw b);obtain ⟨s2,e2⟩:=sl b _ e1 (B1 b hb);exact ⟨s2,e2⟩
 ·obtain ⟨o',e1⟩:=I.base.there b o e (jw b);exact free b o' e1 (I.base.free b o e n (jw b))
 ·obtain ⟨o',e1⟩:=I.base.there b o e (jw b);by_cases hb:b∈n8 X.stack
  ·obtain ⟨s2,e2⟩:=sl b _ e1 hb;exact ⟨_,e2⟩
  ·obtain ⟨o2,q⟩:=Pu b o' (nX b o e) e1 hb;exact ⟨o2,f.1 _ _ q⟩
 ·obtain ⟨m1,e1⟩:=I.base.oq b ps e;obtain ⟨m2,e2⟩:=oq b _ e1;exact ⟨m1++m2,by rw [e2,Array.append_assoc]⟩
 ·exact QS b o (nX b o e) (I.base.keep b o e n hb (jw b)) (I.base.free b o e n (jw b)) (nS b o e hb)
 ·obtain ⟨o',e1⟩:=I.base.there b o e (jw b);exact Pu b o' (nX b o e) e1 (nS b o e hb)
end
def cJ(CX:yb)(X:Cx)(R:St->XK):Prop:=∀(δ:List (Addr×Obj)) (σ:St) (H:Hp) (s:Shared) (e:Value) (s':Shared),Inv X δ σ H s->CX X.stack H s (R σ) e s'->X.xe e s'
section
variable{K:fv}{cd:Value}{s₀:Shared}{H₀:Hp}{E:XK}
theorem Ii:∀b∈n8 outer,b∈n8 (env::outer):=λb hb=>by obtain ⟨en,he,hf⟩:=abX.mp hb;exact abX.mpr ⟨en,aag _ he,hf⟩
theorem ο:cJ (dh P w) (ui (dh P w) P w K mg base N qual scope f cd A outer s₀ H₀ E) (λ_=>E):=by
 intro δ σ H s e s' I hx;obtain ⟨x,o,H',B,rfl,os,bare,F,hE⟩:=hx;show wpAny _ _ (do noteFrame (.ref x) _;setFlight (.ref x) none) _ _ s';refine aab (N5 (B:=B) I.ok.frames rfl F.N_ λh4 f4 u4=>HF f4 λh5 f5 u5=> ?_);refine ⟨x,o,H',B,rfl,os.trans I.os,bare,QT.leave I rfl Ii F.ok (Lv f5) ?_ (λb o _=>F.QS b o) (λb o _=>F.Pu b o) (λb o q hb=> ?_) (λb o q n=>F.un.free b o q n (by simp)) F.un.nV F.un.nh F.un.oq,hE⟩
 ·show s₀.heap.get? x=none;cases q:s₀.heap.get? x with
  | none=>rfl
  | some u=>
   obtain ⟨u',e1⟩:=I.base.there x u q (λz=>nomatch z);by_cases hb:x∈n8 (ui (dh P w) P w K mg base N qual scope f cd A outer s₀ H₀ E).stack
   ·obtain ⟨vs,_,_,_,Zj,_⟩:=F.N_.2.2.2;obtain ⟨_,o',oy,hd⟩:=F.N_.2.2.1.mem hb;rw [Zj] at oy;cases oy;exact aaI rfl (hd _)
   ·obtain ⟨u2,e2⟩:=F.Pu x u' e1 hb;rw [F.N_.2.1] at e2;cases e2
 ·obtain ⟨sl,e1⟩:=F.un.slot b o q (I.uR b hb) hb (by simp);obtain ⟨_,o',oy,hd⟩:=F.N_.2.2.1.mem hb;rw [e1] at oy;cases oy;obtain ⟨kQ,e2⟩:=(u4.trans u5) b _ e1 hd;exact ⟨kQ,e2⟩
end
def LA(sp:Sp)(ow:List V)(R:St->XK)(t:TA):TE:=λσ H Q=>t σ H λvs H1=>sp (vs++ow) H1 Q (R σ)
section
variable{CX:yb}{sp:Sp}{ow:List V}{ds:List Value}{R:St->XK}{x:Str}{p pos:Pos}{e:Expr}{es:List Expr}{t:TA}
theorem vD{σ:St}{H:Hp}{Q:VK}{us:List Value}{vs:List V}(F:aC X.prog X.w X.K X.mg X.base CX k f fd ps sp)(hr:bt k X.A)(hb:ij X.K fd ps ds)(hd:ao ow ds)(hx:cJ CX X R)
  (I:Inv X δ σ H s) (r:ao vs us) (h:sp (vs++ow) H Q (R σ)):wpAny (model X.prog X.w) X.A (call (.ref f) us) (EP X δ σ Q) X.xe s:=by
 have r2:ao (vs++ow) (us++ds):=r.append hd;have hl:(us++ds).length=ps.length:=by rw [<-r2.length];exact F.len _ _ _ _ h
 refine wpAny_call (codeAny_mono (F.run X.A X.stack s H ⟨us,[]⟩ (us++ds) (vs++ow) Q (R σ) hr I.OU (hb s us I.z5 hl) r2 h) λr s' hq=> ?_);cases r with
 | error e=>exact hx δ σ H s e s' I hq
 | ok fl=>
  cases fl with
  | ret u=>exact I.after hq
  | next=>exact False.elim hq
  | brk=>exact False.elim hq
  | cont=>exact False.elim hq
theorem D0(F:aC X.prog X.w X.K X.mg X.base CX k f fd ps sp)(hr:bt k X.A)(hg:Gl X x)(hm:X.mg x=some (.ref f))(hk:PySem.W.keepIn X.K (.ref f)=true)(hb:ij X.K fd ps ds)(hd:ao ow ds)(hx:cJ CX X R)
  (ha:PA X (e::es) t) (sf:(x==("__debug__":Str))=false:=by decide) (he:starEach (e::es) X.env=(false,eval e X.env)::starEach es X.env:=by rfl) (fQ:(backTo pos (starEach es X.env)).any (·.1)=false:=by rfl):
  PE X (.Call (.Name x p) (e::es) [] pos) (LA sp ow R t):=by
 intro δ s σ H Q I h;refine wpAny_Call_Name_kw (vq I hg hm ?_ sf);refine PySem.W.callWith_K (h₀:=X.base) I.ok.mod.Qf hk (bx (ha pos δ s σ H _ I h) λus s1 ⟨vs,H1,I1,r,q⟩=>⟨I1.z5, ?_⟩) he fQ;exact vD F hr hb hd hx I1 r q
end
def j4(env:Env):List (Str×NameKind)->List (Str×Addr)->List (Str×Addr)
 | [],af=>af
 | p::r,af=>j4 env r (if p.2== .free then (p.1,(env.cells.lookup p.1).getD 0)::af else af)
theorem qA(h:∀p∈scope.names,p.2= .free->(env.cells.lookup p.1).isSome=true):closureFor scope env=pure (j4 env scope.names []):=by
 have key:∀(l:List (Str×NameKind)) (af:List (Str×Addr)),(∀p∈l,p.2= .free->(env.cells.lookup p.1).isSome=true)->
   (forIn l af (λ(p:Str×NameKind) (r:List (Str×Addr))=>(if p.2== .free then (do let c<-cellOf env p.1;pure (ForInStep.yield ((p.1,c)::r))) else pure (ForInStep.yield r):Sem (ForInStep (List (Str×Addr))))))=(pure (j4 env l af):Sem (List (Str×Addr))):=by
  intro l
  induction l with
  | nil=>intro af _;rfl
  | cons p r ih=>
   intro af hp;rw [List.forIn_cons];have VG:=λa=>ih a λq hq=>hp q (aag _ hq);obtain ⟨n,k⟩:=p;by_cases hk:k= .free
   ·subst hk;have hs:=hp (n, .free) aak rfl;cases hl:env.cells.lookup n with
    | none=>rw [show env.cells.lookup (n,NameKind.free).1=none from hl] at hs;cases hs
    | some c=>
     have e1:j4 env ((n, .free)::r) af=j4 env r ((n,c)::af):=by show j4 env r (if (NameKind.free==NameKind.free)=true then (n,(env.cells.lookup n).getD 0)::af else af)=_;rw [aaF (by decide),hl];rfl
     have e2:cellOf env n=pure c:=by unfold cellOf;rw [hl]
     rw [e1];have e3:(NameKind.free==NameKind.free)=true:=by decide
     simp only [e3,if_true,e2,pure_bind];exact VG _
   ·have hb:(k==NameKind.free)=false:=by simpa using hk
    have e1:j4 env ((n,k)::r) af=j4 env r af:=by show j4 env r (if (k==NameKind.free)=true then (n,(env.cells.lookup n).getD 0)::af else af)=_;rw [hb,aaA (by decide)]
    rw [e1];simp only [hb,Bool.false_eq_true,if_false,pure_bind];exact VG _
 have:=key scope.names [] h;unfold closureFor
 first
  | exact this
  | (simp only [bind_pure];exact this)
  | (rw [bind_pure];exact this)
theorem tE{env:Env}{y:Str}{c:Addr}:∀(l:List (Str×NameKind)) (af:List (Str×Addr)),(∀p∈l,p.2= .free->(env.cells.lookup p.1).isSome=true)->
  (af.lookup y=some c->env.cells.lookup y=some c)->(j4 env l af).lookup y=some c->env.cells.lookup y=some c
 | [],af,_,ha,h=>ha h
 | (n,k)::r,af,hp,ha,h=>by
  refine tE r _ (λq hq=>hp q (aag _ hq)) (λe=> ?_) h;split at e
  ·rename_i hk;rw [abw] at e;cases q:(y==n) with
   | true=>
    rw [q] at e;have e':(env.cells.lookup n).getD 0=c:=aaG e;have hn:y=n:=by simpa using q
    subst hn;have hs:=hp (y,k) List.mem_cons_self (by simpa using hk);cases z:env.cells.lookup y with
    | none=>rw [show env.cells.lookup (y,k).1=none from z] at hs;cases hs
    | some d=>rw [z] at e';rw [<-e'];rfl
   | false=>rw [q] at e;exact ha e
  ·exact ha e
theorem qg{env:Env}{y:Str}:∀(l:List (Str×NameKind)) (af:List (Str×Addr)),((y,NameKind.free)∈l\/(af.lookup y).isSome=true)->((j4 env l af).lookup y).isSome=true
 | [],af,h=>by
  rcases h with h | h
  ·cases h
  ·exact h
 | (n,k)::r,af,h=>by
  refine qg r _ ?_;by_cases hy:y=n
  ·subst hy;by_cases hk:k= .free
   ·subst hk;right;show (List.lookup y (if (NameKind.free==NameKind.free)=true then (y,(env.cells.lookup y).getD 0)::af else af)).isSome=true;rw [aaF (by decide),abw,beq_self_eq_true];rfl
   ·rcases h with h | h
    ·rcases aaB.mp h with z | z
     ·exact aaI (Prod.mk.inj z).2.symm hk
     ·exact .inl z
    ·right;rw [if_neg (by simpa using hk)];exact h
  ·rcases h with h | h
   ·rcases aaB.mp h with z | z
    ·exact aaI (Prod.mk.inj z).1 hy
    ·exact .inl z
   ·right;split
    ·rw [List.lookup_cons,show (y==n)=false by simpa using hy];exact h
    ·exact h
def Cx.comp(X:Cx)(Nc:List Str)(scope:Scope)(C:Addr)(s:Shared)(H:Hp)(fp:List Addr):Cx:={X with
 N:=Nc
 s₀:=s
 H₀:=H
 env:=compEnvC scope (j4 X.env scope.names []) C X.env
 outer:=X.stack
 ex:=fp
 fn:=λ_=>false
 pn:=[]
 xe:=λ_ _=>False}
theorem Δ.of{P:List Str}{sc:Scope}(h:(sc.kind,sc.isCoroutine,sc.isGenerator)=(.function,false,false))(h2:N.Nodup/\N.take P.length=P/\(∀x∈P,sc.names.lookup x=some .local\/sc.names.lookup x=some .cell)/\(∀y∈sc.names,y.2≠ .free):=by decide+kernel):Δ N P sc:=by obtain ⟨a,b,c,d⟩:=h2;exact ⟨aa2 (·.1) h,aa2 (·.2.1) h,aa2 (·.2.2) h,a,b,c,d⟩
structure ah(X:Cx)(scope:Scope)(xs ys:List Str)(Λ:List Nat):Prop where
 kind:scope.kind= .function
 Gx:∀p∈scope.names,p.2≠ .cell
 names:∀p∈scope.names,p.2= .local->scope.names.lookup p.1=some .local
 own:∀x∈xs,scope.names.lookup x=some .local
 free:∀p∈scope.names,p.2= .free->X.env.scope.names.lookup p.1=some .cell
 nd:(xs++ys).Nodup
 WQ:∀q∈ys.zip Λ,X.N[q.2]? =some q.1/\X.env.scope.names.lookup q.1=some .cell/\scope.names.lookup q.1=some .free
 len:ys.length=Λ.length
theorem ah.of{sc:Scope}(_:Δ N ps sc)(hN:X.N=N)(hs:X.env.scope=sc)(k:scope.kind= .function)(h:(∀p∈scope.names,p.2≠ .cell)/\(∀p∈scope.names,p.2= .local->scope.names.lookup p.1=some .local)/\(∀x∈xs,scope.names.lookup x=some .local)/\(∀p∈scope.names,p.2= .free->sc.names.lookup p.1=some .cell)/\(xs++ys).Nodup/\(∀q∈ys.zip Λ,N[q.2]? =some q.1/\sc.names.lookup q.1=some .cell/\scope.names.lookup q.1=some .free)/\ys.length=Λ.length:=by decide+kernel):ah X scope xs ys Λ:=by subst hN hs;obtain ⟨a,b,c,d,e,f,g⟩:=h;exact ⟨k,a,b,c,d,e,f,g⟩
theorem EX{env:Env}{y:Str}:∀{l:List (Str×NameKind)},(∀p∈l,p.2≠ .cell)->
  ((l.map λ(n,k)=>if (k==NameKind.free&&env.scope.kind== .function&&env.kindOf n==some .cell) then (n,NameKind.cell) else (n,k)).lookup y=some .cell\/
   (l.map λ(n,k)=>if (k==NameKind.free&&env.scope.kind== .function&&env.kindOf n==some .cell) then (n,NameKind.cell) else (n,k)).lookup y=some .free)->(y,NameKind.free)∈l
 | [],_,h=>by rcases h with h | h <;> cases h
 | (n,k)::r,hc,h=>by
  have ih:= @EX env y r (λp hp=>hc p (aag _ hp));rw [aav] at h;by_cases q:(k==NameKind.free&&env.scope.kind== .function&&env.kindOf n==some .cell)=true
  ·have hk:k= .free:=by rw [aaz,aaz] at q;simpa using q.1.1
   subst hk;by_cases hy:y=n
   ·subst hy;exact aak
   ·refine aag _ (ih ?_);have hb:(y==n)=false:=by simpa using hy
    simp only [q,if_true,List.lookup_cons,hb] at h;exact h
  ·by_cases hy:y=n
   ·subst hy;have hb:(y==y)=true:=by simp
    simp only [q,Bool.false_eq_true,if_false,List.lookup_cons,hb] at h;rcases h with h | h
    ·exact aaI (aaG h) (hc (y,k) aak)
    ·rw [<-aaG h];exact aak
   ·refine aag _ (ih ?_);have hb:(y==n)=false:=by simpa using hy
    simp only [q,Bool.false_eq_true,if_false,List.lookup_cons,hb] at h;exact h
theorem wL{env:Env}{y:Str}(hk:env.scope.kind= .function)(hy:env.kindOf y=some .cell):∀{l:List (Str×NameKind)},l.lookup y=some .free->
  (l.map λ(n,k)=>if (k==NameKind.free&&env.scope.kind== .function&&env.kindOf n==some .cell) then (n,NameKind.cell) else (n,k)).lookup y=some .cell
 | [],h=>by cases h
 | (n,k)::r,h=>by
  have ih:= @wL env y hk hy r;rw [aav];rw [abw] at h;by_cases e:y=n
  ·subst e;have hb:(y==y)=true:=by simp
   rw [hb] at h;have:k= .free:=aaG h;subst this;have q:(NameKind.free==NameKind.free&&env.scope.kind== .function&&env.kindOf y==some .cell)=true:=by rw [hk,hy];rfl
   simp only [q,if_true,List.lookup_cons,hb]
  ·have hb:(y==n)=false:=by simpa using e
   rw [hb] at h;by_cases q:(k==NameKind.free&&env.scope.kind== .function&&env.kindOf n==some .cell)=true
   ·simp only [q,if_true,List.lookup_cons,hb];exact ih h
   ·simp only [q,Bool.false_eq_true,if_false,List.lookup_cons,hb];exact ih h
theorem ah.has(S:ah X scope xs ys Λ)(ok:X.Ok):∀p∈scope.names,p.2= .free->(X.env.cells.lookup p.1).isSome=true:=λp hp hf=>by obtain ⟨c,e⟩:=ok.has p.1 (.inl (S.free p hp hf));rw [e];rfl
theorem Ej{α β:Type}:∀{xs:List α} {ys:List β} {j:Nat} {x:α} {y:β},xs[j]? =some x->ys[j]? =some y->(x,y)∈xs.zip ys
 | x::xs,y::ys,0,_,_,h1,h2=>by cases h1;cases h2;exact aak
 | x::xs,y::ys,j+1,_,_,h1,h2=>aag _ (Ej (xs:=xs) (ys:=ys) (j:=j) h1 h2)
 | [],_,_,_,_,h1,_=>by simp at h1
 | _::_,[],_,_,_,_,h2=>by simp at h2
def mT(Λ:List Nat)(σ:St):St:=Λ.map λi=>(σ[i]?).join
def xY(n:Nat)(gg:TG):Prop:=∀v (os cs:St) H (Q:St->Hp->Prop),os.length=n->gg v (os++cs) H Q->gg v (os++cs) H λσ' H'=>(∃Ry:St,Ry.length=n/\σ'=Ry++cs)/\Q σ' H'
def yx(J:It)(n:Nat)(gg:TG)(tc:TT)(te:TE)(cs:St)(Q:VK)(H1:Hp)(D:Addr):Prop:=
 ∃ W:Nat->Nat->List V->Hp->Prop,(∃m,W 0 m [] (upd H1 D (.lst [])))/\∀i m ys H2,W i m ys H2->H2 D=some (.lst ys)/\
  ((J.stop i H2/\Q (.ref D) H2)\/(J.go i H2/\∀x H3,J.Qp i H2 x H3->∀os:St,os.length=n->gg x (os++cs) H3 λσ' ZV=>tc σ' ZV λb H4=>match b with
   | true=>te σ' H4 λy H5=>H5 D=some (.lst ys)/\ys.length < sizeLine/\∃m',m' < m/\W (i+1) m' (ys++[y]) (upd H5 D (.lst (ys++[y])))
   | false=>∃m',m' < m/\W (i+1) m' ys H4))
def Fb(wi:TI)(n:Nat)(gg:TG)(tc:TT)(te:TE)(Λ:List Nat):TE:=λσ H Q=>wi σ H λJ H1=>∀D,H1 D=none->yx J n gg tc te (mT Λ σ) Q H1 D
def RD(cs:List Expr)(env:Env):Sem Bool:=match cs with
 | []=>pure true
 | c::_=>isTrue c env (eval c env)
def Q5(X:Cx)(cs:List Expr)(t:TT):Prop:=
 (cs=[]\/∃c,cs=[c])/\∀(δ:List (Addr×Obj)) (s:Shared) (σ:St) (H:Hp) (Q:Bool->Hp->Prop),Inv X δ σ H s->t σ H Q->wpAny (model X.prog X.w) X.A (RD cs X.env) (TP X δ σ Q) X.xe s
theorem sj{elt target iter:Expr}{cs:List Expr}{scope:Scope}{pos:Pos}{it af:Value}{env:Env}(h:cs=[]\/∃c,cs=[c]):
  compTurn (.ListComp elt [⟨target,iter,cs,0⟩] scope pos) 0 it af env=(standAt iter.pos >>= λ_=>pyNext it >>= λr=>match r with
   | none=>pure (.done .next)
   | some v=>letOwnedTupleGo target it v >>= λ_=>assign target env v >>= λ_=>RD cs env >>= λok=>
    (if ok=true then (eval elt env >>= λx=>call (.builtin "list.append") [af,x] >>= λ_=>pure ()) >>= λ_=>again (.compLoop (.ListComp elt [⟨target,iter,cs,0⟩] scope pos) 0 it af env)
     else again (.compLoop (.ListComp elt [⟨target,iter,cs,0⟩] scope pos) 0 it af env))):=by
 rcases h with rfl | ⟨c,rfl⟩ <;> (unfold compTurn RD;dsimp only [List.getElem?_cons_zero,List.getElem?_cons_succ,List.getElem?_nil];simp only [List.forIn_cons,List.forIn_nil,bind_assoc,pure_bind,if_true];rfl)
section
variable{elt iter tg:Expr}{cs:List Expr}{pos:Pos}{wi:TI}{gg:TG}{tc:TT}{te:TE}
theorem sJ(S:ah X scope xs ys Λ)(hc:X.calm=true)(hg:∀C s H fp,PG (Cx.comp X (xs++ys) scope C s H fp) tg gg)(hk:xY xs.length gg)(ht:∀C s H fp,Q5 (Cx.comp X (xs++ys) scope C s H fp) cs tc)(he:∀C s H fp,PE (Cx.comp X (xs++ys) scope C s H fp) elt te)
   {σ:St} {H2:Hp} {s2:Shared} {it:Addr} {fp:List Addr} {tn:Nat->Heap->Prop} {J:It} {Q:V->Hp->Prop} {PQ:Value->Addr->Result->Shared->Prop} (I:Inv X δ σ H2 s2) (T:si X.prog X.w X.K tg J fp it tn) (t0:tn 0 s2.heap) (f2:∀b∈fp,rT X δ H2 b)
  (h:∀D,H2 D=none->yx J xs.length gg tc te (mT Λ σ) Q H2 D)
  (Yy:∀D C s' H',Inv X δ σ H' s'->Q (.ref D) H'->(∃m,s'.heap.Ns C m)->H' C=none->X.s₀.heap.objs.size<=C->C≠X.env.locals->(∀z c,X.env.cells.lookup z=some c->c≠C)->(∀p∈X.pn++δ,p.1≠C)->PQ (.ref D) C (.ok .next) s'):
  wpAny (model X.prog X.w) X.A (newList []) (λaf s3=>wpAny (model X.prog X.w) X.A (newFunctionEnv scope X.env.globals (j4 X.env scope.names []) [] X.env.qual none .none (some X.env)) (λOq s4=>
   codeAny (model X.prog X.w) X.A (.compStart (.ListComp elt [⟨tg,iter,cs,0⟩] scope pos) 0 (.ref it) af {Oq with scope:=relabel scope X.env}) (PQ af Oq.locals) s4) X.xe s3) X.xe s2:=by
 have hD:H2 s2.heap.objs.size=none:=I.fresh;obtain ⟨W,⟨m0,w0⟩,step⟩:=h _ hD;refine wpAny_newObj_type ?_;have I3:Inv X δ σ (upd H2 s2.heap.objs.size (.lst [])) {s2 with heap:=s2.heap.push {cls:= .type "list",data:= .seq ([]:List Value).toArray}}:=Inv.Kg (t':=s2.toks) I (ys:=[]) (its:=[]) .nil (abA _);generalize Mn:upd H2 s2.heap.objs.size (.lst [])=H3 at I3 w0;generalize V4:({s2 with heap:=s2.heap.push {cls:= .type "list",data:= .seq ([]:List Value).toArray}}:Shared)=s3 at I3;have SN:∀b∈fp,H3 b=none:=λb hb=>by obtain ⟨o,e,_⟩:=T.obj _ _ t0 b hb;rw [<-Mn,Ζ (aaM (aat e))];exact (f2 b hb).1
 have t3:tn 0 s3.heap:=T.keep _ _ _ t0 λb hb o e=>by rw [<-V4];exact aah _ e
 refine wpAny_newFunctionEnv S.Gx (λy hy=>nomatch hy) (λh4 Yi WG=> ?_) S.kind;have hC:H3 s3.heap.objs.size=none:=I3.fresh
 have kp:∀b o,s3.heap.get? b=some o->h4.get? b=some o:=λb o e=>
  (WG.2 b (aaM (aat e))).trans (aah _ e)
 generalize T7:({s3 with heap:=h4,toks:=s3.toks+([]:List (Str×Value)).length}:Shared)=s4;have e4:s4.heap=h4:=by rw [<-T7]
 have HK:∀z c,X.env.cells.lookup z=some c->c≠s3.heap.objs.size:=λz c e q=>by obtain ⟨v,w⟩:=I3.cell z c e;exact abo _ (q▸w.lt)
 have sM:∀z c,(j4 X.env scope.names []).lookup z=some c->X.env.cells.lookup z=some c:=λz c e=>tE scope.names [] (S.has I.ok) (λq=>nomatch q) e;have W5:s3.heap.objs.size≠X.env.locals:=Nat.ne_of_gt I3.lt;have ok:(Cx.comp X (xs++ys) scope s3.heap.objs.size s3 H3 fp).Ok:=by
  refine ⟨I3.ok.mod,S.kind,I3.ok.glob,I3.ok.blt,aal _,λz z' c e1 e2=>I3.ok.inj z z' c (sM z c e1) (sM z' c e2),λz hz=> ?_,λz c hz=>(by cases hz),I3.ok.hd,I3.ok.frames, .inl rfl,λb hb=>⟨?_,λz c e=> ?_⟩,I3.bs, ?_,λb o e hb=> ?_,λb hb hf=> ?_,I3.stack,I3.uR⟩
  ·have:=qg (env:=X.env) scope.names [] (.inl (EX S.Gx hz));exact abT.mp this
  ·obtain ⟨o,e,_⟩:=T.obj _ _ t3 b hb;exact aaM (aat e)
  ·exact (f2 b hb).2.2.2.2.1 z c (sM z c e)
  ·exact aax I3.ok.NI I3.sz
  ·obtain ⟨_,_,_,hy,_⟩:=f2 b hb;have e0:=(I3.ok.bs b o e).1;rcases hy with hy | hy
   ·exact I3.ok.Ky b o e hy
   ·exact aaI (aaE (aat e0) hy) (abo _)
  ·obtain ⟨_,hl,Wa,_⟩:=f2 b hb;exact (aaB.mp (I3.uZ b hf)).elim hl Wa
 have hlen:((List.replicate xs.length (none:Option V))++mT Λ σ).length=(xs++ys).length:=by rw [aai,aai,aa1,S.len];unfold mT;rw [aac]
 have I4:Inv X δ σ H3 s4:=by rw [<-T7];exact I3.kept kp
 have Ic:Inv (Cx.comp X (xs++ys) scope s3.heap.objs.size s3 H3 fp) [] ((List.replicate xs.length (none:Option V))++mT Λ σ) H3 s4:=by
  refine ⟨ok,by rw [<-T7];rfl,I4.bare,Un.kept (by rw [e4];exact kp),⟨_,by rw [e4];exact Yi,λi z v e1 e2 e3=> ?_⟩,λz c e=>I4.cell z c (sM z c e),hC,λz c e=>I4.nL z c (sM z c e),(λp hp=>nomatch hp),I4.aB,hlen⟩;have e1:(xs++ys)[i]? =some z:=e1;by_cases hi:i < xs.length
  ·rw [aaJ (by rw [aa1];exact hi),List.getElem?_replicate,aaF hi] at e2;cases e2
  ·obtain ⟨j,rfl⟩:∃j,i=xs.length+j:=⟨i - xs.length,by omega⟩;have e1:ys[j]? =some z:=by rw [aaC (by omega),abD] at e1;exact e1
   have e2:(mT Λ σ)[j]? =some (some v):=by rw [aaC (by rw [aa1];omega),aa1,abD] at e2;exact e2
   unfold mT at e2;rw [aaj] at e2;cases hi:Λ[j]? with
   | none=>rw [hi] at e2;cases e2
   | some i=>
    rw [hi] at e2;have e2:(σ[i]?).join=some v:=aaG e2;have e2:σ[i]? =some (some v):=by
     cases q:σ[i]? with
     | none=>rw [q] at e2;cases e2
     | some o=>rw [q] at e2;exact aa2 some e2
    obtain ⟨c1,c2,c3⟩:=S.WQ (z,i) (Ej e1 hi);have c4:=wL (env:=X.env) I.ok.kind c2 c3;have c3:(z,NameKind.free)∈scope.names:=PySem.mem_of_lookup c3;obtain ⟨m,hn,hl⟩:=I4.loc;obtain ⟨u,r,lk⟩:=hl i z v c1 e2 (.inr (.inl c2));refine ⟨u,r, .inr ⟨.inl c4, ?_⟩⟩;rcases lk with ⟨k,_⟩ | ⟨_,c,Rh,z'⟩
    ·exact aaI ((show X.env.scope.names.lookup z=some .local from k).symm.trans c2) (by decide)
    ·obtain ⟨d,hd⟩:=abT.mp (qg (env:=X.env) scope.names [] (.inl c3));have:=sM z d hd;rw [Rh] at this;cases this;exact ⟨c,hd,z'⟩
 have loop:codeAny (model X.prog X.w) X.A (.compLoop (.ListComp elt [⟨tg,iter,cs,0⟩] scope pos) 0 (.ref it) (.ref s2.heap.objs.size) (compEnvC scope (j4 X.env scope.names []) s3.heap.objs.size X.env)) (PQ (.ref s2.heap.objs.size) s3.heap.objs.size) s4:=by
  have RE:∀{H':Hp},(∀b∈fp,H' b=none)->∀b∈fp,rT (Cx.comp X (xs++ys) scope s3.heap.objs.size s3 H3 fp) [] H' b:=λhn b hb=>
   ⟨hn b hb,(ok.Vu b hb).1,ok.Mu b hb, .inl hb,(ok.Vu b hb).2,(λp hp=>nomatch hp)⟩
  refine codeAny_loop rfl (λn s'=>∃(i:Nat) (zs:List V) (os:St) (H':Hp),os.length=xs.length/\Inv (Cx.comp X (xs++ys) scope s3.heap.objs.size s3 H3 fp) [] (os++mT Λ σ) H' s'/\tn i s'.heap/\(∀b∈fp,H' b=none)/\W i n zs H') (λn s5 z=> ?_) m0 ⟨0,[],List.replicate xs.length none,H3,by rw [aa1],Ic,T.keep _ _ _ t3 (λb hb o e=>by rw [e4];exact kp b o e),SN,w0⟩;obtain ⟨i,zs,os,H5,l5,I5,t5,Ru,w5⟩:=z;show wpAny _ _ ((compTurn _ 0 (.ref it) _ _).onRaise _) _ _ s5;refine wpAny_noted ?_;rw [sj (ht s3.heap.objs.size s3 H3 fp).1];refine aab (wpAny_standAt (aab ?_));obtain ⟨qM,stop | go⟩:=step i n zs H5 w5
  ·obtain ⟨stop,q⟩:=stop;refine bx (T.done (Cx.comp X (xs++ys) scope s3.heap.objs.size s3 H3 fp) rfl rfl rfl hc i [] s5 _ H5 _ I5 (RE Ru) t5 stop) λr s6 ⟨hr,I6⟩=> ?_;subst hr;refine aae (Yy _ _ s6 H5 ?_ q ?_ I6.free ?_ W5 HK λp hp z=> ?_)
   ·refine I3.Qc I6.os I6.base I6.aB I6.bare λb hb=> ?_;obtain ⟨_,g1,_,g3,g4,g5⟩:=f2 b hb;exact ⟨g3,g1,g4,g5⟩
   ·obtain ⟨m,hn,_⟩:=I6.loc;exact ⟨m,hn⟩
   ·exact I3.sz
   ·exact aaM (aat (I3.pin p hp).1) z
  ·obtain ⟨go,turn⟩:=go;refine bx (T.item (Cx.comp X (xs++ys) scope s3.heap.objs.size s3 H3 fp) rfl rfl rfl hc i [] s5 _ H5 _ I5 (RE Ru) t5 go) λr s6 ⟨u,hr,h6⟩=> ?_;subst hr;refine aab (bx h6 λ_ s7 ⟨y,H7,I7,r7,y7,t7,Zn⟩=> ?_);have ZI:=I7.pinned (RE Zn) (T.obj _ _ t7);refine aab (abv (hg _ _ _ _ _ s7 _ H7 y u _ ZI r7 (hk y os _ H7 _ l5 (turn y _ y7 os l5))) (λ_ s8 z8=> ?_) λ_ _ f=>f.elim);obtain ⟨σ8,H8,I8,⟨Vj,l8,e8⟩,q8⟩:=z8;subst e8;refine aab (abv ((ht _ _ _ _).2 _ s8 _ _ _ I8 q8) (λb s9 z9=> ?_) λ_ _ f=>f.elim);obtain ⟨H9,I9,q9⟩:=z9;cases b with
   | false=>
    obtain ⟨m9,XM,w9⟩:=q9;refine aae ⟨rfl,m9,XM,i+1,zs,Vj,_,l8,I9.iE,T.keep _ _ _ t7 λb hb o e=>(I9.pin (b,o) (aar _ (aar _ (dr hb e)))).1,λb hb=> ?_,w9⟩;obtain ⟨o,e,_⟩:=T.obj _ _ t7 b hb;exact (I9.pin (b,o) (aar _ (aar _ (dr hb e)))).2.1
   | true=>
    refine aab (aab (abv (he _ _ _ _ _ s9 _ _ _ I9 q9) (λZ2 Wb YY=> ?_) λ_ _ f=>f.elim));obtain ⟨v10,U1,Zl,W6,Kz,Zo,Zu,TU,Zq⟩:=YY;refine aab (abv (sI (X:=Cx.comp X (xs++ys) scope s3.heap.objs.size s3 H3 fp) _ Wb _ U1 (.ref s2.heap.objs.size) [v10] _ [Z2] (λ_ H'=>H'=upd U1 s2.heap.objs.size (.lst (zs++[v10]))) Zl rfl (.cons W6 .nil) ⟨_,zs,v10,rfl,rfl,Kz,Zo,rfl⟩) (λ_ s11 X4=> ?_) λ_ _ f=>f.elim);obtain ⟨_,H11,Sf,_,YR⟩:=X4;subst YR;refine aae (aae ⟨rfl,Zu,TU,i+1,zs++[v10],Vj,_,l8,Sf.iE,T.keep _ _ _ t7 λb hb o e=>(Sf.pin (b,o) (aar _ (aar _ (dr hb e)))).1,λb hb=> ?_,Zq⟩);obtain ⟨o,e,_⟩:=T.obj _ _ t7 b hb;exact (Sf.pin (b,o) (aar _ (aar _ (dr hb e)))).2.1
 exact codeAny_compStart_list loop (T.self X.A 0 _ _ _ (T.keep _ _ _ t3 (λb hb o e=>by rw [e4];exact kp b o e)) loop)
theorem xS(S:ah X scope xs ys Λ)(hc:X.calm=true)(hi:PI X tg iter wi)(hg:∀C s H fp,PG (Cx.comp X (xs++ys) scope C s H fp) tg gg)(hk:xY xs.length gg)(ht:∀C s H fp,Q5 (Cx.comp X (xs++ys) scope C s H fp) cs tc)(he:∀C s H fp,PE (Cx.comp X (xs++ys) scope C s H fp) elt te)(hs:∀x,foldedSetIterable iter X.env x=pure x:=by intro _;rfl):
  PE X (.ListComp elt [⟨tg,iter,cs,0⟩] scope pos) (Fb wi xs.length gg tc te Λ):=by
 intro δ s σ H Q I h;rw [eval_ListComp];refine wpAny_comprehension_free (use:=none) rfl hs (qA (S.has I.ok)) S.kind S.names (bx (hi δ s σ H _ I h) λv s1 h1=>bx h1 λQP s2 h2=> ?_);obtain ⟨it,fp,tn,J,H2,rfl,I2,T,t0,f2,q⟩:=h2;refine sJ S hc hg hk ht he (Q:=Q) I2 T t0 f2 q λD C s' H' I' q' n' hC hz hL K7 hp=> ?_;obtain ⟨m,n'⟩:=n';exact ⟨m,n',λh' sb=>⟨.ref D,H',I'.turned (it:=C) (t':=s'.toks) (λb o hb e=>(sb.2 b hb).trans e) hC hL (.inr hz) K7 hp,rfl,q'⟩⟩
theorem nE{i:Nat}{y:Str}{py i5:Pos}(hN:X.N.Nodup)(DP:X.N[i]? =some y)(hy:Loc X.env.scope y)(S:ah X scope xs ys Λ)(hc:X.calm=true)(hi:PI X tg iter wi)(hg:∀C s H fp,PG (Cx.comp X (xs++ys) scope C s H fp) tg gg)(hk:xY xs.length gg)(ht:∀C s H fp,Q5 (Cx.comp X (xs++ys) scope C s H fp) cs tc)(he:∀C s H fp,PE (Cx.comp X (xs++ys) scope C s H fp) elt te)
  (E8:swapsWith (.ListComp elt [⟨tg,iter,cs,0⟩] scope pos) (some (.Name y py)) i5.line X.env=pure true) (hs:∀x,foldedSetIterable iter X.env x=pure x)
  (hf:X.fn y=true\/X.env.scope.names.lookup y=some .local):
  PS X (.Assign [.Name y py] (.ListComp elt [⟨tg,iter,cs,0⟩] scope pos) i5) (λD σ H=>Fb wi xs.length gg tc te Λ σ H λv H1=>D.nx (σ.set i (some v)) H1):=by
 intro δ s σ H D I h;rw [exec_Assign_Name_used _ _ _ _ E8];refine aab (wpAny_standAt (aab ?_));show wpAny _ _ (do let _<-comprehension (.ListComp elt [⟨tg,iter,cs,0⟩] scope pos) scope X.env _ (newList []) false (eval iter X.env) (some (assign (.Name y py) X.env))) _ _ s;refine aab (abv (wpAny_comprehension_free (use:=some (assign (.Name y py) X.env)) (Q:=λ_ s'=>SP X δ D .next s') rfl hs (qA (S.has I.ok)) S.kind S.names (bx (hi δ s σ H _ I h) λv s1 h1=>bx h1 λQP s2 h2=> ?_)) (λ_ s' hq=>aae (aae hq)) λ_ _ e=>e);obtain ⟨it,fp,tn,J,H2,rfl,I2,T,t0,f2,q⟩:=h2;refine sJ S hc hg hk ht he (Q:=λv H1=>D.nx (σ.set i (some v)) H1) I2 T t0 f2 q λDl C s' H' I' q' n' hC hz hL K7 hp=> ?_;obtain ⟨m,n'⟩:=n';show wpAny _ _ (assign (.Name y py) X.env (.ref Dl)) _ _ s';refine wpAny_assign_Name (sF I' hN DP hy (v:= .ref Dl) rfl (λs3 I3 Ss=> ?_) hf);obtain ⟨a,Ss,ha⟩:=Ss;have Yn:C≠a:=by
  rcases ha with rfl | ha
  ·exact hL
  ·exact (K7 _ _ ha).symm
 exact ⟨m,n'.sameBut Ss Yn,λh' sb=>⟨_,H',I3.turned (it:=C) (t':=s3.toks) (λb o hb e=>(sb.2 b hb).trans e) hC hL (.inr hz) K7 hp,q'⟩⟩
end
section
variable{K:fv}
theorem eD.Ww{x:Str}{sp:Sp}(F:eD K x qual st f fd)(S:Δ N ps (χ st))(len:∀vs H Q E,sp vs H Q E->vs.length=ps.length)
  (w4:∀(b8:Value) (A:Around) (outer:List Env) (s:Shared) (H:Hp) (vs:List V) (Q:VK) (E:XK),bt k (A.deeper (envOfC qual (χ st) s.heap.objs.size f b8))->sp vs H Q E->
   ∃t,CK (ui (dh P w) P w K mg base N qual (χ st) f b8 A outer s H E) (fF st) t/\t {nx:=λ_ H'=>Q .bV H',rt:=Q} (i6 N vs) H):aC P w K mg base (dh P w) (k+1) f fd ps sp:=by
 obtain ⟨oc,od,kV,doc,pm,an,b8,ct,DL,rfl,lk,Df⟩:=F.ex;exact Oa lk Df S len λA outer s H vs Q E hr JP=>w4 b8 A outer s H vs Q E hr JP
end
theorem dF:cJ (dh P w) X (λ_=>E0):=by intro δ σ H s e s' _ hx;obtain ⟨_,_,_,_,_,_,_,_,hE⟩:=hx;exact hE.elim
theorem log2_lt{n:Nat}(h:n < 2 ^ k)(hk:0 < k):n.log2 < k:=by
 by_cases h0:n=0
 ·rw [h0,show Nat.log2 0=0 from rfl];exact hk
 ·exact (Nat.log2_lt h0).mpr h
def gU(i:Int):Prop:=i.natAbs < 2 ^ 8000
theorem BZ{i j:Int}(hi:gU i)(hj:gU j):IntMulOk i j:=by
 have b:∀{i:Int},gU i->Builtin.Int.intBits i<=8000:=λ{i} h=>by
  unfold Builtin.Int.intBits;split
  ·exact abA _
  ·have:=log2_lt (k:=8000) h (by decide);omega
 have b1:=b hi;have b2:=b hj;have h3:Builtin.Int.intTooBig (Builtin.Int.intBits i+Builtin.Int.intBits j)=false:=by
  unfold Builtin.Int.intTooBig;refine aaK ?_;have:(bitsLine:Int)=134217728:=by decide
  omega
 unfold IntMulOk;rw [h3,Bool.and_false];exact aau
section
theorem Il:jj X (binaryOp .Mult) (rI (λi j=>gU i/\gU j) λi j=> .int (i * j)):=QR λ_ _ _ _ _ _ _ hc q=>mul_int q (BZ hc.1 hc.2)
theorem xx:jj X (binaryOp .FloorDiv) (rI (λ_ j=>j≠0/\gU j) λi j=> .int (i.fdiv j)):=QR λ_ _ _ _ _ _ _ hc q=>
 floordiv_int hc.1 q (.inl (PyProof.noPylong_of_log2 (aaE (log2_lt (k:=8000) hc.2 (by decide)) (by decide))))
end
def qH:List V->List V->Bool
 | [],[]=>true
 | x::xs,y::ys=>gb x y&&qH xs ys
 | _,_=>false
theorem kE:∀(xs ys:List V) (e:Nat->Bool),(∀j x y,xs[j]? =some x->ys[j]? =some y->e j=gb x y)->((List.range (min xs.length ys.length)).all e&&xs.length==ys.length)=qH xs ys
 | [],[],e,_=>rfl
 | [],_::_,e,_=>by simp [qH]
 | _::_,[],e,_=>by simp [qH]
 | x::xs,y::ys,e,h=>by
  have ih:=kE xs ys (λj=>e (j+1)) λj x y h1 h2=>h (j+1) x y h1 h2;have h0:e 0=gb x y:=h 0 x y rfl rfl;show _=(gb x y&&qH xs ys);rw [<-ih,<-h0];have e1:min (x::xs).length (y::ys).length=min xs.length ys.length+1:=by simp only [List.length_cons];omega
  rw [e1,abh,abB,List.all_map];have e2:((x::xs).length==(y::ys).length)=(xs.length==ys.length):=by simp only [List.length_cons];rw [Bool.eq_iff_iff];simp
  rw [e2,Bool.and_assoc];rfl
def Qe(K:fv):R2:=λx y H Q=>∃a b xs ys,x= .ref a/\y= .ref b/\ju K H a xs/\ju K H b ys/\xs.all c8=true/\ys.all c8=true/\Q (.bl (qH xs ys)) H
def Ox(K:fv):R2:=λx y H Q=>∃a b xs ys,x= .ref a/\y= .ref b/\ju K H a xs/\ju K H b ys/\xs.all c8=true/\ys.all c8=true/\Q (.bl (!qH xs ys)) H
theorem lS:∀{xs:List V} {j:Nat} {x:V},xs.all c8=true->xs[j]? =some x->c8 x=true
 | _::_,0,_,h,e=>by rw [abB,aaz] at h;cases e;exact h.1
 | _::_,j+1,_,h,e=>by rw [abB,aaz] at h;exact lS h.2 e
section
theorem Ld(hu:X.A.units < cLine):jj X (compareOp .NotEq) (Ox X.K):=by
 intro δ s σ H x y v u Q I rx ry h;obtain ⟨a,b,xs,ys,rfl,rfl,h1,h2,f1,f2,q⟩:=h;cases rx;cases ry;obtain ⟨i1,v1,t1,_⟩:=I.tuple h1;obtain ⟨i2,v2,t2,_⟩:=I.tuple h2;have l1:=v1.length;have l2:=v2.length;refine SeqAt.RcNeAt.tuples (e:=λj=>match xs[j]?,ys[j]? with | some x,some y=>gb x y | _,_=>true) (show s.heap.IsTuple a i1.toArray from t1) (show s.heap.IsTuple b i2.toArray from t2) hu (λj h1 h2=> ?_) _ _ _ _ ?_
 ·have b1:j < i1.length:=by simpa using h1
  have b2:j < i2.length:=by simpa using h2
  have e1:xs[j]? =some (xs[j]'(by omega)):=aaa _;have e2:ys[j]? =some (ys[j]'(by omega)):=aaa _;obtain ⟨u1,g1,r1⟩:=v1.get e1;obtain ⟨u2,g2,r2⟩:=v2.get e2;rw [aaa b1] at g1;rw [aaa b2] at g2;have w1:i1.toArray[j]=u1:=by simpa using Option.some.inj g1
  have w2:i2.toArray[j]=u2:=by simpa using Option.some.inj g2
  rw [w1,w2];simp only [e1,e2];exact uT r1 r2 (lS f1 e1) (lS f2 e2)
 ·rw [List.size_toArray,List.size_toArray,<-l1,<-l2,kE xs ys _ (λj x y h1 h2=>by simp only [h1,h2])];exact ⟨.bl (!qH xs ys),H,I,rfl,q⟩
theorem FD(hu:X.A.units < cLine):jj X (compareOp .Eq) (Qe X.K):=by
 intro δ s σ H x y v u Q I rx ry h;obtain ⟨a,b,xs,ys,rfl,rfl,h1,h2,f1,f2,q⟩:=h;cases rx;cases ry;obtain ⟨i1,v1,t1,_⟩:=I.tuple h1;obtain ⟨i2,v2,t2,_⟩:=I.tuple h2;have l1:=v1.length;have l2:=v2.length;refine SeqAt.eq_tupleAt (e:=λj=>match xs[j]?,ys[j]? with | some x,some y=>gb x y | _,_=>true) (show s.heap.IsTuple a i1.toArray from t1) (show s.heap.IsTuple b i2.toArray from t2) hu (λj h1 h2=> ?_) ?_
 ·have b1:j < i1.length:=by simpa using h1
  have b2:j < i2.length:=by simpa using h2
  have e1:xs[j]? =some (xs[j]'(by omega)):=aaa _;have e2:ys[j]? =some (ys[j]'(by omega)):=aaa _;obtain ⟨u1,g1,r1⟩:=v1.get e1;obtain ⟨u2,g2,r2⟩:=v2.get e2;rw [aaa b1] at g1;rw [aaa b2] at g2;have w1:i1.toArray[j]=u1:=by simpa using Option.some.inj g1
  have w2:i2.toArray[j]=u2:=by simpa using Option.some.inj g2
  rw [w1,w2];simp only [e1,e2];exact uT r1 r2 (lS f1 e1) (lS f2 e2)
 ·rw [List.size_toArray,List.size_toArray,<-l1,<-l2,kE xs ys _ (λj x y h1 h2=>by simp only [h1,h2])];exact ⟨.bl (qH xs ys),H,I,rfl,q⟩
end
theorem CC(bs:List Bool):(List.range bs.length).any (λi=>bs.getD i false)=bs.any id:=by
 induction bs with
 | nil=>rfl
 | cons b bs ih=>
  rw [aaO,abh,abC,List.any_map,abC,<-ih];rfl
theorem u9:∀{bs:List Bool} {us:List Value},ao (bs.map V.bl) us->us=bs.map Value.bool
 | [],_,r=>by cases r;rfl
 | b::bs,_,r=>by
  cases r with
  | cons h t=>
   cases h;rw [u9 t];rfl
theorem xa{prog:Program}{bs:List Bool}:TruthOf prog w A (λi v=>(bs.map Value.bool).toArray[i]? =some v) (λi=>bs.getD i false):=by
 intro i v s Q E h q;have h':(bs.map Value.bool)[i]? =some v:=by simpa using h
 rw [aaj] at h';cases e:bs[i]? with
 | none=>rw [e] at h';cases h'
 | some b=>
  rw [e] at h';cases h';have q':Q b s:=by
   have eb:bs.getD i false=b:=by rw [aan,e];rfl
   exact eb▸q
  exact wpAny_truthy_bool q'
def Pz(K:fv):List V->Hp->VK->Prop:=λxs H Q=>∃(p:Addr) (bs:List Bool),xs=[.ref p]/\fm K H p (bs.map V.bl)/\Q (.bl (bs.any id)) H
section
theorem DO (hc : X.calm = true) : cH X (.builtin "any") (Pz X.K) := by
  intro δ s σ H xs us Q I r h;obtain ⟨p, bs, rfl, hq, q⟩ := h;obtain ⟨u, rfl, r1⟩ := gF r;cases r1;obtain ⟨its, rv, pl, hz⟩ := I.list hq;have Lm := u9 rv;subst Lm;refine call_any_walk (wpAny_pyIter_list pl.isList ?_);have lp : p < s.heap.objs.size := by obtain ⟨o, e, _⟩ := pl.isList; exact aat e
  refine ⟨s.heap.objs.size, _, _, _, _, _, λi => bs.getD i false, rfl, Walks.list (show X.A.in1.handled = none from I.ok.hd hc) s.heap.objs.size p (aaM lp) (bs.map Value.bool).toArray, ⟨⟨_, aaw _ rfl, rfl, rfl⟩, pl.isList.at λo e => aah _ e⟩, xa, λh' tk hk => ?_⟩;refine ⟨.bl (bs.any id), H, I.kept λb o e => hk b o (λz => by have : b = s.heap.objs.size := (by simpa using z); exact Nat.lt_irrefl _ (this ▸ Heap.lt_size e)) (Heap.get?_push_of_some _ e), ?_, q⟩;rw [aay, aac, CC];rfl
end
end L2
namespace PySem
open Sem (wp)
end PySem
namespace PySem.W
open PySem PySem.Builtin PySem.Builtin.ObjectAttr
end PySem.W
namespace PySem
open Sem (wp)
end PySem
namespace L2
open PySem PySem.Spec PyProof.Rows
def xO(a C:Addr)(od:Option Addr):HO:= .ext λh=>∃ob vs,h.get? a=some ob/\ob.cls= .ref C/\ob.dict=od/\ob.data= .fields vs
inductive Dt where
 | bV
 | bl (b:Bool)
 | int (i:Int)
 | str (x:Str)
 | tup (xs:List Dt)
 | lst (xs:List Dt)
 | obj (C:Addr) (ns:List Str) (xs:List Dt)
 | loc (k:Nat)
 | ref (a:Addr)
 | ty (n:String)
 | dM (ns:List Int)
 | kt (xs:List Dt)
 | exc (C:Addr) (ns:List Str) (xs:List Dt)
 | Ou (x C:Addr) (od:Option Addr) (ns:List Str) (xs:List Dt)
inductive MO where
 | lst (xs:List Dt)
 | ins (C:Addr) (ns:List Str) (xs:List Dt)
 | jF (ks:List Key) (xs:List Dt)
 | raw (u:Addr->HO)
 | JD (u:Addr->List V->HO) (ds:List Dt)
abbrev Ms:=List MO
abbrev En:=List (Option Dt)
mutual
def Den(K:fv)(G:Hp)(L:List Addr):Dt->V->Prop
 | .bV,v=>v= .bV
 | .bl b,v=>v= .bl b
 | .int i,v=>v= .int i
 | .str x,v=>v= .str x
 | .tup ds,v=>∃a vs,v= .ref a/\G a=some (.tup vs)/\Θ K G L ds vs
 | .lst ds,v=>∃a vs,v= .ref a/\G a=some (.lst vs)/\Θ K G L ds vs
 | .obj C ns ds,v=>∃a dx vs,v= .ref a/\G a=some (.ins C dx (ns.zip vs))/\ns.length=ds.length/\Θ K G L ds vs
 | .loc k,v=>∃a,v= .ref a/\L[k]? =some a
 | .ref a,v=>v= .ref a
 | .ty n,v=>v= .ty n
 | .dM ns,v=>∃a,v= .ref a/\fm K G a (ns.map V.int)
 | .kt ds,v=>∃a vs,v= .ref a/\ju K G a vs/\Θ K G L ds vs
 | .exc C ns ds,v=>∃a od vs,v= .ref a/\G a=some (xO a C od)/\((ns=[]/\od=none)\/∃dx,od=some dx/\G dx=some (.xd (ns.zip vs)))/\ns.length=ds.length/\Θ K G L ds vs
 | .Ou x _ od ns ds,v=>∃vs,v= .ref x/\((ns=[]/\od=none)\/∃dx,od=some dx/\G dx=some (.xd (ns.zip vs)))/\ns.length=ds.length/\Θ K G L ds vs
def Θ(K:fv)(G:Hp)(L:List Addr):List Dt->List V->Prop
 | [],vs=>vs=[]
 | d::ds,vs=>∃v r,vs=v::r/\Den K G L d v/\Θ K G L ds r
end
def Pre(L L':List Addr):Prop:=∃t,L'=L++t
theorem Pre.refl(L:List Addr):Pre L L:=⟨[],by simp⟩
theorem Pre.trans{a b c:List Addr}(h:Pre a b)(h':Pre b c):Pre a c:=by obtain ⟨t,rfl⟩:=h;obtain ⟨u,rfl⟩:=h';exact ⟨t++u,by simp⟩
theorem Pre.get{a b:List Addr}(h:Pre a b){k:Nat}{x:Addr}(e:a[k]? =some x):b[k]? =some x:=by obtain ⟨t,rfl⟩:=h;have hk:k < a.length:=(aad.mp e).1;rw [aaJ hk];exact e
theorem cE.rd{H H':Hp}{a:Addr}{u:HO}(e:cE H H')(h:Rd H a u):Rd H' a u:=by
 rcases h with h | ⟨o,h⟩
 ·exact .inl (e _ _ h)
 ·exact .inr ⟨o,e _ _ h⟩
theorem cE.NS{K:fv}{H H':Hp}{a:Addr}{xs:List V}(e:cE H H')(h:ju K H a xs):ju K H' a xs:=by
 rcases h with h | h
 ·exact .inl (e.rd h)
 ·exact .inr h
section
variable{K:fv}{G G':Hp}{L L':List Addr}
mutual
theorem Den.mono(g:cE G G')(l:Pre L L'):∀(d:Dt) (v:V),Den K G L d v->Den K G' L' d v
 | .bV,_,h=>h
 | .bl _,_,h=>h
 | .int _,_,h=>h
 | .str _,_,h=>h
 | .tup ds,_,⟨a,vs,e,h1,h2⟩=>⟨a,vs,e,g _ _ h1,Θ.mono g l ds vs h2⟩
 | .lst ds,_,⟨a,vs,e,h1,h2⟩=>⟨a,vs,e,g _ _ h1,Θ.mono g l ds vs h2⟩
 | .obj C ns ds,_,⟨a,dx,vs,e,h1,hn,h2⟩=>⟨a,dx,vs,e,g _ _ h1,hn,Θ.mono g l ds vs h2⟩
 | .loc k,_,⟨a,e,h1⟩=>⟨a,e,l.get h1⟩
 | .ref _,_,h=>h
 | .ty _,_,h=>h
 | .dM _,_,⟨a,e,h1⟩=>⟨a,e,g.seq h1⟩
 | .kt ds,_,⟨a,vs,e,h1,h2⟩=>⟨a,vs,e,g.NS h1,Θ.mono g l ds vs h2⟩
 | .exc _ _ ds,_,⟨a,od,vs,e,h1,h2,h3,h4⟩=>⟨a,od,vs,e,g _ _ h1,h2.imp (λz=>z) (λ⟨dx,z1,z2⟩=>⟨dx,z1,g _ _ z2⟩),h3,Θ.mono g l ds vs h4⟩
 | .Ou _ _ _ _ ds,_,⟨vs,e,h2,h3,h4⟩=>⟨vs,e,h2.imp (λz=>z) (λ⟨dx,z1,z2⟩=>⟨dx,z1,g _ _ z2⟩),h3,Θ.mono g l ds vs h4⟩
theorem Θ.mono(g:cE G G')(l:Pre L L'):∀(ds:List Dt) (vs:List V),Θ K G L ds vs->Θ K G' L' ds vs
 | [],_,h=>h
 | d::ds,_,⟨v,r,e,h1,h2⟩=>⟨v,r,e,Den.mono g l d v h1,Θ.mono g l ds r h2⟩
end
theorem Θ.pair:∀{ds:List Dt} {vs:List V},Θ K G L ds vs->Paired (Den K G L) ds vs
 | [],_,h=>by have h:_=_:=h;subst h;exact .nil
 | d::ds,_,⟨v,r,e,h1,h2⟩=>by subst e;exact .cons h1 (Θ.pair h2)
theorem Θ.of:∀{ds:List Dt} {vs:List V},Paired (Den K G L) ds vs->Θ K G L ds vs
 | _,_, .nil=>rfl
 | _,_, .cons h t=>⟨_,_,rfl,h,Θ.of t⟩
end
section
variable{α β:Type}{F:α->β->Prop}
theorem Ap:∀{xs:List α} {us:List β} {i:Nat} {x:α},Paired F xs us->xs[i]? =some x->∃u,us[i]? =some u/\F x u
 | _,_,_,_, .nil,e=>by simp at e
 | _,_,0,_, .cons r _,e=>by simp at e;subst e;exact ⟨_,rfl,r⟩
 | _,_,i+1,x, .cons _ t,e=>by obtain ⟨u,h1,h2⟩:=Ap (i:=i) (x:=x) t (by simpa using e);exact ⟨u,by simpa using h1,h2⟩
theorem vT:∀{xs ys:List α} {us ws:List β},Paired F xs us->Paired F ys ws->Paired F (xs++ys) (us++ws)
 | _,_,_,_, .nil,s=>s
 | _,_,_,_, .cons r t,s=> .cons r (vT t s)
theorem ql:∀{xs:List α} {us:List β} (n:Nat),Paired F xs us->Paired F (xs.take n) (us.take n)
 | _,_,0,_=> .nil
 | _,_,_+1, .nil=> .nil
 | _,_,n+1, .cons r t=> .cons r (ql n t)
theorem qa:∀{xs:List α} {us:List β} (n:Nat),Paired F xs us->Paired F (xs.drop n) (us.drop n)
 | _,_,0,r=>r
 | _,_,_+1, .nil=> .nil
 | _,_,n+1, .cons _ t=>qa n t
theorem AR{xs:List α}{us:List β}(h:Paired F xs us):∀k:Nat,Paired F (List.replicate k xs).flatten (List.replicate k us).flatten
 | 0=> .nil
 | k+1=>by rw [abi,abi,abx,abx];exact vT h (AR h k)
end
section
variable{K:fv}{G:Hp}{L:List Addr}
theorem Θ.length{ds:List Dt}{vs:List V}(h:Θ K G L ds vs):ds.length=vs.length:=Paired.length h.pair
theorem Θ.get{ds:List Dt}{vs:List V}{i:Nat}{d:Dt}(h:Θ K G L ds vs)(e:ds[i]? =some d):∃v,vs[i]? =some v/\Den K G L d v:=Ap h.pair e
theorem Θ.app{ds es:List Dt}{vs us:List V}(h:Θ K G L ds vs)(h':Θ K G L es us):Θ K G L (ds++es) (vs++us):= .of (vT h.pair h'.pair)
theorem cQ:∀{ns:List Int},Θ K G L (ns.map Dt.int) (ns.map V.int)
 | []=>rfl
 | n::ns=>⟨_,_,rfl,rfl,cQ⟩
theorem aM{d:Dt}{vs:List V}(h:Θ K G L [d] vs):∃v,vs=[v]/\Den K G L d v:=by obtain ⟨v,r,rfl,h1,h2⟩:=h;have h2:r=[]:=h2;subst h2;exact ⟨v,rfl,h1⟩
theorem iC{d e:Dt}{vs:List V}(h:Θ K G L [d,e] vs):∃v u,vs=[v,u]/\Den K G L d v/\Den K G L e u:=by obtain ⟨v,r,rfl,h1,h2⟩:=h;obtain ⟨u,rfl,h3⟩:=aM h2;exact ⟨v,u,rfl,h1,h3⟩
end
def CG(K:fv)(G:Hp)(L:List Addr)(H:Hp)(a:Addr):MO->Prop
 | .lst ds=>∃vs,H a=some (.lst vs)/\Θ K G L ds vs
 | .ins C ns ds=>∃dx vs,H a=some (.ins C dx (ns.zip vs))/\ns.length=ds.length/\Θ K G L ds vs
 | .jF ks ds=>∃vs,H a=some (.dK (ks.zip vs))/\ks.length=ds.length/\Θ K G L ds vs
 | .raw u=>H a=some (u a)
 | .JD u ds=>∃vs,H a=some (u a vs)/\Θ K G L ds vs
structure Rl(K:fv)(G:Hp)(L:List Addr)(M:Ms)(H:Hp):Prop where
 sub:cE G H
 len:L.length=M.length
 nd:L.Nodup
 fg:∀(k:Nat) (a:Addr) (m:MO),L[k]? =some a->M[k]? =some m->G a=none/\CG K G L H a m
structure Ex(G:Hp)(L:List Addr)(H:Hp)(G':Hp)(L':List Addr)(H':Hp):Prop where
 g:cE G G'
 l:Pre L L'
 fr:∀b,G b=none->H b≠none->G' b=none
 out:∀b o,H b=some o->b∉L->H' b=some o
 new:∀b∈L',b∈L\/H b=none
 CN:∀b,H b≠none->H' b≠none
theorem Ex.refl(G:Hp)(L:List Addr)(H:Hp):Ex G L H G L H:=⟨.refl _, .refl _,λ_ h _=>h,λ_ _ h _=>h,λ_ h=> .inl h,λ_ h=>h⟩
theorem Ex.trans{G:Hp}{L:List Addr}{H G1:Hp}{L1:List Addr}{H1 G2:Hp}{L2:List Addr}{H2:Hp}(a:Ex G L H G1 L1 H1)(b:Ex G1 L1 H1 G2 L2 H2):Ex G L H G2 L2 H2 where
 g:=a.g.trans b.g
 l:=a.l.trans b.l
 fr:=λx h1 h2=>b.fr x (a.fr x h1 h2) (a.CN x h2)
 out:=λx o h1 h2=>b.out x o (a.out x o h1 h2) λz=>(a.new x z).elim h2 λq=>by rw [h1] at q;cases q
 new:=λx h=>by
  rcases b.new x h with z | z
  ·exact a.new x z
  ·right;cases q:H x with
   | none=>rfl
   | some o=>exact absurd z (a.CN x (by rw [q];simp))
 CN:=λx h=>b.CN x (a.CN x h)
theorem CG.there{K:fv}{G:Hp}{L:List Addr}{H:Hp}{a:Addr}{m:MO}(h:CG K G L H a m):H a≠none:=by
 cases m with
 | lst ds=>obtain ⟨vs,e,_⟩:=h;rw [e];simp
 | ins C ns ds=>obtain ⟨dx,vs,e,_⟩:=h;rw [e];simp
 | jF ks ds=>obtain ⟨vs,e,_⟩:=h;rw [e];simp
 | raw u=>have h:H a=some (u a):=h;rw [h];simp
 | JD u ds=>obtain ⟨vs,e,_⟩:=h;rw [e];simp
theorem CG.mono{K:fv}{G G':Hp}{L L':List Addr}{H H':Hp}{a:Addr}{m:MO}(g:cE G G')(l:Pre L L')(e:H' a=H a)(h:CG K G L H a m):CG K G' L' H' a m:=by
 cases m with
 | lst ds=>obtain ⟨vs,e1,h⟩:=h;exact ⟨vs,e.trans e1,Θ.mono g l _ _ h⟩
 | ins C ns ds=>obtain ⟨dx,vs,e1,h0,h⟩:=h;exact ⟨dx,vs,e.trans e1,h0,Θ.mono g l _ _ h⟩
 | jF ks ds=>obtain ⟨vs,e1,h0,h⟩:=h;exact ⟨vs,e.trans e1,h0,Θ.mono g l _ _ h⟩
 | raw u=>exact e.trans h
 | JD u ds=>obtain ⟨vs,e1,h⟩:=h;exact ⟨vs,e.trans e1,Θ.mono g l _ _ h⟩
section
variable{K:fv}{G:Hp}{L:List Addr}{M:Ms}{H:Hp}{p:Addr}{o:HO}
theorem Rl.uA(r:Rl K G L M H){a:Addr}(h:a∈L):∃(k:Nat) (m:MO),L[k]? =some a/\M[k]? =some m/\G a=none/\CG K G L H a m:=by
 obtain ⟨k,hk,e⟩:=List.getElem_of_mem h;have e1:L[k]? =some a:=by rw [aaa hk,e]
 have e2:M[k]? =some (M[k]'(by rw [<-r.len];exact hk)):=aaa _;exact ⟨k,_,e1,e2,r.fg k a _ e1 e2⟩
theorem Rl.PZ(r:Rl K G L M H)(hp:H p=none):p∉L:=λz=>by obtain ⟨k,m,_,_,_,h⟩:=r.uA z;exact h.there hp
theorem Rl.Fj(r:Rl K G L M H)(hp:H p=none):Rl K (upd G p o) L M (upd H p o) where
 sub:=λb u e=>by
  by_cases hb:b=p
  ·subst hb;rw [Τ] at e⊢;exact e
  ·rw [Ζ hb] at e⊢;exact r.sub b u e
 len:=r.len
 nd:=r.nd
 fg:=λk a m h1 h2=>by obtain ⟨q1,q2⟩:=r.fg k a m h1 h2;have hb:a≠p:=λz=>q2.there (by rw [z];exact hp);exact ⟨by rw [Ζ hb];exact q1,q2.mono (λb u e=>by rw [Ζ (λz=>by rw [z,r.sub.free hp] at e;cases e)];exact e) (.refl _) (Ζ hb)⟩
theorem Rl.LD(r:Rl K G L M H)(hp:H p=none):Ex G L H (upd G p o) L (upd H p o) where
 g:=λb u e=>by rw [Ζ (λz=>by rw [z,r.sub.free hp] at e;cases e)];exact e
 l:= .refl _
 fr:=λb h1 h2=>by rw [Ζ (λz=>h2 (by rw [z];exact hp))];exact h1
 out:=λb u h1 _=>by rw [Ζ (λz=>by rw [z,hp] at h1;cases h1)];exact h1
 new:=λb h=> .inl h
 CN:=λb h=>by rw [Ζ (λz=>h (by rw [z];exact hp))];exact h
theorem Rl.Ma{m:MO}(r:Rl K G L M H)(hp:H p=none)(hm:CG K G (L++[p]) (upd H p o) p m):Rl K G (L++[p]) (M++[m]) (upd H p o) where
 sub:=λb u e=>by rw [Ζ (λz=>by rw [z,r.sub.free hp] at e;cases e)];exact r.sub b u e
 len:=by rw [aai,aai,r.len];rfl
 nd:=List.nodup_append.mpr ⟨r.nd,by simp,λa ha b hb=>by
  have e:b=p:=by simpa using hb
  rw [e];exact λz=>r.PZ hp (z▸ha)⟩
 fg:=λk a m' h1 h2=>by
  by_cases hk:k < L.length
  ·rw [aaJ hk] at h1;rw [aaJ (by rw [<-r.len];exact hk)] at h2;obtain ⟨q1,q2⟩:=r.fg k a m' h1 h2;exact ⟨q1,q2.mono (.refl _) ⟨[p],rfl⟩ (Ζ λz=>q2.there (by rw [z];exact hp))⟩
  ·have e:k=L.length:=by have:=(aad.mp h1).1;rw [aai] at this;simp at this;omega
   rw [e,aaC (aal _)] at h1;rw [e,r.len,aaC (aal _)] at h2;simp at h1 h2;subst h1 h2;exact ⟨r.sub.free hp,hm⟩
theorem Rl.Ui(r:Rl K G L M H)(hp:H p=none):Ex G L H G (L++[p]) (upd H p o) where
 g:= .refl _
 l:=⟨[p],rfl⟩
 fr:=λb h1 _=>h1
 out:=λb u h1 _=>by rw [Ζ (λz=>by rw [z,hp] at h1;cases h1)];exact h1
 new:=λb h=>by
  rcases aaL.mp h with z | z
  ·exact .inl z
  ·have e:b=p:=by simpa using z
   right;rw [e];exact hp
 CN:=λb h=>by rw [Ζ (λz=>h (by rw [z];exact hp))];exact h
theorem Rl.setM{k:Nat}{a:Addr}{m:MO}(r:Rl K G L M H)(hk:L[k]? =some a)(hm:CG K G L (upd H a o) a m):Rl K G L (M.set k m) (upd H a o) where
 sub:=λb u e=>by obtain ⟨k',m',e1,e2,q1,_⟩:=r.uA (aaD hk);rw [Ζ (λz=>by rw [z,q1] at e;cases e)];exact r.sub b u e
 len:=by rw [abI];exact r.len
 nd:=r.nd
 fg:=λk' a' m' h1 h2=>by
  by_cases e:k'=k
  ·subst e;rw [hk] at h1;cases h1;have hl:k' < M.length:=by rw [<-r.len];exact (aad.mp hk).1
   rw [aba hl] at h2;cases h2;obtain ⟨_,_,_,_,q1,_⟩:=r.uA (aaD hk);exact ⟨q1,hm⟩
  ·rw [aa4 (λz=>e z.symm)] at h2;obtain ⟨q1,q2⟩:=r.fg k' a' m' h1 h2;have ne:a'≠a:=λz=>by subst z;exact e ((List.getElem?_inj (aad.mp h1).1 r.nd).mp (h1.trans hk.symm))
   exact ⟨q1,q2.mono (.refl _) (.refl _) (Ζ ne)⟩
theorem Rl.Fy{k:Nat}{a:Addr}(r:Rl K G L M H)(hk:L[k]? =some a):Ex G L H G L (upd H a o) where
 g:= .refl _
 l:= .refl _
 fr:=λb h1 _=>h1
 out:=λb u h1 h2=>by rw [Ζ (λz=>h2 (by rw [z];exact aaD hk))];exact h1
 new:=λb h=> .inl h
 CN:=λb h=>by
  by_cases e:b=a
  ·rw [e,Τ];simp
  ·rw [Ζ e];exact h
end
structure jX(K:fv)(G:Hp)(L:List Addr)(ρ:En)(σ:St):Prop where
 len:ρ.length=σ.length
 fg:∀(i:Nat) (d:Dt),ρ[i]? =some (some d)->∃v,σ[i]? =some (some v)/\Den K G L d v
section
variable{K:fv}{G G':Hp}{L L':List Addr}{H H':Hp}{ρ:En}{σ:St}
theorem jX.mono(h:jX K G L ρ σ)(e:Ex G L H G' L' H'):jX K G' L' ρ σ:=⟨h.len,λi d q=>let ⟨v,a,b⟩:=h.fg i d q;⟨v,a,Den.mono e.g e.l d v b⟩⟩
theorem jX.set(h:jX K G L ρ σ)(i:Nat){d:Dt}{v:V}(q:Den K G L d v):jX K G L (ρ.set i (some d)) (σ.set i (some v)):=by
 refine ⟨by rw [abI,abI];exact h.len,λj d' e=> ?_⟩;by_cases hj:i=j
 ·subst hj;have hl:i < ρ.length:=by have:=(aad.mp e).1;rwa [abI] at this
  rw [aba hl] at e;cases e;exact ⟨v,aba (by rw [<-h.len];exact hl),q⟩
 ·rw [aa4 hj] at e;obtain ⟨u,a,b⟩:=h.fg j d' e;exact ⟨u,by rw [aa4 hj];exact a,b⟩
end
abbrev DQ:=Dt->Ms->Prop
abbrev DX:=En->Addr->List (Str×Dt)->Ms->Prop
def OS(K:fv)(G:Hp)(L:List Addr)(H:Hp)(fs:List (Str×Dt))(od:Option Addr):Prop:=
 (fs=[]/\od=none)\/fs≠[]/\∃dx vs,od=some dx/\G dx=some (.xd ((fs.map (·.1)).zip vs))/\Θ K G L (fs.map (·.2)) vs
def rA(K:fv)(G:Hp)(L:List Addr)(H:Hp)(R:St->XK)(x:DX):Prop:=
 ∀σ ρ C fs M' G' L' H' od,x ρ C fs M'->Ex G L H G' L' H'->Rl K G' L' M' H'->jX K G' L' ρ σ->OS K G' L' H' fs od->R σ (.ref C) od H'
theorem rA.on{K:fv}{G:Hp}{L:List Addr}{H G1:Hp}{L1:List Addr}{H1:Hp}{R:St->XK}{x:DX}(h:rA K G L H R x)(e:Ex G L H G1 L1 H1):rA K G1 L1 H1 R x:=
 λσ ρ C fs M' G' L' H' od q e' r n y=>h σ ρ C fs M' G' L' H' od q (e.trans e') r n y
def jw:DX:=λ_ _ _ _=>False
theorem C7{K:fv}{G:Hp}{L:List Addr}{H:Hp}{R:St->XK}:rA K G L H R jw:=λ_ _ _ _ _ _ _ _ _ q=>q.elim
abbrev DE:=En->Ms->DQ->DX->Prop
abbrev DT:=En->Ms->(Bool->Ms->Prop)->DX->Prop
abbrev DA:=En->Ms->(List Dt->Ms->Prop)->DX->Prop
structure nN where
 nx:En->Ms->Prop
 rt:DQ
 bk:En->Ms->Prop:=λ_ _=>False
 ct:En->Ms->Prop:=λ_ _=>False
 x:DX:=jw
abbrev DS:=nN->En->Ms->Prop
inductive Fin(K:fv)(G0:Hp)(L0:List Addr)(H0:Hp)(q:DQ)(v:V)(H:Hp):Prop
 | mk (d:Dt) (G:Hp) (L:List Addr) (M:Ms) (e:Ex G0 L0 H0 G L H) (r:Rl K G L M H) (n:Den K G L d v) (h:q d M)
inductive rS(K:fv)(G0:Hp)(L0:List Addr)(H0:Hp)(q:Bool->Ms->Prop)(b:Bool)(H:Hp):Prop
 | mk (G:Hp) (L:List Addr) (M:Ms) (e:Ex G0 L0 H0 G L H) (r:Rl K G L M H) (h:q b M)
inductive Nl(K:fv)(G0:Hp)(L0:List Addr)(H0:Hp)(q:List Dt->Ms->Prop)(vs:List V)(H:Hp):Prop
 | mk (ds:List Dt) (G:Hp) (L:List Addr) (M:Ms) (e:Ex G0 L0 H0 G L H) (r:Rl K G L M H) (n:Θ K G L ds vs) (h:q ds M)
inductive eE(K:fv)(G0:Hp)(L0:List Addr)(H0:Hp)(q:En->Ms->Prop)(σ:St)(H:Hp):Prop
 | mk (ρ:En) (G:Hp) (L:List Addr) (M:Ms) (e:Ex G0 L0 H0 G L H) (r:Rl K G L M H) (n:jX K G L ρ σ) (h:q ρ M)
def uF(K:fv)(G0:Hp)(L0:List Addr)(H0:Hp)(Dn:nN):vW:=⟨eE K G0 L0 H0 Dn.nx,Fin K G0 L0 H0 Dn.rt,eE K G0 L0 H0 Dn.bk,eE K G0 L0 H0 Dn.ct⟩
inductive sg(K:fv)(R:St->XK)(t:DE)(σ:St)(H:Hp)(Q:VK):Prop
 | mk (G:Hp) (L:List Addr) (ρ:En) (M:Ms) (q:DQ) (x:DX) (r:Rl K G L M H) (n:jX K G L ρ σ) (h:t ρ M q x) (hx:rA K G L H R x) (hQ:∀v H1,Fin K G L H q v H1->Q v H1)
inductive xB(K:fv)(R:St->XK)(t:DT)(σ:St)(H:Hp)(Q:Bool->Hp->Prop):Prop
 | mk (G:Hp) (L:List Addr) (ρ:En) (M:Ms) (q:Bool->Ms->Prop) (x:DX) (r:Rl K G L M H) (n:jX K G L ρ σ) (h:t ρ M q x) (hx:rA K G L H R x) (hQ:∀b H1,rS K G L H q b H1->Q b H1)
inductive QA(K:fv)(R:St->XK)(t:DA)(σ:St)(H:Hp)(Q:List V->Hp->Prop):Prop
 | mk (G:Hp) (L:List Addr) (ρ:En) (M:Ms) (q:List Dt->Ms->Prop) (x:DX) (r:Rl K G L M H) (n:jX K G L ρ σ) (h:t ρ M q x) (hx:rA K G L H R x) (hQ:∀vs H1,Nl K G L H q vs H1->Q vs H1)
structure KL(A B:vW):Prop where
 nx:∀σ H,A.nx σ H->B.nx σ H
 rt:∀v H,A.rt v H->B.rt v H
 bk:∀σ H,A.bk σ H->B.bk σ H
 ct:∀σ H,A.ct σ H->B.ct σ H
inductive N0(K:fv)(R:St->XK)(t:DS)(De:vW)(σ:St)(H:Hp):Prop
 | mk (G:Hp) (L:List Addr) (ρ:En) (M:Ms) (Dn:nN) (r:Rl K G L M H) (n:jX K G L ρ σ) (h:t Dn ρ M) (hx:rA K G L H R Dn.x) (hQ:KL (uF K G L H Dn) De)
def JE(X:Cx)(R:St->XK)(e:Expr)(t:DE):Prop:=PE X e (sg X.K R t)
def JT(X:Cx)(R:St->XK)(e:Expr)(t:DT):Prop:=PT X e (xB X.K R t)
def JW(X:Cx)(R:St->XK)(e:Expr)(t:DT):Prop:=PW X e (xB X.K R t)
def JA(X:Cx)(R:St->XK)(es:List Expr)(t:DA):Prop:=PA X es (QA X.K R t)
def JS(X:Cx)(R:St->XK)(st:Stmt)(t:DS):Prop:=PS X st (N0 X.K R t)
def Bh(X:Cx)(R:St->XK)(st:List Stmt)(t:DS):Prop:=CK X st (N0 X.K R t)
section
variable{K:fv}{G0:Hp}{L0:List Addr}{H0 G1:Hp}{L1:List Addr}{H1:Hp}
theorem Fin.back{q:DQ}(e:Ex G0 L0 H0 G1 L1 H1){v:V}{H:Hp}(h:Fin K G1 L1 H1 q v H):Fin K G0 L0 H0 q v H:=let ⟨d,G,L,M,a,b,c,f⟩:=h;⟨d,G,L,M,e.trans a,b,c,f⟩
theorem eE.back{q:En->Ms->Prop}(e:Ex G0 L0 H0 G1 L1 H1){v:St}{H:Hp}(h:eE K G1 L1 H1 q v H):eE K G0 L0 H0 q v H:=let ⟨d,G,L,M,a,b,c,f⟩:=h;⟨d,G,L,M,e.trans a,b,c,f⟩
theorem rS.back{q:Bool->Ms->Prop}(e:Ex G0 L0 H0 G1 L1 H1){v:Bool}{H:Hp}(h:rS K G1 L1 H1 q v H):rS K G0 L0 H0 q v H:=let ⟨G,L,M,a,b,f⟩:=h;⟨G,L,M,e.trans a,b,f⟩
theorem uF.back{Dn:nN}(e:Ex G0 L0 H0 G1 L1 H1):KL (uF K G1 L1 H1 Dn) (uF K G0 L0 H0 Dn):=⟨λ_ _ h=>eE.back e h,λ_ _ h=>Fin.back e h,λ_ _ h=>eE.back e h,λ_ _ h=>eE.back e h⟩
theorem SP.imp{X:Cx}{δ:List (Addr×Obj)}{A B:vW}(e:KL A B){f:Flow}{s:Shared}(h:SP X δ A f s):SP X δ B f s:=by
 cases f with
 | next=>obtain ⟨a,b,I,q⟩:=h;exact ⟨a,b,I,e.nx _ _ q⟩
 | brk=>obtain ⟨a,b,I,q⟩:=h;exact ⟨a,b,I,e.bk _ _ q⟩
 | cont=>obtain ⟨a,b,I,q⟩:=h;exact ⟨a,b,I,e.ct _ _ q⟩
 | ret u=>obtain ⟨v,a,b,I,r,q⟩:=h;exact ⟨v,a,b,I,r,e.rt _ _ q⟩
end
section
variable{X:Cx}{R:St->XK}{e:Expr}
theorem JE.of{te:TE}{t:DE}(h:PE X e te)(hw:∀σ H G L ρ M q x,Rl X.K G L M H->jX X.K G L ρ σ->t ρ M q x->rA X.K G L H R x->te σ H (Fin X.K G L H q)):JE X R e t:=by intro δ s σ H Q I ⟨G,L,ρ,M,q,x,r,n,ht,hx,hQ⟩;refine bx (h δ s σ H _ I (hw σ H G L ρ M q x r n ht hx)) λu s1 ⟨v,H1,I1,rv,f⟩=>⟨v,H1,I1,rv,hQ v H1 f⟩
theorem JT.of{te:TT}{t:DT}(h:PT X e te)(hw:∀σ H G L ρ M q x,Rl X.K G L M H->jX X.K G L ρ σ->t ρ M q x->rA X.K G L H R x->te σ H (rS X.K G L H q)):JT X R e t:=by intro δ s σ H Q I ⟨G,L,ρ,M,q,x,r,n,ht,hx,hQ⟩;refine bx (h δ s σ H _ I (hw σ H G L ρ M q x r n ht hx)) λu s1 ⟨H1,I1,f⟩=>⟨H1,I1,hQ u H1 f⟩
theorem JW.of{te:TT}{t:DT}(h:PW X e te)(hw:∀σ H G L ρ M q x,Rl X.K G L M H->jX X.K G L ρ σ->t ρ M q x->rA X.K G L H R x->te σ H (rS X.K G L H q)):JW X R e t:=by intro wh δ s σ H Q I ⟨G,L,ρ,M,q,x,r,n,ht,hx,hQ⟩;refine bx (h wh δ s σ H _ I (hw σ H G L ρ M q x r n ht hx)) λu s1 ⟨H1,I1,f⟩=>⟨H1,I1,hQ u H1 f⟩
theorem JA.of{es:List Expr}{te:TA}{t:DA}(h:PA X es te)(hw:∀σ H G L ρ M q x,Rl X.K G L M H->jX X.K G L ρ σ->t ρ M q x->rA X.K G L H R x->te σ H (Nl X.K G L H q)):JA X R es t:=by intro pos δ s σ H Q I ⟨G,L,ρ,M,q,x,r,n,ht,hx,hQ⟩;refine bx (h pos δ s σ H _ I (hw σ H G L ρ M q x r n ht hx)) λu s1 ⟨v,H1,I1,rv,f⟩=>⟨v,H1,I1,rv,hQ v H1 f⟩
theorem JS.of{st:Stmt}{te:TS}{t:DS}(h:PS X st te)(hw:∀σ H G L ρ M Dn,Rl X.K G L M H->jX X.K G L ρ σ->t Dn ρ M->rA X.K G L H R Dn.x->te (uF X.K G L H Dn) σ H):JS X R st t:=by intro δ s σ H De I ⟨G,L,ρ,M,Dn,r,n,ht,hx,hQ⟩;exact bx (h δ s σ H _ I (hw σ H G L ρ M Dn r n ht hx)) λu s1 f=>SP.imp hQ f
theorem Bh.of{st:List Stmt}{te:TS}{t:DS}(h:CK X st te)(hw:∀σ H G L ρ M Dn,Rl X.K G L M H->jX X.K G L ρ σ->t Dn ρ M->rA X.K G L H R Dn.x->te (uF X.K G L H Dn) σ H):Bh X R st t:=by intro δ s σ H De I ⟨G,L,ρ,M,Dn,r,n,ht,hx,hQ⟩;exact bx (h δ s σ H _ I (hw σ H G L ρ M Dn r n ht hx)) λu s1 f=>SP.imp hQ f
end
def ik(i:Nat):DE:=λρ M q _=>match ρ[i]? with
 | some (some d)=>q d M
 | _=>False
def dC(d:Dt):DE:=λ_ M q _=>q d M
def kP(f:Dt->Dt->Ms->DQ->Prop)(a b:DE):DE:=λρ M q x=>a ρ M (λd1 M1=>b ρ M1 (λd2 M2=>f d1 d2 M2 q) x) x
def P8(f:Dt->Ms->DQ->Prop)(a:DE):DE:=λρ M q x=>a ρ M (λd1 M1=>f d1 M1 q) x
def nW:DA:=λ_ M q _=>q [] M
def ic(a:DE)(r:DA):DA:=λρ M q x=>a ρ M (λd M1=>r ρ M1 (λds M2=>q (d::ds) M2) x) x
def ya(f:List Dt->Ms->DQ->Prop)(a:DA):DE:=λρ M q x=>a ρ M (λds M1=>f ds M1 q) x
def rn(K:fv)(r:R2)(f:Dt->Dt->Ms->DQ->Prop):Prop:=
 ∀G0 L0 H0 G L M H v1 v2 d1 d2 q,Ex G0 L0 H0 G L H->Rl K G L M H->Den K G L d1 v1->Den K G L d2 v2->f d1 d2 M q->r v1 v2 H (Fin K G0 L0 H0 q)
def Ub(K:fv)(r:V->Hp->VK->Prop)(f:Dt->Ms->DQ->Prop):Prop:=
 ∀G0 L0 H0 G L M H v1 d1 q,Ex G0 L0 H0 G L H->Rl K G L M H->Den K G L d1 v1->f d1 M q->r v1 H (Fin K G0 L0 H0 q)
def GS(K:fv)(r:List V->Hp->VK->Prop)(f:List Dt->Ms->DQ->Prop):Prop:=
 ∀G0 L0 H0 G L M H vs ds q,Ex G0 L0 H0 G L H->Rl K G L M H->Θ K G L ds vs->f ds M q->r vs H (Fin K G0 L0 H0 q)
section
variable{K:fv}{R:St->XK}{ta tb:DE}{tc:DA}{σ:St}{H G:Hp}{L:List Addr}{ρ:En}{M:Ms}{q:DQ}{x:DX}
theorem zv{r:R2}{f:Dt->Dt->Ms->DQ->Prop}(od:rn K r f)(rl:Rl K G L M H)(n:jX K G L ρ σ)(h:kP f ta tb ρ M q x)(hx:rA K G L H R x):OV r (sg K R ta) (sg K R tb) σ H (Fin K G L H q):=by refine ⟨G,L,ρ,M,_,x,rl,n,h,hx,λv H1 ⟨d1,G1,L1,M1,e1,r1,n1,h1⟩=> ?_⟩;refine ⟨G1,L1,ρ,M1,_,x,r1,n.mono e1,h1,hx.on e1,λv2 H2 ⟨d2,G2,L2,M2,e2,r2,n2,h2⟩=> ?_⟩;exact od G L H G2 L2 M2 H2 v v2 d1 d2 q (e1.trans e2) r2 (Den.mono e2.g e2.l _ _ n1) n2 h2
theorem P2{r:V->Hp->VK->Prop}{f:Dt->Ms->DQ->Prop}(od:Ub K r f)(rl:Rl K G L M H)(n:jX K G L ρ σ)(h:P8 f ta ρ M q x)(hx:rA K G L H R x):U5 r (sg K R ta) σ H (Fin K G L H q):=by refine ⟨G,L,ρ,M,_,x,rl,n,h,hx,λv H1 ⟨d1,G1,L1,M1,e1,r1,n1,h1⟩=> ?_⟩;exact od G L H G1 L1 M1 H1 v d1 q e1 r1 n1 h1
theorem JJ{r:List V->Hp->VK->Prop}{f:List Dt->Ms->DQ->Prop}(od:GS K r f)(rl:Rl K G L M H)(n:jX K G L ρ σ)(h:ya f tc ρ M q x)(hx:rA K G L H R x):Tu r (QA K R tc) σ H (Fin K G L H q):=by refine ⟨G,L,ρ,M,_,x,rl,n,h,hx,λv H1 ⟨d1,G1,L1,M1,e1,r1,n1,h1⟩=> ?_⟩;exact od G L H G1 L1 M1 H1 v d1 q e1 r1 n1 h1
end
section
variable{X:Cx}{R:St->XK}{a b c:Expr}{ta tb:DE}{pos:Pos}
theorem jv(i:Nat){x:Str}{pos:Pos}(hN:X.N[i]? =some x:=by rfl)(hv:SA X.env.scope x:=by first | exact Or.inl rfl | exact Or.inr (Or.inl rfl) | exact Or.inr (Or.inr rfl))(hd:(x==("__debug__":Str))=false:=by decide)
  (Df:(x==("__classdict__":Str))=false:=by decide):JE X R (.Name x pos) (ik i):= .of (MY hN hv hd Df) λσ H G L ρ M q x r n h hx=>by
 unfold ik at h;split at h
 ·rename_i d e;obtain ⟨v,e1,h1⟩:=n.fg i d e;exact ⟨v,e1,d,G,L,M, .refl _ _ _,r,h1,h⟩
 ·exact h.elim
theorem NM{d:Dt}{v:V}{e:Expr}(h:PE X e (tC v))(hd:∀G L,Den X.K G L d v):JE X R e (dC d):= .of h λσ H G L ρ M q x r n h hx=>⟨d,G,L,M, .refl _ _ _,r,hd G L,h⟩
theorem ν{i j pos}:JE X R (.Constant (.int i) j pos) (dC (.int i)):=NM K5 λ_ _=>rfl
theorem CQ{b j pos}:JE X R (.Constant (.bool b) j pos) (dC (.bl b)):=NM O1 λ_ _=>rfl
theorem Tp{j pos}:JE X R (.Constant .none j pos) (dC .bV):=NM LM λ_ _=>rfl
theorem fX{x j pos}:JE X R (.Constant (.str x) j pos) (dC (.str x)):=NM KN λ_ _=>rfl
theorem zz{op:Operator}{r:R2}{f:Dt->Dt->Ms->DQ->Prop}(ho:jj X (binaryOp op) r)(od:rn X.K r f)(ja:JE X R a ta)(jb:JE X R b tb):JE X R (.BinOp a op b pos) (kP f ta tb):=
 .of (PL ho ja jb) λσ H G L ρ M q x r n h hx=>zv od r n h hx
theorem R9{op:UnaryOp}{r:V->Hp->VK->Prop}{f:Dt->Ms->DQ->Prop}(ho:Q4 X (unaryOp op) r)(od:Ub X.K r f)(ja:JE X R a ta):JE X R (.UnaryOp op a pos) (P8 f ta):=
 .of (NX ho ja) λσ H G L ρ M q x r n h hx=>P2 od r n h hx
theorem xg{op:CmpOp}{r:R2}{f:Dt->Dt->Ms->DQ->Prop}(ho:jj X (compareOp op) r)(od:rn X.K r f)(ja:JE X R a ta)(jb:JE X R b tb)(hm:behindInMarks op b=false):JE X R (.Compare a [op] [b] pos) (kP f ta tb):=
 .of (Hg ho ja jb hm) λσ H G L ρ M q x r n h hx=>zv od r n h hx
theorem Px{r:R2}{f:Dt->Dt->Ms->DQ->Prop}(hr:GQ X r)(od:rn X.K r f)(ja:JE X R a ta)(jb:JE X R b tb)(hs:uw b):JE X R (.Subscript a b pos) (kP f ta tb):=
 .of (PK hr ja jb hs) λσ H G L ρ M q x r n h hx=>zv od r n h hx
theorem bb{env:Env}{es:List Expr}{c j p}:starEach (.Constant c j p::es) env=(false,eval (.Constant c j p) env)::starEach es env:=rfl
theorem JC{env:Env}{es:List Expr}{c p}:starEach (.Name c p::es) env=(false,eval (.Name c p) env)::starEach es env:=rfl
theorem bJ{env:Env}{es:List Expr}{a o b p}:starEach (.BinOp a o b p::es) env=(false,eval (.BinOp a o b p) env)::starEach es env:=rfl
theorem bc{env:Env}{es:List Expr}{a b c p}:starEach (.Call a b c p::es) env=(false,eval (.Call a b c p) env)::starEach es env:=rfl
theorem aT{env:Env}{es:List Expr}{a b p}:starEach (.Subscript a b p::es) env=(false,eval (.Subscript a b p) env)::starEach es env:=rfl
theorem iM{env:Env}{es:List Expr}{a b p}:starEach (.Tuple a b p::es) env=(false,eval (.Tuple a b p) env)::starEach es env:=rfl
theorem J7{env:Env}{es:List Expr}{a b p}:starEach (.UnaryOp a b p::es) env=(false,eval (.UnaryOp a b p) env)::starEach es env:=rfl
theorem ε:JA X R [] nW:= .of zf λσ H G L ρ M q x r n h hx=>⟨[],G,L,M, .refl _ _ _,r,rfl,h⟩
theorem ζ{e:Expr}{es:List Expr}{te:DE}{t:DA}(ha:JE X R e te)(hr:JA X R es t)(hs:starEach (e::es) X.env=(false,eval e X.env)::starEach es X.env:=by first | exact bb | exact JC | exact bJ | exact bc | exact aT | exact iM | exact Vm | exact J7 | rfl):JA X R (e::es) (ic te t):=
 .of (vV ha hr hs) λσ H G L ρ M q x rl n h hx=>by refine ⟨G,L,ρ,M,_,x,rl,n,h,hx,λv H1 ⟨d1,G1,L1,M1,e1,r1,n1,h1⟩=> ?_⟩;refine ⟨G1,L1,ρ,M1,_,x,r1,n.mono e1,h1,hx.on e1,λv2 H2 ⟨d2,G2,L2,M2,e2,r2,n2,h2⟩=> ?_⟩;exact ⟨d1::d2,G2,L2,M2,e1.trans e2,r2,⟨_,_,rfl,Den.mono e2.g e2.l _ _ n1,n2⟩,h2⟩
theorem ar{c:Str}{p:Pos}{es:List Expr}{te:DE}{t:DA}(ha:JE X R (.Name c p) te)(hr:JA X R es t):JA X R (.Name c p::es) (ic te t):=ζ ha hr JC
def Dh(t:DA):DE:=λρ M q x=>t ρ M (λds M1=>ds.length<=sizeLine/\q (.tup ds) M1) x
def Qs(t:DA):DE:=λρ M q x=>t ρ M (λds M1=>ds.length<=sizeLine/\q (.lst ds) M1) x
def Jq(t:DA):DE:=λρ M q x=>t ρ M (λds M1=>ds.length<=sizeLine/\q (.loc M1.length) (M1++[.lst ds])) x
theorem gQ{K:fv}{G0:Hp}{L0:List Addr}{H0 G:Hp}{L:List Addr}{M:Ms}{H:Hp}{p:Addr}{o:HO}{d:Dt}{q:DQ}(e:Ex G0 L0 H0 G L H)(r:Rl K G L M H)(hp:H p=none)(hd:Den K (upd G p o) L d (.ref p))(h:q d M):Fin K G0 L0 H0 q (.ref p) (upd H p o):=
 ⟨d,upd G p o,L,M,e.trans (r.LD hp),r.Fj hp,hd,h⟩
theorem lJ{K:fv}{G:Hp}{L:List Addr}{M:Ms}{H:Hp}{p:Addr}{ds:List Dt}{vs:List V}(r:Rl K G L M H)(hp:H p=none)(h:Θ K G L ds vs):Den K (upd G p (.tup vs)) L (.tup ds) (.ref p):=
 ⟨p,vs,rfl,Τ,Θ.mono (r.LD hp).g (.refl _) _ _ h⟩
theorem vK{K:fv}{G:Hp}{L:List Addr}{M:Ms}{H:Hp}{p:Addr}{ds:List Dt}{vs:List V}(r:Rl K G L M H)(hp:H p=none)(h:Θ K G L ds vs):Den K (upd G p (.lst vs)) L (.lst ds) (.ref p):=
 ⟨p,vs,rfl,Τ,Θ.mono (r.LD hp).g (.refl _) _ _ h⟩
theorem gL{K:fv}{G0:Hp}{L0:List Addr}{H0 G:Hp}{L:List Addr}{M:Ms}{H:Hp}{p:Addr}{q:DQ}{ds:List Dt}{vs:List V}(e:Ex G0 L0 H0 G L H)(r:Rl K G L M H)(hp:H p=none)(hd:Θ K G L ds vs)(h:q (.loc M.length) (M++[.lst ds])):Fin K G0 L0 H0 q (.ref p) (upd H p (.lst vs)):=
 ⟨.loc M.length,G,L++[p],M++[.lst ds],e.trans (r.Ui hp),r.Ma (m:= .lst ds) hp ⟨vs,Τ,Θ.mono (.refl _) ⟨[p],rfl⟩ _ _ hd⟩,⟨p,rfl,by rw [<-r.len,List.getElem?_append_right (Nat.le_refl _)];simp⟩,h⟩
variable{es:List Expr}{t:DA}
theorem aD{x1}(h:JA X R es t):JE X R (.Tuple es x1 pos) (Dh t):= .of (Mg h) λσ H G L ρ M q x rl n h hx=>by refine ⟨G,L,ρ,M,_,x,rl,n,h,hx,λv H1 ⟨d1,G1,L1,M1,e1,r1,n1,h1⟩=>⟨by rw [<-n1.length];exact h1.1,λp hp=> ?_⟩⟩;exact gQ e1 r1 hp (lJ r1 hp n1) h1.2
theorem nD(h:JA X R es t):JE X R (.List es pos) (Qs t):= .of (FP h) λσ H G L ρ M q x rl n h hx=>by refine ⟨G,L,ρ,M,_,x,rl,n,h,hx,λv H1 ⟨d1,G1,L1,M1,e1,r1,n1,h1⟩=>⟨by rw [<-n1.length];exact h1.1,λp hp=> ?_⟩⟩;exact gQ e1 r1 hp (vK r1 hp n1) h1.2
theorem m8(h:JA X R es t):JE X R (.List es pos) (Jq t):= .of (FP h) λσ H G L ρ M q x rl n h hx=>by refine ⟨G,L,ρ,M,_,x,rl,n,h,hx,λv H1 ⟨d1,G1,L1,M1,e1,r1,n1,h1⟩=>⟨by rw [<-n1.length];exact h1.1,λp hp=> ?_⟩⟩;exact gL e1 r1 hp n1 h1.2
def qr(t:DE):DT:=λρ M q x=>t ρ M (λd M1=>match d with
 | .bl b=>q b M1
 | _=>False) x
def Pt(t u:DT):DT:=λρ M q x=>t ρ M (λc M1=>(c=true->u ρ M1 q x)/\(c=false->q false M1)) x
def UZ(t u:DT):DT:=λρ M q x=>t ρ M (λc M1=>(c=true->q true M1)/\(c=false->u ρ M1 q x)) x
def N2(t:DT):DT:=λρ M q x=>t ρ M (λc M1=>q (!c) M1) x
theorem KO{K:fv}{t:DE}{σ:St}{H G:Hp}{L:List Addr}{ρ:En}{M:Ms}{q:Bool->Ms->Prop}{x:DX}(rl:Rl K G L M H)(n:jX K G L ρ σ)(h:qr t ρ M q x)(hx:rA K G L H R x):tB (sg K R t) σ H (rS K G L H q):=by
 refine ⟨G,L,ρ,M,_,x,rl,n,h,hx,λv H1 ⟨d1,G1,L1,M1,e1,r1,n1,h1⟩=> ?_⟩
 (try dsimp only at h1)
 split at h1
 ·rename_i b;exact ⟨b,n1,G1,L1,M1,e1,r1,h1⟩
 ·exact h1.elim
theorem jZ{e:Expr}{t:DE}(h:JE X R e t)(he:∀whole,isTrue e X.env whole=(do let v<-whole;standAt e.pos;holding [v] (truthy v)):=by intro _;rfl):JT X R e (qr t):=
 .of (Ke h he) λσ H G L ρ M q x rl n h hx=>KO rl n h hx
theorem kJ{op:CmpOp}{r:R2}{f:Dt->Dt->Ms->DQ->Prop}(ho:jj X (compareOp op) r)(od:rn X.K r f)(ja:JE X R a ta)(jb:JE X R b tb)(hm:behindInMarks op b=false):JT X R (.Compare a [op] [b] pos) (qr (kP f ta tb)):=
 .of (Ik ho ja jb hm) λσ H G L ρ M q x rl n h hx=>by
  have h:kP f ta tb ρ M (λd M1=>match d with | .bl b=>q b M1 | _=>False) x:=h;refine ⟨G,L,ρ,M,_,x,rl,n,h,hx,λv H1 ⟨d1,G1,L1,M1,e1,r1,n1,h1⟩=> ?_⟩;refine ⟨G1,L1,ρ,M1,_,x,r1,n.mono e1,h1,hx.on e1,λv2 H2 ⟨d2,G2,L2,M2,e2,r2,n2,h2⟩=> ?_⟩;have:=od G L H G2 L2 M2 H2 v v2 d1 d2 _ (e1.trans e2) r2 (Den.mono e2.g e2.l _ _ n1) n2 h2;have e:(λx H'=>∃k,x=V.bl k/\rS X.K G L H q k H')=Fin X.K G L H (λd M1=>match d with | .bl b=>q b M1 | _=>False):=by
   funext y H'
   apply propext;constructor
   ·rintro ⟨k,rfl,G3,L3,M3,e3,r3,h3⟩;exact ⟨.bl k,G3,L3,M3,e3,r3,rfl,h3⟩
   ·rintro ⟨d,G3,L3,M3,e3,r3,n3,h3⟩;split at h3
    ·rename_i k;exact ⟨k,n3,G3,L3,M3,e3,r3,h3⟩
    ·exact h3.elim
  rw [e];exact this
theorem JW.jt{e:Expr}{t:DT}(h:JW X R e t):JT X R e t:=h _
variable{t1 t2:DT}{Η:List Expr}
theorem HM(ha:JT X R a t1):JW X R (.BoolOp .And [a] pos) t1:=pw_and1 ha
theorem vR(ha:JT X R a t1):JW X R (.BoolOp .Or [a] pos) t1:=pw_or1 ha
theorem Nf(ha:JT X R a t1)(hb:JW X R (.BoolOp .And (b::Η) pos) t2):JW X R (.BoolOp .And (a::b::Η) pos) (Pt t1 t2):= .of (pw_and ha hb) λσ H G L ρ M q x rl n h hx=>by
 refine ⟨G,L,ρ,M,_,x,rl,n,h,hx,λc H1 ⟨G1,L1,M1,e1,r1,h1⟩=> ?_⟩;cases c with
 | true=>exact yU ⟨G1,L1,ρ,M1,_,x,r1,n.mono e1,h1.1 rfl,hx.on e1,λb H2 f=>rS.back e1 f⟩
 | false=>exact yz ⟨G1,L1,M1,e1,r1,h1.2 rfl⟩
theorem Ag(ha:JT X R a t1)(hb:JW X R (.BoolOp .Or (b::Η) pos) t2):JW X R (.BoolOp .Or (a::b::Η) pos) (UZ t1 t2):= .of (pw_or ha hb) λσ H G L ρ M q x rl n h hx=>by
 refine ⟨G,L,ρ,M,_,x,rl,n,h,hx,λc H1 ⟨G1,L1,M1,e1,r1,h1⟩=> ?_⟩;cases c with
 | true=>exact yU ⟨G1,L1,M1,e1,r1,h1.1 rfl⟩
 | false=>exact yz ⟨G1,L1,ρ,M1,_,x,r1,n.mono e1,h1.2 rfl,hx.on e1,λb H2 f=>rS.back e1 f⟩
theorem zr(ha:JT X R a t1):JT X R (.UnaryOp .Not a pos) (N2 t1):= .of (Kt ha) λσ H G L ρ M q x rl n h hx=>
 ⟨G,L,ρ,M,_,x,rl,n,h,hx,λ_ _ ⟨G,L,M,e,r,h⟩=>⟨G,L,M,e,r,h⟩⟩
def OK(t u:DE):DE:=λρ M q x=>t ρ M (λd M1=>match d with
 | .bl c=>(c=true->u ρ M1 q x)/\(c=false->q (.bl false) M1)
 | _=>False) x
def Vr(t u:DE):DE:=λρ M q x=>t ρ M (λd M1=>match d with
 | .bl c=>(c=true->q (.bl true) M1)/\(c=false->u ρ M1 q x)
 | _=>False) x
def VQ(t:DT)(u v:DE):DE:=λρ M q x=>t ρ M (λc M1=>(c=true->u ρ M1 q x)/\(c=false->v ρ M1 q x)) x
theorem kC{op}{t:DE}(h:JE X R a t):JE X R (.BoolOp op [a] pos) t:=Ls h
theorem ix(ha:JE X R a ta)(hb:JE X R (.BoolOp .And (b::Η) pos) tb):JE X R (.BoolOp .And (a::b::Η) pos) (OK ta tb):= .of (LR ha hb) λσ H G L ρ M q x rl n h hx=>by
 refine ⟨G,L,ρ,M,_,x,rl,n,h,hx,λv H1 ⟨d1,G1,L1,M1,e1,r1,n1,h1⟩=> ?_⟩
 (try dsimp only at h1)
 split at h1
 ·rename_i c;refine ⟨c,n1, ?_⟩;cases c with
  | true=>exact yU ⟨G1,L1,ρ,M1,_,x,r1,n.mono e1,h1.1 rfl,hx.on e1,λb H2 f=>Fin.back e1 f⟩
  | false=>exact yz ⟨.bl false,G1,L1,M1,e1,r1,rfl,h1.2 rfl⟩
 ·exact h1.elim
theorem Pj(ha:JE X R a ta)(hb:JE X R (.BoolOp .Or (b::Η) pos) tb):JE X R (.BoolOp .Or (a::b::Η) pos) (Vr ta tb):= .of (NZ ha hb) λσ H G L ρ M q x rl n h hx=>by
 refine ⟨G,L,ρ,M,_,x,rl,n,h,hx,λv H1 ⟨d1,G1,L1,M1,e1,r1,n1,h1⟩=> ?_⟩
 (try dsimp only at h1)
 split at h1
 ·rename_i c;refine ⟨c,n1, ?_⟩;cases c with
  | true=>exact yU ⟨.bl true,G1,L1,M1,e1,r1,rfl,h1.1 rfl⟩
  | false=>exact yz ⟨G1,L1,ρ,M1,_,x,r1,n.mono e1,h1.2 rfl,hx.on e1,λb H2 f=>Fin.back e1 f⟩
 ·exact h1.elim
theorem J0{c:Expr}(hc:JT X R c t1)(ha:JE X R a ta)(hb:JE X R b tb):JE X R (.IfExp c a b pos) (VQ t1 ta tb):= .of (DG hc ha hb) λσ H G L ρ M q x rl n h hx=>by
 refine ⟨G,L,ρ,M,_,x,rl,n,h,hx,λc H1 ⟨G1,L1,M1,e1,r1,h1⟩=> ?_⟩;cases c with
 | true=>exact yU ⟨G1,L1,ρ,M1,_,x,r1,n.mono e1,h1.1 rfl,hx.on e1,λb H2 f=>Fin.back e1 f⟩
 | false=>exact yz ⟨G1,L1,ρ,M1,_,x,r1,n.mono e1,h1.2 rfl,hx.on e1,λb H2 f=>Fin.back e1 f⟩
end
def Jt:DS:=λDn ρ M=>Dn.nx ρ M
def MA(t u:DS):DS:=λDn ρ M=>t {Dn with nx:=u Dn} ρ M
def VR(c:DT)(t u:DS):DS:=λDn ρ M=>c ρ M (λb M1=>(b=true->t Dn ρ M1)/\(b=false->u Dn ρ M1)) Dn.x
def N9(t:DE):DS:=λDn ρ M=>t ρ M Dn.rt Dn.x
def y6(i:Nat)(t:DE):DS:=λDn ρ M=>t ρ M (λd M1=>Dn.nx (ρ.set i (some d)) M1) Dn.x
def Jl(t:DE):DS:=λDn ρ M=>t ρ M (λ_ M1=>Dn.nx ρ M1) Dn.x
def R3(t:DS):DS:=λDn ρ M=>∃J:En->Ms->Prop,t {Dn with nx:=J} ρ M/\∀ρ' M',J ρ' M'->Dn.nx ρ' M'
section
variable{X:Cx}{R:St->XK}{st:Stmt}{Η:List Stmt}{t u:DS}{e:Expr}{te:DE}{pos:Pos}
theorem Ξ:Bh X R [] Jt:= .of Io λσ H G L ρ M Dn rl n h hx=>⟨ρ,G,L,M, .refl _ _ _,rl,n,h⟩
theorem μ(h1:JS X R st t):Bh X R [st] t:=IK h1
theorem η(h1:JS X R st t)(h2:Bh X R Η u):Bh X R (st::Η) (MA t u):= .of (EY h1 h2) λσ H G L ρ M Dn rl n h hx=>by refine ⟨G,L,ρ,M,_,rl,n,h,hx,⟨λσ1 H1 ⟨ρ1,G1,L1,M1,e1,r1,n1,h1⟩=> ?_,λ_ _ f=>f,λ_ _ f=>f,λ_ _ f=>f⟩⟩;exact ⟨G1,L1,ρ1,M1,Dn,r1,n1,h1,hx.on e1,uF.back e1⟩
theorem Γ(he:JE X R e te):JS X R (.Return (some e) pos) (N9 te):= .of (Ln he) λσ H G L ρ M Dn rl n h hx=>⟨G,L,ρ,M,_,_,rl,n,h,hx,λ_ _ f=>f⟩
theorem kZ(he:JE X R e te)(hs:swapsWith e none pos.line X.env=pure false:=by rfl):JS X R (.Expr e pos) (Jl te):= .of (IF he hs) λσ H G L ρ M Dn rl n h hx=>by refine ⟨G,L,ρ,M,_,_,rl,n,h,hx,λv H1 ⟨d1,G1,L1,M1,e1,r1,n1,h1⟩=>⟨ρ,G1,L1,M1,e1,r1,n.mono e1,h1⟩⟩
theorem aE{c:Expr}{a b:List Stmt}{tc:DT}(hc:JT X R c tc)(ha:Bh X R a t)(hb:Bh X R b u):JS X R (.If c a b pos) (VR tc t u):= .of (Pk hc ha hb) λσ H G L ρ M Dn rl n h hx=>by
 refine ⟨G,L,ρ,M,_,_,rl,n,h,hx,λc H1 ⟨G1,L1,M1,e1,r1,h1⟩=> ?_⟩;cases c with
 | true=>exact yU ⟨G1,L1,ρ,M1,Dn,r1,n.mono e1,h1.1 rfl,hx.on e1,uF.back e1⟩
 | false=>exact yz ⟨G1,L1,ρ,M1,Dn,r1,n.mono e1,h1.2 rfl,hx.on e1,uF.back e1⟩
theorem Β(i:Nat){x:Str}{pos':Pos}(hN:X.N.Nodup)(he:JE X R e te)(hi:X.N[i]? =some x:=by rfl)(hx:Loc X.env.scope x:=by first | exact .inl rfl | exact .inr rfl)(hs:swapsWith e (some (.Name x pos')) pos.line X.env=pure false:=by rfl)(hf:X.fn x=true\/X.env.scope.names.lookup x=some .local:=by first | exact .inl rfl | exact .inr rfl | assumption):
  JS X R (.Assign [.Name x pos'] e pos) (y6 i te):= .of (Lj hN hi hx he hs hf) λσ H G L ρ M Dn rl n h hx=>by
 refine ⟨G,L,ρ,M,_,_,rl,n,h,hx,λv H1 ⟨d1,G1,L1,M1,e1,r1,n1,h1⟩=>⟨_,G1,L1,M1,e1,r1,(n.mono e1).set i n1,h1⟩⟩
theorem iX(h:JS X R st t):JS X R st (R3 t):= .of h λσ H G L ρ M Dn rl n h hx=>by obtain ⟨J,h1,h2⟩:=h;refine ⟨G,L,ρ,M,_,rl,n,h1,hx,⟨λσ1 H1 ⟨ρ1,G1,L1,M1,e1,r1,n1,h1⟩=>⟨ρ1,G1,L1,M1,e1,r1,n1,h2 _ _ h1⟩,λ_ _ f=>f,λ_ _ f=>f,λ_ _ f=>f⟩⟩
end
abbrev VV:=Addr->List (Str×Dt)->Ms->Prop
abbrev DF:=List Dt->Ms->DQ->VV->Prop
inductive eh(K:fv)(T:DF)(vs:List V)(H:Hp)(Q:VK)(E:XK):Prop
 | mk (G:Hp) (L:List Addr) (ds:List Dt) (M:Ms) (q:DQ) (x:VV) (r:Rl K G L M H) (n:Θ K G L ds vs) (h:T ds M q x) (hQ:∀v H1,Fin K G L H q v H1->Q v H1) (hE:∀C fs M1 G1 L1 H1 od,x C fs M1->Ex G L H G1 L1 H1->Rl K G1 L1 M1 H1->OS K G1 L1 H1 fs od->E (.ref C) od H1)
def m7(N:List Str)(ds:List Dt):En:=ds.map some++List.replicate (N.length - ds.length) none
theorem C5{K:fv}{G:Hp}{L:List Addr}{N:List Str}{ds:List Dt}{vs:List V}(h:Θ K G L ds vs):jX K G L (m7 N ds) (i6 N vs):=by
 have hl:=h.length;refine ⟨by unfold m7 i6;simp [hl],λi d e=> ?_⟩;unfold m7 at e;unfold i6;by_cases hi:i < ds.length
 ·rw [List.getElem?_append_left (by simpa using hi),List.getElem?_map] at e;rw [List.getElem?_append_left (by simpa [<-hl] using hi),List.getElem?_map];cases q:ds[i]? with
  | none=>rw [q] at e;cases e
  | some d'=>
   rw [q] at e;cases e;obtain ⟨v,e1,h1⟩:=h.get q;exact ⟨v,by rw [e1];rfl,h1⟩
 ·rw [List.getElem?_append_right (by simpa using Nat.le_of_not_lt hi),List.getElem?_replicate] at e;split at e <;> cases e
section
variable{P:Program}{w:World}{K:fv}{mg:Str->Option Value}{base:Heap}
theorem eD.gH{x qual:Str}{st:Stmt}{f:Addr}{fd:FuncData}{N ps:List Str}{k:Nat}{T:DF}(F:eD K x qual st f fd)(S:Δ N ps (χ st))(len:∀ds M q x,T ds M q x->ds.length=ps.length)
  (w4:∀(b8:Value) (A:Around) (outer:List Env) (s:Shared) (H:Hp) (E:XK),bt k (A.deeper (envOfC qual (χ st) s.heap.objs.size f b8))->
   ∃t,Bh (ui (dh P w) P w K mg base N qual (χ st) f b8 A outer s H E) (λ_=>E) (fF st) t/\∀ds M q x,T ds M q x->t {nx:=λ_ M'=>q .bV M',rt:=q,x:=λ_=>x} (m7 N ds) M):
  aC P w K mg base (dh P w) (k+1) f fd ps (eh K T):=by
 refine F.Ww S (λvs H Q E h=> ?_) (λb8 A outer s H vs Q E hr h=> ?_)
 ·obtain ⟨G,L,ds,M,q,x,rl,n,hT,_⟩:=h;rw [<-n.length];exact len _ _ _ _ hT
 ·obtain ⟨t,j,ht⟩:=w4 b8 A outer s H E hr;obtain ⟨G,L,ds,M,q,x,rl,n,hT,hQ,hE⟩:=h;refine ⟨_,j,G,L,m7 N ds,M,_,rl,C5 n,ht ds M q x hT,λσ ρ C fs M' G' L' H' od hx e r _ y=>hE C fs M' G' L' H' od hx e r y,⟨λσ' H' ⟨ρ',G',L',M',e,r,_,h⟩=>hQ _ _ ⟨.bV,G',L',M',e,r,rfl,h⟩,λv H' f=>hQ v H' f,λ_ _ ⟨_,_,_,_,_,_,_,h⟩=>h.elim,λ_ _ ⟨_,_,_,_,_,_,_,h⟩=>h.elim⟩⟩
structure aR(P:Program)(w:World)(K:fv)(mg:Str->Option Value)(base:Heap)(k:Nat)(x:Str)(ps:List Str)(T:DF)(f:Addr)(fd:FuncData):Prop where
 ok:aC P w K mg base (dh P w) k f fd ps (eh K T)
 b:ij K fd ps []
 m:mg x=some (.ref f)
 kp:PySem.W.keepIn K (.ref f)=true
end
def CS(T:DF)(t:DA):DE:=λρ M q x=>t ρ M (λds M1=>T ds M1 q (λC fs M'=>x ρ C fs M')) x
section
variable{X:Cx}{R:St->XK}{T:DF}{k k':Nat}{f:Addr}{fd:FuncData}{ps:List Str}{x:Str}{p pos:Pos}{e:Expr}{es:List Expr}{t:DA}
theorem au(C:aR X.prog X.w X.K X.mg X.base k x ps T f fd)(hr:bt k' X.A)(hx:cJ (dh X.prog X.w) X R)(ha:JA X R (e::es) t)(hk:k<=k':=by decide)(hg:Gl X x:=by rfl)(sf:(x==("__debug__":Str))=false:=by decide)
  (he:starEach (e::es) X.env=(false,eval e X.env)::starEach es X.env:=by rfl) (fQ:(backTo pos (starEach es X.env)).any (·.1)=false:=by rfl):JE X R (.Call (.Name x p) (e::es) [] pos) (CS T t):=
 .of (D0 C.ok (hr.mono hk) hg C.m C.kp C.b .nil hx ha sf he fQ) λσ H G L ρ M q x rl n h hx=>by refine ⟨G,L,ρ,M,_,x,rl,n,h,hx,λvs H1 ⟨ds,G1,L1,M1,e1,r1,n1,h1⟩=> ?_⟩;show eh X.K T (vs++[]) H1 _ _;rw [aaW];exact ⟨G1,L1,ds,M1,q,_,r1,n1,h1,λv H' f=>Fin.back e1 f,λC fs M' G' L' H' od hq e' r' y=>hx σ ρ C fs M' G' L' H' od hq (e1.trans e') r' (n.mono (e1.trans e')) y⟩
end
structure Yl(K:fv)(J:It)(xs:List Dt)(G0:Hp)(L0:List Addr):Prop where
 go:∀(i:Nat) G L M H (d:Dt),cE G0 G->Pre L0 L->Rl K G L M H->xs[i]? =some d->J.go i H/\∀v H',J.Qp i H v H'->∃G',Ex G L H G' L H'/\Rl K G' L M H'/\Den K G' L d v
 stop:∀(i:Nat) G L M H,cE G0 G->Pre L0 L->Rl K G L M H->xs.length<=i->J.stop i H
inductive QJ(K:fv)(G0:Hp)(L0:List Addr)(H0:Hp)(q:List Dt->Ms->Prop)(J:It)(H:Hp):Prop
 | mk (xs:List Dt) (G:Hp) (L:List Addr) (M:Ms) (e:Ex G0 L0 H0 G L H) (r:Rl K G L M H) (y:Yl K J xs G L) (h:q xs M)
inductive Su(K:fv)(R:St->XK)(t:DA)(σ:St)(H:Hp)(Q:It->Hp->Prop):Prop
 | mk (G:Hp) (L:List Addr) (ρ:En) (M:Ms) (q:List Dt->Ms->Prop) (x:DX) (r:Rl K G L M H) (n:jX K G L ρ σ) (h:t ρ M q x) (hx:rA K G L H R x) (hQ:∀J H1,QJ K G L H q J H1->Q J H1)
def JI(X:Cx)(R:St->XK)(tg iter:Expr)(t:DA):Prop:=PI X tg iter (Su X.K R t)
theorem Dy.imp{X:Cx}{δ:List (Addr×Obj)}{σ:St}{tg:Expr}{R R':It->Hp->Prop}(hR:∀J H,R J H->R' J H){v:Value}{s:Shared}(h:Dy X δ σ tg R v s):Dy X δ σ tg R' v s:=by obtain ⟨it,fp,tn,J,H',a,b,c,d,e,f⟩:=h;exact ⟨it,fp,tn,J,H',a,b,c,d,e,hR J H' f⟩
theorem Af{K:fv}{G:Hp}{L:List Addr}{a:Addr}{ds:List Dt}{vs:List V}(h:∀G':Hp,cE G G'->fm K G' a vs)(n:Θ K G L ds vs):Yl K (QO K a) ds G L where
 go:=λi G1 L1 M1 H1 d g l r e=>by
  obtain ⟨v,e1,n1⟩:=n.get e;have hs:=h H1 (g.trans r.sub)
  exact ⟨⟨vs,v,hs,e1⟩,λv' H' ⟨eH,y⟩=>by
   subst eH;have e2:=y vs hs;rw [e1] at e2;cases e2
   exact ⟨G1, .refl _ _ _,r,Den.mono g l _ _ n1⟩⟩
 stop:=λi G1 L1 M1 H1 g l r e=>⟨vs,h H1 (g.trans r.sub),by rw [<-n.length];exact e⟩
theorem C0{K:fv}{G:Hp}{L:List Addr}{a:Addr}{ds:List Dt}{vs:List V}(h:∀G':Hp,cE G G'->ju K G' a vs)(n:Θ K G L ds vs):Yl K (RU K a) ds G L where
 go:=λi G1 L1 M1 H1 d g l r e=>by
  obtain ⟨v,e1,n1⟩:=n.get e;have hs:=h H1 (g.trans r.sub)
  exact ⟨⟨vs,v,hs,e1⟩,λv' H' ⟨eH,y⟩=>by
   subst eH;have e2:=y vs hs;rw [e1] at e2;cases e2
   exact ⟨G1, .refl _ _ _,r,Den.mono g l _ _ n1⟩⟩
 stop:=λi G1 L1 M1 H1 g l r e=>⟨vs,h H1 (g.trans r.sub),by rw [<-n.length];exact e⟩
def bL(lo:Int)(n:Nat):List Dt:=(List.range n).map λk:Nat=>Dt.int (lo+(k:Int))
theorem Mp{K:fv}{G:Hp}{L:List Addr}{lo:Int}{n:Nat}:Yl K (Q3 lo n) (bL lo n) G L where
 go :=λi G1 L1 M1 H1 d g l r e=>by
  unfold bL at e;rw [aaj] at e;have hi:i < n:=by
   cases q:(List.range n)[i]? with
   | none=>rw [q] at e;cases e
   | some j=>
    have:=(aad.mp q).1;rwa [aby] at this
  rw [aa0 hi] at e;cases e;exact ⟨hi,λv' H' ⟨eH,y⟩=>by subst eH y;exact ⟨G1, .refl _ _ _,r,rfl⟩⟩
 stop:=λi G1 L1 M1 H1 g l r e=>by show n<=i;unfold bL at e;simpa using e
section
variable{X:Cx}{R:St->XK}{tg iter:Expr}
theorem JI.of{wi:TI}{t:DA}(h:PI X tg iter wi)(hw:∀σ H G L ρ M q x,Rl X.K G L M H->jX X.K G L ρ σ->t ρ M q x->rA X.K G L H R x->wi σ H (QJ X.K G L H q)):JI X R tg iter t:=by intro δ s σ H Q I ⟨G,L,ρ,M,q,x,r,n,ht,hx,hQ⟩;exact bx (h δ s σ H _ I (hw σ H G L ρ M q x r n ht hx)) λu s1 f=>bx f λu2 s2 f2=>Dy.imp hQ f2
def Ca(t:DA):DA:=λρ M q x=>t ρ M (λds M1=>match ds with
 | [.int j]=>(-(2 ^ 62)<=j/\j < 2 ^ 62)/\q (bL 0 j.toNat) M1
 | _=>False) x
theorem bN{a:Expr}{t:DA}{p pos:Pos}(hm:X.mg "range"=none)(ha:JA X R [a] t)(hg:Gl X "range":=by rfl)(hs:starEach [a] X.env=[(false,eval a X.env)]:=by rfl):JI X R tg (.Call (.Name "range" p) [a] [] pos) (Ca t):=
 .of (B4 hg hm ha hs) λσ H G L ρ M q x rl n h hx=>by
  refine ⟨G,L,ρ,M,_,x,rl,n,h,hx,λvs H1 ⟨ds,G1,L1,M1,e1,r1,n1,h1⟩=> ?_⟩
  (try dsimp only at h1)
  split at h1
  ·rename_i j;obtain ⟨v,rfl,n2⟩:=aM n1;have n2:v= .int j:=n2;subst n2;exact ⟨j,rfl,h1.1.1,h1.1.2,_,G1,L1,M1,e1,r1,Mp,h1.2⟩
  ·exact h1.elim
end
def GD(K:fv)(gg:TG)(g:Dt->En->(En->Prop)->Prop):Prop:=
 ∀G L M H d v ρ σ (k:En->Prop) (Q:St->Hp->Prop),Rl K G L M H->Den K G L d v->jX K G L ρ σ->g d ρ k->(∀ρ' σ',jX K G L ρ' σ'->k ρ'->Q σ' H)->gg v σ H Q
def gN(i:Nat):Dt->En->(En->Prop)->Prop:=λd ρ k=>k (ρ.set i (some d))
theorem aO{K:fv}{i:Nat}:GD K (ie i) (gN i):=λG L M H d v ρ σ k Q rl n en h hQ=>hQ _ _ (en.set i n) h
def g2(i j:Nat):Dt->En->(En->Prop)->Prop:=λd ρ k=>match d with
 | .tup [a,b]=>k ((ρ.set i (some a)).set j (some b))
 | _=>False
theorem D4{K:fv}{i j:Nat}:GD K (G6 K 2 (nu (ie i) (nu (ie j) Hj))) (g2 i j):=λG L M H d v ρ σ k Q rl n en h hQ=>by
 unfold g2 at h;split at h
 ·rename_i a b;obtain ⟨p,vs,rfl,e,n⟩:=n;obtain ⟨v1,v2,rfl,n1,n2⟩:=iC n;exact ⟨p,_,rfl, .inl (.inl (rl.sub _ _ e)),rfl,v1,_,rfl,v2,_,rfl,rfl,hQ _ _ ((en.set i n1).set j n2) h⟩
 ·exact h.elim
def lF(g:Dt->En->(En->Prop)->Prop)(tb:DS)(Dn:nN):List Dt->En->Ms->Prop
 | [],ρ,M=>Dn.nx ρ M
 | x::xs,ρ,M=>g x ρ λρ'=>tb {Dn with nx:=lF g tb Dn xs,ct:=lF g tb Dn xs,bk:=Dn.nx} ρ' M
def Oj(ti:DA)(g:Dt->En->(En->Prop)->Prop)(tb:DS):DS:=λDn ρ M=>ti ρ M (λxs M1=>lF g tb Dn xs ρ M1) Dn.x
section
variable{X:Cx}{R:St->XK}{tg iter:Expr}{body:List Stmt}{ti:DA}{gg:TG}{g:Dt->En->(En->Prop)->Prop}{tb:DS}{pos:Pos}
theorem ku(hi:JI X R tg iter ti)(hg:PG X tg gg)(gd:GD X.K gg g)(hb:Bh X R body tb)(hp:PassesOwn (model X.prog X.w) X.A X.env X.xe:=by first | exact PassesOwn.never | exact PassesOwn.leaving)(hc:X.calm=true:=by rfl)(hs:∀x,foldedSetIterable iter X.env x=pure x:=by intro _;rfl):
  JS X R (.For tg iter body [] pos) (Oj ti g tb):= .of (Eo hp hc hi hg hb hs) λσ H G L ρ M Dn rl n h hx=>by
 refine ⟨G,L,ρ,M,_,_,rl,n,h,hx,λJ H1 ⟨xs,G1,L1,M1,e1,r1,y,h1⟩=> ?_⟩;refine ⟨λi m σ' H'=>m+i=xs.length/\eE X.K G1 L1 H1 (λρ' M'=>lF g tb Dn (xs.drop i) ρ' M') σ' H',⟨xs.length,rfl,ρ,G1,L1,M1, .refl _ _ _,r1,n.mono e1,by rw [List.drop_zero];exact h1⟩, ?_⟩;rintro i m σ' H' ⟨hm,ρ',G',L',M',e',r',n',h'⟩;by_cases hi:i < xs.length
 ·right;have hd:xs[i]? =some xs[i]:=aaa hi;obtain ⟨go,yl⟩:=y.go i G' L' M' H' _ e'.g e'.l r' hd;rw [abk hi] at h';refine ⟨go,eE X.K G1 L1 H1 (λρ' M'=>lF g tb Dn (xs.drop (i+1)) ρ' M'),λσ2 H2 f=>⟨m - 1,by omega,by omega,f⟩,λv H2 hy=> ?_⟩;obtain ⟨G2,e2,r2,n2⟩:=yl v H2 hy;refine gd G2 L' M' H2 _ v ρ' σ' _ _ r2 n2 (n'.mono e2) h' λρ3 σ3 n3 h3=> ?_;refine ⟨G2,L',ρ3,M',_,r2,n3,h3,hx.on (e1.trans (e'.trans e2)),⟨λ_ _ f=>eE.back (e'.trans e2) f,λ_ _ f=>Fin.back (e1.trans (e'.trans e2)) f,λ_ _ f=>eE.back (e1.trans (e'.trans e2)) f,λ_ _ f=>eE.back (e'.trans e2) f⟩⟩
 ·left;refine ⟨y.stop i G' L' M' H' e'.g e'.l r' (by omega),ρ',G',L',M',e1.trans e',r',n', ?_⟩;rw [List.drop_eq_nil_of_le (by omega)] at h';exact h'
end
abbrev DK:=En->Ms->(List Dt->(Ms->Prop)->Ms->Prop)->DX->Prop
structure Jx(K:fv)(J:It)(xs:List Dt)(ok:Ms->Prop)(G0:Hp)(L0:List Addr):Prop where
 go:∀(i:Nat) G L M H (d:Dt),cE G0 G->Pre L0 L->Rl K G L M H->ok M->xs[i]? =some d->J.go i H/\∀v H',J.Qp i H v H'->∃G',Ex G L H G' L H'/\Rl K G' L M H'/\Den K G' L d v
 stop:∀(i:Nat) G L M H,cE G0 G->Pre L0 L->Rl K G L M H->ok M->xs.length<=i->J.stop i H
inductive RJ(K:fv)(G0:Hp)(L0:List Addr)(H0:Hp)(q:List Dt->(Ms->Prop)->Ms->Prop)(J:It)(H:Hp):Prop
 | mk (xs:List Dt) (ok:Ms->Prop) (G:Hp) (L:List Addr) (M:Ms) (e:Ex G0 L0 H0 G L H) (r:Rl K G L M H) (y:Jx K J xs ok G L) (h:q xs ok M)
inductive Sl(K:fv)(R:St->XK)(t:DK)(σ:St)(H:Hp)(Q:It->Hp->Prop):Prop
 | mk (G:Hp) (L:List Addr) (ρ:En) (M:Ms) (q:List Dt->(Ms->Prop)->Ms->Prop) (x:DX) (r:Rl K G L M H) (n:jX K G L ρ σ) (h:t ρ M q x) (hx:rA K G L H R x) (hQ:∀J H1,RJ K G L H q J H1->Q J H1)
def JK(X:Cx)(R:St->XK)(tg iter:Expr)(t:DK):Prop:=PI X tg iter (Sl X.K R t)
def VB(t:DA):DK:=λρ M q x=>t ρ M (λxs M1=>q xs (λ_=>True) M1) x
theorem DB{X:Cx}{R:St->XK}{tg iter:Expr}{t:DA}(h:JI X R tg iter t):JK X R tg iter (VB t):=by intro δ s σ H Q I ⟨G,L,ρ,M,q,x,r,n,ht,hx,hQ⟩;refine h δ s σ H Q I ⟨G,L,ρ,M,_,x,r,n,ht,hx,λJ H1 ⟨xs,G1,L1,M1,e1,r1,y,hq⟩=>hQ J H1 ⟨xs,_,G1,L1,M1,e1,r1,⟨λi G L M H d g l r _ e=>y.go i G L M H d g l r e,λi G L M H g l r _ e=>y.stop i G L M H g l r e⟩,hq⟩⟩
def lX(Λ:List Nat)(ρ:En):En:=Λ.map λi=>(ρ[i]?).join
def iY(g:Dt->En->(En->Prop)->Prop)(tc:DT)(te:DE)(ρ0:En)(ok:Ms->Prop):List Dt->List Dt->Ms->(List Dt->Ms->Prop)->Prop
 | [],af,M,k=>ok M/\k af M
 | x::xs,af,M,k=>ok M/\g x ρ0 λρ'=>tc ρ' M (λb M1=>match b with
  | true=>te ρ' M1 (λd M2=>iY g tc te ρ0 ok xs (af++[d]) M2 k) jw
  | false=>iY g tc te ρ0 ok xs af M1 k) jw
def Fx(n:Nat)(ti:DK)(g:Dt->En->(En->Prop)->Prop)(tc:DT)(te:DE)(Λ:List Nat):DE:=λρ M q x=>ti ρ M (λxs ok M1=>xs.length<=sizeLine/\iY g tc te (List.replicate n none++lX Λ ρ) ok xs [] M1 (λys M2=>q (.lst ys) M2)) x
theorem HW{K:fv}{G:Hp}{L:List Addr}{ρ:En}{σ os:St}{n:Nat}(h:jX K G L ρ σ)(Λ:List Nat)(hl:os.length=n):jX K G L (List.replicate n none++lX Λ ρ) (os++mT Λ σ):=by
 have lc:(lX Λ ρ).length=(mT Λ σ).length:=by unfold lX mT;simp
 refine ⟨by rw [aai,aai,aa1,hl,lc],λi d' e=> ?_⟩;by_cases hi:i < n
 ·rw [aaJ (by rw [aa1];exact hi),List.getElem?_replicate,aaF hi] at e;cases e
 ·rw [aaC (by rw [aa1];omega),aa1] at e;rw [aaC (by omega),hl];unfold lX at e;unfold mT;rw [aaj] at e⊢;cases q:Λ[i - n]? with
  | none=>rw [q] at e;cases e
  | some j=>
   rw [q] at e;have e:(ρ[j]?).join=some d':=aaG e;have e:ρ[j]? =some (some d'):=by
    cases z:ρ[j]? with
    | none=>rw [z] at e;cases e
    | some o=>rw [z] at e;exact aa2 some e
   obtain ⟨v,hv,dn⟩:=h.fg j d' e;exact ⟨v,by show some ((σ[j]?).join)=_;rw [hv];rfl,dn⟩
theorem lq{K:fv}{J:It}{gg:TG}{g:Dt->En->(En->Prop)->Prop}{tc:DT}{te:DE}{Λ:List Nat}{nn:Nat}{ρ:En}{σ:St}{G1:Hp}{L1:List Addr}{M1:Ms}{H1:Hp}{xs:List Dt}{ok:Ms->Prop}{Dl:Addr}{Q:VK}{k:List Dt->Ms->Prop}(gd:GD K gg g)(r1:Rl K G1 L1 M1 H1)(n:jX K G1 L1 ρ σ)(y:Jx K J xs ok G1 L1)(hD:H1 Dl=none)(hz:xs.length<=sizeLine)
  (h:iY g tc te (List.replicate nn none++lX Λ ρ) ok xs [] M1 k)
  (fin:∀G2 L2 M2 H2 ds vs,Ex G1 L1 H1 G2 L2 H2->Rl K G2 L2 M2 H2->G2 Dl=none->Dl∉L2->H2 Dl=some (.lst vs)->Θ K G2 L2 ds vs->k ds M2->Q (.ref Dl) H2):
  yx J nn gg (xB K (λ_=>E0) tc) (sg K (λ_=>E0) te) (mT Λ σ) Q H1 Dl:=by
 refine ⟨λi m ys H2=>m+i=xs.length/\H2 Dl=some (.lst ys)/\∃af G2 L2 M2,Ex G1 L1 H1 G2 L2 H2/\Rl K G2 L2 M2 H2/\G2 Dl=none/\Dl∉L2/\Θ K G2 L2 af ys/\af.length<=i/\iY g tc te (List.replicate nn none++lX Λ ρ) ok (xs.drop i) af M2 k,⟨xs.length,rfl,Τ,[],G1,L1,M1, ?_⟩, ?_⟩
 ·have gn:G1 Dl=none:=r1.sub.free hD;refine ⟨⟨.refl _, .refl _,λ_ h _=>h,λb u h1 _=>by rw [Ζ (λz=>by rw [z,hD] at h1;cases h1)];exact h1,λ_ h=> .inl h,λb h=>by rw [Ζ (λz=>h (by rw [z];exact hD))];exact h⟩,⟨λb u e=>by rw [Ζ (λz=>by rw [z,gn] at e;cases e)];exact r1.sub b u e,r1.len,r1.nd,λi a m h1 h2=> ?_⟩,gn,r1.PZ hD,rfl,aal _,by rw [List.drop_zero];exact h⟩;obtain ⟨q1,q2⟩:=r1.fg i a m h1 h2;exact ⟨q1,q2.mono (.refl _) (.refl _) (Ζ λz=>q2.there (by rw [z];exact hD))⟩
 ·rintro i m ys H2 ⟨hm,qM,af,G2,L2,M2,e2,r2,g2,l2,n2,la,h2⟩;refine ⟨qM, ?_⟩;have ne1:∀{b:Addr} {u:HO},H1 b=some u->b≠Dl:=λe z=>by rw [z,hD] at e;cases e
  by_cases hi:i < xs.length
  ·right;have hd:xs[i]? =some xs[i]:=aaa hi;rw [abk hi] at h2;obtain ⟨aB,h2⟩:=h2;obtain ⟨go,yl⟩:=y.go i G2 L2 M2 H2 _ e2.g e2.l r2 aB hd;refine ⟨go,λv H3 hy os M8=> ?_⟩;obtain ⟨G3,e3,r3,n3⟩:=yl v H3 hy;have h3:H3 Dl=some (.lst ys):=e3.out _ _ qM l2;have g3:G3 Dl=none:=e3.fr _ g2 (by rw [qM];simp);refine gd G3 L2 M2 H3 _ v _ _ _ _ r3 n3 (HW ((n.mono e2).mono e3) Λ M8) h2 λρ' σ' n' h'=> ?_;refine ⟨G3,L2,ρ',M2,_,jw,r3,n',h',C7,λb H4 ⟨G4,L4,M4,e4,r4,h4⟩=> ?_⟩;have QN:H4 Dl=some (.lst ys):=e4.out _ _ h3 l2;have g4:G4 Dl=none:=e4.fr _ g3 (by rw [h3];simp);have l4:Dl∉L4:=λz=>(e4.new _ z).elim l2 λq=>by rw [h3] at q;cases q
   have Rv:=e3.trans e4;cases b with
   | false=>
    exact ⟨m - 1,by omega,by omega,QN,af,G4,L4,M4,e2.trans Rv,r4,g4,l4,Θ.mono Rv.g Rv.l _ _ n2,by omega,h4⟩
   | true=>
    refine ⟨G4,L4,ρ',M4,_,jw,r4,n'.mono e4,h4,C7,λv5 H5 ⟨d5,G5,L5,M5,e5,r5,n5,h5⟩=> ?_⟩;have X9:H5 Dl=some (.lst ys):=e5.out _ _ QN l4;have g5:G5 Dl=none:=e5.fr _ g4 (by rw [QN];simp);have l5:Dl∉L5:=λz=>(e5.new _ z).elim l4 λq=>by rw [QN] at q;cases q
    have T2:=Rv.trans e5;have VM:ys.length=af.length:=by rw [<-n2.length]
    refine ⟨X9,by omega,m - 1,by omega,by omega,Τ,af++[d5],G5,L5,M5, ?_, ?_,g5,l5,(Θ.mono T2.g T2.l _ _ n2).app ⟨_,_,rfl,n5,rfl⟩,by rw [aai];show af.length+1<=i+1;omega,h5⟩
    ·have Nz:=e2.trans T2
     exact ⟨Nz.g,Nz.l,Nz.fr,λb u h1 h2=>by rw [Ζ (ne1 h1)];exact Nz.out b u h1 h2,Nz.new,λb h=>by
      by_cases hb:b=Dl
      ·rw [hb,Τ];simp
      ·rw [Ζ hb];exact Nz.CN b h⟩
    ·refine ⟨λb u e=>by rw [Ζ (λz=>by rw [z,g5] at e;cases e)];exact r5.sub b u e,r5.len,r5.nd,λi a m h1 h2=> ?_⟩;obtain ⟨q1,q2⟩:=r5.fg i a m h1 h2;exact ⟨q1,q2.mono (.refl _) (.refl _) (Ζ λz=>l5 (by rw [<-z];exact aaD h1))⟩
  ·left;rw [List.drop_eq_nil_of_le (by omega)] at h2;exact ⟨y.stop i G2 L2 M2 H2 e2.g e2.l r2 h2.1 (by omega),fin G2 L2 M2 H2 af ys e2 r2 g2 l2 qM n2 h2.2⟩
section
variable{K:fv}{G1:Hp}{L1:List Addr}{H1 G:Hp}{L:List Addr}{M:Ms}{H:Hp}{p:Addr}{ds:List Dt}{vs:List V}{q:DQ}
theorem vv(e:Ex G1 L1 H1 G L H)(r:Rl K G L M H)(Hu:H1 p=none)(hg:G p=none)(hl:p∉L)(h:H p=some (.lst vs))(n:Θ K G L ds vs)(k:q (.lst ds) M):Fin K G1 L1 H1 q (.ref p) H:=by
 have g1:cE G (upd G p (.lst vs)):=λb u e=>by rw [Ζ (λz=>by rw [z,hg] at e;cases e)];exact e
 refine ⟨.lst ds,upd G p (.lst vs),L,M,⟨e.g.trans g1,e.l,λb h1 h2=> ?_,e.out,e.new,e.CN⟩,⟨λb u e=> ?_,r.len,r.nd,λk a m h1 h2=> ?_⟩,⟨p,vs,rfl,Τ,Θ.mono g1 (.refl _) _ _ n⟩,k⟩
 ·rw [Ζ (λz=>h2 (by rw [z];exact Hu))];exact e.fr b h1 h2
 ·by_cases hb:b=p
  ·rw [hb,Τ] at e;rw [hb];cases e;exact h
  ·rw [Ζ hb] at e;exact r.sub b u e
 ·obtain ⟨q1,q2⟩:=r.fg k a m h1 h2;have hb:a≠p:=λz=>hl (by rw [<-z];exact aaD h1);exact ⟨by rw [Ζ hb];exact q1,q2.mono g1 (.refl _) rfl⟩
theorem I0(e:Ex G1 L1 H1 G L H)(r:Rl K G L M H)(Hu:H1 p=none)(hg:G p=none)(hl:p∉L)(h:H p=some (.lst vs))(n:Θ K G L ds vs)(k:q (.loc M.length) (M++[.lst ds])):Fin K G1 L1 H1 q (.ref p) H:=by
 refine ⟨.loc M.length,G,L++[p],M++[.lst ds],⟨e.g,e.l.trans ⟨[p],rfl⟩,e.fr,e.out,λb hb=> ?_,e.CN⟩,⟨r.sub,by rw [List.length_append,List.length_append,r.len];rfl,List.nodup_append.mpr ⟨r.nd,by simp,λa ha b hb=> ?_⟩,λk a m h1 h2=> ?_⟩,⟨p,rfl,by rw [<-r.len,List.getElem?_append_right (Nat.le_refl _)];simp⟩,k⟩
 ·rcases aaL.mp hb with z | z
  ·exact e.new b z
  ·have e:b=p:=by simpa using z
   right;rw [e];exact Hu
 ·have e:b=p:=by simpa using hb
  rw [e];exact λz=>hl (z▸ha)
 ·by_cases hk:k < L.length
  ·rw [aaJ hk] at h1;rw [aaJ (by rw [<-r.len];exact hk)] at h2;obtain ⟨q1,q2⟩:=r.fg k a m h1 h2;exact ⟨q1,q2.mono (.refl _) ⟨[p],rfl⟩ rfl⟩
  ·have e:k=L.length:=by have:=(aad.mp h1).1;rw [aai] at this;simp at this;omega
   rw [e,aaC (aal _)] at h1;rw [e,r.len,aaC (aal _)] at h2;simp at h1 h2;subst h1 h2;exact ⟨hg,vs,h,Θ.mono (.refl _) ⟨[p],rfl⟩ _ _ n⟩
def QK(b:Bool)(q:DQ)(ys:List Dt)(M:Ms):Prop:=match b with
 | false=>q (.lst ys) M
 | true=>q (.loc M.length) (M++[.lst ys])
theorem An{b:Bool}(e:Ex G1 L1 H1 G L H)(r:Rl K G L M H)(Hu:H1 p=none)(hg:G p=none)(hl:p∉L)(h:H p=some (.lst vs))(n:Θ K G L ds vs)(k:QK b q ds M):Fin K G1 L1 H1 q (.ref p) H:=by
 cases b
 ·exact vv e r Hu hg hl h n k
 ·exact I0 e r Hu hg hl h n k
end
theorem cj{n i:Nat}(h:i < n):xY n (ie i):=λv os cs H Q hl hq=>⟨⟨os.set i (some v),by rw [abI];exact hl,List.set_append_left _ _ (by omega)⟩,hq⟩
section
variable{X:Cx}{elt iter tg:Expr}{xs:List Str}{scope:Scope}{pos:Pos}{ys:List Str}{Λ:List Nat}
theorem dP{i:Nat}{x:Str}{px:Pos}(S:ah X scope xs ys Λ)(h:xs[i]? =some x)(C:Addr)(s:Shared)(H:Hp)(fp:List Addr):PG (Cx.comp X (xs++ys) scope C s H fp) (.Name x px) (ie i):=by
 have hm:x∈xs:=aaD h;have hi:(xs++ys)[i]? =some x:=by rw [aaJ (aad.mp h).1];exact h
 exact aw S.nd hi (.inl (lookup_relabel_local (S.own x hm))) (.inr (lookup_relabel_local (S.own x hm)))
end
def rg:DT:=λ_ M q _=>q true M
def SX(X:Cx)(cs:List Expr)(t:DT):Prop:=Q5 X cs (xB X.K (λ_=>E0) t)
theorem gS{X:Cx}:SX X [] rg:=⟨.inl rfl,λδ s σ H Q I ⟨G,L,ρ,M,q,x,r,n,h,hx,hQ⟩=>aae ⟨H,I,hQ true H ⟨G,L,M, .refl _ _ _,r,h⟩⟩⟩
theorem Hk{X:Cx}{c:Expr}{t:DT}(h:JT X (λ_=>E0) c t):SX X [c] t:=⟨.inr ⟨c,rfl⟩,h⟩
def JM(b:Bool)(g:Dt->En->(En->Prop)->Prop)(tc:DT)(te:DE)(cs:En)(q:DQ):List Dt->(Ms->Prop)->Ms->Prop:=λzs ok M1=>zs.length<=sizeLine/\iY g tc te cs ok zs [] M1 (QK b q)
section
variable{X:Cx}{R:St->XK}{elt iter tg:Expr}{cs:List Expr}{xs:List Str}{scope:Scope}{pos:Pos}{gg:TG}{g:Dt->En->(En->Prop)->Prop}{ti:DK}{tc:DT}{te:DE}{ys:List Str}{Λ:List Nat}(b:Bool)(S:ah X scope xs ys Λ)(hi:JK X R tg iter ti)(hg:∀C s H fp,PG (Cx.comp X (xs++ys) scope C s H fp) tg gg)(gd:GD X.K gg g)(hk:xY xs.length gg)(ht:∀C s H fp,SX (Cx.comp X (xs++ys) scope C s H fp) cs tc)(he:∀C s H fp,JE (Cx.comp X (xs++ys) scope C s H fp) (λ_=>E0) elt te)(hc:X.calm=true)(hs:∀x,foldedSetIterable iter X.env x=pure x)
include S hi hg gd hk ht he hc hs
theorem Tz{t:DE}(e:∀ρ M q x,t ρ M q x->ti ρ M (JM b g tc te (List.replicate xs.length none++lX Λ ρ) q) x):JE X R (.ListComp elt [⟨tg,iter,cs,0⟩] scope pos) t:=
 .of (xS (tc:=xB X.K (λ_=>E0) tc) (te:=sg X.K (λ_=>E0) te) S hc hi hg hk ht he hs) λσ H G L ρ M q x rl n h hx=>⟨G,L,ρ,M,_,x,rl,n,e _ _ _ _ h,hx,λJ H1 ⟨xs,ok,G1,L1,M1,e1,r1,y,hz,h1⟩ D hD=>lq gd r1 (n.mono e1) y hD hz h1 λG2 L2 M2 H2 ds vs e2 r2 g2 l2 h2 n2 k=>Fin.back e1 (An e2 r2 hD g2 l2 h2 n2 k)⟩
theorem S6{i:Nat}{y:Str}{py i5:Pos}(hN:X.N.Nodup)(DP:X.N[i]? =some y)(hy:Loc X.env.scope y)(E8:swapsWith (.ListComp elt [⟨tg,iter,cs,0⟩] scope pos) (some (.Name y py)) i5.line X.env=pure true)(hf:X.fn y=true\/X.env.scope.names.lookup y=some .local){t:DE}(e:∀ρ M q x,t ρ M q x->ti ρ M (JM b g tc te (List.replicate xs.length none++lX Λ ρ) q) x):
  JS X R (.Assign [.Name y py] (.ListComp elt [⟨tg,iter,cs,0⟩] scope pos) i5) (y6 i t):= .of (nE (tc:=xB X.K (λ_=>E0) tc) (te:=sg X.K (λ_=>E0) te) hN DP hy S hc hi hg hk ht he E8 hs hf) λσ H G L ρ M Dn rl n h hx=>by
 refine ⟨G,L,ρ,M,_,_,rl,n,e _ _ _ _ h,hx,λJ H1 ⟨xs,ok,G1,L1,M1,e1,r1,y,hz,h1⟩ D hD=>lq gd r1 (n.mono e1) y hD hz h1 λG2 L2 M2 H2 ds vs e2 r2 g2 l2 h2 n2 k=> ?_⟩;obtain ⟨d,G3,L3,M3,e3,r3,n3,h3⟩:=An (q:=λd M=>Dn.nx (ρ.set i (some d)) M) e2 r2 hD g2 l2 h2 n2 k;exact ⟨_,G3,L3,M3,e1.trans e3,r3,((n.mono e1).mono e3).set i n3,h3⟩
end
def jG(te:DE)(cs:En):List Dt->List Dt->Ms->(List Dt->Ms->Prop)->Prop
 | [],af,M,k=>k af M
 | x::xs,af,M,k=>te (some x::cs) M (λd M1=>jG te cs xs (af++[d]) M1 k) jw
def qd(ti:DA)(te:DE)(Λ:List Nat):DE:=λρ M q x=>ti ρ M (λxs M1=>xs.length<=sizeLine/\jG te (lX Λ ρ) xs [] M1 (λys M2=>q (.lst ys) M2)) x
theorem vh{te:DE}{cs:En}:∀xs,jG te cs xs=iY (gN 0) rg te (none::cs) (λ_=>True) xs
 | []=>funext λaf=>funext λM=>funext λk=>(true_and _).symm
 | x::xs=>funext λaf=>funext λM=>funext λk=>by show te (some x::cs) M (λd M1=>jG te cs xs (af++[d]) M1 k) jw=(True/\te (some x::cs) M (λd M1=>iY (gN 0) rg te (none::cs) (λ_=>True) xs (af++[d]) M1 k) jw);rw [vh xs,true_and]
section
variable{X:Cx}{R:St->XK}{elt iter:Expr}{x:Str}{px:Pos}{scope:Scope}{pos:Pos}{ti:DA}{te:DE}{ys:List Str}{Λ:List Nat}
theorem tY(S:ah X scope [x] ys Λ)(hi:JI X R (.Name x px) iter ti)(he:∀C s H fp,JE (Cx.comp X (x::ys) scope C s H fp) (λ_=>E0) elt te)(hc:X.calm=true:=by rfl)(hs:∀x,foldedSetIterable iter X.env x=pure x:=by intro _;rfl):JE X R (.ListComp elt [⟨.Name x px,iter,[],0⟩] scope pos) (qd ti te Λ):=Tz false S (DB hi) (dP S (i:=0) rfl) aO (cj (Nat.zero_lt_succ 0)) (λ_ _ _ _=>gS) he hc hs λρ M q x h=>by unfold qd at h;simp only [vh] at h;exact h
theorem yq{i:Nat}{y:Str}{py i5:Pos}(hN:X.N.Nodup)(DP:X.N[i]? =some y)(hy:Loc X.env.scope y)(S:ah X scope [x] ys Λ)(hi:JI X R (.Name x px) iter ti)(he:∀C s H fp,JE (Cx.comp X (x::ys) scope C s H fp) (λ_=>E0) elt te)(hc:X.calm=true:=by rfl)(E8:swapsWith (.ListComp elt [⟨.Name x px,iter,[],0⟩] scope pos) (some (.Name y py)) i5.line X.env=pure true:=by rfl)(hs:∀x,foldedSetIterable iter X.env x=pure x:=by intro _;rfl)(hf:X.fn y=true\/X.env.scope.names.lookup y=some .local:=by first | exact .inl rfl | exact .inr rfl | assumption):JS X R (.Assign [.Name y py] (.ListComp elt [⟨.Name x px,iter,[],0⟩] scope pos) i5) (y6 i (qd ti te Λ)):=S6 false S (DB hi) (dP S (i:=0) rfl) aO (cj (Nat.zero_lt_succ 0)) (λ_ _ _ _=>gS) he hc hs hN DP hy E8 hf λρ M q x h=>by unfold qd at h;simp only [vh] at h;exact h
end
theorem fin_same{K:fv}{G0:Hp}{L0:List Addr}{H0 G:Hp}{L:List Addr}{M:Ms}{H:Hp}{d:Dt}{v:V}{q:DQ}(e:Ex G0 L0 H0 G L H)(r:Rl K G L M H)(n:Den K G L d v)(h:q d M):Fin K G0 L0 H0 q v H:=⟨d,G,L,M,e,r,n,h⟩
theorem cn{K:fv}{G0:Hp}{L0:List Addr}{H0 G:Hp}{L:List Addr}{M:Ms}{H:Hp}{d:Dt}{v:V}{q:DQ}(e:Ex G0 L0 H0 G L H)(r:Rl K G L M H)(h:q d M)(n:Den K G L d v:=by rfl):Fin K G0 L0 H0 q v H:=⟨d,G,L,M,e,r,n,h⟩
def wc:Dt->Dt->Ms->DQ->Prop
 | .int i, .int j,M,q=>q (.int (i+j)) M
 | .str a, .str b,M,q=>a.length+b.length<=sizeLine/\q (.str (a++b)) M
 | .lst a, .lst b,M,q=>a.length+b.length<=sizeLine/\q (.lst (a++b)) M
 | .tup a, .tup b,M,q=>(a≠[]/\a.length+b.length<=sizeLine)/\q (.tup (a++b)) M
 | _,_,_,_=>False
def IE:Dt->Dt->Ms->DQ->Prop
 | .int i, .int j,M,q=>q (.int (i - j)) M
 | _,_,_,_=>False
def LP:Dt->Dt->Ms->DQ->Prop
 | .int i, .int j,M,q=>(gU i/\gU j)/\q (.int (i * j)) M
 | .lst a, .int k,M,q=>(-(2 ^ 63)<=k/\k < 2 ^ 63/\a.length * k.toNat<=sizeLine)/\q (.lst (List.replicate k.toNat a).flatten) M
 | _,_,_,_=>False
def Mt:Dt->Dt->Ms->DQ->Prop
 | .int i, .int j,M,q=>(0 < j/\gU j)/\q (.int (i / j)) M
 | _,_,_,_=>False
def Ee:Dt->Dt->Ms->DQ->Prop
 | .int i, .int j,M,q=>(j≠0/\gU j)/\q (.int (i.fdiv j)) M
 | _,_,_,_=>False
def K3:Dt->Dt->Ms->DQ->Prop
 | .int i, .int j,M,q=>0 < j/\q (.int (i % j)) M
 | _,_,_,_=>False
def Mj:Dt->Dt->Ms->DQ->Prop
 | .int i, .int j,M,q=>pR i j/\q (.int (i ^ j.toNat)) M
 | _,_,_,_=>False
def Bu:Dt->Ms->DQ->Prop
 | .int i,M,q=>q (.int (-i)) M
 | _,_,_=>False
section
variable{K:fv}
theorem SF:rn K (λx y H Q=>(∃i j,x=V.int i/\y= .int j/\Q (.int (i+j)) H)\/(∃i j,x=V.str i/\y= .str j/\i.length+j.length<=sizeLine/\Q (.str (i++j)) H)\/NU x y H Q\/JF K x y H Q) wc:=by
 intro G0 L0 H0 G L M H v1 v2 d1 d2 q e r n1 n2 h;unfold wc at h;split at h
 ·rename_i i j;exact .inl ⟨i,j,n1,n2,cn e r h⟩
 ·rename_i a b;exact .inr (.inl ⟨a,b,n1,n2,h.1,cn e r h.2⟩)
 ·rename_i a b;obtain ⟨p1,w1,rfl,e1,m1⟩:=n1;obtain ⟨p2,w2,rfl,e2,m2⟩:=n2;refine .inr (.inr (.inl ⟨p1,p2,w1,w2,rfl,rfl,r.sub _ _ e1,r.sub _ _ e2,by rw [<-m1.length,<-m2.length];exact h.1,λp hp=> ?_⟩));exact gQ e r hp (vK r hp (m1.app m2)) h.2
 ·rename_i a b;obtain ⟨p1,w1,rfl,e1,m1⟩:=n1;obtain ⟨p2,w2,rfl,e2,m2⟩:=n2;have ne:w1≠[]:=λz=>h.1.1 (by have:=m1.length;rw [z] at this;exact List.eq_nil_of_length_eq_zero this);refine .inr (.inr (.inr ⟨p1,p2,w1,w2,rfl,rfl, .inl (.inl (r.sub _ _ e1)), .inl (.inl (r.sub _ _ e2)),ne,by rw [<-m1.length,<-m2.length];exact h.1.2,λz=> ?_,λ_ p hp=> ?_⟩))
  ·have hb:b=[]:=by have:=m2.length;rw [z] at this;exact List.eq_nil_of_length_eq_zero this
   subst hb;rw [aaW] at h;exact fin_same (d:= .tup a) e r ⟨p1,w1,rfl,e1,m1⟩ h.2
  ·exact gQ e r hp (lJ r hp (m1.app m2)) h.2
 ·exact h.elim
theorem UC:rn K (By λi j=> .int (i - j)) IE:=by
 intro G0 L0 H0 G L M H v1 v2 d1 d2 q e r n1 n2 h;unfold IE at h;split at h
 ·exact ⟨_,_,n1,n2,cn e r h⟩
 ·exact h.elim
theorem TY:rn K (λx y H Q=>(rI (λi j=>gU i/\gU j) λi j=> .int (i * j)) x y H Q\/Pf x y H Q) LP:=by
 intro G0 L0 H0 G L M H v1 v2 d1 d2 q e r n1 n2 h;unfold LP at h;split at h
 ·exact .inl ⟨_,_,n1,n2,h.1,cn e r h.2⟩
 ·rename_i a k;obtain ⟨p1,w1,rfl,e1,m1⟩:=n1;refine .inr ⟨p1,k,w1,rfl,n2,r.sub _ _ e1,h.1.1,h.1.2.1,by rw [<-m1.length];exact h.1.2.2,λp hp=> ?_⟩;exact gQ e r hp (vK r hp (.of (AR m1.pair k.toNat))) h.2
 ·exact h.elim
theorem RS:rn K (rI (λ_ j=>j≠0/\gU j) λi j=> .int (i.fdiv j)) Mt:=by
 intro G0 L0 H0 G L M H v1 v2 d1 d2 q e r n1 n2 h;unfold Mt at h;split at h
 ·rename_i i j;have h0:=h.1.1;refine ⟨_,_,n1,n2,⟨by omega,h.1.2⟩,fin_same (d:= .int (i.fdiv j)) e r rfl ?_⟩;rw [abN i (aaX h0)];exact h.2
 ·exact h.elim
theorem P1:rn K (rI (λ_ j=>j≠0/\gU j) λi j=> .int (i.fdiv j)) Ee:=by
 intro G0 L0 H0 G L M H v1 v2 d1 d2 q e r n1 n2 h;unfold Ee at h;split at h
 ·exact ⟨_,_,n1,n2,h.1,cn e r h.2⟩
 ·exact h.elim
theorem RK:rn K (rI (λ_ j=>0 < j) λi j=> .int (i % j)) K3:=by
 intro G0 L0 H0 G L M H v1 v2 d1 d2 q e r n1 n2 h;unfold K3 at h;split at h
 ·exact ⟨_,_,n1,n2,h.1,cn e r h.2⟩
 ·exact h.elim
theorem RY:rn K (rI pR λi j=> .int (i ^ j.toNat)) Mj:=by
 intro G0 L0 H0 G L M H v1 v2 d1 d2 q e r n1 n2 h;unfold Mj at h;split at h
 ·exact ⟨_,_,n1,n2,h.1,cn e r h.2⟩
 ·exact h.elim
theorem Uo:Ub K (rU λi=> .int (-i)) Bu:=by
 intro G0 L0 H0 G L M H v1 d1 q e r n1 h;unfold Bu at h;split at h
 ·exact ⟨_,n1,cn e r h⟩
 ·exact h.elim
end
section
variable{X:Cx}{R:St->XK}{a b c:Expr}{ta tb:DE}{pos:Pos}
theorem aK(ja:JE X R a ta)(jb:JE X R b tb):JE X R (.BinOp a .Add b pos) (kP wc ta tb):=zz (Mc.or (y4.or (MF.or Hr))) SF ja jb
theorem p9(ja:JE X R a ta)(jb:JE X R b tb):JE X R (.BinOp a .Sub b pos) (kP IE ta tb):=zz KS UC ja jb
theorem bF(ja:JE X R a ta)(jb:JE X R b tb):JE X R (.BinOp a .Mult b pos) (kP LP ta tb):=zz (Il.or Kq) TY ja jb
theorem dj(ja:JE X R a ta)(jb:JE X R b tb):JE X R (.BinOp a .FloorDiv b pos) (kP Mt ta tb):=zz xx RS ja jb
theorem FO(ja:JE X R a ta)(jb:JE X R b tb):JE X R (.BinOp a .FloorDiv b pos) (kP Ee ta tb):=zz xx P1 ja jb
theorem bf(ja:JE X R a ta)(jb:JE X R b tb):JE X R (.BinOp a .Mod b pos) (kP K3 ta tb):=zz Me RK ja jb
theorem gD(ja:JE X R a ta)(jb:JE X R b tb):JE X R (.BinOp a .Pow b pos) (kP Mj ta tb):=zz Kl RY ja jb
theorem sD(ja:JE X R a ta):JE X R (.UnaryOp .USub a pos) (P8 Bu ta):=R9 Li Uo ja
end
def QL:Dt->Dt->Ms->DQ->Prop
 | .int i, .int j,M,q=>q (.bl (decide (i < j))) M
 | _,_,_,_=>False
def Ue:Dt->Dt->Ms->DQ->Prop
 | .int i, .int j,M,q=>q (.bl (decide (i<=j))) M
 | _,_,_,_=>False
def Sa:Dt->Dt->Ms->DQ->Prop
 | .int i, .int j,M,q=>q (.bl (decide (j < i))) M
 | _,_,_,_=>False
def TQ:Dt->Dt->Ms->DQ->Prop
 | .int i, .int j,M,q=>q (.bl (decide (j<=i))) M
 | _,_,_,_=>False
def wW:Dt->Option V
 | .bV=>some .bV
 | .bl b=>some (.bl b)
 | .int i=>some (.int i)
 | .str x=>some (.str x)
 | _=>none
def i4:List Dt->Option (List V)
 | []=>some []
 | d::ds=>match wW d,i4 ds with
  | some v,some vs=>some (v::vs)
  | _,_=>none
section
variable{K:fv}{G:Hp}{L:List Addr}
theorem k8{d:Dt}{v u:V}(h:wW d=some u)(n:Den K G L d v):v=u/\c8 u=true:=by cases d <;> first | (cases h;exact ⟨n,rfl⟩) | cases h
theorem eF:∀{ds:List Dt} {vs us:List V},i4 ds=some us->Θ K G L ds vs->vs=us/\us.all c8=true
 | [],vs,us,h,n=>by cases h;exact ⟨n,rfl⟩
 | d::ds,_,us,h,⟨v,r,e,n1,n2⟩=>by
  subst e;unfold i4 at h;split at h
  ·rename_i u1 u2 h1 h2;cases h;obtain ⟨a1,a2⟩:=k8 h1 n1;obtain ⟨b1,b2⟩:=eF h2 n2;subst a1 b1;exact ⟨rfl,by rw [abB,a2,b2];rfl⟩
  ·cases h
end
def IY:Dt->Dt->Ms->DQ->Prop
 | .int i, .int j,M,q=>q (.bl (decide (i=j))) M
 | .str i, .str j,M,q=>q (.bl (decide (i=j))) M
 | .bl i, .bl j,M,q=>q (.bl (decide (i=j))) M
 | .tup a, .tup b,M,q=>match i4 a,i4 b with
  | some us,some vs=>q (.bl (qH us vs)) M
  | _,_=>False
 | _,_,_,_=>False
def MD:Dt->Dt->Ms->DQ->Prop
 | .int i, .int j,M,q=>q (.bl (!decide (i=j))) M
 | .str i, .str j,M,q=>q (.bl (!decide (i=j))) M
 | .bl i, .bl j,M,q=>q (.bl (!decide (i=j))) M
 | .tup a, .tup b,M,q=>match i4 a,i4 b with
  | some us,some vs=>q (.bl (!qH us vs)) M
  | _,_=>False
 | _,_,_,_=>False
section
variable{K:fv}
theorem Vh:rn K (By λi j=> .bl (decide (i < j))) QL:=by
 intro G0 L0 H0 G L M H v1 v2 d1 d2 q e r n1 n2 h;unfold QL at h;split at h
 ·exact ⟨_,_,n1,n2,cn e r h⟩
 ·exact h.elim
theorem Yg:rn K (By λi j=> .bl (decide (i<=j))) Ue:=by
 intro G0 L0 H0 G L M H v1 v2 d1 d2 q e r n1 n2 h;unfold Ue at h;split at h
 ·exact ⟨_,_,n1,n2,cn e r h⟩
 ·exact h.elim
theorem YJ:rn K (By λi j=> .bl (decide (j < i))) Sa:=by
 intro G0 L0 H0 G L M H v1 v2 d1 d2 q e r n1 n2 h;unfold Sa at h;split at h
 ·exact ⟨_,_,n1,n2,cn e r h⟩
 ·exact h.elim
theorem Ye:rn K (By λi j=> .bl (decide (j<=i))) TQ:=by
 intro G0 L0 H0 G L M H v1 v2 d1 d2 q e r n1 n2 h;unfold TQ at h;split at h
 ·exact ⟨_,_,n1,n2,cn e r h⟩
 ·exact h.elim
theorem i8{p q:Prop} [Decidable p] [Decidable q](h:p↔q):decide p=decide q:=decide_eq_decide.mpr h
theorem Qn:rn K (λx y H Q=>VC x y H Q\/Qe K x y H Q) IY:=by
 intro G0 L0 H0 G L M H v1 v2 d1 d2 q e r n1 n2 h;unfold IY at h;split at h
 ·rename_i i j;cases n1;cases n2;exact .inl ⟨rfl,fin_same (d:= .bl _) e r (by show V.bl _=V.bl _;rw [i8 (p:=V.int i=V.int j) (q:=i=j) ⟨λz=>V.int.inj z,λz=>by rw [z]⟩]) h⟩
 ·rename_i i j;cases n1;cases n2;exact .inl ⟨rfl,fin_same (d:= .bl _) e r (by show V.bl _=V.bl _;rw [i8 (p:=V.str i=V.str j) (q:=i=j) ⟨λz=>V.str.inj z,λz=>by rw [z]⟩]) h⟩
 ·rename_i i j;cases n1;cases n2;exact .inl ⟨rfl,fin_same (d:= .bl _) e r (by show V.bl _=V.bl _;rw [i8 (p:=V.bl i=V.bl j) (q:=i=j) ⟨λz=>V.bl.inj z,λz=>by rw [z]⟩]) h⟩
 ·rename_i a b;obtain ⟨p1,w1,rfl,e1,m1⟩:=n1;obtain ⟨p2,w2,rfl,e2,m2⟩:=n2;split at h
  ·rename_i us vs h1 h2;obtain ⟨rfl,a2⟩:=eF h1 m1;obtain ⟨rfl,b2⟩:=eF h2 m2;exact .inr ⟨p1,p2,_,_,rfl,rfl, .inl (.inl (r.sub _ _ e1)), .inl (.inl (r.sub _ _ e2)),a2,b2,cn e r h⟩
  ·exact h.elim
 ·exact h.elim
theorem T3:rn K (λx y H Q=>Vf x y H Q\/Ox K x y H Q) MD:=by
 intro G0 L0 H0 G L M H v1 v2 d1 d2 q e r n1 n2 h;unfold MD at h;split at h
 ·rename_i i j;cases n1;cases n2;exact .inl ⟨rfl,fin_same (d:= .bl _) e r (by show V.bl _=V.bl _;rw [i8 (p:=V.int i=V.int j) (q:=i=j) ⟨λz=>V.int.inj z,λz=>by rw [z]⟩]) h⟩
 ·rename_i i j;cases n1;cases n2;exact .inl ⟨rfl,fin_same (d:= .bl _) e r (by show V.bl _=V.bl _;rw [i8 (p:=V.str i=V.str j) (q:=i=j) ⟨λz=>V.str.inj z,λz=>by rw [z]⟩]) h⟩
 ·rename_i i j;cases n1;cases n2;exact .inl ⟨rfl,fin_same (d:= .bl _) e r (by show V.bl _=V.bl _;rw [i8 (p:=V.bl i=V.bl j) (q:=i=j) ⟨λz=>V.bl.inj z,λz=>by rw [z]⟩]) h⟩
 ·rename_i a b;obtain ⟨p1,w1,rfl,e1,m1⟩:=n1;obtain ⟨p2,w2,rfl,e2,m2⟩:=n2;split at h
  ·rename_i us vs h1 h2;obtain ⟨rfl,a2⟩:=eF h1 m1;obtain ⟨rfl,b2⟩:=eF h2 m2;exact .inr ⟨p1,p2,_,_,rfl,rfl, .inl (.inl (r.sub _ _ e1)), .inl (.inl (r.sub _ _ e2)),a2,b2,cn e r h⟩
  ·exact h.elim
 ·exact h.elim
end
section
variable{X:Cx}{R:St->XK}{a b c:Expr}{ta tb:DE}{pos:Pos}
theorem HA(ja:JE X R a ta)(jb:JE X R b tb):JE X R (.Compare a [.Lt] [b] pos) (kP QL ta tb):=xg JN Vh ja jb (iT _)
theorem yd(ja:JE X R a ta)(jb:JE X R b tb):JE X R (.Compare a [.LtE] [b] pos) (kP Ue ta tb):=xg OL Yg ja jb (iT _)
theorem TR(ja:JE X R a ta)(jb:JE X R b tb):JE X R (.Compare a [.GtE] [b] pos) (kP TQ ta tb):=xg Ol Ye ja jb (iT _)
theorem Pm{k:Nat}(hr:bt k X.A)(ja:JE X R a ta)(jb:JE X R b tb):JE X R (.Compare a [.Eq] [b] pos) (kP IY ta tb):=xg (Jp.or (FD hr.yY)) Qn ja jb (iT _)
theorem tI(ja:JE X R a ta)(jb:JE X R b tb):JT X R (.Compare a [.Lt] [b] pos) (qr (kP QL ta tb)):=kJ JN Vh ja jb (iT _)
theorem J9(ja:JE X R a ta)(jb:JE X R b tb):JT X R (.Compare a [.Gt] [b] pos) (qr (kP Sa ta tb)):=kJ PU YJ ja jb (iT _)
theorem da{k:Nat}(hr:bt k X.A)(ja:JE X R a ta)(jb:JE X R b tb):JT X R (.Compare a [.Eq] [b] pos) (qr (kP IY ta tb)):=kJ (Jp.or (FD hr.yY)) Qn ja jb (iT _)
theorem nB{k:Nat}(hr:bt k X.A)(ja:JE X R a ta)(jb:JE X R b tb):JT X R (.Compare a [.NotEq] [b] pos) (qr (kP MD ta tb)):=kJ (O_.or (Ld hr.yY)) T3 ja jb (iT _)
end
def gJ(M:Ms):Dt->Option (List Dt)
 | .lst xs=>some xs
 | .tup xs=>some xs
 | .dM ns=>some (ns.map .int)
 | .kt xs=>some xs
 | .loc k=>match M[k]? with
  | some (.lst xs)=>some xs
  | _=>none
 | _=>none
theorem oV{K:fv}{G:Hp}{L:List Addr}{M:Ms}{H:Hp}{d:Dt}{v:V}{xs:List Dt}(r:Rl K G L M H)(n:Den K G L d v)(h:gJ M d=some xs):∃a vs,v= .ref a/\(fm K H a vs\/ju K H a vs)/\Θ K G L xs vs:=by
 cases d with
 | lst ds=>cases h;obtain ⟨a,vs,rfl,e,m⟩:=n;exact ⟨a,vs,rfl, .inl (.of (r.sub _ _ e)),m⟩
 | tup ds=>cases h;obtain ⟨a,vs,rfl,e,m⟩:=n;exact ⟨a,vs,rfl, .inr (.of (r.sub _ _ e)),m⟩
 | kt ds=>cases h;obtain ⟨a,vs,rfl,e,m⟩:=n;exact ⟨a,vs,rfl, .inr (r.sub.NS e),m⟩
 | dM ns=>cases h;obtain ⟨a,rfl,e⟩:=n;exact ⟨a,_,rfl, .inl (r.sub.seq e),cQ⟩
 | loc k=>
  obtain ⟨a,rfl,e⟩:=n;have h:(match M[k]? with | some (.lst xs)=>some xs | _=>none)=some xs:=h;split at h
  ·rename_i ys hm;cases h;obtain ⟨_,vs,e1,m1⟩:=r.fg k a _ e hm;exact ⟨a,vs,rfl, .inl (.of e1),m1⟩
  ·cases h
 | _=>cases h
theorem HP{K:fv}{G:Hp}{L:List Addr}{ds:List Dt}{vs:List V}{i:Int}{d:Dt}(n:Θ K G L ds vs)(h:i9 ds i=some d):∃v,i9 vs i=some v/\Den K G L d v:=by
 unfold i9 at h⊢;rw [<-n.length];cases q:GJ ds.length i with
 | none=>rw [q] at h;cases h
 | some j=>
  rw [q] at h;obtain ⟨v,e,m⟩:=n.get h;exact ⟨v,e,m⟩
def cq:Dt->Dt->Ms->DQ->Prop
 | .str z, .int i,M,q=>z.length<=sizeLine/\match i9 z.cps.toList i with
  | some c=>q (.str ⟨#[c]⟩) M
  | none=>False
 | d, .int i,M,q=>match gJ M d with
  | some xs=>(match i9 xs i with
   | some y=>q y M
   | none=>False)
  | none=>False
 | _,_,_,_=>False
def iF:List Dt->Ms->DQ->Prop
 | [.str z],M,q=>z.length<=sizeLine/\q (.int z.length) M
 | [d],M,q=>match gJ M d with
  | some xs=>q (.int xs.length) M
  | none=>False
 | _,_,_=>False
section
variable{K:fv}
theorem ZR:rn K (U6 K) cq:=by
 intro G0 L0 H0 G L M H v1 v2 d1 d2 q e r n1 n2 h;unfold cq at h;split at h
 ·rename_i z i;split at h
  ·rename_i c hc;exact .inr (.inr ⟨z,i,c,n1,n2,h.1,hc,cn e r h.2⟩)
  ·exact h.2.elim
 ·rename_i d i _;split at h
  ·rename_i xs hx;split at h
   ·rename_i y hy;obtain ⟨a,vs,rfl,hs,m⟩:=oV r n1 hx;obtain ⟨v,e1,m1⟩:=HP m hy;rcases hs with hs | hs
    ·exact .inl ⟨a,vs,i,v,rfl,n2,hs,e1,fin_same e r m1 h⟩
    ·exact .inr (.inl ⟨a,vs,i,v,rfl,n2,hs,e1,fin_same e r m1 h⟩)
   ·exact h.elim
  ·exact h.elim
 ·exact h.elim
theorem Uk:GS K (λxs H Q=>(∃z,xs=[V.str z]/\z.length<=sizeLine/\Q (.int z.length) H)\/(∃p ys,xs=[V.ref p]/\(fm K H p ys\/ju K H p ys)/\Q (.int ys.length) H)) iF:=by
 intro G0 L0 H0 G L M H vs ds q e r n h;unfold iF at h;split at h
 ·rename_i z;obtain ⟨v,rfl,n1⟩:=aM n;cases n1;exact .inl ⟨z,rfl,h.1,cn e r h.2⟩
 ·rename_i d _;obtain ⟨v,rfl,n1⟩:=aM n;split at h
  ·rename_i xs hx;obtain ⟨a,ws,rfl,hs,m⟩:=oV r n1 hx;exact .inr ⟨a,ws,rfl,hs,fin_same (d:= .int xs.length) e r (by show V.int _=V.int _;rw [m.length]) h⟩
  ·exact h.elim
 ·exact h.elim
end
section
variable{X:Cx}{R:St->XK}{a b c:Expr}{ta tb:DE}{pos:Pos}
theorem Κ(ja:JE X R a ta)(jb:JE X R b tb)(hs:uw b:=by exact λ_ _=>rfl):JE X R (.Subscript a b pos) (kP cq ta tb):=Px KJ ZR ja jb hs
variable{x:Str}{p:Pos}{e:Expr}{es:List Expr}{t:DA}{id T:String}{r:List V->Hp->VK->Prop}{f:List Dt->Ms->DQ->Prop}
theorem jq(hc:cH X (.builtin id) r)(cd:GS X.K r f)(hm:X.mg x=none)(hv:bootBuiltins x=some (.builtin id))(ha:JA X R (e::es) t)(hg:Gl X x:=by rfl)(hn:x≠"__name__":=by decide)(sf:(x==("__debug__":Str))=false:=by decide)
  (he:starEach (e::es) X.env=(false,eval e X.env)::starEach es X.env:=by rfl) (fQ:(backTo pos (starEach es X.env)).any (·.1)=false:=by rfl):JE X R (.Call (.Name x p) (e::es) [] pos) (ya f t):=
 .of (rh hc hg hm hv ha hn sf he fQ) λσ H G L ρ M q x r n h hx=>JJ cd r n h hx
theorem EM(hc:cH X (.type T) r)(cd:GS X.K r f)(hm:X.mg x=none)(hv:bootBuiltins x=some (.type T))(ha:JA X R (e::es) t)(hg:Gl X x:=by rfl)(hn:x≠"__name__":=by decide)(sf:(x==("__debug__":Str))=false:=by decide)
  (he:starEach (e::es) X.env=(false,eval e X.env)::starEach es X.env:=by rfl) (fQ:(backTo pos (starEach es X.env)).any (·.1)=false:=by rfl):JE X R (.Call (.Name x p) (e::es) [] pos) (ya f t):=
 .of (jh hc hg hm hv ha hn sf he fQ) λσ H G L ρ M q x r n h hx=>JJ cd r n h hx
theorem dU(hm:X.mg "len"=none)(ha:JA X R [e] t)(he:starEach [e] X.env=(false,eval e X.env)::starEach [] X.env:=by rfl)(fQ:(backTo pos (starEach [] X.env)).any (·.1)=false:=by rfl)(hg:Gl X "len":=by rfl):JE X R (.Call (.Name "len" p) [e] [] pos) (ya iF t):=
 jq (vN.or vy) Uk hm PySem.boot_len ha hg (by decide) (by decide) he fQ
end
def Kb:List Dt->Ms->DQ->Prop
 | [.int i],M,q=>q (.int (if i < 0 then -i else i)) M
 | _,_,_=>False
def Md:List Dt->Ms->DQ->Prop
 | [d],M,q=>∃bs:List Bool,gJ M d=some (bs.map Dt.bl)/\(∀k,d≠ .kt k)/\(∀k,d≠ .tup k)/\q (.bl (bs.any id)) M
 | _,_,_=>False
section
variable{K:fv}
theorem sL{G:Hp}{L:List Addr}:∀{l:List Str},Θ K G L (l.map Dt.str) (l.map V.str)
 | []=>rfl
 | _::_=>⟨_,_,rfl,rfl,sL⟩
theorem kS{G:Hp}{L:List Addr}:∀{bs:List Bool} {vs:List V},Θ K G L (bs.map Dt.bl) vs->vs=bs.map V.bl
 | [],_,h=>h
 | b::bs,_,⟨v,r,e,h1,h2⟩=>by subst e;rw [kS h2,show v=V.bl b from h1];rfl
theorem S2:GS K (λxs H Q=>∃i,xs=[V.int i]/\Q (.int (if i < 0 then -i else i)) H) Kb:=by
 intro G0 L0 H0 G L M H vs ds q e r n h;unfold Kb at h;split at h
 ·rename_i i;obtain ⟨v,rfl,n1⟩:=aM n;cases n1;exact ⟨i,rfl,cn e r h⟩
 ·exact h.elim
theorem TV:GS K (Pz K) Md:=by
 intro G0 L0 H0 G L M H vs ds q e r n h;unfold Md at h;split at h
 ·rename_i d;obtain ⟨bs,hs,nk,nt,h⟩:=h;obtain ⟨v,rfl,n1⟩:=aM n;cases d with
  | lst xs=>
   cases hs;obtain ⟨a,ws,rfl,e1,m⟩:=n1;exact ⟨a,bs,rfl,by rw [<-kS m];exact .of (r.sub _ _ e1),cn e r h⟩
  | loc k=>
   obtain ⟨a,rfl,e1⟩:=n1;have hs:(match M[k]? with | some (.lst xs)=>some xs | _=>none)=some (bs.map Dt.bl):=hs;split at hs
   ·rename_i ys hm;cases hs;obtain ⟨_,ws,e2,m⟩:=r.fg k a _ e1 hm;exact ⟨a,bs,rfl,by rw [<-kS m];exact .of e2,cn e r h⟩
   ·cases hs
  | tup xs=>exact aaI rfl (nt xs)
  | kt xs=>exact aaI rfl (nk xs)
  | dM ns=>
   have e0:ns.map Dt.int=bs.map Dt.bl:=aaG hs;cases ns with
   | nil=>
    cases bs with
    | nil=>obtain ⟨a,rfl,e1⟩:=n1;exact ⟨a,[],rfl,r.sub.seq e1,cn e r h⟩
    | cons _ _=>cases e0
   | cons _ _=>
    cases bs with
    | nil=>cases e0
    | cons _ _=>cases e0
  | _=>cases hs
 ·exact h.elim
end
section
variable{X:Cx}{R:St->XK}{o a e e1 e2:Expr}{es:List Expr}{to ta te:DE}{t:DA}{name:Str}{apos aA pos p p2:Pos}{T id:String}
theorem B8:bootBuiltins "abs"=some (.builtin "abs"):=by decide+kernel
theorem Ct:bootBuiltins "any"=some (.builtin "any"):=by decide+kernel
theorem ri:bootBuiltins "list"=some (.type "list"):=by decide+kernel
theorem qV{x:Str}{z:Int}(hm:∃tk,X.mg x=some (.int z tk))(hg:Gl X x:=by rfl)(hd:(x==("__debug__":Str))=false:=by decide):JE X R (.Name x p) (dC (.int z)):=let ⟨tk,hm⟩:=hm;NM (A5 (v:= .int z) hg hm ⟨tk,rfl⟩ hd) λ_ _=>rfl
end
def Rc(x:Str):It:=⟨λi _=>i < x.cps.size,λi H v H'=>H'=H/\∃c,x.cps[i]? =some c/\v= .str ⟨#[c]⟩,λi _=>x.cps.size<=i⟩
theorem B7{P:Program}{w:World}{K:fv}{tg:Expr}(x:Str)(t:Tok)(it:Addr):si P w K tg (Rc x) [it] it (λi h=>h.IsStrIter it "str_ascii_iterator" x t i) where
 mem:=by simp
 obj:=λi h st b hb=>by
  have e:b=it:=by simpa using hb
  subst e;obtain ⟨o,e,c,d⟩:=st;exact ⟨o,e,λv z=>by rw [d] at z;cases z⟩
 keep:=λi h h' st k=>let ⟨o,ho,r⟩:=st;⟨o,k it (by simp) o ho,r⟩
 item:=by intro X hP hw hK hc i δ s σ H E I hf st hg;subst hP hw hK;obtain ⟨f0,f1,f2,f3,f4,f5⟩:=hf it (by simp);have hg:i < x.cps.size:=hg;refine wpAny_pyNext_ascii_item st (c:=x.cps[i]) (by simp [hg]) λh' oJ sb=> ?_;have I1:Inv X δ σ H {s with heap:=h',toks:=s.toks+1}:=I.turned (λb o hb e=>(sb.2 b hb).trans e) f0 f1 f3 f4 f5;obtain ⟨o,e,c,d⟩:=id oJ;exact ⟨_,rfl,pG (s:={s with heap:=h',toks:=s.toks+1}) e c d (by decide) ⟨.str ⟨#[x.cps[i]]⟩,H,I1,⟨_,rfl⟩,⟨rfl,_,by simp [hg],rfl⟩,oJ,λb hb=>(hf b hb).1⟩⟩
 done:=by intro X hP hw hK hc i δ s σ H E I hf st hg;subst hP hw hK;obtain ⟨f0,f1,f2,f3,f4,f5⟩:=hf it (by simp);have hg:x.cps.size<=i:=hg;exact wpAny_pyNext_ascii_end (I.ok.hd hc) st (by simp;omega) λh' eb=>⟨rfl,I.turned (t':=s.toks) (λb o hb e=>eb b o hb e) f0 f1 f3 f4 f5⟩
 self:=λ_ _ _ _ _ st h=>wpAny_pyIter_striter_ascii st h
theorem BB{P:Program}{w:World}{K:fv}{tg:Expr}(x:Str)(t:Tok)(it:Addr):si P w K tg (Rc x) [it] it (λi h=>h.IsStrIter it "str_iterator" x t i) where
 mem:=by simp
 obj:=λi h st b hb=>by
  have e:b=it:=by simpa using hb
  subst e;obtain ⟨o,e,c,d⟩:=st;exact ⟨o,e,λv z=>by rw [d] at z;cases z⟩
 keep:=λi h h' st k=>let ⟨o,ho,r⟩:=st;⟨o,k it (by simp) o ho,r⟩
 item:=by intro X hP hw hK hc i δ s σ H E I hf st hg;subst hP hw hK;obtain ⟨f0,f1,f2,f3,f4,f5⟩:=hf it (by simp);have hg:i < x.cps.size:=hg;refine wpAny_pyNext_wide_item st (c:=x.cps[i]) (by simp [hg]) λh' oJ sb=> ?_;have I1:Inv X δ σ H {s with heap:=h',toks:=s.toks+1}:=I.turned (λb o hb e=>(sb.2 b hb).trans e) f0 f1 f3 f4 f5;obtain ⟨o,e,c,d⟩:=id oJ;exact ⟨_,rfl,pG (s:={s with heap:=h',toks:=s.toks+1}) e c d (by decide) ⟨.str ⟨#[x.cps[i]]⟩,H,I1,⟨_,rfl⟩,⟨rfl,_,by simp [hg],rfl⟩,oJ,λb hb=>(hf b hb).1⟩⟩
 done:=by intro X hP hw hK hc i δ s σ H E I hf st hg;subst hP hw hK;obtain ⟨f0,f1,f2,f3,f4,f5⟩:=hf it (by simp);have hg:x.cps.size<=i:=hg;exact wpAny_pyNext_wide_end (I.ok.hd hc) st (by simp;omega) λh' eb=>⟨rfl,I.turned (t':=s.toks) (λb o hb e=>eb b o hb e) f0 f1 f3 f4 f5⟩
 self:=λ_ _ _ _ _ st h=>wpAny_pyIter_striter_wide st h
def vw(z:Str):List Dt:=z.cps.toList.map λc=>Dt.str ⟨#[c]⟩
theorem MI{K:fv}{G:Hp}{L:List Addr}{z:Str}:Yl K (Rc z) (vw z) G L where
 go :=λi G1 L1 M1 H1 d g l r e=>by
  unfold vw at e;rw [aaj] at e;cases q:z.cps.toList[i]? with
  | none=>rw [q] at e;cases e
  | some c=>
   rw [q] at e;cases e;have hi:i < z.cps.size:=by have:=(aad.mp q).1;simpa using this
   refine ⟨hi,λv' H' ⟨eH,c',e',y⟩=> ?_⟩;subst eH y;have:c'=c:=by rw [<-abc,q] at e';exact (aaG e').symm
   subst this;exact ⟨G1, .refl _ _ _,r,rfl⟩
 stop:=λi G1 L1 M1 H1 g l r e=>by unfold vw at e;show z.cps.size<=i;simpa using e
def O3(M:Ms):Dt->Option (List Dt)
 | .lst xs=>some xs
 | .tup xs=>some xs
 | .dM ns=>some (ns.map .int)
 | .kt xs=>some xs
 | .str z=>some (vw z)
 | _=>none
section
variable{X:Cx}{R:St->XK}{tg e:Expr}{te:DE}
theorem va{δ:List (Addr×Obj)}{σ:St}{H:Hp}{s:Shared}{a:Addr}{vs:List V}{Q:It->Hp->Prop}{E:Value->Shared->Prop}(I:Inv X δ σ H s)(hq:fm X.K H a vs)(q:Q (QO X.K a) H):wpAny (model X.prog X.w) X.A (pyIter (.ref a)) (Dy X δ σ tg Q) E s:=by
 obtain ⟨its,rv,p,hz⟩:=I.list hq;refine wpAny_pyIter_list p.isList ?_;refine ⟨s.heap.objs.size,[s.heap.objs.size],_,_,H,rfl,I.kept (t':=s.toks) λb o e=>aah _ e,Ce a _,⟨_,aaw _ rfl,rfl,rfl⟩,λb hb=> ?_,q⟩;have e:b=s.heap.objs.size:=by simpa using hb
 subst e;exact I.yP (aal _) (I.aB.fresh (aal _))
theorem E4{δ:List (Addr×Obj)}{σ:St}{H:Hp}{s:Shared}{a:Addr}{vs:List V}{Q:It->Hp->Prop}{E:Value->Shared->Prop}(I:Inv X δ σ H s)(hq:ju X.K H a vs)(q:Q (RU X.K a) H):wpAny (model X.prog X.w) X.A (pyIter (.ref a)) (Dy X δ σ tg Q) E s:=by
 obtain ⟨its,rv,p,hz⟩:=I.tuple hq;refine wpAny_pyIter_tuple (show s.heap.IsTuple a its.toArray from p) ?_;refine ⟨s.heap.objs.size,[s.heap.objs.size],_,_,H,rfl,I.kept (t':=s.toks) λb o e=>aah _ e,yn a _,⟨_,aaw _ rfl,rfl,rfl⟩,λb hb=> ?_,q⟩;have e:b=s.heap.objs.size:=by simpa using hb
 subst e;exact I.yP (aal _) (I.aB.fresh (aal _))
theorem Ni{δ:List (Addr×Obj)}{σ:St}{H:Hp}{s:Shared}{z:Str}{t:Tok}{Q:It->Hp->Prop}{E:Value->Shared->Prop}(I:Inv X δ σ H s)(q:Q (Rc z) H):wpAny (model X.prog X.w) X.A (pyIter (.str z t)) (Dy X δ σ tg Q) E s:=by
 have fp:∀b∈[s.heap.objs.size],rT X δ H b:=λb hb=>by
  have e:b=s.heap.objs.size:=by simpa using hb
  subst e;exact I.yP (aal _) (I.aB.fresh (aal _))
 cases ha:z.cps.all (· < 128)
 ·exact wpAny_pyIter_wide ha ⟨s.heap.objs.size,[s.heap.objs.size],_,_,H,rfl,I.kept (t':=s.toks) λb o e=>aah _ e,BB z t _,⟨_,aaw _ rfl,rfl,rfl⟩,fp,q⟩
 ·exact wpAny_pyIter_ascii ha ⟨s.heap.objs.size,[s.heap.objs.size],_,_,H,rfl,I.kept (t':=s.toks) λb o e=>aah _ e,B7 z t _,⟨_,aaw _ rfl,rfl,rfl⟩,fp,q⟩
end
def Mh:DF:=λds _ q _=>∃ns:List Int,ds=[.dM ns]/\ns.length<=63/\∀M',q (.bl true) M'
def w8(K:fv):Sp:=λvs H Q _=>∃(a:Addr) (ns:List Int),vs=[.ref a]/\fm K H a (ns.map V.int)/\ns.length<=63/\∀H',Q (.bl true) H'
theorem Kv{P:Program}{w:World}{K:fv}{mg:Str->Option Value}{base:Heap}{k:Nat}{f:Addr}{fd:FuncData}{x:Str}(F:aC P w K mg base (dh P w) k f fd [x] (eh K Mh)):aC P w K mg base Rf k f fd [x] (w8 K):=by
 have sp:∀vs H Q E,w8 K vs H Q E->eh K Mh vs H Q E0:=by rintro vs H Q E ⟨a,ns,rfl,hS,hl,hQ⟩;refine ⟨H,[],[.dM ns],[],λd _=>d= .bl true,λ_ _ _=>False,⟨.refl _,rfl,List.nodup_nil,λk a m h=>by simp at h⟩,⟨_,_,rfl,⟨a,rfl,hS⟩,rfl⟩,⟨ns,rfl,hl,λ_=>rfl⟩,λv H' ⟨d,G',L',M',_,_,n,e⟩=> ?_,λ_ _ _ _ _ _ _ h=>h.elim⟩;subst e;rw [show v=V.bl true from n];exact hQ H'
 refine ⟨λvs H Q E h=>F.len vs H Q E0 (sp vs H Q E h),λA outer s H args us vs Q E hr he hb hv h=>codeAny_mono (F.run A outer s H args us vs Q E0 hr he hb hv (sp vs H Q E h)) λr s' hq=> ?_⟩;cases r with
 | error e=>
  obtain ⟨_,_,_,_,_,_,_,_,hE⟩:=hq;exact hE.elim
 | ok fl=>cases fl <;> exact hq
def Lz(c:DT)(tb:DS):DS:=λDn ρ M=>∃W:Nat->En->Ms->Prop,(∃m,W m ρ M)/\∀m ρ M,W m ρ M->
 c ρ M (λb M1=>(b=true->∃N:En->Ms->Prop,(∀ρ' M',N ρ' M'->∃m',m' < m/\W m' ρ' M')/\tb {Dn with nx:=N,ct:=N,bk:=Dn.nx} ρ M1)/\(b=false->Dn.nx ρ M1)) Dn.x
def Ux(i j:Nat)(t:DA):DS:=λDn ρ M=>t ρ M (λds M1=>match ds with
 | [a,b]=>Dn.nx ((ρ.set i (some a)).set j (some b)) M1
 | _=>False) Dn.x
section
variable{X:Cx}{R:St->XK}{c a b:Expr}{body:List Stmt}{tc:DT}{tb:DS}{pos:Pos}
theorem qZ(hc:JT X R c tc)(hb:Bh X R body tb)(hp:PassesOwn (model X.prog X.w) X.A X.env X.xe:=by first | exact PassesOwn.never | exact PassesOwn.leaving):JS X R (.While c body [] pos) (Lz tc tb):= .of (CT hp hc hb) λσ H G L ρ M Dn rl n h hx=>by
 obtain ⟨W,⟨m0,w0⟩,turn⟩:=h;refine ⟨λm σ' H'=>eE X.K G L H (W m) σ' H',⟨m0,ρ,G,L,M, .refl _ _ _,rl,n,w0⟩,λm σ' H' ⟨ρ',G',L',M',e',r',n',w'⟩=> ?_⟩;refine ⟨G',L',ρ',M',_,_,r',n',turn m ρ' M' w',hx.on e',λv H1 ⟨G1,L1,M1,e1,r1,h1⟩=> ?_⟩;cases v with
 | true=>
  obtain ⟨N,hN,hb⟩:=h1.1 rfl;refine yU ⟨eE X.K G L H N,λσ2 H2 ⟨ρ2,G2,L2,M2,e2,r2,n2,h2⟩=> ?_, ?_⟩
  ·obtain ⟨m',hm,w2⟩:=hN ρ2 M2 h2;exact ⟨m',hm,ρ2,G2,L2,M2,e2,r2,n2,w2⟩
  ·have OW:=e'.trans e1;exact ⟨G1,L1,ρ',M1,_,r1,n'.mono e1,hb,hx.on OW,⟨λ_ _ f=>eE.back OW f,λ_ _ f=>Fin.back OW f,λ_ _ f=>eE.back OW f,λ_ _ f=>eE.back OW f⟩⟩
 | false=>exact yz ⟨ρ',G1,L1,M1,e'.trans e1,r1,n'.mono e1,h1.2 rfl⟩
theorem L_{i j:Nat}{x y:Str}{t:DA}{px py pt:Pos}{kt k2 Lq}(hN:X.N.Nodup)(hi:X.N[i]? =some x)(hj:X.N[j]? =some y)(ha:JA X R [a,b] t)(QC:i≠j:=by decide)
  (hx:X.env.scope.names.lookup x=some .local:=by rfl) (hy:X.env.scope.names.lookup y=some .local:=by rfl)
  (hw:swappedStores [.Tuple [.Name x px, .Name y py] kt pt] (.Tuple [a,b] k2 Lq) X.env=pure (some [x,y]):=by rfl) (hc:X.calm=true:=by rfl)
  (hs:swapsWithSole [.Tuple [.Name x px, .Name y py] kt pt] (.Tuple [a,b] k2 Lq) pos.line X.env=pure false:=by rfl):
  JS X R (.Assign [.Tuple [.Name x px, .Name y py] kt pt] (.Tuple [a,b] k2 Lq) pos) (Ux i j t):= .of (Nk hc hN hi hj QC hx hy ha hw hs) λσ H G L ρ M Dn rl n h hx=>by
 refine ⟨G,L,ρ,M,_,_,rl,n,h,hx,λvs H1 ⟨ds,G1,L1,M1,e1,r1,n1,h1⟩=> ?_⟩
 (try dsimp only at h1)
 split at h1
 ·obtain ⟨v,u,rfl,m1,m2⟩:=iC n1;exact ⟨v,u,rfl,_,G1,L1,M1,e1,r1,((n.mono e1).set i m1).set j m2,h1⟩
 ·exact h1.elim
end
section
variable{X:Cx}{R:St->XK}{e e2 o:Expr}{es:List Expr}{t:DA}{to ta tb:DE}{a b:Expr}{p pos apos aA:Pos}
theorem z_(hm:X.mg "abs"=none)(ha:JA X R [e] t)(he:starEach [e] X.env=(false,eval e X.env)::starEach [] X.env:=by rfl)(fQ:(backTo pos (starEach [] X.env)).any (·.1)=false:=by rfl)(hg:Gl X "abs":=by rfl):JE X R (.Call (.Name "abs" p) [e] [] pos) (ya Kb t):=
 jq Ew S2 hm B8 ha hg (by decide) (by decide) he fQ
theorem QH(hm:X.mg "any"=none)(ha:JA X R [e] t)(hc:X.calm=true:=by rfl)(he:starEach [e] X.env=(false,eval e X.env)::starEach [] X.env:=by rfl)(fQ:(backTo pos (starEach [] X.env)).any (·.1)=false:=by rfl)(hg:Gl X "any":=by rfl):JE X R (.Call (.Name "any" p) [e] [] pos) (ya Md t):=
 jq (DO hc) TV hm Ct ha hg (by decide) (by decide) he fQ
end
theorem my{te:DE}{cs:En}{f:Dt->Dt}{M:Ms}{k:List Dt->Ms->Prop}:∀(xs af:List Dt),(∀x∈xs,∀q:DQ,q (f x) M->te (some x::cs) M q jw)->k (af++xs.map f) M->jG te cs xs af M k
 | [],af,_,h=>by rw [List.map_nil,aaW] at h;exact h
 | x::xs,af,ht,h=>ht x List.mem_cons_self _ (my xs (af++[f x]) (λy hy=>ht y (List.mem_cons_of_mem _ hy)) (by simpa using h))
theorem υ{d y:Dt}{xs:List Dt}{i:Int}{M:Ms}{q:DQ}(hs:gJ M d=some xs)(h:i9 xs i=some y)(k:q y M):cq d (.int i) M q:=by
 cases d with
 | str z=>cases hs
 | _=>
  unfold cq;simp only [hs,h];exact k
theorem aL{d:Dt}{xs:List Dt}{M:Ms}{q:DQ}(hs:gJ M d=some xs)(k:q (.int xs.length) M):iF [d] M q:=by
 cases d with
 | str z=>cases hs
 | _=>
  unfold iF;simp only [hs];exact k
theorem Φ{α:Type}{x:α}{xs:List α}:i9 (x::xs) 0=some x:=Ν (j:=0) rfl
theorem CD(bs:List Bool):(List.range bs.length).all (λi=>bs.getD i false)=bs.all id:=by
 induction bs with
 | nil=>rfl
 | cons b bs ih=>
  rw [aaO,abh,abB,List.all_map,abB,<-ih];rfl
def Pl(K:fv):List V->Hp->VK->Prop:=λxs H Q=>∃(p:Addr) (bs:List Bool),xs=[.ref p]/\fm K H p (bs.map V.bl)/\Q (.bl (bs.all id)) H
section
variable{X:Cx}
theorem Gn (hc : X.calm = true) : cH X (.builtin "all") (Pl X.K) := by
  intro δ s σ H xs us Q I r h;obtain ⟨p, bs, rfl, hq, q⟩ := h;obtain ⟨u, rfl, r1⟩ := gF r;cases r1;obtain ⟨its, rv, pl, hz⟩ := I.list hq;have Lm := u9 rv;subst Lm;refine call_all_walk (wpAny_pyIter_list pl.isList ?_);have lp : p < s.heap.objs.size := by obtain ⟨o, e, _⟩ := pl.isList; exact aat e
  refine ⟨s.heap.objs.size, _, _, _, _, _, λi => bs.getD i false, rfl, Walks.list (show X.A.in1.handled = none from I.ok.hd hc) s.heap.objs.size p (aaM lp) (bs.map Value.bool).toArray, ⟨⟨_, aaw _ rfl, rfl, rfl⟩, pl.isList.at λo e => aah _ e⟩, xa, λh' tk hk => ?_⟩;refine ⟨.bl (bs.all id), H, I.kept λb o e => hk b o (λz => by have : b = s.heap.objs.size := (by simpa using z); exact Nat.lt_irrefl _ (this ▸ Heap.lt_size e)) (Heap.get?_push_of_some _ e), ?_, q⟩;rw [aay, aac, CD];rfl
end
def LB:List Dt->Ms->DQ->Prop
 | [.lst xs],M,q=>∃bs:List Bool,xs=bs.map Dt.bl/\q (.bl (bs.all id)) M
 | _,_,_=>False
theorem SY{K:fv}:GS K (Pl K) LB:=by
 intro G0 L0 H0 G L M H vs ds q e r n h;unfold LB at h;split at h
 ·rename_i xs;obtain ⟨bs,rfl,h⟩:=h;obtain ⟨v,rfl,n1⟩:=aM n;obtain ⟨a,ws,rfl,e1,m⟩:=n1;exact ⟨a,bs,rfl,by rw [<-kS m];exact .of (r.sub _ _ e1),cn e r h⟩
 ·exact h.elim
def JO(i j k:Nat)(t:DE):DS:=λDn ρ M=>t ρ M (λd M1=>match d with
 | .tup [a,b,c]=>Dn.nx (((ρ.set i (some a)).set j (some b)).set k (some c)) M1
 | _=>False) Dn.x
def E2(i j:Nat)(t:DE):DS:=λDn ρ M=>t ρ M (λd M1=>match d with
 | .tup [a,b]=>Dn.nx ((ρ.set i (some a)).set j (some b)) M1
 | _=>False) Dn.x
section
variable{X:Cx}{R:St->XK}{e o:Expr}{es:List Expr}{t:DA}{to te:DE}{p pos apos aA:Pos}
theorem Ci:bootBuiltins "all"=some (.builtin "all"):=by decide+kernel
theorem Oz(hm:X.mg "all"=none)(ha:JA X R [e] t)(hc:X.calm=true:=by rfl)(he:starEach [e] X.env=(false,eval e X.env)::starEach [] X.env:=by rfl)(fQ:(backTo pos (starEach [] X.env)).any (·.1)=false:=by rfl)(hg:Gl X "all":=by rfl):JE X R (.Call (.Name "all" p) [e] [] pos) (ya LB t):=
 jq (Gn hc) SY hm Ci ha hg (by decide) (by decide) he fQ
variable{i j k:Nat}{tg:Expr}
theorem HH(he:JE X R e te)(hg:PG X tg (G6 X.K 3 (nu (ie i) (nu (ie j) (nu (ie k) Hj)))))(hs:swapsWithSole [tg] e pos.line X.env=pure false:=by rfl)(hw:swappedStores [tg] e X.env=pure none:=by rfl)
  (h1:(assignEach [tg] X.env).map (·.2)=[assign tg X.env]:=by rfl):JS X R (.Assign [tg] e pos) (JO i j k te):= .of (C3 he hg hs hw h1) λσ H G L ρ M Dn rl n h hx=>by
 refine ⟨G,L,ρ,M,_,_,rl,n,h,hx,λv H1 ⟨d1,G1,L1,M1,e1,r1,n1,h1⟩=> ?_⟩
 (try dsimp only at h1)
 split at h1
 ·rename_i a b c;obtain ⟨p,vs,rfl,e,m⟩:=n1;obtain ⟨v1,r',rfl,m1,m'⟩:=m;obtain ⟨v2,v3,rfl,m2,m3⟩:=iC m';exact ⟨p,_,rfl, .inl (.inl (r1.sub _ _ e)),rfl,v1,_,rfl,v2,_,rfl,v3,_,rfl,rfl,_,G1,L1,M1,e1,r1,(((n.mono e1).set i m1).set j m2).set k m3,h1⟩
 ·exact h1.elim
theorem Ar(he:JE X R e te)(hg:PG X tg (G6 X.K 2 (nu (ie i) (nu (ie j) Hj))))(hs:swapsWithSole [tg] e pos.line X.env=pure false:=by rfl)(hw:swappedStores [tg] e X.env=pure none:=by rfl)
  (h1:(assignEach [tg] X.env).map (·.2)=[assign tg X.env]:=by rfl):JS X R (.Assign [tg] e pos) (E2 i j te):= .of (C3 he hg hs hw h1) λσ H G L ρ M Dn rl n h hx=>by
 refine ⟨G,L,ρ,M,_,_,rl,n,h,hx,λv H1 ⟨d1,G1,L1,M1,e1,r1,n1,h1⟩=> ?_⟩
 (try dsimp only at h1)
 split at h1
 ·rename_i a b;obtain ⟨p,vs,rfl,e,m⟩:=n1;obtain ⟨v1,v2,rfl,m1,m2⟩:=iC m;exact ⟨p,_,rfl, .inl (.inl (r1.sub _ _ e)),rfl,v1,_,rfl,v2,_,rfl,rfl,_,G1,L1,M1,e1,r1,((n.mono e1).set i m1).set j m2,h1⟩
 ·exact h1.elim
end
mutual
def Dt.under(n:Nat):Dt->Prop
 | .bV=>True
 | .bl _=>True
 | .int _=>True
 | .str _=>True
 | .tup ds=>Dt.bz n ds
 | .lst ds=>Dt.bz n ds
 | .obj _ _ ds=>Dt.bz n ds
 | .loc k=>k < n
 | .ref _=>True
 | .ty _=>True
 | .dM _=>True
 | .kt ds=>Dt.bz n ds
 | .exc _ _ ds=>Dt.bz n ds
 | .Ou _ _ _ _ ds=>Dt.bz n ds
def Dt.bz(n:Nat):List Dt->Prop
 | []=>True
 | d::ds=>Dt.under n d/\Dt.bz n ds
end
def MO.under(n:Nat):MO->Prop
 | .lst ds=>Dt.bz n ds
 | .ins _ _ ds=>Dt.bz n ds
 | .jF _ ds=>Dt.bz n ds
 | .raw _=>True
 | .JD _ ds=>Dt.bz n ds
mutual
inductive B3(n:Nat)(E:Ms):Dt->Dt->Prop
 | old {d:Dt} (h:d.under n):B3 n E d d
 | tup {ds es:List Dt} (h:gA n E ds es):B3 n E (.tup ds) (.tup es)
 | lst {ds es:List Dt} (h:gA n E ds es):B3 n E (.lst ds) (.lst es)
 | obj {C:Addr} {ns:List Str} {ds es:List Dt} (h:gA n E ds es):B3 n E (.obj C ns ds) (.obj C ns es)
 | A8 {k:Nat} {ds es:List Dt} (hk:n<=k) (e:E[k - n]? =some (.lst ds)) (h:gA n E ds es):B3 n E (.loc k) (.lst es)
 | Sd {k:Nat} {C:Addr} {ns:List Str} {ds es:List Dt} (hk:n<=k) (e:E[k - n]? =some (.ins C ns ds)) (h:gA n E ds es):B3 n E (.loc k) (.obj C ns es)
inductive gA(n:Nat)(E:Ms):List Dt->List Dt->Prop
 | nil:gA n E [] []
 | cons {d e:Dt} {ds es:List Dt} (h:B3 n E d e) (t:gA n E ds es):gA n E (d::ds) (e::es)
end
theorem gA.length{n:Nat}{E:Ms}:∀{ds es:List Dt},gA n E ds es->ds.length=es.length
 | [],es,h=>by cases h;rfl
 | d::ds,es,h=>by
  cases h with
  | cons h t=>rw [aaO,aaO,gA.length t]
theorem gA.old{n:Nat}{E:Ms}:∀{ds:List Dt},Dt.bz n ds->gA n E ds ds
 | [],_=> .nil
 | _::_,h=> .cons (.old h.1) (gA.old h.2)
section
variable{K:fv}{G G':Hp}{L0 t:List Addr}{n:Nat}
mutual
theorem sO(hn:L0.length=n)(g:cE G G'):∀(d:Dt) (v:V),d.under n->Den K G (L0++t) d v->Den K G' L0 d v
 | .bV,_,_,h=>h
 | .bl _,_,_,h=>h
 | .int _,_,_,h=>h
 | .str _,_,_,h=>h
 | .tup ds,_,u,⟨a,vs,e,h1,h2⟩=>⟨a,vs,e,g _ _ h1,bo hn g ds vs u h2⟩
 | .lst ds,_,u,⟨a,vs,e,h1,h2⟩=>⟨a,vs,e,g _ _ h1,bo hn g ds vs u h2⟩
 | .obj C ns ds,_,u,⟨a,dx,vs,e,h1,hl,h2⟩=>⟨a,dx,vs,e,g _ _ h1,hl,bo hn g ds vs u h2⟩
 | .loc k,_,u,⟨a,e,h1⟩=>⟨a,e,by
   have u:k < n:=u
   rwa [aaJ (by rw [hn];exact u)] at h1⟩
 | .ref _,_,_,h=>h
 | .ty _,_,_,h=>h
 | .dM _,_,_,⟨a,e,h1⟩=>⟨a,e,g.seq h1⟩
 | .kt ds,_,u,⟨a,vs,e,h1,h2⟩=>⟨a,vs,e,g.NS h1,bo hn g ds vs u h2⟩
 | .exc _ _ ds,_,u,⟨a,od,vs,e,h1,h2,h3,h4⟩=>⟨a,od,vs,e,g _ _ h1,h2.imp (λz=>z) (λ⟨dx,z1,z2⟩=>⟨dx,z1,g _ _ z2⟩),h3,bo hn g ds vs u h4⟩
 | .Ou _ _ _ _ ds,_,u,⟨vs,e,h2,h3,h4⟩=>⟨vs,e,h2.imp (λz=>z) (λ⟨dx,z1,z2⟩=>⟨dx,z1,g _ _ z2⟩),h3,bo hn g ds vs u h4⟩
theorem bo(hn:L0.length=n)(g:cE G G'):∀(ds:List Dt) (vs:List V),Dt.bz n ds->Θ K G (L0++t) ds vs->Θ K G' L0 ds vs
 | [],_,_,h=>h
 | d::ds,_,u,⟨v,r,e,h1,h2⟩=>⟨v,r,e,sO hn g d v u.1 h1,bo hn g ds r u.2 h2⟩
end
theorem Bj{H:Hp}{a:Addr}(hn:L0.length=n)(g:cE G G'){m:MO}(u:m.under n)(h:CG K G (L0++t) H a m):CG K G' L0 H a m:=by
 cases m with
 | lst ds=>obtain ⟨vs,e,h⟩:=h;exact ⟨vs,e,bo hn g _ _ u h⟩
 | ins C ns ds=>obtain ⟨dx,vs,e,hl,h⟩:=h;exact ⟨dx,vs,e,hl,bo hn g _ _ u h⟩
 | jF ks ds=>obtain ⟨vs,e,hl,h⟩:=h;exact ⟨vs,e,hl,bo hn g _ _ u h⟩
 | raw u=>exact h
 | JD u' ds=>obtain ⟨vs,e,h⟩:=h;exact ⟨vs,e,bo hn g _ _ u h⟩
end
open Classical in
noncomputable def ot(G H:Hp)(t:List Addr):Hp:=λb=>if b∈t then H b else G b
theorem As{G H:Hp}{t:List Addr}{b:Addr}(h:b∈t):ot G H t b=H b:=by unfold ot;rw [if_pos h]
theorem lL{G H:Hp}{t:List Addr}{b:Addr}(h:b∉t):ot G H t b=G b:=by unfold ot;rw [if_neg h]
section
variable{K:fv}{G:Hp}{L0 t:List Addr}{M0 E:Ms}{H:Hp}
theorem gu(r:Rl K G (L0++t) (M0++E) H):cE G (ot G H t):=λb u e=>by
 by_cases hb:b∈t
 ·obtain ⟨_,_,_,_,g,_⟩:=r.uA (a:=b) (aar _ hb);rw [g] at e;cases e
 ·rw [lL hb];exact e
theorem DU(r:Rl K G (L0++t) (M0++E) H)(hn:L0.length=M0.length){k:Nat}{a:Addr}{m:MO}(hk:M0.length<=k)(e:(L0++t)[k]? =some a)(em:E[k - M0.length]? =some m):ot G H t a=H a/\CG K G (L0++t) H a m:=by
 have e2:(M0++E)[k]? =some m:=by rw [aaC hk];exact em
 obtain ⟨_,q⟩:=r.fg k a m e e2;rw [aaC (by rw [hn];exact hk)] at e;exact ⟨As (aaD e),q⟩
theorem ID(r:Rl K G (L0++t) (M0++E) H)(hn:L0.length=M0.length){d d':Dt}(f:B3 M0.length E d d'):∀v,Den K G (L0++t) d v->Den K (ot G H t) L0 d' v:=by
 refine B3.rec (motive_1:=λd d' _=>∀v,Den K G (L0++t) d v->Den K (ot G H t) L0 d' v) (motive_2:=λds es _=>∀vs,Θ K G (L0++t) ds vs->Θ K (ot G H t) L0 es vs) ?_ ?_ ?_ ?_ ?_ ?_ ?_ ?_ f
 ·exact λ{d} u v h=>sO hn (gu r) d v u h
 ·exact λ{ds es} f ih v ⟨a,vs,e,h1,h2⟩=>⟨a,vs,e,gu r _ _ h1,ih vs h2⟩
 ·exact λ{ds es} f ih v ⟨a,vs,e,h1,h2⟩=>⟨a,vs,e,gu r _ _ h1,ih vs h2⟩
 ·exact λ{C ns ds es} f ih v ⟨a,dx,vs,e,h1,hl,h2⟩=>⟨a,dx,vs,e,gu r _ _ h1,hl.trans f.length,ih vs h2⟩
 ·intro k ds es hk em f ih v ⟨a,e,h1⟩;obtain ⟨o,vs,e1,h2⟩:=DU r hn hk h1 em;exact ⟨a,vs,e,o.trans e1,ih vs h2⟩
 ·intro k C ns ds es hk em f ih v ⟨a,e,h1⟩;obtain ⟨o,dx,vs,e1,hl,h2⟩:=DU r hn hk h1 em;exact ⟨a,dx,vs,e,o.trans e1,hl.trans f.length,ih vs h2⟩
 ·exact λvs h=>h
 ·exact λ{d e ds es} f t Yr S8 vs ⟨v,r,e,h1,h2⟩=>⟨v,r,e,Yr v h1,S8 r h2⟩
end
def R_(n:Nat)(q:DQ):DQ:=λd M=>∃M' E d',M=M'++E/\M'.length=n/\(∀m∈M',MO.under n m)/\B3 n E d d'/\q d' M'
theorem Fin.AS{K:fv}{G0:Hp}{L0:List Addr}{M0:Ms}{H0:Hp}{q:DQ}{v:V}{H:Hp}(r0:Rl K G0 L0 M0 H0)(f:Fin K G0 L0 H0 (R_ M0.length q) v H):Fin K G0 L0 H0 q v H:=by
 obtain ⟨d,G,L,M,ex,r,dn,M',E,d',rfl,hl,hu,fz,hq⟩:=f;obtain ⟨t,rfl⟩:=ex.l;have hn:L0.length=M'.length:=by rw [hl];exact r0.len
 have Vi:∀b,b∈L0->b∉t:=λb h1 h2=>(ab1.mp r.nd).2.2 b h1 b h2 rfl;have sm:=gu r;refine ⟨d',ot G H t,L0,M',⟨ex.g.trans sm, .refl _,λb h1 h2=> ?_,ex.out,λb h=> .inl h,ex.CN⟩,⟨λb u e=> ?_,hn,(ab1.mp r.nd).1,λk a m h1 h2=> ?_⟩,ID r hn (hl▸fz) v dn,hq⟩
 ·have hb:b∉t:=λz=>(ex.new b (aar _ z)).elim (λy=>Vi b y z) h2;rw [lL hb];exact ex.fr b h1 h2
 ·by_cases hb:b∈t
  ·rw [As hb] at e;exact e
  ·rw [lL hb] at e;exact r.sub b u e
 ·have k1:k < L0.length:=(aad.mp h1).1;have e1:(L0++t)[k]? =some a:=by rw [aaJ k1];exact h1
  have e2:(M'++E)[k]? =some m:=by rw [aaJ (by rw [<-hn];exact k1)];exact h2
  obtain ⟨g,q⟩:=r.fg k a m e1 e2;exact ⟨by rw [lL (Vi a (aaD h1))];exact g,Bj (n:=M'.length) hn sm (by rw [hl];exact hu m (aaD h2)) q⟩
section
variable{X:Cx}{R:St->XK}{e:Expr}{t:DE}
theorem kY{st:Stmt}:JS X R st (λ_ _ _=>False):=λ_ _ _ _ _ _ ⟨_,_,_,_,_,_,_,h,_,_⟩=>h.elim
end
def EJ(C:Addr)(m:Str)(sp:Sp)(ow:List V)(R:St->XK)(ta:TE)(t:TA):TE:=λσ H Q=>ta σ H λx H1=>∃a dx fs,x= .ref a/\H1 a=some (.ins C dx fs)/\fs.lookup m=none/\
 t σ H1 λvs H2=>sp (x::(vs++ow)) H2 Q (R σ)
def L9(C:Addr)(sp:Sp)(ow:List V)(R:St->XK)(t:TA):TE:=λσ H Q=>t σ H λvs H1=>∀x dx,H1 x=none->H1 dx=none->dx≠x->
 sp (.ref x::(vs++ow)) (upd (upd H1 dx (.own x)) x (.ins C dx [])) (λv H2=>v= .bV/\Q (.ref x) H2) (R σ)
section
variable{X:Cx}{CX:yb}{k:Nat}{f C:Addr}{fd:FuncData}{ps:List Str}{sp:Sp}{ow:List V}{ds:List Value}{R:St->XK}{x m:Str}{p pos apos:Pos}{e o:Expr}{es:List Expr}{ta:TE}{t:TA}
theorem Fi{pl:Sem Bool}(he:PE X o ta)(c:BJ X.K C)(hm:Je X.K C m f)(F:aC X.prog X.w X.K X.mg X.base CX k f fd ps sp)(hr:bt k X.A)(hb:ij X.K fd ps ds)(hd:ao ow ds)(hx:cJ CX X R)(ha:PA X (e::es) t)
  (B1:starEach (e::es) X.env=(false,eval e X.env)::starEach es X.env:=by rfl) (fQ:(backTo pos (starEach es X.env)).any (·.1)=false:=by rfl)
  (ht:eval (.Call (.Attribute o m apos) (e::es) [] pos) X.env=(do
   let ov<-eval o X.env
   standAt apos.atName
   let (f,first)<-holding [ov] (getMethod ov m pl)
   callWith pos f first (backTo pos (starEach (e::es) X.env)) (backToKw pos (keywordEach [] X.env))):=by rfl):
  PE X (.Call (.Attribute o m apos) (e::es) [] pos) (EJ C m sp ow R ta t):=by
 intro δ s σ H Q I h;refine PySem.W.methodCall_KW (pl:=pl) (bx (he δ s σ H _ I h) λu s1 ⟨x,H1,I1,rx,a,dx,fs,ex,ea,l,q⟩=> ?_) ht;subst ex;obtain rfl:u=Value.ref a:=rx;refine qG I1 ea c hm l ?_;refine PySem.W.callWith_K (first:=[.ref a]) (h₀:=X.base) I.ok.mod.Qf hm.kp (bx (ha pos δ s1 σ H1 _ I1 q) λus s2 ⟨vs,H2,I2,r,q2⟩=>⟨I2.z5, ?_⟩) B1 fQ;exact vD (us:= .ref a::us) (vs:= .ref a::vs) F hr hb hd hx I2 (.cons rfl r) q2
theorem BS{pl:Sem Bool}(he:PE X o ta)(c:BJ X.K C)(hm:Je X.K C m f)(F:aC X.prog X.w X.K X.mg X.base CX k f fd ps sp)(hr:bt k X.A)(hb:ij X.K fd ps ds)(hd:ao ow ds)(hx:cJ CX X R)
  (ht:eval (.Call (.Attribute o m apos) [] [] pos) X.env=(do
   let ov<-eval o X.env
   standAt apos.atName
   let (f,first)<-holding [ov] (getMethod ov m pl)
   callWith pos f first (backTo pos (starEach [] X.env)) (backToKw pos (keywordEach [] X.env))):=by rfl):
  PE X (.Call (.Attribute o m apos) [] [] pos) (EJ C m sp ow R ta OM):=by
 intro δ s σ H Q I h;refine PySem.W.methodCall_KW (pl:=pl) (bx (he δ s σ H _ I h) λu s1 ⟨x,H1,I1,rx,a,dx,fs,ex,ea,l,q⟩=> ?_) ht;subst ex;obtain rfl:u=Value.ref a:=rx;refine qG I1 ea c hm l ?_;exact PySem.W.callWith_K0 (first:=[.ref a]) I1.z5 hm.kp (vD (us:=[.ref a]) (vs:=[.ref a]) F hr hb hd hx I1 (.cons rfl .nil) q)
theorem BG{δ:List (Addr×Obj)}{σ:St}{H:Hp}{s:Shared}{Q:VK}{us:List Value}{vs:List V}(M:Mk X.K C f)(F:aC X.prog X.w X.K X.mg X.base CX k f fd ps sp)(hr:bt (k+1) X.A)(hb:ij X.K fd ps ds)(hd:ao ow ds)
  (hx:cJ CX X R) (I:Inv X δ σ H s) (r:ao vs us)
  (h:∀x dx,H x=none->H dx=none->dx≠x->sp (.ref x::(vs++ow)) (upd (upd H dx (.own x)) x (.ins C dx [])) (λv H2=>v= .bV/\Q (.ref x) H2) (R σ)):
  wpAny (model X.prog X.w) X.A (call (.ref C) us) (EP X δ σ Q) X.xe s:=by
 have hq:=h (s.heap.objs.size+1) s.heap.objs.size (I.aB.fresh (Nat.le_succ _)) (I.aB.fresh (aal _)) (aaM (Nat.lt_succ_self _));have I2:=Inv.made (C:=C) I;have r2:ao (V.ref (s.heap.objs.size+1)::(vs++ow)) (Value.ref (s.heap.objs.size+1)::(us++ds)):= .cons rfl (r.append hd);have hl:(Value.ref (s.heap.objs.size+1)::us++ds).length=ps.length:=by have e:=r2.length;rw [F.len _ _ _ _ hq] at e;exact e.symm
 refine wpAny_call (E1 (f:=f) I.z5 M.makes M.init (beq_iff_eq.mp M.fn) (codeAny_mono (F.run _ X.stack _ _ ⟨Value.ref (s.heap.objs.size+1)::us,[]⟩ (Value.ref (s.heap.objs.size+1)::(us++ds)) _ _ (R σ) (hr.make C us [])
  (I2.OU.make C us []) (hb _ (Value.ref (s.heap.objs.size+1)::us) I2.z5 hl) r2 hq) λr s' CH=> ?_))
 cases r with
 | error e=>exact hx δ σ _ _ e s' I2 CH
 | ok fl=>
  cases fl with
  | ret u=>
   obtain ⟨v,H',I3,rv,ev,q3⟩:=I2.after CH;subst ev;exact ⟨rv,⟨V.ref (s.heap.objs.size+1),H',I3,rfl,q3⟩⟩
  | next=>exact False.elim CH
  | brk=>exact False.elim CH
  | cont=>exact False.elim CH
theorem FC(M:Mk X.K C f)(F:aC X.prog X.w X.K X.mg X.base CX k f fd ps sp)(hr:bt (k+1) X.A)(hg:Gl X x)(hm:X.mg x=some (.ref C))(hb:ij X.K fd ps ds)(hd:ao ow ds)(hx:cJ CX X R)
  (ha:PA X (e::es) t) (sf:(x==("__debug__":Str))=false:=by decide) (he:starEach (e::es) X.env=(false,eval e X.env)::starEach es X.env:=by rfl) (fQ:(backTo pos (starEach es X.env)).any (·.1)=false:=by rfl):
  PE X (.Call (.Name x p) (e::es) [] pos) (L9 C sp ow R t):=by
 intro δ s σ H Q I h;refine wpAny_Call_Name_kw (vq I hg hm ?_ sf);refine PySem.W.callWith_K (h₀:=X.base) I.ok.mod.Qf M.kp (bx (ha pos δ s σ H _ I h) λus s1 ⟨vs,H1,I1,r,q⟩=>⟨I1.z5, ?_⟩) he fQ;exact BG M F hr hb hd hx I1 r q
end
def Ho(C:Addr)(M:Ms)(d:Dt)(ns:List Str)(ds:List Dt):Prop:=d= .obj C ns ds\/∃k,d= .loc k/\M[k]? =some (.ins C ns ds)
section
variable{K:fv}{G:Hp}{L:List Addr}{M:Ms}{H:Hp}{C:Addr}{d:Dt}{v:V}{ns:List Str}{ds:List Dt}
theorem GG(r:Rl K G L M H)(n:Den K G L d v)(o:Ho C M d ns ds):∃a dx vs,v= .ref a/\H a=some (.ins C dx (ns.zip vs))/\ns.length=ds.length/\Θ K G L ds vs:=by
 rcases o with rfl | ⟨k,rfl,hm⟩
 ·obtain ⟨a,dx,vs,e,h1,hl,h2⟩:=n;exact ⟨a,dx,vs,e,r.sub _ _ h1,hl,h2⟩
 ·obtain ⟨a,e,h1⟩:=n;obtain ⟨_,dx,vs,h2,hl,h3⟩:=r.fg k a _ h1 hm;exact ⟨a,dx,vs,e,h2,hl,h3⟩
theorem w_{f:Str}:∀{ns:List Str} {ds:List Dt} {vs:List V} {d:Dt},Θ K G L ds vs->(ns.zip ds).lookup f=some d->∃v,(ns.zip vs).lookup f=some v/\Den K G L d v
 | [],_,_,_,_,h=>by simp at h
 | _::_,[],_,_,_,h=>by simp at h
 | g::ns,d::ds,_,d',⟨v,r,rfl,h1,h2⟩,h=>by
  rw [aaU,abw] at h;rw [aaU,abw];cases q:f==g with
  | true=>rw [q] at h;cases h;exact ⟨v,rfl,h1⟩
  | false=>rw [q] at h;exact w_ h2 h
theorem pN{f:Str}:∀{ns:List Str} {ds:List Dt} {vs:List V},Θ K G L ds vs->(ns.zip ds).lookup f=none->(ns.zip vs).lookup f=none
 | [],_,_,_,_=>by simp
 | _::_,[],_,h,_=>by have h:_=_:=h;subst h;simp
 | g::ns,d::ds,_,⟨v,r,rfl,h1,h2⟩,h=>by
  rw [aaU,abw] at h;rw [aaU,abw];cases q:f==g with
  | true=>rw [q] at h;cases h
  | false=>rw [q] at h;exact pN h2 h
theorem wk{f:Str}{v:V}:∀{ns:List Str} {vs:List V},ns.length=vs.length->f∉ns->ir f v (ns.zip vs)=(ns++[f]).zip (vs++[v])
 | [],[],_,_=>rfl
 | g::ns,x::vs,hl,h=>by have hg:¬g=f:=λz=>h (by rw [z];exact aak);show (if g=f then (g,v)::ns.zip vs else (g,x)::ir f v (ns.zip vs))=(g,x)::(ns++[f]).zip (vs++[v]);rw [if_neg hg,wk (by simpa using hl) λz=>h (List.mem_cons_of_mem _ z)]
 | [],_::_,hl,_=>by simp at hl
 | _::_,[],hl,_=>by simp at hl
end
def KG(C:Addr)(f:Str)(t:DE):DE:=λρ M q x=>t ρ M (λd M1=>∃ns ds v,Ho C M1 d ns ds/\(ns.zip ds).lookup f=some v/\q v M1) x
def lG(C:Addr)(m:Str)(T:DF)(to:DE)(ta:DA):DE:=λρ M q x=>to ρ M (λd M1=>(∃ns ds,Ho C M1 d ns ds/\(ns.zip ds).lookup m=none)/\ta ρ M1 (λds M2=>T (d::ds) M2 q (λC fs M'=>x ρ C fs M')) x) x
def JL(C:Addr)(T:DF)(ta:DA):DE:=λρ M q x=>ta ρ M (λds M1=>T (.loc M1.length::ds) (M1++[.ins C [] []]) (λd M2=>d= .bV/\q (.loc M1.length) M2) (λC fs M'=>x ρ C fs M')) x
def Jk(C:Addr)(f:Str)(to tv:DE):DS:=λDn ρ M=>tv ρ M (λy M1=>to ρ M1 (λd M2=>∃k ns ds,d= .loc k/\M2[k]? =some (.ins C ns ds)/\f∉ns/\ns.length < 1000/\Dn.nx ρ (M2.set k (.ins C (ns++[f]) (ds++[y])))) Dn.x) Dn.x
structure fh(P:Program)(w:World)(K:fv)(mg:Str->Option Value)(base:Heap)(k:Nat)(C:Addr)(m:Str)(ps:List Str)(T:DF)(f:Addr)(fd:FuncData):Prop where
 ok:aC P w K mg base (dh P w) k f fd ps (eh K T)
 b:ij K fd ps []
 c:BJ K C
 m:Je K C m f
structure HJ(P:Program)(w:World)(K:fv)(mg:Str->Option Value)(base:Heap)(k:Nat)(x:Str)(C:Addr)(ps:List Str)(T:DF)(f:Addr)(fd:FuncData):Prop where
 ok:aC P w K mg base (dh P w) k f fd ps (eh K T)
 b:ij K fd ps []
 k:Mk K C f
 m:mg x=some (.ref C)
section
variable{X:Cx}{R:St->XK}{C:Addr}{f m x:Str}{T:DF}{k k':Nat}{a:Addr}{fd:FuncData}{ps:List Str}{e o value:Expr}{es:List Expr}{pos pos' apos p:Pos}{to te tv:DE}{ta:DA}
theorem tP(c:BJ X.K C)(n:fT X.K C f)(he:JE X R e te)(hb:attributeBase e f X.env (eval e X.env)=eval e X.env:=by rfl):JE X R (.Attribute e f pos) (KG C f te):=
 .of (Ll he hb) λσ H G L ρ M q x rl en h hx=>by refine ⟨G,L,ρ,M,_,x,rl,en,h,hx,λv H1 ⟨d1,G1,L1,M1,e1,r1,n1,ns,ds,y,ob,hl,h1⟩=> ?_⟩;obtain ⟨p,dx,vs,rfl,hp,_,dn⟩:=GG r1 n1 ob;obtain ⟨u,hu,du⟩:=w_ dn hl;exact ⟨p,C,dx,_,u,rfl,hp,c,n,hu,y,G1,L1,M1,e1,r1,du,h1⟩
theorem fY{pl:Sem Bool}(D:fh X.prog X.w X.K X.mg X.base k C m ps T a fd)(hr:bt k' X.A)(hx:cJ (dh X.prog X.w) X R)(ho:JE X R o to)(ha:JA X R (e::es) ta)(hk:k<=k':=by decide)
  (B1:starEach (e::es) X.env=(false,eval e X.env)::starEach es X.env:=by rfl) (fQ:(backTo pos (starEach es X.env)).any (·.1)=false:=by rfl)
  (ht:eval (.Call (.Attribute o m apos) (e::es) [] pos) X.env=(do
   let ov<-eval o X.env
   standAt apos.atName
   let (f,first)<-holding [ov] (getMethod ov m pl)
   callWith pos f first (backTo pos (starEach (e::es) X.env)) (backToKw pos (keywordEach [] X.env))):=by rfl):
  JE X R (.Call (.Attribute o m apos) (e::es) [] pos) (lG C m T to ta):=
 .of (Fi (pl:=pl) ho D.c D.m D.ok (hr.mono hk) D.b .nil hx ha B1 fQ ht) λσ H G L ρ M q x rl en h hx=>by refine ⟨G,L,ρ,M,_,x,rl,en,h,hx,λv H1 ⟨d1,G1,L1,M1,e1,r1,n1,⟨ns,ds,ob,hl⟩,h1⟩=> ?_⟩;obtain ⟨p,dx,vs,rfl,hp,_,dn⟩:=GG r1 n1 ob;refine ⟨p,dx,_,rfl,hp,pN dn hl,G1,L1,ρ,M1,_,x,r1,en.mono e1,h1,hx.on e1,λus H2 ⟨Cj,G2,L2,M2,e2,r2,n2,h2⟩=> ?_⟩;show eh X.K T (V.ref p::(us++[])) H2 _ _;rw [aaW];have LU:=e1.trans e2;exact ⟨G2,L2,d1::Cj,M2,q,_,r2,⟨_,_,rfl,Den.mono e2.g e2.l _ _ n1,n2⟩,h2,λv H' f=>Fin.back LU f,λC fs M' G' L' H' od hq e' r' y=>hx σ ρ C fs M' G' L' H' od hq (LU.trans e') r' (en.mono (LU.trans e')) y⟩
theorem fK{pl:Sem Bool}(D:fh X.prog X.w X.K X.mg X.base k C m ps T a fd)(hr:bt k' X.A)(hx:cJ (dh X.prog X.w) X R)(ho:JE X R o to)(hk:k<=k':=by decide)
  (ht:eval (.Call (.Attribute o m apos) [] [] pos) X.env=(do
   let ov<-eval o X.env
   standAt apos.atName
   let (f,first)<-holding [ov] (getMethod ov m pl)
   callWith pos f first (backTo pos (starEach [] X.env)) (backToKw pos (keywordEach [] X.env))):=by rfl):
  JE X R (.Call (.Attribute o m apos) [] [] pos) (lG C m T to nW):=
 .of (BS (pl:=pl) ho D.c D.m D.ok (hr.mono hk) D.b .nil hx ht) λσ H G L ρ M q x rl en h hx=>by refine ⟨G,L,ρ,M,_,x,rl,en,h,hx,λv H1 ⟨d1,G1,L1,M1,e1,r1,n1,⟨ns,ds,ob,hl⟩,h1⟩=> ?_⟩;obtain ⟨p,dx,vs,rfl,hp,_,dn⟩:=GG r1 n1 ob;refine ⟨p,dx,_,rfl,hp,pN dn hl, ?_⟩;show eh X.K T (V.ref p::([]++[])) H1 _ _;exact ⟨G1,L1,[d1],M1,q,_,r1,⟨_,_,rfl,n1,rfl⟩,h1,λv H' f=>Fin.back e1 f,λC fs M' G' L' H' od hq e' r' y=>hx σ ρ C fs M' G' L' H' od hq (e1.trans e') r' (en.mono (e1.trans e')) y⟩
theorem zo(D:HJ X.prog X.w X.K X.mg X.base k x C ps T a fd)(hr:bt k' X.A)(hx:cJ (dh X.prog X.w) X R)(ha:JA X R (e::es) ta)(hk:k+1<=k':=by decide)(hg:Gl X x:=by rfl)(sf:(x==("__debug__":Str))=false:=by decide)
  (he:starEach (e::es) X.env=(false,eval e X.env)::starEach es X.env:=by rfl) (fQ:(backTo pos (starEach es X.env)).any (·.1)=false:=by rfl):JE X R (.Call (.Name x p) (e::es) [] pos) (JL C T ta):=
 .of (FC D.k D.ok (hr.mono hk) hg D.m D.b .nil hx ha sf he fQ) λσ H G L ρ M q x rl en h hx=>by
  refine ⟨G,L,ρ,M,_,x,rl,en,h,hx,λvs H1 ⟨ds,G1,L1,M1,e1,r1,n1,h1⟩ y dx hy VL gE=> ?_⟩;show eh X.K T (V.ref y::(vs++[])) _ _ _;rw [aaW];have ra:=r1.Fj (o:= .own y) VL;have ea:=r1.LD (o:= .own y) VL;have US:upd H1 dx (HO.own y) y=none:=by rw [Ζ (Ne.symm gE)];exact hy
  have rb:=ra.Ma (p:=y) (o:= .ins C dx []) (m:= .ins C [] []) US ⟨dx,[],Τ,rfl,rfl⟩;have eb:=ra.Ui (p:=y) (o:= .ins C dx []) US;have e2:=ea.trans eb;have LU:=e1.trans e2;refine ⟨_,_, .loc M1.length::ds,_,_,_,rb,⟨_,_,rfl,⟨y,rfl, ?_⟩,Θ.mono e2.g e2.l _ _ n1⟩,h1,λv H' ⟨d,G',L',M',e',r',dn,hd,hq⟩=> ?_,λC fs M' G' L' H' od hq e' r' z=>hx σ ρ C fs M' G' L' H' od hq (LU.trans e') r' (en.mono (LU.trans e')) z⟩
  ·rw [<-r1.len,List.getElem?_append_right (Nat.le_refl _)];simp
  ·subst hd;refine ⟨dn, .loc M1.length,G',L',M',LU.trans e',r',⟨y,rfl,e'.l.get ?_⟩,hq⟩;rw [<-r1.len,List.getElem?_append_right (Nat.le_refl _)];simp
theorem AE(c:BJ X.K C)(n:fT X.K C f)(ho:JE X R o to)(hv:JE X R value tv)(hs:swapsWith value (some (.Attribute o f pos')) pos.line X.env=pure false:=by rfl):JS X R (.Assign [.Attribute o f pos'] value pos) (Jk C f to tv):=
 .of (Mx ho hv hs) λσ H G L ρ M Dn rl en h hx=>by refine ⟨G,L,ρ,M,_,_,rl,en,h,hx,λy H1 ⟨dy,G1,L1,M1,e1,r1,n1,h1⟩=> ?_⟩;refine ⟨G1,L1,ρ,M1,_,_,r1,en.mono e1,h1,hx.on e1,λu H2 ⟨du,G2,L2,M2,e2,r2,n2,k,ns,ds,ed,hm,hf,hz,h2⟩=> ?_⟩;subst ed;obtain ⟨p,rfl,hp⟩:=n2;obtain ⟨_,dx,vs,hH,hl,dn⟩:=r2.fg k p _ hp hm;have LK:ns.length=vs.length:=hl.trans dn.length;refine ⟨p,C,dx,_,rfl,hH,c,n,by rw [abe,<-LK,abU];exact hz, ?_⟩;rw [wk LK hf];exact ⟨ρ,G2,L2,_,(e1.trans e2).trans (r2.Fy hp),r2.setM (m:= .ins C (ns++[f]) (ds++[dy])) hp ⟨dx,_,Τ,by rw [aai,aai,hl];rfl,dn.app ⟨_,_,rfl,Den.mono e2.g e2.l _ _ n1,rfl⟩⟩,(en.mono (e1.trans e2)).mono (r2.Fy (o:= .own p) hp),h2⟩
end
def EU:List Dt->Ms->DQ->Prop
 | [d],M,q=>match gJ M d with
  | some xs=>q (.loc M.length) (M++[.lst xs])
  | none=>False
 | _,_,_=>False
section
variable{K:fv}
theorem PM:GS K (λxs H Q=>∃p ys,xs=[V.ref p]/\(fm K H p ys\/ju K H p ys)/\∀l,H l=none->Q (.ref l) (upd H l (.lst ys))) EU:=by
 intro G0 L0 H0 G L M H vs ds q e r n h;unfold EU at h;split at h
 ·rename_i d;obtain ⟨v,rfl,n1⟩:=aM n;split at h
  ·rename_i xs hs;obtain ⟨a,us,rfl,hq,dn⟩:=oV r n1 hs;exact ⟨a,us,rfl,hq,λl hl=>gL e r hl dn h⟩
  ·exact h.elim
 ·exact h.elim
end
section
variable{X:Cx}{R:St->XK}{e o i value:Expr}{t:DA}{to ti tv:DE}{p pos apos aA K_:Pos}
theorem Fv(hm:X.mg "list"=none)(ha:JA X R [e] t)(hg:Gl X "list":=by rfl)(he:starEach [e] X.env=(false,eval e X.env)::starEach [] X.env:=by rfl)(fQ:(backTo pos (starEach [] X.env)).any (·.1)=false:=by rfl):JE X R (.Call (.Name "list" p) [e] [] pos) (ya EU t):=
 EM uD PM hm ri ha hg (by decide) (by decide) he fQ
def Mf(to:DE)(t:DA):DE:=λρ M q x=>to ρ M (λd M1=>(∃k xs,d= .loc k/\M1[k]? =some (.lst xs))/\t ρ M1 (λds M2=>∃k xs y,d= .loc k/\ds=[y]/\M2[k]? =some (.lst xs)/\xs.length < sizeLine/\q .bV (M2.set k (.lst (xs++[y])))) x) x
theorem iW(ho:JE X R o to)(ha:JA X R [e] t)(pF:attributeBase o "append" X.env (eval o X.env)=eval o X.env:=by rfl)
  (zg:((backTo aA (starEach [e] X.env)).all (λx=> !x.1)&&(backToKw aA (keywordEach [] X.env)).all (λx=>x.1.isSome)
   &&decide (([e]:List Expr).length+([]:List Keyword).length+(if ([]:List Keyword).isEmpty then 0 else 1) < 30))=true:=by rfl)
  (pO:(apos.endLine==aA.line)=true:=by rfl) (hs:starEach [e] X.env=(false,eval e X.env)::starEach [] X.env:=by rfl) (j6:(backTo aA (starEach [] X.env)).any (·.1)=false:=by rfl):
  JE X R (.Call (.Attribute o "append" apos) [e] [] aA) (Mf to t):=
 .of (FX PySem.F.plainAttrs_list PySem.F.slot_list_append PySem.F.type_list_append (r:=AB) sI ho ha pF zg pO hs j6) λσ H G L ρ M q x rl n h hx=>by refine ⟨G,L,ρ,M,_,x,rl,n,h,hx,λv H1 ⟨d1,G1,L1,M1,e1,r1,n1,⟨k,xs,ed,hm⟩,h1⟩=> ?_⟩;subst ed;obtain ⟨a,rfl,hk⟩:=n1;obtain ⟨_,vs,hH,_⟩:=r1.fg k a _ hk hm;refine ⟨.inl ⟨rfl,vs, .of hH⟩,G1,L1,ρ,M1,_,x,r1,n.mono e1,h1,hx.on e1,λus H2 ⟨ds,G2,L2,M2,e2,r2,n2,k',xs',y,ek,ed,GZ,hz,h2⟩=> ?_⟩;cases ek;subst ed;obtain ⟨u,rfl,n3⟩:=aM n2;have Hl:=e2.l.get hk;obtain ⟨_,MS,LO,J'⟩:=r2.fg k a _ Hl GZ;refine ⟨a,MS,u,rfl,rfl,LO,by rw [<-J'.length];exact hz, .bV,G2,L2,_,(e1.trans e2).trans (r2.Fy Hl),r2.setM (m:= .lst (xs'++[y])) Hl ⟨_,Τ,J'.app ⟨_,_,rfl,n3,rfl⟩⟩,rfl,h2⟩
end
structure Src(K:fv)(a:Addr)(xs:List Dt)(ok:Ms->Prop)(G0:Hp)(L0:List Addr):Prop where
 at_:∀G L M H,cE G0 G->Pre L0 L->Rl K G L M H->ok M->∃vs,fm K H a vs/\Θ K G L xs vs
def jD(M:Ms):Dt->Option (List Dt×(Ms->Prop))
 | .lst xs=>some (xs,λ_=>True)
 | .dM ns=>some (ns.map .int,λ_=>True)
 | .loc k=>match M[k]? with
  | some (.lst xs)=>some (xs,λM'=>M'[k]? =some (.lst xs))
  | _=>none
 | _=>none
theorem zF{K:fv}{G:Hp}{L:List Addr}{M:Ms}{H:Hp}{d:Dt}{v:V}{xs:List Dt}{ok:Ms->Prop}(r:Rl K G L M H)(n:Den K G L d v)(h:jD M d=some (xs,ok)):∃a vs,v= .ref a/\fm K H a vs/\Src K a xs ok G L/\ok M:=by
 cases d with
 | lst ds=>
  cases h;obtain ⟨a,vs,rfl,e,m⟩:=n;exact ⟨a,vs,rfl, .of (r.sub _ _ e),⟨λG' L' M' H' g l r' _=>⟨vs, .of (r'.sub _ _ (g _ _ e)),Θ.mono g l _ _ m⟩⟩,trivial⟩
 | dM ns=>
  cases h;obtain ⟨a,rfl,e⟩:=n;exact ⟨a,_,rfl,r.sub.seq e,⟨λG' L' M' H' g l r' _=>⟨_,r'.sub.seq (g.seq e),cQ⟩⟩,trivial⟩
 | loc k=>
  obtain ⟨a,rfl,e⟩:=n;have h:(match M[k]? with | some (.lst xs)=>some (xs,λM':Ms=>M'[k]? =some (.lst xs)) | _=>none)=some (xs,ok):=h;split at h
  ·rename_i ys hm;cases h;obtain ⟨_,vs,e1,m1⟩:=r.fg k a _ e hm;refine ⟨a,vs,rfl, .of e1,⟨λG' L' M' H' g l r' hk=> ?_⟩,hm⟩;obtain ⟨_,MS,e2,m2⟩:=r'.fg k a _ (l.get e) hk;exact ⟨MS, .of e2,m2⟩
  ·cases h
 | _=>cases h
theorem GF{K:fv}{G:Hp}{L:List Addr}{a:Addr}{xs:List Dt}{ok:Ms->Prop}(s:Src K a xs ok G L):Jx K (QO K a) xs ok G L where
 go:=λi G1 L1 M1 H1 d g l r k e=>by
  obtain ⟨vs,hs,n⟩:=s.at_ G1 L1 M1 H1 g l r k;obtain ⟨v,e1,n1⟩:=n.get e
  exact ⟨⟨vs,v,hs,e1⟩,λv' H' ⟨eH,y⟩=>by
   subst eH;have e2:=y vs hs;rw [e1] at e2;cases e2
   exact ⟨G1, .refl _ _ _,r,n1⟩⟩
 stop:=λi G1 L1 M1 H1 g l r k e=>by obtain ⟨vs,hs,n⟩:=s.at_ G1 L1 M1 H1 g l r k;exact ⟨vs,hs,by rw [<-n.length];exact e⟩
def qD(M:Ms):Dt->Option (List Dt×(Ms->Prop))
 | .loc k=>jD M (.loc k)
 | d=>(O3 M d).map λxs=>(xs,λ_=>True)
def cX(t:DE):DK:=λρ M q x=>t ρ M (λd M1=>match qD M1 d with
 | some (xs,ok)=>q xs ok M1
 | none=>False) x
theorem bu{X:Cx}{R:St->XK}{tg e:Expr}{te:DE}(h:JE X R e te):JK X R tg e (cX te):=by
 intro δ s σ H Q I ⟨G,L,ρ,M,q,x,rl,n,ht,hx,hQ⟩;refine bx (h δ s σ H (Fin X.K G L H _) I ⟨G,L,ρ,M,_,x,rl,n,ht,hx,λ_ _ f=>f⟩) λu s1 ⟨v,H1,I1,rv,d,G1,L1,M1,e1,r1,n1,h1⟩=> ?_
 (try dsimp only at h1)
 cases hi:qD M1 d with
 | none=>rw [hi] at h1;exact h1.elim
 | some p=>
  obtain ⟨xs,ok⟩:=p;rw [hi] at h1;have fin:∀J,Jx X.K J xs ok G1 L1->Q J H1:=λJ y=>hQ J H1 ⟨xs,ok,G1,L1,M1,e1,r1,y,h1⟩;have up:∀{J},ok=(λ_=>True)->Yl X.K J xs G1 L1->Jx X.K J xs ok G1 L1:=λeo y=>by subst eo;exact ⟨λi G L M H d g l r _ e=>y.go i G L M H d g l r e,λi G L M H g l r _ e=>y.stop i G L M H g l r e⟩
  cases d with
  | loc k=>
   obtain ⟨a,vs,rfl,hs,sr,_⟩:=zF r1 n1 hi;cases rv;exact va I1 hs (fin _ (GF sr))
  | lst ds=>
   cases hi;obtain ⟨a,vs,rfl,e,m⟩:=n1;cases rv;exact va I1 (vs:=vs) (.of (r1.sub _ _ e)) (fin _ (up rfl (Af (λG' g=> .of (g _ _ e)) m)))
  | dM ns=>
   cases hi;obtain ⟨a,rfl,e⟩:=n1;cases rv;exact va I1 (r1.sub.seq e) (fin _ (up rfl (Af (λG' g=>g.seq e) cQ)))
  | tup ds=>
   cases hi;obtain ⟨a,vs,rfl,e,m⟩:=n1;cases rv;exact E4 I1 (vs:=vs) (.of (r1.sub _ _ e)) (fin _ (up rfl (C0 (λG' g=> .of (g _ _ e)) m)))
  | kt ds=>
   cases hi;obtain ⟨a,vs,rfl,e,m⟩:=n1;cases rv;exact E4 I1 (r1.sub.NS e) (fin _ (up rfl (C0 (λG' g=>g.NS e) m)))
  | str z=>
   cases hi;cases n1;obtain ⟨t,rfl⟩:=rv;exact Ni I1 (fin _ (up rfl MI))
  | _=>cases hi
def ia(g:Dt->En->(En->Prop)->Prop)(tb:DS)(Dn:nN)(ok:Ms->Prop):List Dt->En->Ms->Prop
 | [],ρ,M=>ok M/\Dn.nx ρ M
 | x::xs,ρ,M=>ok M/\g x ρ λρ'=>tb {Dn with nx:=ia g tb Dn ok xs,ct:=ia g tb Dn ok xs,bk:=Dn.nx} ρ' M
def xI(ti:DK)(g:Dt->En->(En->Prop)->Prop)(tb:DS):DS:=λDn ρ M=>ti ρ M (λxs ok M1=>ia g tb Dn ok xs ρ M1) Dn.x
section
variable{X:Cx}{R:St->XK}{tg iter:Expr}{body:List Stmt}{ti:DK}{gg:TG}{g:Dt->En->(En->Prop)->Prop}{tb:DS}{pos:Pos}
theorem gW(hi:JK X R tg iter ti)(hg:PG X tg gg)(gd:GD X.K gg g)(hb:Bh X R body tb)(hp:PassesOwn (model X.prog X.w) X.A X.env X.xe:=by first | exact PassesOwn.never | exact PassesOwn.leaving)(hc:X.calm=true:=by rfl)(hs:∀x,foldedSetIterable iter X.env x=pure x:=by intro _;rfl):
  JS X R (.For tg iter body [] pos) (xI ti g tb):= .of (Eo hp hc hi hg hb hs) λσ H G L ρ M Dn rl n h hx=>by
 refine ⟨G,L,ρ,M,_,_,rl,n,h,hx,λJ H1 ⟨xs,ok,G1,L1,M1,e1,r1,y,h1⟩=> ?_⟩;refine ⟨λi m σ' H'=>m+i=xs.length/\eE X.K G1 L1 H1 (λρ' M'=>ia g tb Dn ok (xs.drop i) ρ' M') σ' H',⟨xs.length,rfl,ρ,G1,L1,M1, .refl _ _ _,r1,n.mono e1,by rw [List.drop_zero];exact h1⟩, ?_⟩;rintro i m σ' H' ⟨hm,ρ',G',L',M',e',r',n',h'⟩;by_cases hi:i < xs.length
 ·right;have hd:xs[i]? =some xs[i]:=aaa hi;rw [abk hi] at h';obtain ⟨aB,h'⟩:=h';obtain ⟨go,yl⟩:=y.go i G' L' M' H' _ e'.g e'.l r' aB hd;refine ⟨go,eE X.K G1 L1 H1 (λρ' M'=>ia g tb Dn ok (xs.drop (i+1)) ρ' M'),λσ2 H2 f=>⟨m - 1,by omega,by omega,f⟩,λv H2 hy=> ?_⟩;obtain ⟨G2,e2,r2,n2⟩:=yl v H2 hy;refine gd G2 L' M' H2 _ v ρ' σ' _ _ r2 n2 (n'.mono e2) h' λρ3 σ3 n3 h3=> ?_;refine ⟨G2,L',ρ3,M',_,r2,n3,h3,hx.on (e1.trans (e'.trans e2)),⟨λ_ _ f=>eE.back (e'.trans e2) f,λ_ _ f=>Fin.back (e1.trans (e'.trans e2)) f,λ_ _ f=>eE.back (e1.trans (e'.trans e2)) f,λ_ _ f=>eE.back (e'.trans e2) f⟩⟩
 ·left;rw [List.drop_eq_nil_of_le (by omega)] at h';exact ⟨y.stop i G' L' M' H' e'.g e'.l r' h'.1 (by omega),ρ',G',L',M',e1.trans e',r',n',h'.2⟩
end
def gr(te:DE)(cs:En)(ok:Ms->Prop):List Dt->List Dt->Ms->(List Dt->Ms->Prop)->Prop
 | [],af,M,k=>ok M/\k af M
 | x::xs,af,M,k=>ok M/\te (some x::cs) M (λd M1=>gr te cs ok xs (af++[d]) M1 k) jw
def iQ(ti:DK)(te:DE)(Λ:List Nat):DE:=λρ M q x=>ti ρ M (λxs ok M1=>xs.length<=sizeLine/\gr te (lX Λ ρ) ok xs [] M1 (λys M2=>q (.lst ys) M2)) x
def oC(ti:DK)(te:DE)(Λ:List Nat):DE:=λρ M q x=>ti ρ M (λxs ok M1=>xs.length<=sizeLine/\gr te (lX Λ ρ) ok xs [] M1 (λys M2=>q (.loc M2.length) (M2++[.lst ys]))) x
theorem i7{te:DE}{cs:En}{ok:Ms->Prop}:∀xs,gr te cs ok xs=iY (gN 0) rg te (none::cs) ok xs
 | []=>rfl
 | x::xs=>funext λaf=>funext λM=>funext λk=>by show (ok M/\te (some x::cs) M (λd M1=>gr te cs ok xs (af++[d]) M1 k) jw)=(ok M/\te (some x::cs) M (λd M1=>iY (gN 0) rg te (none::cs) ok xs (af++[d]) M1 k) jw);rw [i7 xs]
section
variable{X:Cx}{R:St->XK}{elt iter:Expr}{x:Str}{px:Pos}{scope:Scope}{pos:Pos}{ti:DK}{te:DE}{ys:List Str}{Λ:List Nat}
theorem c5(S:ah X scope [x] ys Λ)(hi:JK X R (.Name x px) iter ti)(he:∀C s H fp,JE (Cx.comp X (x::ys) scope C s H fp) (λ_=>E0) elt te)(hc:X.calm=true:=by rfl)(hs:∀x,foldedSetIterable iter X.env x=pure x:=by intro _;rfl):JE X R (.ListComp elt [⟨.Name x px,iter,[],0⟩] scope pos) (iQ ti te Λ):=Tz false S hi (dP S (i:=0) rfl) aO (cj (Nat.zero_lt_succ 0)) (λ_ _ _ _=>gS) he hc hs λρ M q x h=>by unfold iQ at h;simp only [i7] at h;exact h
theorem pM(S:ah X scope [x] ys Λ)(hi:JK X R (.Name x px) iter ti)(he:∀C s H fp,JE (Cx.comp X (x::ys) scope C s H fp) (λ_=>E0) elt te)(hc:X.calm=true:=by rfl)(hs:∀x,foldedSetIterable iter X.env x=pure x:=by intro _;rfl):JE X R (.ListComp elt [⟨.Name x px,iter,[],0⟩] scope pos) (oC ti te Λ):=Tz true S hi (dP S (i:=0) rfl) aO (cj (Nat.zero_lt_succ 0)) (λ_ _ _ _=>gS) he hc hs λρ M q x h=>by unfold oC at h;simp only [i7] at h;exact h
theorem nQ{i:Nat}{y:Str}{py i5:Pos}(hN:X.N.Nodup)(DP:X.N[i]? =some y)(hy:Loc X.env.scope y)(S:ah X scope [x] ys Λ)(hi:JK X R (.Name x px) iter ti)(he:∀C s H fp,JE (Cx.comp X (x::ys) scope C s H fp) (λ_=>E0) elt te)(hc:X.calm=true:=by rfl)(E8:swapsWith (.ListComp elt [⟨.Name x px,iter,[],0⟩] scope pos) (some (.Name y py)) i5.line X.env=pure true:=by rfl)(hs:∀x,foldedSetIterable iter X.env x=pure x:=by intro _;rfl)(hf:X.fn y=true\/X.env.scope.names.lookup y=some .local:=by first | exact .inl rfl | exact .inr rfl | assumption):JS X R (.Assign [.Name y py] (.ListComp elt [⟨.Name x px,iter,[],0⟩] scope pos) i5) (y6 i (iQ ti te Λ)):=S6 false S hi (dP S (i:=0) rfl) aO (cj (Nat.zero_lt_succ 0)) (λ_ _ _ _=>gS) he hc hs hN DP hy E8 hf λρ M q x h=>by unfold iQ at h;simp only [i7] at h;exact h
end
theorem jn:∀{ns:List Int} {us:List Value},ao (ns.map V.int) us->∃ts:List (Int×Tok),us=ts.map (λp=>Value.int p.1 p.2)/\ts.map (·.1)=ns
 | [],_,h=>by cases h;exact ⟨[],rfl,rfl⟩
 | n::ns,_,h=>by
  cases h with
  | cons r t=>
   obtain ⟨tk,rfl⟩:=r;obtain ⟨ts,rfl,rfl⟩:=jn t;exact ⟨(n,tk)::ts,rfl,rfl⟩
def OP(K:fv):List V->Hp->VK->Prop:=λxs H Q=>∃(p:Addr) (ns:List Int),xs=[.ref p]/\fm K H p (ns.map V.int)/\Q (.int ns.sum) H
theorem Ef{X:Cx}(hc:X.calm=true):cH X (.builtin "sum") (OP X.K):=by
 intro δ s σ H xs us Q I r h;obtain ⟨p,ns,rfl,hq,q⟩:=h;obtain ⟨u,rfl,r1⟩:=gF r;cases r1;obtain ⟨its,rv,pl,hz⟩:=I.list hq;obtain ⟨ts,rfl,rfl⟩:=jn rv;have e:(ts.map λp=>Value.int p.1 p.2).toArray=intItems ts.toArray:=by simp [intItems]
 have hl:=pl.isList;rw [e] at hl;refine sum_intListG (I.ok.hd hc) hl λh' tk t' hk=> ?_;refine ⟨.int (ts.map (·.1)).sum,H,I.kept hk,⟨t', ?_⟩,q⟩;rw [preSum_eq,List.take_of_length_le (by simp)]
def Na:List Dt->Ms->DQ->Prop
 | [d],M,q=>∃ns:List Int,gJ M d=some (ns.map .int)/\(∃xs ok,jD M d=some (xs,ok))/\q (.int ns.sum) M
 | _,_,_=>False
theorem gY{K:fv}{G:Hp}{L:List Addr}:∀{ns:List Int} {vs:List V},Θ K G L (ns.map Dt.int) vs->vs=ns.map V.int
 | [],_,h=>h
 | _::_,_,⟨v,r,e,h1,h2⟩=>by have h1:v=_:=h1;rw [e,h1,gY h2];rfl
theorem kW{M:Ms}{d:Dt}{xs:List Dt}{ok:Ms->Prop}(h:jD M d=some (xs,ok)):gJ M d=some xs:=by
 cases d with
 | lst ds=>cases h;rfl
 | dM ns=>cases h;rfl
 | loc k=>
  have h:(match M[k]? with | some (.lst xs)=>some (xs,λM':Ms=>M'[k]? =some (.lst xs)) | _=>none)=some (xs,ok):=h;show (match M[k]? with | some (.lst xs)=>some xs | _=>none)=some xs;split at h
  ·rename_i ys hm;cases h;rfl
  ·cases h
 | _=>cases h
theorem SJ{K:fv}:GS K (OP K) Na:=by
 intro G0 L0 H0 G L M H vs ds q e r n h;unfold Na at h;split at h
 ·rename_i d;obtain ⟨v,rfl,n1⟩:=aM n;obtain ⟨ns,hs,⟨xs,ok,hl⟩,hq⟩:=h;obtain ⟨a,us,rfl,sq,sr,aB⟩:=zF r n1 hl;rw [kW hl] at hs;cases hs;obtain ⟨ws,NP,dn⟩:=sr.at_ G L M H (.refl _) (.refl _) r aB;rw [gY dn] at NP;exact ⟨a,ns,rfl,NP, .int ns.sum,G,L,M,e,r,rfl,hq⟩
 ·exact h.elim
theorem BH:bootBuiltins "sum"=some (.builtin "sum"):=by decide+kernel
theorem yk:bootBuiltins "enumerate"=some (.type "enumerate"):=by decide+kernel
section
variable{X:Cx}{R:St->XK}{e a b:Expr}{t:DA}{ta tb:DE}{p pos:Pos}
theorem EO(hm:X.mg "sum"=none)(ha:JA X R [e] t)(hc:X.calm=true:=by rfl)(hg:Gl X "sum":=by rfl)(he:starEach [e] X.env=(false,eval e X.env)::starEach [] X.env:=by rfl)(fQ:(backTo pos (starEach [] X.env)).any (·.1)=false:=by rfl):JE X R (.Call (.Name "sum" p) [e] [] pos) (ya Na t):=
 jq (Ef hc) SJ hm BH ha hg (by decide) (by decide) he fQ
def Qy:Dt->Dt->Ms->DQ->Prop:=λd e M q=>∃u xs us,wW d=some u/\gJ M e=some xs/\i4 xs=some us/\q (.bl (Q1 u us)) M
theorem RH{K:fv}:rn K (VP K false) Qy:=by intro G0 L0 H0 G L M H v1 v2 d1 d2 q e r n1 n2 ⟨u,xs,us,h1,h2,h3,hq⟩;obtain ⟨rfl,fu⟩:=k8 h1 n1;obtain ⟨a,vs,rfl,sq,dn⟩:=oV r n2 h2;obtain ⟨rfl,fs⟩:=eF h3 dn;exact ⟨a,vs,rfl,sq,fu,fs, .bl _,G,L,M,e,r,rfl,hq⟩
theorem Nh(ja:JE X R a ta)(jb:JE X R b tb)(hm:behindInMarks .In b=false:=by rfl):JT X R (.Compare a [.In] [b] pos) (qr (kP Qy ta tb)):=kJ B6 RH ja jb hm
end
theorem Inv.BN{X:Cx}{δ:List (Addr×Obj)}{σ:St}{H:Hp}{s:Shared}{h':Heap}{its:List Addr}{T:Addr}{o:HO}{t':Nat}(I:Inv X δ σ H s)(k:∀b u,b∉its->s.heap.get? b=some u->h'.get? b=some u)(f:∀b∈its,rT X δ H b)(hT:s.heap.objs.size<=T)(new:bh X.prog X.w (upd H T o) h' T o):
  Inv X δ σ (upd H T o) {s with heap:=h',toks:=t'}:=by
 have hn:=I.aB.fresh hT;have VH:∀b u,H b=some u->b∉its:=λb u e z=>by rw [(f b z).1] at e;cases e
 refine I.call (ch:=its) (g':=s.gens) (d':=s.drawn) (t':=t') ⟨λb u q _ _ hb=>k b u hb q,λb u q _ _ hb=>⟨u.slots,k b u hb q⟩,λb u q n _=> ?_,λb u q hb=>⟨u,k b u hb q⟩,λb xs q=> ?_,λb u xs q=> ?_,λb ps q=>⟨#[], ?_⟩⟩ (λb u e=> ?_) I.bare λb hb=> ?_
 ·rw [Ζ (aaM (aaE (aat q) hT))];exact n
 ·rw [Ζ (bG q hn)];exact q
 ·rw [Ζ (bG q hn)];exact q
 ·rw [Ζ (bG q hn),q];simp
 ·by_cases hb:b=T
  ·subst hb;rw [Τ] at e;cases e;exact new
  ·rw [Ζ hb] at e;refine (I.aB b u e).Cq (λc v hc q=>k c v ?_ q) (λc q=>by rw [Ζ (bG q hn)];exact q) λc xs q=>by rw [Ζ (bG q hn)];exact q
   rcases hc with z | z
   ·rw [z];exact VH b u e
   ·exact VH c _ z
 ·obtain ⟨f0,f1,f2,f3,f4,f5⟩:=f b hb;exact ⟨f3,f1,f4,f5⟩
def U8(K:fv)(l:Addr):It:=
 ⟨λi H=>∃xs x,fm K H l xs/\xs[i]? =some x,λi H v H'=>∃p x,H p=none/\v= .ref p/\H'=upd H p (.tup [.int i,x])/\∀xs,fm K H l xs->xs[i]? =some x,λi H=>∃xs,fm K H l xs/\xs.length<=i⟩
theorem BI{P:Program}{w:World}{K:fv}{elts:List Expr}{x1:Nat}{tp:Pos}(l it e:Addr)(gE:e≠it):si P w K (.Tuple elts x1 tp) (U8 K l) [e,it] e (λi h=>(∃old,IsEnum h e it i old)/\h.IsListIter it l i) where
 mem:=by simp
 obj:=λi h st b hb=>by
  obtain ⟨⟨old,he⟩,hi⟩:=st;rcases aaB.mp hb with rfl | hb
  ·exact ⟨_,he,λv z=>by
    have z':Data.fields _=Data.cell v:=z
    cases z'⟩
  ·have e:b=it:=by simpa using hb
   subst e;obtain ⟨o,e,c,d⟩:=hi;exact ⟨o,e,λv z=>by rw [d] at z;cases z⟩
 keep:=λi h h' st k=>by obtain ⟨⟨old,he⟩,hi⟩:=st;exact ⟨⟨old,k e (by simp) _ he⟩,hi.at λo q=>k it (by simp) o q⟩
 item:=by
  intro X hP hw hK hc i δ s σ H E I hf st hg;subst hP hw hK;obtain ⟨⟨old,he⟩,hi⟩:=st;obtain ⟨xs,x,hq,hx⟩:=hg;obtain ⟨its,rv,p,hz⟩:=I.list hq;obtain ⟨u,hu,ru⟩:=rv.get hx;refine wpAny_pyNext_enum_item he hi p.isList (x:=u) (by simpa using hu) gE λh' ho GI hT hsz hk=> ?_;refine ⟨_,rfl,wpAny_letOwnedTupleGo_enum (s:={s with heap:=h',toks:=s.toks+1}) ho λh2 ZN sb=> ?_⟩;have sb:Heap.SameBut e h' h2:=sb;have elt:e < s.heap.objs.size:=aat he;have yQ:it < s.heap.objs.size:=by obtain ⟨o,q,_⟩:=hi;exact aat q
  have neT:s.heap.objs.size≠e:=Nat.ne_of_gt elt;have ZY:h2.get? s.heap.objs.size=some {cls:= .type "tuple",data:= .seq #[.int i s.toks,u]}:=(sb.2 _ neT).trans hT;have I2:Inv X δ σ (upd H s.heap.objs.size (.tup [.int i,x])) {s with heap:=h2,toks:=s.toks+1}:=by
   refine I.BN (its:=[e,it]) (λb o hb q=> ?_) hf (aal _) ?_
   ·have h1:b≠e:=λz=>hb (by simp [z]);have h3:b≠it:=λz=>hb (by simp [z]);exact (sb.2 b h1).trans (hk b o h1 h3 q)
   ·refine ⟨by simp [sizeLine_eq],[.int i s.toks,u], .cons ⟨_,rfl⟩ (.cons ru .nil), ?_⟩;exact ⟨_,ZY,rfl,0,rfl⟩
  have iter:h2.IsListIter it l (i+1):=GI.at λo q=>(sb.2 it (Ne.symm gE)).trans q;refine ⟨.ref s.heap.objs.size,_,I2,rfl,⟨s.heap.objs.size,x,I.aB.fresh (Nat.le_refl _),rfl,rfl,λys hy=>by rw [I.cg hy hq];exact hx⟩,⟨⟨u,by simpa using ZN⟩,iter⟩,λb hb=> ?_⟩;have nb:b≠s.heap.objs.size:=by
   rcases aaB.mp hb with rfl | hb
   ·exact aaM elt
   ·have:b=it:=by simpa using hb
    subst this;exact aaM yQ
  rw [Ζ nb];exact (hf b hb).1
 done:=by intro X hP hw hK hc i δ s σ H E I hf st hg;subst hP hw hK;obtain ⟨⟨old,he⟩,hi⟩:=st;obtain ⟨xs,hq,hx⟩:=hg;obtain ⟨its,rv,p,hz⟩:=I.list hq;have hl:=rv.length;obtain ⟨f0,f1,f2,f3,f4,f5⟩:=hf it (by simp);refine wpAny_pyNext_enum_end (I.ok.hd hc) he hi p.isList (by simp;omega) λh' ext=>⟨rfl,I.turned (t':=s.toks) (λb o hb q=>ext b o hb q) f0 f1 f3 f4 f5⟩
 self:=λ_ _ _ _ _ st h=>by obtain ⟨⟨old,he⟩,_⟩:=st;exact wpAny_pyIter_enum he h
def jK:Nat->List Dt->List Dt
 | _,[]=>[]
 | n,x::xs=> .tup [.int n,x]::jK (n+1) xs
theorem kU:∀(n:Nat) (xs:List Dt),(jK n xs).length=xs.length
 | _,[]=>rfl
 | n,_::xs=>by unfold jK;rw [List.length_cons,List.length_cons,kU]
theorem tj:∀{n i:Nat} {xs:List Dt} {d:Dt},(jK n xs)[i]? =some d->∃x,xs[i]? =some x/\d= .tup [.int ((n+i:Nat):Int),x]
 | n,i,[],d,h=>by simp [jK] at h
 | n,0,x::xs,d,h=>by unfold jK at h;simp at h;exact ⟨x,rfl,by rw [<-h];simp⟩
 | n,i+1,x::xs,d,h=>by unfold jK at h;obtain ⟨y,h1,h2⟩:=tj (n:=n+1) (i:=i) (xs:=xs) (d:=d) (by simpa using h);exact ⟨y,by simpa using h1,by rw [h2,show n+1+i=n+(i+1) by omega]⟩
theorem Gj{K:fv}{G:Hp}{L:List Addr}{a:Addr}{xs:List Dt}{ok:Ms->Prop}(s:Src K a xs ok G L):Jx K (U8 K a) (jK 0 xs) ok G L where
 go:=λi G1 L1 M1 H1 d g l r k e=>by obtain ⟨vs,hs,n⟩:=s.at_ G1 L1 M1 H1 g l r k;obtain ⟨y,ey,rfl⟩:=tj e;obtain ⟨v,e1,n1⟩:=n.get ey;refine ⟨⟨vs,v,hs,e1⟩,λv' H' ⟨p,x,hp,ev,eH,hx⟩=> ?_⟩;subst ev eH;have e2:=hx vs hs;rw [e1] at e2;cases e2;refine ⟨_,r.LD hp,r.Fj hp,lJ (ds:=[.int ((0+i:Nat):Int),y]) r hp ⟨_,_,rfl, ?_,_,_,rfl,n1,rfl⟩⟩;show V.int i=V.int _;rw [Nat.zero_add]
 stop:=λi G1 L1 M1 H1 g l r k e=>by obtain ⟨vs,hs,n⟩:=s.at_ G1 L1 M1 H1 g l r k;exact ⟨vs,hs,by rw [<-n.length,<-kU 0];exact e⟩
def N3(t:DA):DK:=λρ M q x=>t ρ M (λds M1=>∃d xs ok,ds=[d]/\jD M1 d=some (xs,ok)/\q (jK 0 xs) ok M1) x
theorem IA{X:Cx}{R:St->XK}{elts:List Expr}{x1:Nat}{tp:Pos}{a:Expr}{t:DA}{p pos:Pos}(hm:X.mg "enumerate"=none)(ha:JA X R [a] t)(hg:Gl X "enumerate":=by rfl)(hs:starEach [a] X.env=[(false,eval a X.env)]:=by rfl):JK X R (.Tuple elts x1 tp) (.Call (.Name "enumerate" p) [a] [] pos) (N3 t):=by
 intro δ s σ H Q I ⟨G,L,ρ,M,q,x,rl,n,ht,hx,hQ⟩;refine Call_ (vH I hg hm yk (PyProof.Rows.callWith_type1 (bx (ha pos δ s σ H (Nl X.K G L H _) I ⟨G,L,ρ,M,_,x,rl,n,ht,hx,λ_ _ f=>f⟩) λus s1 ⟨vs,H1,I1,rv,ds,G1,L1,M1,e1,r1,n1,d,xs,ok,ed,hl,h1⟩=> ?_) hs rfl));subst ed;obtain ⟨v,rfl,n2⟩:=aM n1;obtain ⟨b,ws,rfl,sq,sr,_⟩:=zF r1 n2 hl;obtain ⟨u,rfl,ru⟩:=ao.one rv;cases ru;obtain ⟨its,_,pl,_⟩:=I1.list sq;refine call_enumerate_list pl.isList λh' he hi hz hk=> ?_;have I2:Inv X δ σ H1 {s1 with heap:=h'}:=I1.kept (t':=s1.toks) hk;refine wpAny_pyIter_enum (s:={s1 with heap:=h'}) he ⟨s1.heap.objs.size+1,[s1.heap.objs.size+1,s1.heap.objs.size],_,_,H1,rfl,I2,BI b s1.heap.objs.size (s1.heap.objs.size+1) (Nat.ne_of_gt (Nat.lt_succ_self _)),⟨⟨_,he⟩,hi⟩,λc hc=> ?_,hQ _ _ ⟨_,ok,G1,L1,M1,e1,r1,Gj sr,h1⟩⟩;have hc:s1.heap.objs.size<=c:=by
  rcases aaB.mp hc with rfl | hc
  ·exact Nat.le_succ _
  ·have:c=s1.heap.objs.size:=by simpa using hc
   rw [this];exact aal _
 have f:=I1.yP (H':=H1) hc (I1.aB.fresh hc);exact f
section
variable{X:Cx}{R:St->XK}{e e2:Expr}{t:DA}{p pos:Pos}
theorem sZ:∀{zs:List Str} {us:List Value},Paired (λ(z:Str) (u:Value)=>∃tk,u= .str z tk) zs us->ao (zs.map V.str) us
 | _,_, .nil=> .nil
 | _,_, .cons h t=> .cons h (sZ t)
theorem PY{x:Str}{zs:List Str}(hm:∃a o its n,X.mg x=some (.ref a)/\X.K.lookup a=some o/\o.cls= .type "tuple"/\o.data= .seq its n/\its.size<=sizeLine/\Paired (λ(z:Str) (u:Value)=>∃tk,u= .str z tk) zs its.toList)(hg:Gl X x:=by rfl)(hd:(x==("__debug__":Str))=false:=by decide):JE X R (.Name x pos) (dC (.kt (zs.map .str))):=by obtain ⟨a,o,its,n,h1,h2,h3,h4,h5,h6⟩:=hm;exact NM (v:= .ref a) (A5 hg h1 rfl hd) λG L=>⟨a,zs.map V.str,rfl, .inr ⟨o,its,n,h2,h3,h4,h5,sZ h6⟩,sL⟩
end
theorem cM{te:DE}{cs:En}{ok:Ms->Prop}{f:Dt->Dt}:∀{xs af:List Dt} {M:Ms} {k:List Dt->Ms->Prop},ok M->(∀x∈xs,∀q:DQ,q (f x) M->te (some x::cs) M q jw)->k (af++xs.map f) M->gr te cs ok xs af M k
 | [],af,M,k,ho,_,h=>⟨ho,by simpa using h⟩
 | x::xs,af,M,k,ho,hf,h=>⟨ho,hf x List.mem_cons_self _ (cM ho (λy hy=>hf y (List.mem_cons_of_mem _ hy)) (by simpa using h))⟩
theorem dH{g:Dt->En->(En->Prop)->Prop}{tb:DS}{Dn:nN}{ok:Ms->Prop}(J:List Dt->En->Ms->Prop)(aB:∀xs ρ M,J xs ρ M->ok M)
  (step:∀x xs ρ M,J (x::xs) ρ M->(∀ρ M,J xs ρ M->ia g tb Dn ok xs ρ M)->g x ρ λρ'=>tb {Dn with nx:=ia g tb Dn ok xs,ct:=ia g tb Dn ok xs,bk:=Dn.nx} ρ' M)
  (fin:∀ρ M,J [] ρ M->Dn.nx ρ M):∀(xs:List Dt) (ρ:En) (M:Ms),J xs ρ M->ia g tb Dn ok xs ρ M
 | [],ρ,M,h=>⟨aB _ _ _ h,fin _ _ h⟩
 | x::xs,ρ,M,h=>⟨aB _ _ _ h,step x xs ρ M h λρ' M' h'=>dH J aB step fin xs ρ' M' h'⟩
section
variable{K:fv}{G:Hp}{L:List Addr}
mutual
theorem ME:∀(d:Dt) (v:V),Den K G L d v->d.under L.length
 | .bV,_,_=>trivial
 | .bl _,_,_=>trivial
 | .int _,_,_=>trivial
 | .str _,_,_=>trivial
 | .tup ds,_,⟨a,vs,e,h1,h2⟩=>cW ds vs h2
 | .lst ds,_,⟨a,vs,e,h1,h2⟩=>cW ds vs h2
 | .obj C ns ds,_,⟨a,dx,vs,e,h1,hl,h2⟩=>cW ds vs h2
 | .loc k,_,⟨a,e,h1⟩=>(aad.mp h1).1
 | .ref _,_,_=>trivial
 | .ty _,_,_=>trivial
 | .dM _,_,_=>trivial
 | .kt ds,_,⟨a,vs,e,h1,h2⟩=>cW ds vs h2
 | .exc _ _ ds,_,⟨a,od,vs,e,h1,h2,h3,h4⟩=>cW ds vs h4
 | .Ou _ _ _ _ ds,_,⟨vs,e,h2,h3,h4⟩=>cW ds vs h4
theorem cW:∀(ds:List Dt) (vs:List V),Θ K G L ds vs->Dt.bz L.length ds
 | [],_,_=>trivial
 | d::ds,_,⟨v,r,e,h1,h2⟩=>⟨ME d v h1,cW ds r h2⟩
end
theorem Rl.un{M:Ms}{H:Hp}(r:Rl K G L M H):∀m∈M,MO.under M.length m:=λm hm=>by
 obtain ⟨k,hk,e⟩:=List.getElem_of_mem hm;have em:M[k]? =some m:=by rw [aaa hk,e]
 have el:L[k]? =some (L[k]'(by rw [r.len];exact hk)):=aaa _;obtain ⟨_,q⟩:=r.fg k _ m el em;rw [<-r.len];cases m with
 | lst ds=>obtain ⟨vs,_,h⟩:=q;exact cW _ _ h
 | ins C ns ds=>obtain ⟨dx,vs,_,_,h⟩:=q;exact cW _ _ h
 | jF ks ds=>obtain ⟨vs,_,_,h⟩:=q;exact cW _ _ h
 | raw u=>trivial
 | JD u ds=>obtain ⟨vs,_,h⟩:=q;exact cW _ _ h
end
def uu(M0:Ms)(q:DQ):DQ:=λd M=>∃E d',M=M0++E/\B3 M0.length E d d'/\q d' M0
theorem Fin.uu{K:fv}{G0:Hp}{L0:List Addr}{M0:Ms}{H0:Hp}{q:DQ}{v:V}{H:Hp}(r0:Rl K G0 L0 M0 H0)(f:Fin K G0 L0 H0 (uu M0 q) v H):Fin K G0 L0 H0 q v H:=by obtain ⟨d,G,L,M,ex,r,dn,E,d',e,fz,hq⟩:=f;exact Fin.AS r0 ⟨d,G,L,M,ex,r,dn,M0,E,d',e,rfl,r0.un,fz,hq⟩
def VO(t:DE):DE:=λρ M q x=>t ρ M (uu M q) x
theorem dR{X:Cx}{R:St->XK}{e:Expr}{t:DE}(h:JE X R e t):JE X R e (VO t):= .of h λσ H G L ρ M q x rl n ht hx=>⟨G,L,ρ,M,_,x,rl,n,ht,hx,λv H1 f=>Fin.uu rl f⟩
theorem G8{M0:Ms}{q:DQ}{d:Dt}(hu:d.under M0.length)(h:q d M0):uu M0 q d M0:=⟨[],d,by simp, .old hu,h⟩
theorem mz{M0 E:Ms}{q:DQ}{d d':Dt}(f:B3 M0.length E d d')(h:q d' M0):uu M0 q d (M0++E):=⟨E,d',rfl,f,h⟩
def eC(f:Expr->Option Dt):List Expr->Option (List Dt)
 | []=>some []
 | e::es=>match f e,eC f es with
  | some d,some ds=>some (d::ds)
  | _,_=>none
def e_:Nat->Expr->Option Dt
 | 0,e=>match e with
  | .Constant (.int i) _ _=>some (.int i)
  | .Constant (.str x) _ _=>some (.str x)
  | _=>none
 | n+1,e=>match e with
  | .Constant (.int i) _ _=>some (.int i)
  | .Constant (.str x) _ _=>some (.str x)
  | .Tuple es _ _=>if es.length<=100 then (eC (e_ n) es).map .tup else none
  | .List es _=>if es.length<=100 then (eC (e_ n) es).map .lst else none
  | _=>none
theorem yo{n:Nat}{e:Expr}{d:Dt}{es:List Expr}{env:Env}(h:e_ n e=some d):starEach (e::es) env=(false,eval e env)::starEach es env:=by cases n <;> (unfold e_ at h;split at h <;> first | rfl | cases h)
theorem iJ{f:Expr->Option Dt}:∀{es:List Expr} {ds:List Dt},eC f es=some ds->ds.length=es.length
 | [],ds,h=>by cases h;rfl
 | e::es,ds,h=>by
  unfold eC at h;split at h
  ·rename_i d GR h1 h2;cases h;rw [aaO,aaO,iJ h2]
  ·cases h
section
variable{X:Cx}{R:St->XK}
theorem pI{n:Nat}(ih:∀(e:Expr) (d:Dt),e_ n e=some d->JE X R e (dC d)):∀(es:List Expr) (ds:List Dt),eC (e_ n) es=some ds->JA X R es (λ_ M q _=>q ds M)
 | [],ds,h=>by cases h;exact ε
 | e::es,ds,h=>by
  unfold eC at h;split at h
  ·rename_i d GR h1 h2;cases h;exact ζ (ih e d h1) (pI ih es GR h2) (hs:=yo h1)
  ·cases h
theorem AH{n:Nat}(h:n<=100):n<=sizeLine:=aax h (by decide)
theorem JE.imp{e:Expr}{t t':DE}(h:JE X R e t)(hi:∀ρ M q x,t' ρ M q x->t ρ M q x):JE X R e t':= .of h λσ H G L ρ M q x rl n ht hx=>⟨G,L,ρ,M,q,x,rl,n,hi _ _ _ _ ht,hx,λ_ _ f=>f⟩
theorem oY:∀(n:Nat) {e:Expr} {d:Dt},e_ n e=some d->JE X R e (dC d)
 | 0,e,d,h=>by
  unfold e_ at h;split at h
  ·cases h;exact ν
  ·cases h;exact fX
  ·cases h
 | n +1,e,d,h=>by
  unfold e_ at h;split at h
  ·cases h;exact ν
  ·cases h;exact fX
  ·split at h
   ·rename_i es _ _ hl;cases hc:eC (e_ n) es with
    | none=>rw [hc] at h;cases h
    | some ds=>
     rw [hc] at h;cases h;exact (aD (pI (λe d=>oY n) es ds hc)).imp λρ M q x hq=>⟨AH (by rw [iJ hc];exact hl),hq⟩
   ·cases h
  ·split at h
   ·rename_i es _ hl;cases hc:eC (e_ n) es with
    | none=>rw [hc] at h;cases h
    | some ds=>
     rw [hc] at h;cases h;exact (nD (pI (λe d=>oY n) es ds hc)).imp λρ M q x hq=>⟨AH (by rw [iJ hc];exact hl),hq⟩
   ·cases h
  ·cases h
end
theorem h7{g:Dt->En->(En->Prop)->Prop}{tc:DT}{te:DE}{ρ0:En}{ok:Ms->Prop}{M:Ms}{k:List Dt->Ms->Prop}(ho:ok M)(b:Dt->Bool)(f:Dt->Dt):∀(xs af:List Dt),(∀x∈xs,∀(q:DQ) (p:Ms->Prop),(b x=true->q (f x) M)->(b x=false->p M)->g x ρ0 λρ'=>tc ρ' M (λb' M1=>match b' with | true=>te ρ' M1 q jw | false=>p M1) jw)->
  k (af++(xs.filter b).map f) M->iY g tc te ρ0 ok xs af M k
 | [],af,_,h=>⟨ho,by simpa using h⟩
 | x::xs,af,ht,h=>⟨ho,ht x List.mem_cons_self _ _ (λhb=>h7 ho b f xs _ (λy hy=>ht y (List.mem_cons_of_mem _ hy)) (by simpa [hb] using h)) λhb=>h7 ho b f xs _ (λy hy=>ht y (List.mem_cons_of_mem _ hy)) (by simpa [hb] using h)⟩
theorem su(xs:List V)(k:Nat):se xs (some (k:Int)) none=xs.drop k:=by
 unfold se;rw [HT.oG,HT.xM];by_cases h:k<=xs.length
 ·rw [Nat.min_eq_left h,List.take_of_length_le (by rw [abR];omega)]
 ·rw [Nat.min_eq_right (by omega),List.drop_eq_nil_of_le (Nat.le_refl _),List.drop_eq_nil_of_le (by omega)];simp
def OA(te tl:DE):DE:=λρ M q x=>te ρ M (λd M1=>tl ρ M1 (λdi M2=>∃ds n,d= .tup ds/\di= .int (n:Nat)/\1<=n/\1<=ds.length/\q (.tup (ds.drop n)) M2) x) x
theorem B2{X:Cx}{R:St->XK}{e l:Expr}{te tl:DE}{pos p2:Pos}(he:JE X R e te)(hl:JE X R l tl):JE X R (.Subscript e (.Slice (some l) none none p2) pos) (OA te tl):=
 .of (k9 Fc he (oW hl) oE) λσ H G L ρ M q x rl n h hx=>by
  refine ⟨G,L,ρ,M,_,x,rl,n,h,hx,λv H1 ⟨d1,G1,L1,M1,e1,r1,n1,h1⟩=> ?_⟩;refine ⟨G1,L1,ρ,M1,_,x,r1,n.mono e1,h1,hx.on e1,λv2 H2 ⟨d2,G2,L2,M2,e2,r2,n2,ds,k,ed,ei,k1,l1,h2⟩=> ?_⟩;subst ed ei;obtain ⟨a,vs,rfl,ea,m⟩:=Den.mono e2.g e2.l _ _ n1;have n2:v2= .int k:=n2;subst n2;have lv:=m.length;refine ⟨k,rfl,a,vs,rfl, .of (r2.sub _ _ ea),λz=> ?_,λp hp=> ?_⟩
  ·rw [HT.oG] at z;omega
  ·rw [su];exact gQ (e1.trans e2) r2 hp (lJ r2 hp (Θ.of (qa k m.pair))) h2
section
variable{κ:Type} [DecidableEq κ]
def gk(ω:List (κ×V))(k:κ):Option V:=(ω.find? λkv=>decide (kv.1=k)).map (·.2)
def putK(ω:List (κ×V))(k:κ)(v:V):List (κ×V):=
 if (ω.any λkv=>decide (kv.1=k))=true then ω.map (λkv=>if kv.1=k then (kv.1,v) else kv) else ω++[(k,v)]
theorem iA{p:κ×V}{r:List (κ×V)}{k:κ}(e:p.1=k):gk (p::r) k=some p.2:=by simp [gk,List.find?_cons,e]
theorem gz{p:κ×V}{r:List (κ×V)}{k:κ}(e:¬p.1=k):gk (p::r) k=gk r k:=by simp [gk,List.find?_cons,e]
theorem wX(k:κ):∀ω:List (κ×V),(ω.any λkv=>decide (kv.1=k))=(gk ω k).isSome
 | []=>rfl
 | p::r=>by
  rw [abC];by_cases e:p.1=k
  ·simp only [iA e,decide_eq_true e,Bool.true_or,Option.isSome_some]
  ·rw [gz e,aaK e,Bool.false_or];exact wX k r
theorem xi(ω:List (κ×V))(k:κ)(v:V):(putK ω k v).length<=ω.length+1:=by
 unfold putK;split
 ·rw [aac];omega
 ·rw [aai,aaO,List.length_nil];omega
theorem fZ.BO{o:Option V}{u:Option Value}(r:fZ o u):o.isSome=u.isSome:=by
 cases o with
 | none=>cases u with
  | none=>rfl
  | some _=>exact (show False from r).elim
 | some _=>cases u with
  | none=>exact (show False from r).elim
  | some _=>rfl
theorem fZ.getD{o:Option V}{u:Option Value}{d:V}{d':Value}(r:fZ o u)(rd:ag d d'):ag (o.getD d) (u.getD d'):=by
 cases o with
 | none=>cases u with
  | none=>exact rd
  | some _=>exact (show False from r).elim
 | some _=>cases u with
  | none=>exact (show False from r).elim
  | some _=>exact r
theorem KV.val{ω:List (κ×V)}{vs:List (κ×Value)}(r:KV ω vs)(k:κ):fZ (gk ω k) (valueAt vs k):=by
 unfold KV at r
 induction r with
 | nil=>exact True.intro
 | @cons p q ps qs h t ih=>
  obtain ⟨h1,h2⟩:=h;by_cases e:p.1=k
  ·have e':q.1=k:=h1.symm.trans e;have b:valueAt (q::qs) k=some q.2:=by simp [valueAt,List.find?_cons,e']
   rw [iA e,b];exact h2
  ·have e':¬q.1=k:=λz=>e (h1.trans z);have b:valueAt (q::qs) k=valueAt qs k:=by simp [valueAt,List.find?_cons,e']
   rw [gz e,b];exact ih
theorem KV.any{ω:List (κ×V)}{vs:List (κ×Value)}(r:KV ω vs)(k:κ):(ω.any λkv=>decide (kv.1=k))=vs.any λkv=>decide (kv.1=k):=by
 unfold KV at r
 induction r with
 | nil=>rfl
 | cons h t ih=>rw [abC,abC,ih,h.1]
theorem KV.Kk{ω:List (κ×V)}{vs:List (κ×Value)}(r:KV ω vs)(k:κ){y:V}{u:Value}(ry:ag y u):
  KV (ω.map λkv=>if kv.1=k then (kv.1,y) else kv) (vs.map λkv=>if kv.1=k then (kv.1,u) else kv):=by
 unfold KV at r⊢
 induction r with
 | nil=>exact .nil
 | @cons p q ps qs h t ih=>
  rw [aav,aav];refine .cons ?_ ih;obtain ⟨h1,h2⟩:=h;by_cases e:p.1=k
  ·rw [aaF e,aaF (h1.symm.trans e)];exact ⟨h1,ry⟩
  ·rw [aaA e,aaA (λz=>e (h1.trans z))];exact ⟨h1,h2⟩
theorem KV.put{ω:List (κ×V)}{vs:List (κ×Value)}(r:KV ω vs)(k:κ){y:V}{u:Value}(ry:ag y u):KV (putK ω k y) (stored vs k u):=by
 unfold putK stored;rw [r.any k];by_cases e:(vs.any λkv=>decide (kv.1=k))=true
 ·rw [aaF e,aaF e];exact r.Kk k ry
 ·rw [aaA e,aaA e];exact Paired.snoc r ⟨rfl,ry⟩
theorem KV.length{ω:List (κ×V)}{vs:List (κ×Value)}(r:KV ω vs):ω.length=vs.length:=Paired.length r
end
theorem xq{P:Program}{w:World}{k:Key}{u:Value}(r:ag (kV k) u):(ax P w).is k u=true:=by
 cases k with
 | inl i=>obtain ⟨t,e⟩:=(show∃t,u=Value.int i t from r);subst e;exact xh P w i t
 | inr x=>obtain ⟨t,e⟩:=(show∃t,u=Value.str x t from r);subst e;exact v9 P w x t
theorem tD{P:Program}{w:World}:∀{ks:List Key} {us:List Value},ao (ks.map kV) us->ItemsAre (ax P w) ks us
 | [],_,r=>by rw [List.map_nil] at r;cases r;exact .nil
 | k::ks,_,r=>by
  rw [aav] at r;cases r with
  | cons h t=>exact .cons (xq h) (tD t)
abbrev KT(H:Hp):List (List Key×V)->List (List Key×Addr×Value)->Prop:=Paired λp q=>p.1=q.1/\H q.2.1=some (.tup (p.1.map kV))/\ag p.2 q.2.2
theorem KT.val{H:Hp}{ω:List (List Key×V)}{xs:List (List Key×Addr×Value)}(r:KT H ω xs)(k:List Key):fZ (gk ω k) ((atKey xs k).map (·.2)):=by
 induction r with
 | nil=>exact True.intro
 | @cons p q ps qs h t ih=>
  obtain ⟨h1,_,h2⟩:=h;by_cases e:p.1=k
  ·have e':q.1=k:=h1.symm.trans e;have b:atKey (q::qs) k=some q.2:=by simp [atKey,List.find?_cons,e']
   rw [iA e,b];exact h2
  ·have e':¬q.1=k:=λz=>e (h1.trans z);have b:atKey (q::qs) k=atKey qs k:=by simp [atKey,List.find?_cons,e']
   rw [gz e,b];exact ih
section
variable{P:Program}{w:World}{H:Hp}{h:Heap}{a:Addr}
theorem JV{u:HO}(ok:iL P w H h)(e:Rd H a u):bh P w H h a u:=e.ok ok
theorem wu{ω:List (Key×V)}(ok:iL P w H h)(e:Rd H a (.dK ω)):ω.length<=sizeLine/\(a==sysModules)=false/\∃vs,KV ω vs/\h.DictOf (ax P w) a vs:=
 show bh P w H h a (.dK ω) from JV ok e
theorem CZ{ω:List (Key×V)}(ok:iL P w H h)(e:H a=some (.dK ω)):ω.length<=sizeLine/\(a==sysModules)=false/\∃vs,KV ω vs/\h.DictOf (ax P w) a vs:=wu ok (.inl e)
theorem yy{ks:List Key}(ok:iL P w H h)(e:H a=some (.tup (ks.map kV))):(tupleKind (ax P w)).is h ks a:=by obtain ⟨_,its,r,o,h1,h2,n,h3⟩:=(show bh P w H h a (.tup (ks.map kV)) from ok a _ e);exact ⟨o,its.toArray,n,h1,h2,h3,by simpa using tD r⟩
theorem E9{ω:List (List Key×V)}(ok:iL P w H h)(e:Rd H a (.dT ω)):ω.length<=sizeLine/\(a==sysModules)=false/\
  ∃xs,KT H ω xs/\h.DictOfH (tupleKind (ax P w)) a xs:=by
 obtain ⟨z,y,xs,r,o,es,ep,h1,h2,h3,h4,h5⟩:=(show bh P w H h a (.dT ω) from JV ok e);refine ⟨z,y,xs,r,o,es,ep,h1,h2,h3,h4,λx hx=> ?_,h5⟩;have all:∀{l:List (List Key×V)} {m:List (List Key×Addr×Value)},KT H l m->∀x∈m,(tupleKind (ax P w)).is h x.1 x.2.1:=by
  intro l m q
  induction q with
  | nil=>intro x hx;exact nomatch hx
  | @cons p q ps qs hq t ih=>
   intro x hx;rcases aaB.mp hx with e | hx
   ·subst e;exact yy ok (by rw [<-hq.1];exact hq.2.1)
   ·exact ih x hx
 exact all r x hx
end
def LH(H:Hp)(a:Addr)(y:V)(r:Option V):Prop:=
 (∃ω k,Rd H a (.dK ω)/\y=kV k/\r=gk ω k)\/∃ω k b,Rd H a (.dT ω)/\y= .ref b/\H b=some (.tup (k.map kV))/\r=gk ω k
section
variable{X:Cx}{δ:List (Addr×Obj)}{σ:St}{H:Hp}{s:Shared}{a:Addr}{y v:V}{u r:Value}{o:Option V}{A:Around}{E:Value->Shared->Prop}
theorem Inv.big(I:Inv X δ σ H s):sysModules < s.heap.objs.size:=by have h:mainGlobals < s.heap.objs.size:=(I.mod.glob.keeps I.bk).lt;exact Nat.lt_trans (by decide) h
theorem BU{Q:Value->Shared->Prop}(hu:A.units+1 < cLine)(I:Inv X δ σ H s)(g:LH H a y (some v))(ry:ag y u)(h:∀w' s',Inv X δ σ H s'->ag v w'->Q w' s'):
  wpAny (model X.prog X.w) A (getItem (.ref a) u) Q E s:=by
 rcases g with ⟨ω,k,e,ey,l⟩ | ⟨ω,k,b,e,ey,eb,l⟩
 ·subst ey;obtain ⟨z,hd,vs,rel,dd⟩:=wu I.aB e;obtain ⟨w',hw,uQ⟩:=fZ.some_of (v:=v) (o:=valueAt vs k) (by rw [l];exact rel.val k);exact wpAny_getItem_of (xq ry) dd.mapOf hw (h w' _ (I.tok _) uQ)
 ·subst ey;cases (show u=Value.ref b from ry);obtain ⟨z,hd,xs,rel,dd⟩:=E9 I.aB e;obtain ⟨w',hw,uQ⟩:=fZ.some_of (v:=v) (o:=(atKey xs k).map (·.2)) (by rw [l];exact rel.val k);obtain ⟨p,hp,KY⟩:=aaQ.mp hw;refine wpAny_getItem_heap (tupleKind_room_in1 hu) (yy I.aB eb) dd hp ?_;rw [KY];exact h w' _ (I.tok _) uQ
theorem Ad{h':Heap}{t':Nat}{ob:HO}(I:Inv X δ σ H s)(mu:Lf (H a))(hs:Heap.SameBut a s.heap h')(he:∃q,h'.get? a=some q)(new:bh X.prog X.w (upd H a ob) h' a ob):
  Inv X δ σ (upd H a ob) {s with heap:=h',toks:=t'}:=
 I.write (x:=a) (e:=a) mu (.inl rfl) (λb q hb z=>(hs.2 b hb).trans z) he new
theorem Ep{P:Program}{w:World}{H':Hp}{h':Heap}{ω:List (Key×V)}{vs:List (Key×Value)}(z:ω.length<=sizeLine)(hd:(a==sysModules)=false)(rel:KV ω vs)(dd:h'.DictOf (ax P w) a vs):
  bh P w H' h' a (.dK ω):=⟨z,hd,vs,rel,dd⟩
end
section
variable{X:Cx}{δ:List (Addr×Obj)}{σ:St}{H:Hp}{s:Shared}{a:Addr}{ω:List (Key×V)}{k:Key}{u:Value}{A:Around}{E:Value->Shared->Prop}
theorem Qa{Q:Value->Shared->Prop}(I:Inv X δ σ H s)(e:Rd H a (.dK ω))(h:∀t s',Inv X δ σ H s'->Q (.int ω.length t) s'):wpAny (model X.prog X.w) A (call (.builtin "len") [.ref a]) Q E s:=by obtain ⟨z,hd,vs,rel,dd⟩:=wu I.aB e;refine call_len_dict hd dd (by rw [<-rel.length];rw [sizeLine_eq] at z;omega) ?_;rw [<-rel.length];exact h _ _ (I.tok _)
end
def xV(i:Expr):Prop:=∀ov iv,subscripted i false ov iv=operate [ov,iv] (getItem ov iv)
theorem tV{prog:Program}{w:World}{A:Around}{E:Value->Shared->Prop}{s:Shared}{env:Env}{value slice:Expr}{pos:Pos}{T id:String}{Q:Value->Shared->Prop}
  (hl:typeLookup (.type T) "__getitem__"=pure (some (.builtin id))) (hs:xV slice)
  (h:wpAny (model prog w) A (eval value env) (λo s₁=>wpAny (model prog w) A (eval slice env) (λi s₂=>s₂.TypeIs o T/\wpAny (model prog w) A (getItem o i) Q E s₂) E s₁) E s):
  wpAny (model prog w) A (eval (.Subscript value slice pos) env) Q E s:=by
 refine Subscript_ (abv h (λo s₁ h₁=>abv h₁ (λi s₂ h₂=> ?_) λ_ _ x=>x) λ_ _ x=>x);obtain ⟨hT,h₂⟩:=h₂;unfold subscriptTail;refine aab ?_;rw [getitemInPython_of_ne hT.not_modules];refine aab (wpAny_specialOf hT hl ?_);have fin:wpAny (model prog w) A (subscripted slice false o i) (λr s₃=>wpAny (model prog w) A (letTemporaryGo value o r >>= λ_=>pure r) Q E s₃) E s₂:=by rw [hs o i];exact wpAny_operating (abv h₂ (λr s₃ h₃=>aab (wpAny_letTemporaryGo (aae h₃))) λ_ _ x=>x)
 first
  | exact aae (aab fin)
  | exact aab (aae (aab fin))
  | exact aab fin
theorem iZ{X:Cx}{δ:List (Addr×Obj)}{σ:St}{H:Hp}{s:Shared}{a:Addr}{y:V}{o:Option V}(I:Inv X δ σ H s)(g:LH H a y o):s.TypeIs (.ref a) "dict":=by
 rcases g with ⟨ω,k,e,_,_⟩ | ⟨ω,k,b,e,_,_,_⟩
 ·obtain ⟨_,_,vs,_,dd⟩:=wu I.aB e;exact dd.typeIs
 ·obtain ⟨_,_,xs,_,dd⟩:=E9 I.aB e;exact dd.typeIs
def QG(td ty:TE):TE:=λσ H Q=>td σ H λx H1=>ty σ H1 λy H2=>∃a v,x= .ref a/\LH H2 a y (some v)/\Q v H2
section
variable{X:Cx}{o i e value:Expr}{pos pos' K_:Pos}{td ty tv:TE}
theorem I_(hu:X.A.units+1 < cLine)(ho:PE X o td)(hi:PE X i ty)(hs:xV i):PE X (.Subscript o i pos) (QG td ty):=by intro δ s σ H Q I h;refine tV abP.lookup hs (bx (ho δ s σ H _ I h) λu s1 ⟨x,H1,I1,rx,q1⟩=>bx (hi δ s1 σ H1 _ I1 q1) λiv s2 ⟨y,H2,I2,ry,a,v,ex,g,q2⟩=> ?_);subst ex;obtain rfl:u=Value.ref a:=rx;exact ⟨iZ I2 g,BU hu I2 g ry λw' s3 I3 uQ=>⟨v,H2,I3,uQ,q2⟩⟩
end
theorem Gh{P:Program}{w:World}{H:Hp}(h:Heap)(hb:sysModules < h.objs.size):bh P w H (h.push {cls:= .type "dict",data:= .dict #[]}) h.objs.size (.dK []):=
 ⟨abA _,beq_eq_false_iff_ne.mpr (Ne.symm (aaM hb)),[], .nil,Heap.DictOf.new h⟩
def MH:TE:=λ_ H Q=>∀p,H p=none->Q (.ref p) (upd H p (.dK []))
section
variable{X:Cx}{pos:Pos}
theorem Ga:PE X (.Dict [] [] pos) MH:=λδ s σ H Q I h=>
 wpAny_Dict_empty ⟨.ref s.heap.objs.size,_,I.laid (a:=s.heap.objs.size) (o:= .dK []) (t':=s.toks) (λ_ _ q=>aah _ q) (aal _) (Gh s.heap I.big),rfl,h _ (I.aB.fresh (aal _))⟩
end
structure M2(X:Cx)(o:Expr)(m:Str)(apos:Pos)(e f:Expr)(aA:Pos):Prop where
 base:attributeBase o m X.env (eval o X.env)=eval o X.env
 JY:((backTo aA (starEach [e,f] X.env)).all (λx=> !x.1)&&(backToKw aA (keywordEach [] X.env)).all (λx=>x.1.isSome)
  &&decide (([e,f]:List Expr).length+([]:List Keyword).length+(if ([]:List Keyword).isEmpty then 0 else 1) < 30))=true
 line:(apos.endLine==aA.line)=true
 trees:backTo aA (starEach [e,f] X.env)=[(false,eval e X.env),(false,eval f X.env)]
def UK(H:Hp)(a:Addr):Prop:=(∃ω,Rd H a (.dK ω))\/∃ω,Rd H a (.dT ω)
theorem Nj{X:Cx}{δ:List (Addr×Obj)}{σ:St}{H:Hp}{s:Shared}{a:Addr}(I:Inv X δ σ H s)(d:UK H a):
  s.TypeIs (.ref a) "dict"/\(∀b,Value.ref a= .ref b->∃ob,s.heap.get? b=some ob/\ob.dict=none)/\(a==sysModules)=false:=by
 rcases d with ⟨ω,e⟩ | ⟨ω,e⟩
 ·obtain ⟨_,hd,vs,_,dd⟩:=wu I.aB e;refine ⟨dd.typeIs,λb q=> ?_,hd⟩;cases q;obtain ⟨ob,_,_,h1,h2,_⟩:=dd;exact ⟨ob,h1,h2.2.1⟩
 ·obtain ⟨_,hd,xs,_,dd⟩:=E9 I.aB e;refine ⟨dd.typeIs,λb q=> ?_,hd⟩;cases q;obtain ⟨ob,_,_,h1,h2,_⟩:=dd;exact ⟨ob,h1,h2.2.1⟩
end L2
namespace Att
open PySem PySem.W PySem.Calls PyProof.Rows
end Att
namespace L2
open PySem PySem.Spec PyProof.Rows
end L2
/- Xi SI Hw (shape;Xx,My.* are PB):
  My.Y7:a structure of Ja addresses Uu Tj OZ names (classes,BD);My.Txt K t:a structure (Prop) of Ja equations ot K;
  My.zk:{K} {implicit addresses ..} (e1:nsIn K mainGlobals "law"=some (some (.ref f))) (e2:K.lookup f=some ⟨oc,od, .func (fnOf "law" "law" params body scope dV kV doc pm an b8 ct),sl⟩) (e3:codeIn K b8 "law"=true) .. :∃t,My.Txt K t
set_option maxRecDepth 100000 in
set_option maxHeartbeats 0 in
theorem PySem.Challenge.cw_LID_holds : PySem.Challenge.rw_LID.Holds := by
 w_on;o_law;k_head;(case hw=>w_witness2)
 k_fill
 refine L2.vF (l:=PySem.Challenge.rw_LID) (n:=63) (k:=40) (x:="script") (CX:=fun w=> ..) (sp:=fun _=>My.MV) rfl (by decide) rfl ⟨rfl,by decide,by decide⟩ (fun w h Y=>PySem.W.kIn_of Y) ?F ?S ?C
 case F=>
  intro w mg fa h KX G IM;have T:∃t,My.Txt (L2.Ut KX) t:=by
   dsimp only [L2.Ut]
   refine' My.zk ?e1 ?e2 ?e3 ..
   (case e1=>PySem.W.k_is)
   (case e2=>PySem.W.k_is)
   ..
  obtain ⟨t,T⟩:=T;have e0:=IM.symm.trans (PySem.W.mg_of KX G T.WU);cases e0;exact ⟨_,λs u=> .of_eq rfl,λbase kb nb=>My.zj T kb nb⟩
 case S=>exact λw H a ns hl hO hS=> ..
 case C=>exact ..
(Ja tactic k_is has no namespace:write k_is) -/
namespace L2
open PySem PySem.Spec PyProof.Rows
section
variable{X:Cx}
theorem Cu:cH X (.builtin "len") (λxs H Q=>∃a ω,xs=[V.ref a]/\H a=some (.dK ω)/\Q (.int ω.length) H):=by intro δ s σ H xs us Q I r h;obtain ⟨a,ω,rfl,ha,q⟩:=h;obtain ⟨u,rfl,ru⟩:=gF r;cases ru;exact Qa I (.inl ha) λt s' I'=>⟨.int ω.length,H,I',⟨t,rfl⟩,q⟩
end
variable{X:Cx}{G:Hp}{L:List Addr}{v:V}{R:St->XK}{e tg:Expr}{to te:DE}{pos:Pos}{k' n:Nat}{δ:List (Addr×Obj)}{σ:St}{s:Shared}{b:Bool}{t:DA}{w:World}{E:Value->Shared->Prop}{a:Addr}{scope:Scope}{ys:List Str}{Λ:List Nat}{P:Program}{ω:List (Key×V)}
def GY:Dt->Option Key
 | .int i=>some (.inl i)
 | .str z=>some (.inr z)
 | _=>none
def aI(ks:List Key)(ds:List Dt)(k:Key):Option Dt:=((ks.zip ds).find? λp=>decide (p.1=k)).map (·.2)
theorem vf{K:fv}{d:Dt}{k:Key}(h:GY d=some k)(n:Den K G L d v):v=kV k:=by
 cases d with
 | int i=>cases h;exact n
 | str z=>cases h;exact n
 | _=>cases h
theorem gq{K:fv}{G:Hp}{L:List Addr}{k:Key}:∀{ks:List Key} {ds:List Dt} {vs:List V} {d:Dt},Θ K G L ds vs->aI ks ds k=some d->∃v,gk (ks.zip vs) k=some v/\Den K G L d v
 | [],_,_,_,_,h=>by cases h
 | _::_,[],_,_,_,h=>by cases h
 | c::ks,d0::ds,_,d,⟨v0,vs,e,n0,n⟩,h=>by
  subst e;rw [aaU];by_cases hc:c=k
  ·have h':aI (c::ks) (d0::ds) k=some d0:=by unfold aI;rw [List.zip_cons_cons,List.find?_cons_of_pos (by simpa using hc)];rfl
   rw [h'] at h;cases h;exact ⟨v0,iA hc,n0⟩
  ·have h':aI (c::ks) (d0::ds) k=aI ks ds k:=by unfold aI;rw [List.zip_cons_cons,List.find?_cons_of_neg (by simpa using hc)]
   rw [h'] at h;obtain ⟨v,h1,h2⟩:=gq n h;exact ⟨v,by rw [gz hc];exact h1,h2⟩
def AY(to ti:DE):DE:=λρ M q x=>to ρ M (λd M1=>ti ρ M1 (λdi M2=>∃k ks ds key v,d= .loc k/\M2[k]? =some (.jF ks ds)/\GY di=some key/\aI ks ds key=some v/\q v M2) x) x
section
variable{o i:Expr}{ti:DE}{p:Pos}
theorem Dr(hr:bt k' X.A)(ho:JE X R o to)(hi:JE X R i ti)(hs:xV i:=by intro _ _;rfl):JE X R (.Subscript o i pos) (AY to ti):=
 .of (I_ (Ph hr) ho hi hs) λσ H G L ρ M q x rl n h hx=>by refine ⟨G,L,ρ,M,_,x,rl,n,h,hx,λv H1 ⟨d1,G1,L1,M1,e1,r1,n1,h1⟩=> ?_⟩;refine ⟨G1,L1,ρ,M1,_,x,r1,n.mono e1,h1,hx.on e1,λv2 H2 ⟨d2,G2,L2,M2,e2,r2,n2,k,ks,ds,key,y,ed,hm,hk,hg,h2⟩=> ?_⟩;subst ed;obtain ⟨a,rfl,NG⟩:=n1;have Hl:=e2.l.get NG;obtain ⟨_,vs,hH,hl,dn⟩:=r2.fg k a _ Hl hm;obtain ⟨u,hu,du⟩:=gq dn hg;refine ⟨a,u,rfl, .inl ⟨_,key, .inl hH,vf hk n2,hu.symm⟩,fin_same (e1.trans e2) r2 du h2⟩
end
inductive x8(K:fv)(H:Hp):Nat->V->V->Bool->Prop
 | flat {n:Nat} {x y:V} (h1:c8 x=true) (h2:c8 y=true):x8 K H n x y (gb x y)
 | tup {n:Nat} {a b:Addr} {xs ys:List V} {f:Nat->Bool} (h1:ju K H a xs) (h2:ju K H b ys) (h:∀j x y,xs[j]? =some x->ys[j]? =some y->x8 K H n x y (f j)):x8 K H (n+1) (.ref a) (.ref b) ((List.range (min xs.length ys.length)).all f&&xs.length==ys.length)
 | lst {n:Nat} {a b:Addr} {xs ys:List V} {f:Nat->Bool} (h1:fm K H a xs) (h2:fm K H b ys) (hl:xs.length=ys.length) (h:∀j x y,xs[j]? =some x->ys[j]? =some y->x8 K H n x y (f j)):x8 K H (n+1) (.ref a) (.ref b) ((List.range xs.length).all f)
 | len {n:Nat} {a b:Addr} {xs ys:List V} (h1:fm K H a xs) (h2:fm K H b ys) (hl:xs.length≠ys.length):x8 K H (n+1) (.ref a) (.ref b) false
theorem FQ{x:V}(h:c8 x=true):gb x x=true:=by cases x <;> first | rfl | (show (_==_)=true;simp) | cases h
section
variable{H:Hp}
theorem qv(I:Inv X δ σ H s){x y:V}(h:x8 X.K H n x y b):x=y->b=true:=by
 induction h with
 | flat h1 h2=>intro e;subst e;exact FQ h1
 | @tup n a b xs ys f h1 h2 h ih=>
  intro e;cases e;cases I.gs h1 h2;rw [abU,beq_self_eq_true,Bool.and_true];refine aa5.mpr λj hj=> ?_;have hj:=aaP.mp hj;exact ih j _ _ (aaa hj) (aaa hj) rfl
 | @lst n a b xs ys f h1 h2 hl h ih=>
  intro e;cases e;cases I.cg h1 h2;refine aa5.mpr λj hj=> ?_;have hj:=aaP.mp hj;exact ih j _ _ (aaa hj) (aaa hj) rfl
 | len h1 h2 hl=>
  intro e;cases e;cases I.cg h1 h2;exact aaI rfl hl
theorem aJ{xs:List V}{its:List Value}(r:ao xs its){j:Nat}(h:j < its.toArray.size):∃x,xs[j]? =some x/\ag x its.toArray[j]:=by
 have hj:j < its.length:=by simpa using h
 have hx:j < xs.length:=by rw [r.length];exact hj
 obtain ⟨u,g,ru⟩:=r.get (aaa hx);rw [aaa hj] at g;cases g;exact ⟨_,List.getElem?_eq_getElem hx,by simpa using ru⟩
theorem j9(I:Inv X δ σ H s){x y:V}(h:x8 X.K H n x y b):∀{A:Around} {u v:Value},ag x u->ag y v->A.units+n < cLine->SeqAt.EqAt A s u v b:=by
 induction h with
 | flat h1 h2=>exact λru rv _=>uT ru rv h1 h2
 | @tup n a b xs ys f h1 h2 h ih=>
  intro A u v ru rv hu;cases ru;cases rv;by_cases e:a=b
  ·have:=qv I (.tup h1 h2 h) (aa2 V.ref e);rw [this,e];exact SeqAt.EqAt.same _
  ·obtain ⟨i1,v1,t1,_⟩:=I.tuple h1;obtain ⟨i2,v2,t2,_⟩:=I.tuple h2
   have:=SeqAt.RcAt.tuples (A:=A) (e:=f) (show s.heap.IsTuple a i1.toArray from t1) (show s.heap.IsTuple b i2.toArray from t2) (by omega) (λj g1 g2=>by
    obtain ⟨x,hx,rx⟩:=aJ v1 g1;obtain ⟨y,hy,ry⟩:=aJ v2 g2
    exact ih j x y hx hy rx ry (by show A.units+1+n < cLine;omega))
   rw [aay,aay,<-v1.length,<-v2.length] at this;exact SeqAt.EqAt.of_refs e this
 | @lst n a b xs ys f h1 h2 hl h ih=>
  intro A u v ru rv hu;cases ru;cases rv;by_cases e:a=b
  ·have:=qv I (.lst h1 h2 hl h) (aa2 V.ref e);rw [this,e];exact SeqAt.EqAt.same _
  ·obtain ⟨i1,v1,t1,_⟩:=I.list h1;obtain ⟨i2,v2,t2,_⟩:=I.list h2
   have:=SeqAt.RcAt.lists (A:=A) (e:=f) t1.isList t2.isList (by rw [aay,aay,<-v1.length,<-v2.length];exact hl) (by omega) (λj g1 g2=>by
    obtain ⟨x,hx,rx⟩:=aJ v1 g1;obtain ⟨y,hy,ry⟩:=aJ v2 g2
    exact ih j x y hx hy rx ry (by show A.units+1+n < cLine;omega))
   rw [aay,<-v1.length] at this;exact SeqAt.EqAt.of_refs e this
 | @len n a b xs ys h1 h2 hl=>
  intro A u v ru rv hu;cases ru;cases rv;have e:a≠b:=λe=>by subst e;cases I.cg h1 h2;exact hl rfl
  obtain ⟨i1,v1,t1,_⟩:=I.list h1;obtain ⟨i2,v2,t2,_⟩:=I.list h2;exact SeqAt.EqAt.of_refs e (SeqAt.RcAt.lists_lengths t1.isList t2.isList (by rw [List.size_toArray,List.size_toArray,<-v1.length,<-v2.length];simpa using hl) (by omega))
end
def Qv(K:fv)(n:Nat):R2:=λx y H Q=>∃a b c,x= .ref a/\y= .ref b/\x8 K H n x y c/\Q (.bl c) H
def O0(K:fv)(n:Nat):R2:=λx y H Q=>∃a b c,x= .ref a/\y= .ref b/\x8 K H n x y c/\Q (.bl (!c)) H
section
theorem E6(hu:X.A.units+n < cLine):jj X (compareOp .Eq) (Qv X.K n):=by
 intro δ s σ H x y v u Q I rx ry h;obtain ⟨a,b,c,rfl,rfl,h,q⟩:=h;cases rx;cases ry;cases h with
 | flat h1 h2=>cases h1
 | @tup n _ _ xs ys f h1 h2 h=>
  obtain ⟨i1,v1,t1,_⟩:=I.tuple h1;obtain ⟨i2,v2,t2,_⟩:=I.tuple h2;refine SeqAt.eq_tupleAt (e:=f) (show s.heap.IsTuple a i1.toArray from t1) (show s.heap.IsTuple b i2.toArray from t2) (by omega) (λj g1 g2=> ?_) ?_
  ·obtain ⟨x,hx,rx⟩:=aJ v1 g1;obtain ⟨y,hy,ry⟩:=aJ v2 g2;exact j9 I (h j x y hx hy) rx ry (by show X.A.units+1+n < cLine;omega)
  ·rw [aay,aay,<-v1.length,<-v2.length];exact ⟨.bl _,H,I,rfl,q⟩
 | @lst n _ _ xs ys f h1 h2 hl h=>
  obtain ⟨i1,v1,t1,_⟩:=I.list h1;obtain ⟨i2,v2,t2,_⟩:=I.list h2;refine SeqAt.eq_listAt (e:=f) t1.isList t2.isList (by rw [aay,aay,<-v1.length,<-v2.length];exact hl) (by omega) (λj g1 g2=> ?_) ?_
  ·obtain ⟨x,hx,rx⟩:=aJ v1 g1;obtain ⟨y,hy,ry⟩:=aJ v2 g2;exact j9 I (h j x y hx hy) rx ry (by show X.A.units+1+n < cLine;omega)
  ·rw [aay,<-v1.length];exact ⟨.bl _,H,I,rfl,q⟩
 | @len n _ _ xs ys h1 h2 hl=>
  obtain ⟨i1,v1,t1,_⟩:=I.list h1;obtain ⟨i2,v2,t2,_⟩:=I.list h2;exact SeqAt.eq_list_lengthsAt t1.isList t2.isList (by rw [List.size_toArray,List.size_toArray,<-v1.length,<-v2.length];simpa using hl) (by omega) ⟨.bl _,H,I,rfl,q⟩
theorem MR(hu:X.A.units+n < cLine):jj X (compareOp .NotEq) (O0 X.K n):=by
 intro δ s σ H x y v u Q I rx ry h;obtain ⟨a,b,c,rfl,rfl,h,q⟩:=h;cases rx;cases ry;cases h with
 | flat h1 h2=>cases h1
 | @tup n _ _ xs ys f h1 h2 h=>
  obtain ⟨i1,v1,t1,_⟩:=I.tuple h1;obtain ⟨i2,v2,t2,_⟩:=I.tuple h2;refine SeqAt.RcNeAt.tuples (e:=f) (show s.heap.IsTuple a i1.toArray from t1) (show s.heap.IsTuple b i2.toArray from t2) (by omega) (λj g1 g2=> ?_) _ _ _ _ ?_
  ·obtain ⟨x,hx,rx⟩:=aJ v1 g1;obtain ⟨y,hy,ry⟩:=aJ v2 g2;exact j9 I (h j x y hx hy) rx ry (by show X.A.units+1+n < cLine;omega)
  ·rw [aay,aay,<-v1.length,<-v2.length];exact ⟨.bl _,H,I,rfl,q⟩
 | @lst n _ _ xs ys f h1 h2 hl h=>
  obtain ⟨i1,v1,t1,_⟩:=I.list h1;obtain ⟨i2,v2,t2,_⟩:=I.list h2;refine SeqAt.RcNeAt.lists (e:=f) t1.isList t2.isList (by rw [aay,aay,<-v1.length,<-v2.length];exact hl) (by omega) (λj g1 g2=> ?_) _ _ _ _ ?_
  ·obtain ⟨x,hx,rx⟩:=aJ v1 g1;obtain ⟨y,hy,ry⟩:=aJ v2 g2;exact j9 I (h j x y hx hy) rx ry (by show X.A.units+1+n < cLine;omega)
  ·rw [aay,<-v1.length];exact ⟨.bl _,H,I,rfl,q⟩
 | @len n _ _ xs ys h1 h2 hl=>
  obtain ⟨i1,v1,t1,_⟩:=I.list h1;obtain ⟨i2,v2,t2,_⟩:=I.list h2;exact SeqAt.RcNeAt.lists_lengths t1.isList t2.isList (by rw [List.size_toArray,List.size_toArray,<-v1.length,<-v2.length];simpa using hl) (by omega) _ _ _ _ ⟨.bl _,H,I,rfl,q⟩
end
def fU(M:Ms):Dt->Option (List Dt)
 | .lst xs=>some xs
 | .dM ns=>some (ns.map .int)
 | .loc k=>match M[k]? with
  | some (.lst xs)=>some xs
  | _=>none
 | _=>none
inductive jz(M:Ms):Nat->Dt->Dt->Bool->Prop
 | flat {n:Nat} {d e:Dt} {x y:V} (h1:wW d=some x) (h2:wW e=some y):jz M n d e (gb x y)
 | tup {n:Nat} {ds es:List Dt} {f:Nat->Bool} (h:∀j d e,ds[j]? =some d->es[j]? =some e->jz M n d e (f j)):jz M (n+1) (.tup ds) (.tup es) ((List.range (min ds.length es.length)).all f&&ds.length==es.length)
 | lst {n:Nat} {d e:Dt} {ds es:List Dt} {f:Nat->Bool} (h1:fU M d=some ds) (h2:fU M e=some es) (hl:ds.length=es.length) (h:∀j d e,ds[j]? =some d->es[j]? =some e->jz M n d e (f j)):jz M (n+1) d e ((List.range ds.length).all f)
 | len {n:Nat} {d e:Dt} {ds es:List Dt} (h1:fU M d=some ds) (h2:fU M e=some es) (hl:ds.length≠es.length):jz M (n+1) d e false
theorem cy{K:fv}{M:Ms}{H:Hp}{d:Dt}{xs:List Dt}(r:Rl K G L M H)(n:Den K G L d v)(h:fU M d=some xs):∃a vs,v= .ref a/\fm K H a vs/\Θ K G L xs vs:=by
 cases d with
 | lst ds=>cases h;obtain ⟨a,vs,rfl,e,m⟩:=n;exact ⟨a,vs,rfl, .of (r.sub _ _ e),m⟩
 | dM ns=>cases h;obtain ⟨a,rfl,e⟩:=n;exact ⟨a,_,rfl,r.sub.seq e,cQ⟩
 | loc k=>
  obtain ⟨a,rfl,e⟩:=n;have h:(match M[k]? with | some (.lst xs)=>some xs | _=>none)=some xs:=h;split at h
  ·rename_i ys hm;cases h;obtain ⟨_,vs,e1,m1⟩:=r.fg k a _ e hm;exact ⟨a,vs,rfl, .of e1,m1⟩
  ·cases h
 | _=>cases h
theorem Θ.back{K:fv}{ds:List Dt}{vs:List V}{i:Nat}(h:Θ K G L ds vs)(e:vs[i]? =some v):∃d,ds[i]? =some d/\Den K G L d v:=by
 have hi:i < ds.length:=by rw [h.length];exact (aad.mp e).1
 obtain ⟨v',e',n⟩:=h.get (aaa hi);rw [e] at e';cases e';exact ⟨_,aaa hi,n⟩
theorem wD{K:fv}{M:Ms}{H:Hp}(r:Rl K G L M H){d e:Dt}(h:jz M n d e b):∀{v u:V},Den K G L d v->Den K G L e u->x8 K H n v u b:=by
 induction h with
 | flat h1 h2=>
  intro v u n1 n2;obtain ⟨rfl,f1⟩:=k8 h1 n1;obtain ⟨rfl,f2⟩:=k8 h2 n2;exact .flat f1 f2
 | @tup n ds es f h ih=>
  intro v u n1 n2;obtain ⟨a,vs,rfl,e1,m1⟩:=n1;obtain ⟨b,us,rfl,e2,m2⟩:=n2;rw [m1.length,m2.length];refine .tup (.of (r.sub _ _ e1)) (.of (r.sub _ _ e2)) λj x y hx hy=> ?_;obtain ⟨d,hd,dn⟩:=m1.back hx;obtain ⟨e,he,en⟩:=m2.back hy;exact ih j d e hd he dn en
 | @lst n d e ds es f h1 h2 hl h ih=>
  intro v u n1 n2;obtain ⟨a,vs,rfl,s1,m1⟩:=cy r n1 h1;obtain ⟨b,us,rfl,s2,m2⟩:=cy r n2 h2;rw [m1.length];refine .lst s1 s2 (by rw [<-m1.length,<-m2.length];exact hl) λj x y hx hy=> ?_;obtain ⟨d,hd,dn⟩:=m1.back hx;obtain ⟨e,he,en⟩:=m2.back hy;exact ih j d e hd he dn en
 | @len n d e ds es h1 h2 hl=>
  intro v u n1 n2;obtain ⟨a,vs,rfl,s1,m1⟩:=cy r n1 h1;obtain ⟨b,us,rfl,s2,m2⟩:=cy r n2 h2;exact .len s1 s2 (by rw [<-m1.length,<-m2.length];exact hl)
def Em(M:Ms)(d:Dt):Prop:=(∃ds,d= .tup ds)\/∃xs,fU M d=some xs
theorem oz{K:fv}{M:Ms}{H:Hp}{d:Dt}(r:Rl K G L M H)(n:Den K G L d v)(h:Em M d):∃a,v= .ref a:=by
 rcases h with ⟨ds,rfl⟩ | ⟨xs,h⟩
 ·obtain ⟨a,vs,rfl,_⟩:=n;exact ⟨a,rfl⟩
 ·obtain ⟨a,vs,rfl,_⟩:=cy r n h;exact ⟨a,rfl⟩
def Ki(n:Nat):Dt->Dt->Ms->DQ->Prop:=λd e M q=>∃b,Em M d/\Em M e/\jz M n d e b/\q (.bl b) M
def P0(n:Nat):Dt->Dt->Ms->DQ->Prop:=λd e M q=>∃b,Em M d/\Em M e/\jz M n d e b/\q (.bl (!b)) M
theorem Ow{K:fv}:rn K (Qv K n) (Ki n):=by intro G0 L0 H0 G L M H v1 v2 d1 d2 q e r n1 n2 ⟨b,h1,h2,h,hq⟩;obtain ⟨a,rfl⟩:=oz r n1 h1;obtain ⟨a',rfl⟩:=oz r n2 h2;exact ⟨a,a',b,rfl,rfl,wD r h n1 n2,cn e r hq⟩
theorem Ug{K:fv}:rn K (O0 K n) (P0 n):=by intro G0 L0 H0 G L M H v1 v2 d1 d2 q e r n1 n2 ⟨b,h1,h2,h,hq⟩;obtain ⟨a,rfl⟩:=oz r n1 h1;obtain ⟨a',rfl⟩:=oz r n2 h2;exact ⟨a,a',b,rfl,rfl,wD r h n1 n2,cn e r hq⟩
section
variable{a b l u:Expr}{ta tb tl tu:DE}{p p2:Pos}
theorem wM{A:Around}{k:Nat}(hr:bt k A)(hn:n<=64):A.units+n < cLine:=aaN (Nat.add_le_add_left hn _) hr.units
theorem Pq(n:Nat)(hr:bt k' X.A)(ja:JE X R a ta)(jb:JE X R b tb)(hn:n<=64:=by decide)(hm:behindInMarks .Eq b=false:=by rfl):JE X R (.Compare a [.Eq] [b] pos) (kP (Ki n) ta tb):=xg (E6 (wM hr hn)) Ow ja jb hm
theorem Mb(n:Nat)(hr:bt k' X.A)(ja:JE X R a ta)(jb:JE X R b tb)(hn:n<=64:=by decide)(hm:behindInMarks .Eq b=false:=by rfl):JT X R (.Compare a [.Eq] [b] pos) (qr (kP (Ki n) ta tb)):=kJ (E6 (wM hr hn)) Ow ja jb hm
theorem pC(n:Nat)(hr:bt k' X.A)(ja:JE X R a ta)(jb:JE X R b tb)(hn:n<=64:=by decide)(hm:behindInMarks .NotEq b=false:=by rfl):JT X R (.Compare a [.NotEq] [b] pos) (qr (kP (P0 n) ta tb)):=kJ (MR (wM hr hn)) Ug ja jb hm
theorem sG(xs:List V)(k:Nat):se xs none (some (k:Int))=xs.take k:=by
 unfold se;rw [HT.oG,HT.xM,List.drop_zero,Nat.sub_zero];by_cases h:k<=xs.length
 ·rw [Nat.min_eq_left h]
 ·rw [Nat.min_eq_right (by omega),List.take_of_length_le (aal _),List.take_of_length_le (by omega)]
def SO(te tl:DE):DE:=λρ M q x=>te ρ M (λd M1=>tl ρ M1 (λdi M2=>∃ds n,fU M2 d=some ds/\di= .int (n:Nat)/\q (.loc M2.length) (M2++[.lst (ds.drop n)])) x) x
theorem sE(he:JE X R e te)(hl:JE X R l tl):JE X R (.Subscript e (.Slice (some l) none none p2) pos) (SO te tl):=
 .of (k9 Ao he (oW hl) oE) λσ H G L ρ M q x rl n h hx=>by refine ⟨G,L,ρ,M,_,x,rl,n,h,hx,λv H1 ⟨d1,G1,L1,M1,e1,r1,n1,h1⟩=> ?_⟩;refine ⟨G1,L1,ρ,M1,_,x,r1,n.mono e1,h1,hx.on e1,λv2 H2 ⟨d2,G2,L2,M2,e2,r2,n2,ds,k,ed,ei,h2⟩=> ?_⟩;subst ei;obtain ⟨a,vs,rfl,sq,m⟩:=cy r2 (Den.mono e2.g e2.l _ _ n1) ed;have n2:v2= .int k:=n2;subst n2;refine ⟨k,rfl,a,vs,rfl,sq,λp hp=> ?_⟩;rw [su];exact gL (e1.trans e2) r2 hp (Θ.of (qa k m.pair)) h2
end
open PySem PySem.SeqAt
def jR(prog:Program)(w:World)(A:Around)(s:Shared)(y x:Value)(b:Bool):Prop:=
 ∀(E:Value->Shared->Prop) (Q:Bool->Shared->Prop),Q b s->wpAny (model prog w) A (eqBool y x) Q E s
section
variable{K:Type} [DecidableEq K]{prog:Program}{knd:KeyKind prog w K}{A:Around}{b:Addr}{ω mN:List (K×Value)}
theorem jR.same(v:Value):jR prog w A s v v true:=λE Q h=>SeqAt.EqAt.same v prog w E Q h
theorem jR.of_refs{k:Bool}(gE:a≠b)(h:∀(E:Value->Shared->Prop) (Q:Value->Shared->Prop),Q (.bool k) s->wpAny (model prog w) A (richCompare .Eq (.ref a) (.ref b)) Q E s):jR prog w A s (.ref a) (.ref b) k:=λE Q hq=>by unfold eqBool;refine wpAny_holding ?_;refine wpAny_ite_split (λGL=>aaI (by have:=eq_of_beq GL;injection this) gE) (λ_=> ?_);exact aab (h E _ (wpAny_truthy_bool hq))
end
section
variable{a b f o:Expr}{ta tb tf:DE}{p apos aA:Pos}
theorem sQ{K:fv}{G:Hp}{L:List Addr}{k:Key}:∀{ks:List Key} {ds:List Dt} {vs:List V},Θ K G L ds vs->aI ks ds k=none->gk (ks.zip vs) k=none
 | [],_,_,_,_=>rfl
 | _::_,[],_,h,_=>by cases h;rfl
 | c::ks,d0::ds,_,⟨v0,vs,e,n0,n⟩,h=>by
  subst e;rw [aaU];by_cases hc:c=k
  ·have h':aI (c::ks) (d0::ds) k=some d0:=by unfold aI;rw [List.zip_cons_cons,List.find?_cons_of_pos (by simpa using hc)];rfl
   rw [h'] at h;cases h
  ·have h':aI (c::ks) (d0::ds) k=aI ks ds k:=by unfold aI;rw [List.zip_cons_cons,List.find?_cons_of_neg (by simpa using hc)]
   rw [h'] at h;rw [gz hc];exact sQ n h
end
section
variable{elt iter c:Expr}{x z:Str}{px pz tp:Pos}{ti:DK}{tc:DT}{kk:Nat}
theorem vJ{i:Nat}{y:Str}{py i5:Pos}(hN:X.N.Nodup)(DP:X.N[i]? =some y)(hy:Loc X.env.scope y)(S:ah X scope [x] ys Λ)(hi:JK X R (.Name x px) iter ti)(ht:∀C s H fp,JT (Cx.comp X (x::ys) scope C s H fp) (λ_=>E0) c tc)(he:∀C s H fp,JE (Cx.comp X (x::ys) scope C s H fp) (λ_=>E0) elt te)(hc:X.calm=true:=by rfl)(E8:swapsWith (.ListComp elt [⟨.Name x px,iter,[c],0⟩] scope pos) (some (.Name y py)) i5.line X.env=pure true:=by rfl)(hs:∀x,foldedSetIterable iter X.env x=pure x:=by intro _;rfl)(hf:X.fn y=true\/X.env.scope.names.lookup y=some .local:=by first | exact .inl rfl | exact .inr rfl | assumption):JS X R (.Assign [.Name y py] (.ListComp elt [⟨.Name x px,iter,[c],0⟩] scope pos) i5) (y6 i (Fx 1 ti (gN 0) tc te Λ)):=S6 false S hi (dP S (i:=0) rfl) aO (cj (Nat.zero_lt_succ 0)) (λC s H fp=>Hk (ht C s H fp)) he hc hs hN DP hy E8 hf λ_ _ _ _ h=>h
end
section
variable{l:Expr}{tl:DE}{p2:Pos}
def M9(te tl:DE):DE:=λρ M q x=>te ρ M (λd M1=>tl ρ M1 (λdi M2=>∃ds n,fU M2 d=some ds/\di= .int (n:Nat)/\q (.loc M2.length) (M2++[.lst (ds.take n)])) x) x
theorem zW(he:JE X R e te)(hl:JE X R l tl):JE X R (.Subscript e (.Slice none (some l) none p2) pos) (M9 te tl):=
 .of (k9 Ao he oE (oW hl)) λσ H G L ρ M q x rl n h hx=>by refine ⟨G,L,ρ,M,_,x,rl,n,h,hx,λv H1 ⟨d1,G1,L1,M1,e1,r1,n1,h1⟩=> ?_⟩;refine ⟨G1,L1,ρ,M1,_,x,r1,n.mono e1,h1,hx.on e1,λv2 H2 ⟨d2,G2,L2,M2,e2,r2,n2,ds,k,ed,ei,h2⟩=> ?_⟩;subst ei;obtain ⟨a,vs,rfl,sq,m⟩:=cy r2 (Den.mono e2.g e2.l _ _ n1) ed;have n2:v2= .int k:=n2;subst n2;refine ⟨k,rfl,a,vs,rfl,sq,λp hp=> ?_⟩;rw [sG];exact gL (e1.trans e2) r2 hp (Θ.of (ql k m.pair)) h2
end
def Lk(ks:List Key)(k:Key):Bool:=ks.any λc=>decide (c=k)
theorem xU{k:Key}:∀{ks:List Key} {vs:List V},ks.length=vs.length->(gk (ks.zip vs) k).isSome=Lk ks k
 | [],[],_=>rfl
 | c::ks,v::vs,h=>by
  have h:ks.length=vs.length:=by simpa using h
  rw [aaU];by_cases e:c=k
  ·rw [iA e];subst e;simp [Lk]
  ·rw [gz e,xU h];unfold Lk;rw [abC,aaK e,Bool.false_or]
section
variable{o i a b:Expr}{ti ta tb:DE}{p:Pos}
theorem Dm:JE X R (.Dict [] [] pos) (λ_ M q _=>q (.loc M.length) (M++[.jF [] []])):=
 .of Ga λσ H G L ρ M q x rl n h hx=>by intro p hp;exact ⟨.loc M.length,G,L++[p],_,rl.Ui hp,rl.Ma (m:= .jF [] []) hp ⟨[],Τ,rfl,rfl⟩,⟨p,rfl,by rw [<-rl.len,List.getElem?_append_right (Nat.le_refl _)];simp⟩,h⟩
end
def qQ(ks:List Key)(k:Key):List Key:=if Lk ks k=true then ks else ks++[k]
def nI{α:Type}(k:Key)(v:α):List Key->List α->List α
 | c::ks,x::xs=>(if c=k then v else x)::nI k v ks xs
 | _,_=>[]
def lD{α:Type}(ks:List Key)(k:Key)(xs:List α)(v:α):List α:=if Lk ks k=true then nI k v ks xs else xs++[v]
theorem tQ{α:Type}{k:Key}{v:α}:∀{ks:List Key} {xs:List α},ks.length=xs.length->(nI k v ks xs).length=ks.length
 | [],[],_=>rfl
 | _::ks,_::xs,h=>by
  have h:ks.length=xs.length:=by simpa using h
  show (nI k v ks xs).length+1=ks.length+1;rw [tQ h]
theorem sY{k:Key}{v:V}:∀{ks:List Key} {vs:List V},ks.length=vs.length->(ks.zip vs).map (λkv=>if kv.1=k then (kv.1,v) else kv)=ks.zip (nI k v ks vs)
 | [],[],_=>rfl
 | c::ks,x::vs,h=>by
  have h:ks.length=vs.length:=by simpa using h
  rw [aaU,aav,sY h];show _=(c,if c=k then v else x)::ks.zip (nI k v ks vs)
  congr 1
  show (if c=k then (c,v) else (c,x))=_;split <;> rfl
theorem sx{K:fv}{G:Hp}{L:List Addr}{k:Key}{d:Dt}{v:V}(n:Den K G L d v):∀{ks:List Key} {ds:List Dt} {vs:List V},Θ K G L ds vs->ks.length=ds.length->Θ K G L (nI k d ks ds) (nI k v ks vs)
 | [],[],_,h,_=>by cases h;rfl
 | c::ks,x::ds,_,⟨y,vs,e,n0,ns⟩,hl=>by
  subst e;have hl:ks.length=ds.length:=by simpa using hl
  refine ⟨_,_,rfl, ?_,sx n ns hl⟩;show Den K G L (if c=k then d else x) (if c=k then v else y);split
  ·exact n
  ·exact n0
theorem Lb{k:Key}{ks:List Key}{vs:List V}(h:ks.length=vs.length):putK (ks.zip vs) k v=(qQ ks k).zip (lD ks k vs v):=by
 unfold putK qQ lD;rw [wX,xU h];split
 ·exact sY h
 ·rw [List.zip_append h];rfl
theorem yh{α β:Type}{F:α->β->Prop}:∀{xs:List α} {ys:List β},Paired F xs ys->∀{i:Nat} {x:α},xs[i]? =some x->∃y,ys[i]? =some y/\F x y
 | _,_, .nil,i,x,h=>by simp at h
 | _,_, .cons r t,0,x,h=>by obtain rfl:=aaG h;exact ⟨_,rfl,r⟩
 | _,_, .cons r t,i+1,x,h=>by obtain ⟨y,e,f⟩:=yh t (show _=some x by simpa using h);exact ⟨y,by simpa using e,f⟩
def Gf(P:Program)(w:World)(a:Addr)(ω:List (Key×V))(ep:Nat)(h:Heap):Prop:=ω.length<=sizeLine/\(a==sysModules)=false/\∃vs,KV ω vs/\h.DictAt (ax P w) a vs ep
def zM(P:Program)(w:World)(a:Addr)(ω:List (Key×V))(ep:Nat):HO:= .ext (Gf P w a ω ep)
section
variable{P':Program}{w':World}{H:Hp}{h:Heap}{ep:Nat}
theorem AN(ok:iL P w H h)(e:H a=some (zM P' w' a ω ep)):Gf P' w' a ω ep h:=(ok a _ e).1
theorem MP(x:Gf P' w' a ω ep h):bh P w H h a (zM P' w' a ω ep):=by
 refine ⟨x, ?_,λh1 h2 y k=> ?_⟩
 ·obtain ⟨_,_,vs,_,o,es,e,_⟩:=x;exact ⟨o,e⟩
 ·obtain ⟨z,hd,vs,r,o,es,e,c⟩:=y;exact ⟨z,hd,vs,r,o,es,k _ e,c⟩
end
section
variable{H:Hp}{ep:Nat}
theorem Inv.ML(I:Inv X δ σ H s)(mu:Lf (H a))(x:Gf X.prog X.w a ω ep s.heap):Inv X δ σ (upd H a (zM X.prog X.w a ω ep)) s:=by
 have he:∃u,s.heap.get? a=some u:=let ⟨_,_,_,_,o,_,e,_⟩:=x;⟨o,e⟩
 exact I.write (x:=a) (e:=a) (h':=s.heap) (t':=s.toks) mu (.inl rfl) (λb u _ q=>q) he (MP x)
theorem Inv.walkOut(I:Inv X δ σ H s)(e:H a=some (zM X.prog X.w a ω ep)):Inv X δ σ (upd H a (.dK ω)) s:=by
 obtain ⟨z,hd,vs,r,dd⟩:=AN I.aB e;have he:∃u,s.heap.get? a=some u:=let ⟨o,_,e,_⟩:=dd;⟨o,e⟩
 exact I.write (x:=a) (e:=a) (h':=s.heap) (t':=s.toks) (by rw [e];exact True.intro) (.inl rfl) (λb u _ q=>q) he (Ep z hd r dd.dictOf)
theorem P_{k:Key}{u:Value}(h:(ax P w).is k u=true):ag (kV k) u:=by
 rcases aV h with ⟨i,t,rfl,rfl⟩ | ⟨x,t,rfl,rfl⟩
 ·exact ⟨t,rfl⟩
 ·exact ⟨t,rfl⟩
end
def Q6(P:Program)(w:World)(a:Addr)(ω:List (Key×V))(ep:Nat):It:=
 ⟨λi H=>H a=some (zM P w a ω ep)/\i < ω.length,λi H x H'=>H'=H/\∃kv,ω[i]? =some kv/\x=kV kv.1,λi H=>H a=some (zM P w a ω ep)/\ω.length<=i⟩
theorem Bg{K:fv}(a it:Addr)(ω:List (Key×V))(ep:Nat):si P w K tg (Q6 P w a ω ep) [it] it (λi h=>h.IsKeyIter it a i ω.length ep) where
 mem:=by simp
 obj:=λi h st b hb=>by
  have e:b=it:=by simpa using hb
  subst e;obtain ⟨o,e,c,d⟩:=st;exact ⟨o,e,λv z=>by rw [d] at z;cases z⟩
 keep:=λi h h' st k=>by obtain ⟨o,e,r⟩:=st;exact ⟨o,k it (by simp) o e,r⟩
 item:=by
  intro X hP hw hK hc i δ s σ H E I hf st hg;subst hP hw hK;obtain ⟨hq,hi⟩:=hg;obtain ⟨z,hd,vs,rel,dd⟩:=AN I.aB hq;obtain ⟨f0,f1,f2,f3,f4,f5⟩:=hf it (by simp);have hx:ω[i]? =some ω[i]:=aaa hi;obtain ⟨q,Xo,r1,r2⟩:=yh rel hx;obtain ⟨k,v⟩:=q;have og:s.heap.IsKeyIter it a i vs.length ep:=by rw [<-rel.length];exact st
  refine wpAny_pyNext_dict_item og dd Xo λkey h' hk oJ sb=> ?_;have oJ:h'.IsKeyIter it a (i+1) ω.length ep:=by rw [rel.length];exact oJ
  have I1:Inv X δ σ H {s with heap:=h'}:=I.turned (t':=s.toks) (λb o hb e=>(sb.2 b hb).trans e) f0 f1 f3 f4 f5;obtain ⟨o,e,c,d⟩:=id oJ;exact ⟨key,rfl,pG (s:={s with heap:=h'}) e c d (by decide) ⟨kV k,H,I1,P_ hk,⟨rfl,ω[i],hx,by rw [r1]⟩,oJ,λb hb=>(hf b hb).1⟩⟩
 done:=by
  intro X hP hw hK hc i δ s σ H E I hf st hg;subst hP hw hK;obtain ⟨hq,hi⟩:=hg;obtain ⟨z,hd,vs,rel,dd⟩:=AN I.aB hq;obtain ⟨f0,f1,f2,f3,f4,f5⟩:=hf it (by simp);have og:s.heap.IsKeyIter it a i vs.length ep:=by rw [<-rel.length];exact st
  exact wpAny_pyNext_dict_end (I.ok.hd hc) og dd (abm (by rw [<-rel.length];exact hi)) λh' eb=>⟨rfl,I.turned (t':=s.toks) (λb o hb e=>eb b o hb e) f0 f1 f3 f4 f5⟩
 self:=λ_ _ _ _ _ st h=>wpAny_pyIter_keyiter st h
section
variable{H:Hp}{Q:It->Hp->Prop}
theorem IZ(I:Inv X δ σ H s)(e:H a=some (.dK ω))(q:∀ep,Q (Q6 X.prog X.w a ω ep) (upd H a (zM X.prog X.w a ω ep))):wpAny (model X.prog X.w) X.A (pyIter (.ref a)) (Dy X δ σ tg Q) E s:=by
 obtain ⟨z,hd,vs,rel,dd⟩:=CZ I.aB e;obtain ⟨ep,dd⟩:=dd.dictAt;refine wpAny_pyIter_dict hd dd ?_;have I1:=I.ML (by rw [e];exact True.intro) (show Gf X.prog X.w a ω ep s.heap from ⟨z,hd,vs,rel,dd⟩);refine ⟨s.heap.objs.size,[s.heap.objs.size],_,_,_,rfl,I1.kept (t':=s.toks) λb o e=>aah _ e,Bg a _ ω ep,⟨_,aaw _ rfl,rfl,by rw [rel.length];rfl⟩,λb hb=> ?_,q ep⟩;have e:b=s.heap.objs.size:=by simpa using hb
 subst e;exact I1.yP (aal _) (I1.aB.fresh (aal _))
end
section
variable{st:Stmt}{t:TS}{o i:Expr}{td ty:TE}
def M6(P:Program)(w:World)(td ty:TE):TE:=λσ H Q=>td σ H λx H1=>ty σ H1 λy H2=>∃a ω ep k v,x= .ref a/\H2 a=some (zM P w a ω ep)/\y=kV k/\gk ω k=some v/\Q v H2
theorem Dp(ho:PE X o td)(hi:PE X i ty)(hs:xV i):PE X (.Subscript o i pos) (M6 X.prog X.w td ty):=by intro δ s σ H Q I h;refine tV abP.lookup hs (bx (ho δ s σ H _ I h) λu s1 ⟨x,H1,I1,rx,q1⟩=>bx (hi δ s1 σ H1 _ I1 q1) λiv s2 ⟨y,H2,I2,ry,a,ω,ep,k,v,ex,e,ey,l,q2⟩=> ?_);subst ex ey;obtain rfl:u=Value.ref a:=rx;obtain ⟨z,hd,vs,rel,dd⟩:=AN I2.aB e;have dd:=dd.dictOf;obtain ⟨w',hw,uQ⟩:=fZ.some_of (v:=v) (o:=valueAt vs k) (by rw [<-l];exact rel.val k);exact ⟨dd.typeIs,wpAny_getItem_of (xq ry) dd.mapOf hw ⟨v,H2,I2.tok _,uQ,q2⟩⟩
end
def nJ:Key->Dt
 | .inl i=> .int i
 | .inr x=> .str x
theorem Hi{K:fv}{G:Hp}{L:List Addr}:∀k:Key,Den K G L (nJ k) (kV k)
 | .inl _=>rfl
 | .inr _=>rfl
theorem pq{K:fv}{G:Hp}{L:List Addr}:∀is:List Int,Θ K G L (is.map Dt.int) (is.map V.int)
 | []=>rfl
 | _::is=>⟨_,_,rfl,rfl,pq is⟩
theorem xp{K:fv}{G:Hp}{L:List Addr}:∀{is:List Int} {vs:List V},Θ K G L (is.map Dt.int) vs->vs=is.map V.int
 | [],vs,h=>h
 | i::is,vs,h=>by obtain ⟨v,r,rfl,h1,h2⟩:=h;have h1:v= .int i:=h1;rw [h1,xp h2];rfl
def Nw(P:Program)(w:World)(ks:List Key)(is:List Int)(ep:Nat):Addr->HO:=λa=>zM P w a (ks.zip (is.map V.int)) ep
def LI(P:Program)(w:World)(t:TE):TI:=λσ H R=>t σ H λv H1=>∃a ω,v= .ref a/\H1 a=some (.dK ω)/\∀ep,R (Q6 P w a ω ep) (upd H1 a (zM P w a ω ep))
theorem HY{t:TE}(h:PE X e t):PI X tg e (LI X.prog X.w t):=by intro δ s σ H R I ht;refine bx (h δ s σ H _ I ht) λu s1 ⟨v,H1,I1,rv,a,ω,ev,ha,q⟩=> ?_;subst ev;obtain rfl:u=Value.ref a:=rv;exact IZ I1 ha q
section
variable{iter o i:Expr}{body:List Stmt}{ti:DE}{gg:TG}{g:Dt->En->(En->Prop)->Prop}{tb:DS}
def yp(P:Program)(w:World)(to ti:DE):DE:=λρ M q x=>to ρ M (λd M1=>ti ρ M1 (λdi M2=>∃k ks is ep key j,d= .loc k/\M2[k]? =some (.raw (Nw P w ks is ep))/\GY di=some key/\aI ks (is.map Dt.int) key=some (.int j)/\q (.int j) M2) x) x
theorem HD(ho:JE X R o to)(hi:JE X R i ti)(hs:xV i:=by intro _ _;rfl):JE X R (.Subscript o i pos) (yp X.prog X.w to ti):=
 .of (Dp ho hi hs) λσ H G L ρ M q x rl n h hx=>by refine ⟨G,L,ρ,M,_,x,rl,n,h,hx,λv H1 ⟨d1,G1,L1,M1,e1,r1,n1,h1⟩=> ?_⟩;refine ⟨G1,L1,ρ,M1,_,x,r1,n.mono e1,h1,hx.on e1,λv2 H2 ⟨d2,G2,L2,M2,e2,r2,n2,k,ks,is,ep,key,j,ed,hm,hk,hg,h2⟩=> ?_⟩;subst ed;obtain ⟨a,rfl,NG⟩:=n1;have Hl:=e2.l.get NG;have hH:H2 a=some (Nw X.prog X.w ks is ep a):=(r2.fg k a _ Hl hm).2;obtain rfl:v2=kV key:=vf hk n2;obtain ⟨v,hv,dv⟩:=gq (K:=X.K) (G:=G2) (L:=L2) (pq is) hg;exact ⟨a,_,ep,key,v,rfl,hH,rfl,hv,_,G2,L2,M2,e1.trans e2,r2,dv,h2⟩
end
def Gd:List Dt->Ms->DQ->Prop
 | [d],M,q=>∃k ks ds,d= .loc k/\M[k]? =some (.jF ks ds)/\q (.int ks.length) M
 | _,_,_=>False
theorem O2{K:fv}:GS K (λxs H Q=>∃a ω,xs=[V.ref a]/\H a=some (.dK ω)/\Q (.int ω.length) H) Gd:=by
 intro G0 L0 H0 G L M H vs ds q e r n h;unfold Gd at h;split at h
 ·obtain ⟨k,ks,ds,rfl,hm,h⟩:=h;obtain ⟨v,rfl,n1⟩:=aM n;obtain ⟨a,rfl,hk⟩:=n1;obtain ⟨_,vs,hH,hl,dn⟩:=r.fg k a _ hk hm;refine ⟨a,_,rfl,hH, .int ks.length,G,L,M,e,r, ?_,h⟩;show V.int _=V.int _;rw [abe,<-dn.length,<-hl,abU]
 ·exact h.elim
section
variable{p:Pos}
theorem Kj(hm:X.mg "len"=none)(ha:JA X R [e] t)(hg:Gl X "len":=by rfl)(he:starEach [e] X.env=(false,eval e X.env)::starEach [] X.env:=by rfl)(fQ:(backTo pos (starEach [] X.env)).any (·.1)=false:=by rfl):JE X R (.Call (.Name "len" p) [e] [] pos) (ya Gd t):=
 jq Cu O2 hm PySem.boot_len ha hg (by decide) (by decide) he fQ
end
theorem Cn{t:TE}(h:PE X e t):PE X e (λσ H Q=>t σ H λv H1=>∃a ω ep,H1 a=some (zM X.prog X.w a ω ep)/\Q v (upd H1 a (.dK ω))):=by intro δ s σ H Q I ht;exact bx (h δ s σ H _ I ht) λu s1 ⟨v,H1,I1,rv,a,ω,ep,e,q⟩=>⟨v,_,I1.walkOut e,rv,q⟩
def CO(P:Program)(w:World)(to te:DE)(Λ:List Nat):DE:=λρ M q x=>to ρ M (λd M1=>∃k ks is,d= .loc k/\M1[k]? =some (.jF ks (is.map Dt.int))/\ks.length<=sizeLine/\∀ep,gr te (lX Λ ρ) (λM'=>M'[k]? =some (.raw (Nw P w ks is ep))) (ks.map nJ) [] (M1.set k (.raw (Nw P w ks is ep))) λys M2=>M2[k]? =some (.raw (Nw P w ks is ep))/\q (.lst ys) (M2.set k (.jF ks (is.map Dt.int)))) x
section
variable{elt iter:Expr}{x:Str}{px:Pos}
theorem IQ(S:ah X scope [x] ys Λ)(hi:JE X R iter to)(he:∀C s H fp,JE (Cx.comp X (x::ys) scope C s H fp) (λ_=>E0) elt te)(hc:X.calm=true:=by rfl)(hs:∀x,foldedSetIterable iter X.env x=pure x:=by intro _;rfl):JE X R (.ListComp elt [⟨.Name x px,iter,[],0⟩] scope pos) (CO X.prog X.w to te Λ):=
 .of (Cn (xS (tc:=xB X.K (λ_=>E0) rg) (te:=sg X.K (λ_=>E0) te) S hc (HY hi) (dP S (i:=0) rfl) (cj (Nat.zero_lt_succ 0)) (λ_ _ _ _=>gS) he hs)) λσ H G L ρ M q x rl n h hx=>by
  refine ⟨G,L,ρ,M,_,x,rl,n,h,hx,λv H1 ⟨d,G1,L1,M1,e1,r1,n1,k,ks,is,ed,hk,hz,h1⟩=> ?_⟩;subst ed;obtain ⟨a,rfl,x_⟩:=n1;obtain ⟨Z_,vs,hH,hl,dn⟩:=r1.fg k a _ x_ hk;have QV:=xp dn;subst QV;rw [aac] at hl;refine ⟨a,_,rfl,hH,λep D hD=> ?_⟩;have h1:=h1 ep;generalize hu:Nw X.prog X.w ks is ep=u at h1;have Oy:zM X.prog X.w a (ks.zip (is.map V.int)) ep=u a:=by rw [<-hu];rfl
  have r2:Rl X.K G1 L1 (M1.set k (.raw u)) (upd H1 a (zM X.prog X.w a (ks.zip (is.map V.int)) ep)):=r1.setM (m:= .raw u) x_ (show upd H1 a _ a=some (u a) by rw [Τ,Oy]);have e2:Ex G1 L1 H1 G1 L1 (upd H1 a (zM X.prog X.w a (ks.zip (is.map V.int)) ep)):=r1.Fy x_;have zl:(ks.zip (is.map V.int)).length=ks.length:=by rw [abe,aac];omega
  generalize LO:upd H1 a (zM X.prog X.w a (ks.zip (is.map V.int)) ep)=H2 at r2 e2 hD;have yl:Jx X.K (Q6 X.prog X.w a (ks.zip (is.map V.int)) ep) (ks.map nJ) (λM'=>M'[k]? =some (.raw u)) G1 L1:=by
   refine ⟨λi G' L' M' H' d g l r' aB hd=> ?_,λi G' L' M' H' g l r' aB hd=> ?_⟩
   ·have P7:H' a=some (u a):=(r'.fg k a _ (l.get x_) aB).2;have hi:i < ks.length:=by have:=(aad.mp hd).1;rwa [aac] at this
    refine ⟨⟨by rw [Oy];exact P7,by omega⟩,λv H3 hy=> ?_⟩;obtain ⟨rfl,kv,Lg,rfl⟩:=hy;rw [aaY] at Lg;rw [aaj,Lg.1] at hd;have hd:nJ kv.1=d:=aaG hd;rw [<-hd];exact ⟨G', .refl _ _ _,r',Hi _⟩
   ·have P7:H' a=some (u a):=(r'.fg k a _ (l.get x_) aB).2;rw [aac] at hd;exact ⟨by rw [Oy];exact P7,by omega⟩
  rw [i7] at h1;refine lq aO r2 ((n.mono e1).mono e2) yl hD (by rw [aac];exact hz) h1 λG3 L3 M3 H3 ds vs e3 r3 g3 l3 Lx n3 ⟨hm,hq⟩=> ?_;have yE:=e3.l.get x_;have Mn:H3 a=some (u a):=(r3.fg k a _ yE hm).2;refine ⟨a,ks.zip (is.map V.int),ep,by rw [Oy];exact Mn, ?_⟩;have ne:D≠a:=λz=>by rw [z,Mn,<-Oy] at Lx;cases Lx
  exact Fin.back (e1.trans e2) (vv (e3.trans (r3.Fy yE)) (r3.setM (m:= .jF ks (is.map Dt.int)) yE ⟨is.map V.int,Τ,by rw [aac];exact hl,pq is⟩) hD g3 l3 (by rw [Ζ ne];exact Lx) n3 hq)
end
section
variable{H:Hp}
theorem Aj(I:Inv X δ σ H s){xs ys:List V}(h:ju X.K H a xs)(h':fm X.K H a ys):False:=by obtain ⟨_,_,⟨o,n,e,c,_⟩,_⟩:=I.list h';obtain ⟨_,_,⟨o2,e2,c2,_⟩,_⟩:=I.tuple h;rw [e] at e2;cases e2;rw [c] at c2;exact aaI (Value.type.inj c2) (by decide)
theorem Er(I:Inv X δ σ H s){x y:V}(h:x8 X.K H n x y b):∀{b':Bool},x8 X.K H n x y b'->b=b':=by
 induction h with
 | flat h1 h2=>
  intro b' h';cases h' with
  | flat=>rfl
  | tup=>cases h1
  | lst=>cases h1
  | len=>cases h1
 | @tup n a b xs ys f h1 h2 h ih=>
  intro b' h';cases h' with
  | flat l'=>cases l'
  | @tup _ _ _ xs' Y8 f' l' Mr h'=>
   cases I.gs h1 l';cases I.gs h2 Mr
   congr 1
   rw [abq,aa5,aa5];have key:∀j∈List.range (min xs.length ys.length),f j=f' j:=λj hj=>by
    have hj:=aaP.mp hj;have l1:j < xs.length:=by omega
    have l2:j < ys.length:=by omega
    exact ih j _ _ (aaa l1) (aaa l2) (h' j _ _ (aaa l1) (aaa l2))
   exact ⟨λz j hj=>by rw [<-key j hj];exact z j hj,λz j hj=>by rw [key j hj];exact z j hj⟩
  | lst l'=>exact (Aj I h1 l').elim
  | len l'=>exact (Aj I h1 l').elim
 | @lst n a b xs ys f h1 h2 hl h ih=>
  intro b' h';cases h' with
  | flat l'=>cases l'
  | tup l'=>exact (Aj I l' h1).elim
  | @lst _ _ _ xs' Y8 f' l' Mr J3 h'=>
   cases I.cg h1 l';cases I.cg h2 Mr;rw [abq,aa5,aa5];have key:∀j∈List.range xs.length,f j=f' j:=λj hj=>by
    have l1:=aaP.mp hj;have l2:j < ys.length:=by omega
    exact ih j _ _ (aaa l1) (aaa l2) (h' j _ _ (aaa l1) (aaa l2))
   exact ⟨λz j hj=>by rw [<-key j hj];exact z j hj,λz j hj=>by rw [key j hj];exact z j hj⟩
  | len l' Mr J3=>
   cases I.cg h1 l';cases I.cg h2 Mr;exact aaI hl J3
 | len h1 h2 hl=>
  intro b' h';cases h' with
  | flat l'=>cases l'
  | tup l'=>exact (Aj I l' h1).elim
  | lst l' Mr J3=>
   cases I.cg h1 l';cases I.cg h2 Mr;exact aaI J3 hl
  | len=>rfl
end
def FA(K:fv)(n:Nat):V->List V->Hp->VK->Prop:=λx vs H Q=>∃p xs y,∃f:Nat->Bool,∃j:Nat,x= .ref p/\vs=[y]/\fm K H p xs/\(∀i z,xs[i]? =some z->x8 K H n z y (f i))/\j < xs.length/\f j=true/\(∀i,i < j->f i=false)/\Q (.int (j:Int)) H
theorem EF(hu:X.A.units+(n+1) < cLine):S4 X "list.index" (FA X.K n):=by
 intro δ s σ H x vs v us Q I rx rv h;obtain ⟨p,xs,y,f,j,rfl,rfl,hq,hf,hj,ft,ff,q⟩:=h;cases rx;obtain ⟨u,rfl,ru⟩:=rv.one;obtain ⟨its,r,pl,hz⟩:=I.list hq;obtain ⟨⟨cls,dd,data,sl⟩,nn,ho,hc,Ly,hd⟩:=id pl;simp only at hc hd;subst hc hd
 classical
 have KP:X.A.in1.units+n < cLine:=by show X.A.units+1+n < cLine;omega
 have lz:its.toArray.size=xs.length:=by rw [aay,<-r.length]
 have Tq:sizeLine < 2 ^ 63 - 1:=by decide
 have uq:∀i i' (z:V),xs[i]? =some z->xs[i']? =some z->f i=f i':=λi i' z h1 h2=>Er I (hf i z h1) (hf i' z h2);have ev:∀(m:Nat) (hm:m < its.toArray.size),decide (∃i z,xs[i]? =some z/\ag z its.toArray[m]/\f i=true)=f m:=λm hm=>by
  obtain ⟨z,hz,rz⟩:=aJ r hm;by_cases c:∃i z,xs[i]? =some z/\ag z its.toArray[m]/\f i=true
  ·rw [aam c];obtain ⟨i,z',h1,h2,h3⟩:=c;cases rz.inj h2;rw [uq m i z hz h1,h3]
  ·rw [aaK c];cases e:f m with
   | false=>rfl
   | true=>exact aaI ⟨m,z,hz,rz,e⟩ c
 refine call_meets F.slot_list_index ⟨_,ho,rfl⟩ F.entry_list_index (F.args_list_index_2 _ _) (SeqAt.list_indexAt p its.toArray nn dd sl u (λw=>decide (∃i z,xs[i]? =some z/\ag z w/\f i=true)) j (by omega) (by omega) ((ev j (by omega)).trans ft) (λm hm h=>(ev m hm).trans (ff m h))) ⟨ho,λw hw=> ?_, .int (j:Int),H,I.tok _,⟨_,rfl⟩,q⟩;obtain ⟨m,hm,rfl⟩:=Array.mem_iff_getElem.mp hw;obtain ⟨z,hz,rz⟩:=aJ r hm;have:=ev m hm;exact this▸j9 I (hf m z hz) rz ru KP
section
variable{o:Expr}{apos aA:Pos}
def E_(n:Nat)(to:DE)(t:DA):DE:=λρ M q x=>to ρ M (λd M1=>(∃xs,fU M1 d=some xs)/\t ρ M1 (λds M2=>∃y xs,∃f:Nat->Bool,∃j:Nat,ds=[y]/\fU M2 d=some xs/\(∀i z,xs[i]? =some z->jz M2 n z y (f i))/\j < xs.length/\f j=true/\(∀i,i < j->f i=false)/\q (.int (j:Int)) M2) x) x
theorem Az(n:Nat)(hr:bt k' X.A)(ho:JE X R o to)(ha:JA X R [e] t)(hn:n+1<=64:=by decide)(pF:attributeBase o "index" X.env (eval o X.env)=eval o X.env:=by rfl)
  (zg:((backTo aA (starEach [e] X.env)).all (λx=> !x.1)&&(backToKw aA (keywordEach [] X.env)).all (λx=>x.1.isSome)
   &&decide (([e]:List Expr).length+([]:List Keyword).length+(if ([]:List Keyword).isEmpty then 0 else 1) < 30))=true:=by rfl)
  (pO:(apos.endLine==aA.line)=true:=by rfl) (hs:starEach [e] X.env=(false,eval e X.env)::starEach [] X.env:=by rfl) (j6:(backTo aA (starEach [] X.env)).any (·.1)=false:=by rfl):
  JE X R (.Call (.Attribute o "index" apos) [e] [] aA) (E_ n to t):=
 .of (FX PySem.F.plainAttrs_list PySem.F.slot_list_index PySem.F.type_list_index (r:=FA X.K n) (EF (wM hr hn)) ho ha pF zg pO hs j6) λσ H G L ρ M q x rl n h hx=>by refine ⟨G,L,ρ,M,_,x,rl,n,h,hx,λv H1 ⟨d1,G1,L1,M1,e1,r1,n1,⟨xs,hm⟩,h1⟩=> ?_⟩;obtain ⟨a,vs,rfl,sq,m⟩:=cy r1 n1 hm;refine ⟨.inl ⟨rfl,vs,sq⟩,G1,L1,ρ,M1,_,x,r1,n.mono e1,h1,hx.on e1,λus H2 ⟨ds,G2,L2,M2,e2,r2,n2,y,xs',f,j,ed,GZ,hf,hj,ft,ff,h2⟩=> ?_⟩;subst ed;obtain ⟨u,rfl,n3⟩:=aM n2;obtain ⟨a2,MS,ea,NP,m2⟩:=cy r2 (Den.mono e2.g e2.l _ _ n1) GZ;cases ea;refine ⟨a,MS,u,f,j,rfl,rfl,NP,λi z hz=> ?_,by rw [<-m2.length];exact hj,ft,ff, .int (j:Int),G2,L2,_,e1.trans e2,r2,rfl,h2⟩;obtain ⟨d,hd,dn⟩:=m2.back hz;exact wD r2 (hf i d hd) dn n3
end
end L2
namespace PySem
open Sem (wp)
section
variable{prog:Program}{w:World}{K:Type} [DecidableEq K](knd:KeyKind prog w K)
def aG(h:Heap)(k:List K×K)(a:Addr):Prop:=
 ∃o n b v,h.get? a=some o/\o.cls= .type "tuple"/\o.data= .seq #[.ref b,v] n/\IsTupleKey knd h k.1 b/\knd.is k.2 v=true
def pV(k:List K×K):Int:=reduceHash (Builtin.Tuple.tupleHashOf [tupleKeyHash knd k.1,knd.hash k.2])
variable{knd}
theorem aG.typeIs{s:Shared}{k:List K×K}{a:Addr}(x:aG knd s.heap k a):s.TypeIs (.ref a) "tuple":=let ⟨o,_,_,_,ho,hc,_⟩:=x;⟨o,ho,hc⟩
theorem aG.inj{h:Heap}{a:Addr}{x y:List K×K}(hx:aG knd h x a)(hy:aG knd h y a):x=y:=by
 obtain ⟨o,n,b,v,ho,_,hd,hi,hv⟩:=hx;obtain ⟨o',n',b',v',oy,_,df,GI,AV⟩:=hy;obtain rfl:o=o':=aaG (ho.symm.trans oy);rw [hd] at df;injection df with h1 _
 injection h1 with h1
 injection h1 with h1 h2
 injection h1 with h1
 injection h2 with h2 _
 subst h1 h2;exact Prod.ext (hi.inj GI) (knd.inj _ _ _ hv AV)
theorem aG.keeps{h h':Heap}{k:List K×K}{a d:Addr}{o:Obj}{es ep}(x:aG knd h k a)(ho:h.get? d=some o)(hd:o.data= .dict es ep)(hs:Heap.SameBut d h h'):
  aG knd h' k a:=by
 obtain ⟨o',n,b,v,oy,hc,df,hi,hv⟩:=x;have gE:a≠d:=by rintro rfl;obtain rfl:o'=o:=aaG (oy.symm.trans ho);rw [hd] at df;exact nomatch df
 exact ⟨o',n,b,v,(hs.2 a gE).trans oy,hc,df,hi.keeps ho hd hs,hv⟩
variable{A:Around}{E:Value->Shared->Prop}{s:Shared}
theorem lh{k:List K×K}{a:Addr}{Q:Int->Shared->Prop}(hu:A.units < cLine)(KP:A.in1.units < cLine)(hk:aG knd s.heap k a)(h:Q (pV knd k) {s with toks:=s.toks+(k.1.length+3)}):
  wpAny (model prog w) A (pyHash (.ref a)) Q E s:=by
 have hT:=hk.typeIs;obtain ⟨o,n,b,v,ho,_,hd,hi,hv⟩:=hk;unfold pyHash
 first | unfold pyHashByItsType | skip
 first | refine aab (wpAny_cRoomFor_or (.inr hu) ?_) | skip
 refine aab (wpAny_specialOf hT F.slot_tuple_hash.lookup ?_);show wpAny _ _ (if (some (Value.builtin "tuple.__hash__")==some Value.none)=true then _ else _) Q E s;rw [aaA (by rw [beq_builtin_none];exact aau)];refine aab (wpAny_specialOf hT F.slot_tuple_hash.lookup ?_);show wpAny _ _ (callSpecialIfBoundUnlessNone? (.ref a) "__hash__" _ >>= _) Q E s;refine aab (wpAny_callSpecialIfBoundUnlessNone?_slot hT F.slot_tuple_hash (wpAny_call_entry F.slot_tuple_hash hT F.entry_tuple_hash ?_ (F.args_tuple_hash_1 _)));show wpAny _ _ (Builtin.Tuple.tupleItemsOf (.ref a) >>= _) _ _ s;refine aab (wpAny_tupleItemsOf ho hd ?_);refine aab ?_;rw [<-Array.forIn_toList]
 refine wpAny_forIn_list _
  (λΗ (c:Array Int) s'=>(Η=[.ref b,v]/\c.toList=[]/\s'=s)\/(Η=[v]/\c.toList=[tupleKeyHash knd k.1]/\s'={s with toks:=s.toks+(k.1.length+1)})\/
   (Η=[]/\c.toList=[tupleKeyHash knd k.1,knd.hash k.2]/\s'={s with toks:=s.toks+(k.1.length+2)}))
  _ ?_ ?_ _ _ (.inl ⟨rfl,rfl,rfl⟩)
 ·rintro x Η c s' (⟨e,hc,rfl⟩ | ⟨e,hc,rfl⟩ | ⟨e,_⟩)
  ·injection e with e1 e2;subst e1 e2
   refine aab (wpAny_pyHash_tuple KP hi ?_)
   first
    | exact wpAny_pure (.inr (.inl ⟨rfl,by simp [hc],rfl⟩))
    | exact wpAny_bind (wpAny_pure (wpAny_pure (.inr (.inl ⟨rfl,by simp [hc],rfl⟩))))
  ·injection e with e1 e2;subst e1 e2
   refine aab (knd.pyHash hv ?_)
   first
    | exact wpAny_pure (.inr (.inr ⟨rfl,by simp [hc],by simp [Nat.add_assoc]⟩))
    | exact wpAny_bind (wpAny_pure (wpAny_pure (.inr (.inr ⟨rfl,by simp [hc],by simp [Nat.add_assoc]⟩))))
  ·exact nomatch e
 ·rintro c s' (⟨e,_⟩ | ⟨e,_⟩ | ⟨_,hc,rfl⟩)
  ·exact nomatch e
  ·exact nomatch e
  show wpAny _ _ (retInt (Builtin.Tuple.tupleHashOf c.toList)) _ _ _;rw [hc];refine wpAny_ret_mkInt ?_;show wpAny _ _ (if (decide (-(2:Int) ^ 63<=Builtin.Tuple.tupleHashOf [tupleKeyHash knd k.1,knd.hash k.2])&&decide (Builtin.Tuple.tupleHashOf [tupleKeyHash knd k.1,knd.hash k.2] < 2 ^ 63))=true then _ else _) Q E _;unfold pV reduceHash at h;by_cases hr:(decide (-(2:Int) ^ 63<=Builtin.Tuple.tupleHashOf [tupleKeyHash knd k.1,knd.hash k.2])&&decide (Builtin.Tuple.tupleHashOf [tupleKeyHash knd k.1,knd.hash k.2] < 2 ^ 63))=true
  ·rw [aaF hr];rw [aaF hr] at h;exact wpAny_pure (by simpa [Nat.add_assoc] using h)
  ·rw [aaA hr];rw [aaA hr] at h;exact wpAny_bind (wpAny_rule (wpAny_pure (by simpa [Nat.add_assoc] using h)))
theorem vx{x y:List K×K}{a b:Addr}{P:Fin->Shared->Prop}(hu:A.units < cLine)(hx:aG knd s.heap x a)(hy:aG knd s.heap y b)(h:P (.done (.ret (.bool (decide (x=y))))) s):
  wpAny (model prog w) A (Builtin.«tuple.__eq__» ⟨[.ref a, .ref b],[]⟩) P E s:=by
 have WM:=hy.typeIs;obtain ⟨oa,na,b1,v1,ZZ,_,LX,Yh,Q8⟩:=hx;obtain ⟨ob,nb,b2,v2,Wf,_,sf,V_,W3⟩:=hy;show wpAny _ _ (isInstance (.ref b) (.type "tuple") >>= _) _ _ s;refine aab (wpAny_isInstance WM isSubtype_tuple_tuple ?_);simp only [Bool.not_true,Bool.false_eq_true,if_false];refine aab (wpAny_tupleItemsOf ZZ LX ?_);refine aab (wpAny_tupleItemsOf Wf sf ?_);refine aab ?_;have e0:(#[Value.ref b1,v1]:Array Value).toList.zip (#[Value.ref b2,v2]:Array Value).toList=[(.ref b1, .ref b2),(v1,v2)]:=rfl
 refine wpAny_forIn_list _
  (λΗ r s'=>r.1=none/\s'=s/\(Η=[(.ref b1, .ref b2),(v1,v2)]\/(Η=[(v1,v2)]/\x.1=y.1)\/(Η=[]/\x.1=y.1/\x.2=y.2)))
  _ ?_ ?_ _ _ ⟨rfl,rfl, .inl rfl⟩
 ·rintro ⟨u,v⟩ Η r s' ⟨hr,rfl,(e | ⟨e,h1⟩ | ⟨e,_⟩)⟩
  ·injection e with e1 e2;injection e1 with e1 e3;subst e1 e2 e3
   refine aab (wpAny_eqBool_tuple hu Yh V_ ?_);by_cases hk:x.1=y.1
   ·rw [aam hk];simp only [Bool.not_true,Bool.false_eq_true,if_false];exact aae ⟨rfl,rfl, .inr (.inl ⟨trivial,hk⟩)⟩
   ·rw [aaK hk];simp only [Bool.not_false,if_true];rw [aaK (λe=>hk (aa2 Prod.fst e))] at h;exact aab (aae (aae (aae h)))
  ·injection e with e1 e2;injection e1 with e1 e3;subst e1 e2 e3
   refine aab (knd.eqBool Q8 W3 ?_);by_cases hk:x.2=y.2
   ·rw [aam hk];simp only [Bool.not_true,Bool.false_eq_true,if_false];exact aae ⟨rfl,rfl, .inr (.inr ⟨trivial,h1,hk⟩)⟩
   ·rw [aaK hk];simp only [Bool.not_false,if_true];rw [aaK (λe=>hk (aa2 Prod.snd e))] at h;exact aab (aae (aae (aae h)))
  ·exact nomatch e
 ·rintro ⟨r1,r2⟩ s' ⟨hr,rfl,(e | ⟨e,_⟩ | ⟨_,h1,h2⟩)⟩
  ·exact nomatch e
  ·exact nomatch e
  simp only at hr;subst hr;refine aae ?_;rw [aam (Prod.ext h1 h2)] at h;exact h
theorem l9{x y:List K×K}{a b:Addr}{Q:Bool->Shared->Prop}(hu:A.units < cLine)(KP:A.in1.units < cLine)(hx:aG knd s.heap x a)(hy:aG knd s.heap y b)(h:Q (decide (x=y)) s):
  wpAny (model prog w) A (eqBool (.ref a) (.ref b)) Q E s:=by
 unfold eqBool
 try with_reducible refine wpAny_holding ?_
 show wpAny _ _ (if (Value.ref a==Value.ref b)=true then _ else _) Q E s;by_cases GL:(Value.ref a==Value.ref b)=true
 ·rw [aaF GL];have e:a=b:=by have:=eq_of_beq GL;injection this
  subst e;obtain rfl:=hx.inj hy;exact wpAny_bind (wpAny_rule (wpAny_pure (by simpa using h)))
 ·rw [aaA GL]
  exact aab (wpAny_richCompare_same_room (op:= .Eq) hx.typeIs hy.typeIs F.slot_tuple_eq
   (wpAny_call_entry F.slot_tuple_eq hx.typeIs F.entry_tuple_eq (vx KP hx hy ⟨_,rfl,(λe=>nomatch e),wpAny_truthy_bool h⟩) (F.args_tuple_eq_2 _ _)) hu)
theorem g9(m:Nat){ks:List K}{a:Addr}{Q:Bool->Shared->Prop}(hk:IsTupleKey knd s.heap ks a)(h:Q true s):wpAny (model prog w) A (eqIsQuiet (m+1) (.ref a)) Q E s:=by
 have hT:=hk.typeIs;obtain ⟨o,items,n,ho,_,hd,hi⟩:=hk;unfold eqIsQuiet;refine aab (wpAny_specialOf hT F.slot_tuple_eq.lookup ?_);show wpAny _ _ (isInstance (.ref a) (.type "tuple") >>= _) _ _ s;refine aab (wpAny_isInstance hT isSubtype_tuple_tuple ?_);simp only [Bool.not_true,Bool.false_eq_true,if_false];refine aab (wpAny_seqItems ho hd ?_);refine aab ?_;show wpAny _ _ (forIn items _ _) _ _ s;rw [<-Array.forIn_toList];refine wpAny_forIn_list _ (λΗ r s'=>r.1=none/\s'=s/\∀v∈Η,carriedByValue v=true) _ ?_ ?_ _ _ ⟨rfl,rfl,hi.byValue⟩
 ·rintro v Η r s' ⟨hr,rfl,l7⟩;rw [eqIsQuiet_byValue _ (l7 v aak)];refine aab (aae ?_);simp only [Bool.not_true,Bool.false_eq_true,if_false];exact aae ⟨rfl,rfl,λu KP=>l7 u (aag _ KP)⟩
 ·rintro ⟨r1,r2⟩ s' ⟨hr,rfl,_⟩;simp only at hr;subst hr;exact aae h
theorem iV{k:List K×K}{a:Addr}{Q:Bool->Shared->Prop}(hk:aG knd s.heap k a)(h:Q true s):wpAny (model prog w) A (eqIsQuiet 8 (.ref a)) Q E s:=by
 have hT:=hk.typeIs;obtain ⟨o,n,b,v,ho,_,hd,hi,hv⟩:=hk;unfold eqIsQuiet;refine aab (wpAny_specialOf hT F.slot_tuple_eq.lookup ?_);show wpAny _ _ (isInstance (.ref a) (.type "tuple") >>= _) _ _ s;refine aab (wpAny_isInstance hT isSubtype_tuple_tuple ?_);simp only [Bool.not_true,Bool.false_eq_true,if_false];refine aab (wpAny_seqItems ho hd ?_);refine aab ?_;show wpAny _ _ (forIn (#[Value.ref b,v]:Array Value) _ _) _ _ s;rw [<-Array.forIn_toList];refine wpAny_forIn_list _ (λΗ r s'=>r.1=none/\s'=s/\(Η=[.ref b,v]\/Η=[v]\/Η=[])) _ ?_ ?_ _ _ ⟨rfl,rfl, .inl rfl⟩
 ·rintro u Η r s' ⟨hr,rfl,(e | e | e)⟩
  ·injection e with e1 e2;subst e1 e2
   refine aab (g9 _ hi ?_);simp only [Bool.not_true,Bool.false_eq_true,if_false];exact aae ⟨rfl,rfl, .inr (.inl trivial)⟩
  ·injection e with e1 e2;subst e1 e2
   rw [eqIsQuiet_byValue _ (knd.byValue _ _ hv)];refine aab (aae ?_);simp only [Bool.not_true,Bool.false_eq_true,if_false];exact aae ⟨rfl,rfl, .inr (.inr trivial)⟩
  ·exact nomatch e
 ·rintro ⟨r1,r2⟩ s' ⟨hr,rfl,_⟩;simp only at hr;subst hr;exact aae h
end
def cY{prog:Program}{w:World}{K:Type} [DecidableEq K](knd:KeyKind prog w K):HeapKind prog w (List K×K) where
 is:=aG knd
 hash:=pV knd
 draws:=λk=>k.1.length+3
 room:=λA=>A.units < cLine/\A.in1.units < cLine
 inj:=λhx hy=>hx.inj hy
 keeps:=λx ho hd hs=>x.keeps ho hd hs
 pyHash:=λhu hk h=>lh hu.1 hu.2 hk h
 eqBool:=λhu hx hy h=>l9 hu.1 hu.2 hx hy h
 quiet:=λhk h=>iV hk h
end PySem
namespace L2
open PySem PySem.Spec PyProof.Rows
variable{P prog:Program}{w:World}{a b:Addr}{u:Value}{A:Around}{X:Cx}{δ:List (Addr×Obj)}{s:Shared}{v:V}{E Q:Value->Shared->Prop}{pos:Pos}{c:Bool}{n:Nat}{L as:List Addr}{us:List V}{R:St->XK}
abbrev NK:=List Key×Key
variable{k:NK}{xs:List (NK×Addr×Value)}{ks:List NK}
abbrev NL:=List (NK×Addr×V)
variable{ω:NL}
abbrev NT:NL->List (NK×Addr×Value)->Prop:=Paired λp q=>p.1=q.1/\p.2.1=q.2.1/\ag p.2.2 q.2.2
def ER(P:Program)(w:World)(a:Addr)(ω:NL)(h:Heap):Prop:=ω.length<=sizeLine/\(a==sysModules)=false/\∃xs,NT ω xs/\
 ∃o es ep,h.get? a=some o/\o.ExactDict/\o.data= .dict es ep/\es.toList=xs.map (entryOfKey (cY (ax P w)))/\(xs.map (·.1)).Nodup
def kR(P:Program)(w:World)(a:Addr)(ω:NL):HO:= .ext (ER P w a ω)
def jx(H:Hp)(k:NK)(b:Addr):Prop:=∃c,H b=some (.tup [.ref c,kV k.2])/\H c=some (.tup (k.1.map kV))
def d9(H:Hp)(ω:NL):Prop:=∀x∈ω,jx H x.1 x.2.1
def fi(ω:NL)(k:NK):Option V:=(ω.find? λx=>decide (x.1=k)).map (·.2.2)
def vX(ω:NL)(k:NK)(b:Addr)(v:V):NL:=if (ω.find? λx=>decide (x.1=k)).isSome then ω.map (λx=>if x.1=k then (x.1,x.2.1,v) else x) else ω++[(k,b,v)]
theorem xC(ω:NL)(k:NK)(b:Addr)(v:V):(vX ω k b v).length<=ω.length+1:=by
 unfold vX;split
 ·rw [aac];omega
 ·simp
section
variable{H:Hp}{h:Heap}
theorem zA{H':Hp}{P':Program}{w':World}(x:ER P' w' a ω h):bh P w H' h a (kR P' w' a ω):=by
 refine ⟨x, ?_,λh1 h2 y k=> ?_⟩
 ·obtain ⟨_,_,_,_,o,_,_,e,_⟩:=x;exact ⟨o,e⟩
 ·obtain ⟨z,hd,xs,r,o,es,ep,e,c⟩:=y;exact ⟨z,hd,xs,r,o,es,ep,k _ e,c⟩
theorem o_(ok:iL P w H h)(e:jx H k b):(cY (ax P w)).is h k b:=by
 obtain ⟨c,e1,e2⟩:=e;obtain ⟨_,its,r,o,h1,h2,n,h3⟩:=(show bh P w H h b (.tup [.ref c,kV k.2]) from ok b _ e1);cases r with
 | cons r1 r2=>
  cases r2 with
  | cons r2 r3=>
   cases r3;cases r1;exact ⟨o,n,c,_,h1,h2,h3,yy ok e2,xq r2⟩
theorem NT.val(r:NT ω xs)(k:NK):fZ (fi ω k) ((atKey xs k).map (·.2)):=by
 induction r with
 | nil=>exact True.intro
 | @cons p q ps qs h t ih=>
  obtain ⟨h1,_,h2⟩:=h;by_cases e:p.1=k
  ·have e':q.1=k:=h1.symm.trans e;have b:atKey (q::qs) k=some q.2:=by simp [atKey,List.find?_cons,e']
   have c:fi (p::ps) k=some p.2.2:=by simp [fi,List.find?_cons,e]
   rw [c,b];exact h2
  ·have e':¬q.1=k:=λz=>e (h1.trans z);have b:atKey (q::qs) k=atKey qs k:=by simp [atKey,List.find?_cons,e']
   have c:fi (p::ps) k=fi ps k:=by simp [fi,List.find?_cons,e]
   rw [c,b];exact ih
theorem NT.Kk(r:NT ω xs)(k:NK){y:V}(ry:ag y u):NT (ω.map λx=>if x.1=k then (x.1,x.2.1,y) else x) (xs.map (putAt k u)):=by
 induction r with
 | nil=>exact .nil
 | @cons p q ps qs h t ih=>
  rw [aav,aav];refine .cons ?_ ih;obtain ⟨h1,h2,h3⟩:=h;unfold putAt;by_cases e:p.1=k
  ·rw [aaF e,aaF (h1.symm.trans e)];exact ⟨h1,h2,ry⟩
  ·rw [aaA e,aaA (λz=>e (h1.trans z))];exact ⟨h1,h2,h3⟩
theorem NT.put(r:NT ω xs)(k:NK){y:V}(ry:ag y u):NT (vX ω k b y) (storedH xs k b u):=by
 have e:(ω.find? λx=>decide (x.1=k)).isSome=(atKey xs k).isSome:=by have q:=(r.val k).BO;unfold fi at q;rw [Option.isSome_map,Option.isSome_map] at q;exact q
 unfold vX storedH;rw [e];by_cases q:(atKey xs k).isSome=true
 ·rw [aaF q,aaF q];exact r.Kk k ry
 ·rw [aaA q,aaA q];exact Paired.snoc r ⟨rfl,rfl,ry⟩
theorem nP(ok:iL P w H h)(e:H a=some (kR P w a ω))(nk:d9 H ω):ω.length<=sizeLine/\(a==sysModules)=false/\∃xs,NT ω xs/\h.DictOfH (cY (ax P w)) a xs:=by
 obtain ⟨z,y,xs,r,o,es,ep,h1,h2,h3,h4,h5⟩:=(show ER P w a ω h from (ok a _ e).1);refine ⟨z,y,xs,r,o,es,ep,h1,h2,h3,h4,λx hx=> ?_,h5⟩;have all:∀{l:NL} {m:List (NK×Addr×Value)},NT l m->d9 H l->∀x∈m,(cY (ax P w)).is h x.1 x.2.1:=by
  intro l m q
  induction q with
  | nil=>intro _ x hx;exact nomatch hx
  | @cons p q ps qs hq t ih=>
   intro nk x hx;rcases aaB.mp hx with e | hx
   ·subst e;have:=nk p aak;rw [hq.1,hq.2.1] at this;exact o_ ok this
   ·exact ih (λy hy=>nk y (aag _ hy)) x hx
 exact all r nk x hx
end
theorem nest_room(hu:A.units+2 < cLine):(cY (ax P w)).room A.in1:=⟨Nat.lt_of_succ_lt hu,hu⟩
section
variable{σ:St}{H:Hp}{d:V}{r:Value}
theorem Inv.Le(I:Inv X δ σ H s)(e:H a=some (.dK [])):Inv X δ σ (upd H a (kR X.prog X.w a [])) s:=by obtain ⟨z,hd,vs,rel,o,es,ep,e1,c,e2,e3,e4⟩:=CZ I.aB e;cases rel;refine I.write (x:=a) (e:=a) (h':=s.heap) (t':=s.toks) (by rw [e];exact True.intro) (.inl rfl) (λb u _ q=>q) ⟨o,e1⟩ (zA ⟨z,hd,[], .nil,o,es,ep,e1,c,e2, ?_,List.nodup_nil⟩);obtain ⟨e4,_⟩:=e4;generalize es.toList=l at e4;cases e4;rfl
theorem Kh(hu:A.units+2 < cLine)(I:Inv X δ σ H s)(e:H a=some (kR X.prog X.w a ω))(nk:d9 H ω)(eb:jx H k b)(rd:ag d r)
  (h:∀w' s',Inv X δ σ H s'->ag ((fi ω k).getD d) w'->Q w' s'):wpAny (model X.prog X.w) A (call (.builtin "dict.get") [.ref a, .ref b,r]) Q E s:=by
 obtain ⟨z,hd,xs,rel,dd⟩:=nP I.aB e nk;exact call_meetsIn PySem.F.slot_dict_get dd.typeIs PySem.F.entry_dict_get (PySem.F.args_dict_get_3 _ _ _) (meetsH_dict_get_default (cY (ax X.prog X.w)) a b hd r) ⟨nest_room hu,k,xs,o_ I.aB eb,dd,h _ _ (I.tok _) ((rel.val k).getD rd)⟩
theorem BY{Q:Unit->Shared->Prop}(hu:A.units+2 < cLine)(I:Inv X δ σ H s)(e:H a=some (kR X.prog X.w a ω))(nk:d9 H ω)(eb:jx H k b)(l:ω.length < sizeLine)(rv:ag v r)
  (h:∀s',Inv X δ σ (upd H a (kR X.prog X.w a (vX ω k b v))) s'->Q () s'):wpAny (model X.prog X.w) A (setItem (.ref a) (.ref b) r) Q E s:=by
 obtain ⟨z,hd,xs,rel,dd⟩:=nP I.aB e nk;have hz:xs.length<=sizeLine:=by rw [<-Paired.length rel];exact z
 have hl:(vX ω k b v).length<=sizeLine:=by have:=xC ω k b v;omega
 refine wpAny_setItem_heap (hsz:=hz) (nest_room hu) (o_ I.aB eb) dd λh' Rj hs=>h _ ?_;obtain ⟨q,es,ep,hq,h2,h3,h4,_,h5⟩:=Rj;exact Ad I (by rw [e];exact True.intro) hs ⟨q,hq⟩ (zA ⟨hl,hd,_,rel.put k rv,q,es,ep,hq,h2,h3,h4,h5⟩)
end
def MN(P:Program)(w:World)(td ty tx:TE):TE:=λσ H Q=>td σ H λx H1=>∃a,x= .ref a/\(∃ω,H1 a=some (kR P w a ω)/\d9 H1 ω)/\ty σ H1 λy H2=>tx σ H2 λz H3=>
 ∃b ω k,y= .ref b/\H3 a=some (kR P w a ω)/\d9 H3 ω/\jx H3 k b/\Q ((fi ω k).getD z) H3
def OY(P:Program)(w:World)(td ty tv:TE):TS:=λD σ H=>tv σ H λv H1=>td σ H1 λx H2=>ty σ H2 λy H3=>∃a b ω k,x= .ref a/\y= .ref b/\H3 a=some (kR P w a ω)/\d9 H3 ω/\jx H3 k b/\ω.length < sizeLine/\
 D.nx σ (upd H3 a (kR P w a (vX ω k b v)))
section
variable{o i e f value:Expr}{apos aA pos':Pos}{td ty tx tv:TE}
theorem FE(hu:X.A.units+2 < cLine)(ho:PE X o td)(he:PE X e ty)(hf:PE X f tx)(m:M2 X o "get" apos e f aA):PE X (.Call (.Attribute o "get" apos) [e,f] [] aA) (MN X.prog X.w td ty tx):=by
 intro δ s σ H Q I h;refine wpAny_Call_method m.base m.JY m.line PySem.F.plainAttrs_dict PySem.F.slot_dict_get PySem.F.type_dict_get (bx (ho δ s σ H _ I h) λu s1 ⟨x,H1,I1,rx,a,ex,⟨kv1,d,W0⟩,q1⟩=> ?_);subst ex;obtain rfl:u=Value.ref a:=rx;obtain ⟨_,hd,xs,_,dd⟩:=nP I1.aB d W0;refine ⟨dd.typeIs,λb q=> ?_, ?_⟩
 ·cases q;obtain ⟨ob,_,_,h1,h2,_⟩:=dd;exact ⟨ob,h1,h2.2.1⟩
 rw [m.trees]
 refine Calls.callWith_builtin rfl (Calls.evalArgs_plain (Calls.spliced_cons (bx (he δ s1 σ H1 _ I1 q1) λiv s2 ⟨y,H2,I2,ry,q2⟩=>
  Calls.spliced_cons (bx (hf δ s2 σ H2 _ I2 q2) λfv s3 ⟨z,H3,I3,rz,b,ω,k,ey,e,nk,eb,q3⟩=>Calls.spliced_nil ?_))))
 subst ey;obtain rfl:iv=Value.ref b:=ry;exact Kh hu I3 e nk eb rz λw' s4 I4 uQ=>⟨_,H3,I4,uQ,q3⟩
theorem Iz(hu:X.A.units+2 < cLine)(ho:PE X o td)(hi:PE X i ty)(hv:PE X value tv)(hs:swapsWith value (some (.Subscript o i pos')) pos.line X.env=pure false):
  PS X (.Assign [.Subscript o i pos'] value pos) (OY X.prog X.w td ty tv):=by
 intro δ s σ H D I h;refine wpAny_Assign_Subscript (bx (hv δ s σ H _ I h) λr s1 ⟨v,H1,I1,rv,q1⟩=>bx (ho δ s1 σ H1 _ I1 q1) λu s2 ⟨x,H2,I2,rx,q2⟩=>bx (hi δ s2 σ H2 _ I2 q2) λiv s3 ⟨y,H3,I3,ry,a,b,ω,k,ex,ey,e,nk,eb,l,q3⟩=> ?_) hs;subst ex ey;obtain rfl:u=Value.ref a:=rx;obtain rfl:iv=Value.ref b:=ry;exact BY hu I3 e nk eb l rv λs4 I4=>⟨σ,_,I4,q3⟩
def Pw(P:Program)(w:World)(t:TE):TE:=λσ H Q=>t σ H λx H1=>∃a,x= .ref a/\H1 a=some (.dK [])/\Q x (upd H1 a (kR P w a []))
theorem Ig(he:PE X e ty):PE X e (Pw X.prog X.w ty):=by intro δ s σ H Q I h;refine bx (he δ s σ H _ I h) λu s1 ⟨x,H1,I1,rx,a,ex,e1,q1⟩=> ?_;subst ex;exact ⟨.ref a,_,I1.Le e1,rx,q1⟩
end
open PySem PySem.SeqAt
section
variable{K:Type} [DecidableEq K]{knd:HeapKind prog w K}{xs ys:List (K×Addr×Value)}
theorem Am{es:Array DictEntry}(he:es.toList=xs.map (entryOfKey knd))(j:Nat):es[j]? =xs[j]?.map (entryOfKey knd):=by rw [<-abc,he,aaj]
theorem Bf{xs:List (K×Addr×Value)}{k:K}{q:Addr×Value}(h:atKey xs k=some q):∃j:Nat,xs[j]? =some (k,q):=by unfold atKey at h;obtain ⟨p,h1,h2⟩:=aaQ.mp h;have h3:=List.find?_some h1;have h4:=List.mem_of_find?_eq_some h1;obtain ⟨j,hj⟩:=abd.mp h4;have h5:p.1=k:=aaq h3;exact ⟨j,by rw [hj,<-h5,<-h2]⟩
theorem zx{id:String}(hu:knd.room A)(ha:s.heap.DictOfH knd a xs)(hb:s.heap.DictOfH knd b ys)(LX:(a==sysModules)=false)(sf:(b==sysModules)=false)(hl:xs.length=ys.length)
  {e:Nat->Bool} (he:∀j k p,xs[j]? =some (k,p)->(atKey ys k=none/\e j=false)\/∃q,atKey ys k=some q/\jR prog w A s p.2 q.2 (e j)) {Q:Bool->Shared->Prop} (h:Q ((List.range xs.length).all e) s):
  wpAny (model prog w) A (Builtin.Dict.samePairs id a b) Q E s:=by
 obtain ⟨o1,iq,Zp,g1,x1,d1,k1,i1,n1⟩:=ha;obtain ⟨o2,GK,Xm,g2,x2,d2,k2,i2,n2⟩:=hb;have sa:∀{c:Addr} {Q:Unit->Shared->Prop},(c==sysModules)=false->Q () s->wpAny (model prog w) A (Builtin.Dict.showsAll c) Q E s:=λhc hq=>by unfold Builtin.Dict.showsAll;rw [aaA (by rw [hc];decide)];exact aae hq
 unfold Builtin.Dict.samePairs;refine aab (sa LX (aab (sa sf (aab (wpAny_dictEntries g1 d1 (aab (wpAny_dictEntries g2 d2 ?_)))))));have z1:iq.size=xs.length:=by rw [<-aa7,k1,aac]
 have z2:GK.size=ys.length:=by rw [<-aa7,k2,aac]
 rw [if_neg (by rw [z1,z2,hl];simp)];refine aab (wpAny_dictEpoch g1 d1 ?_);refine aab ?_;rw [Std.Legacy.Range.forIn_eq_forIn_range'];have sz:[:iq.size].size=iq.size:=by simp [Std.Legacy.Range.size]
 rw [sz];refine wpAny_forIn_list _ (λΗ b s'=>s'=s/\b.1=none/\∃i,Η=List.range' i (iq.size - i)/\i<=iq.size/\((List.range i).all e=true)) _ ?_ ?_ _ _ ⟨rfl,rfl,0,by simp,Nat.zero_le _,rfl⟩
 ·rintro x Η b s' ⟨rfl,hb,i,hr,hi,l7⟩;have Bl:i < iq.size:=by
   rcases aa8 i iq.size with h' | h'
   ·exact h'
   ·rw [Nat.sub_eq_zero_of_le h'] at hr;cases hr
  rw [show iq.size - i=(iq.size - (i+1))+1 by omega,List.range'_succ] at hr;injection hr with hx FV
  subst hx;refine aab (wpAny_dictEntries g1 d1 ?_);have Rr:x < xs.length:=by omega
  obtain ⟨⟨k,ka,v⟩,hk⟩:∃p,xs[x]? =some p:=⟨_,aaa Rr⟩;rw [Am k1 x,hk];dsimp only [Option.map,entryOfKey];have hm:(k,ka,v)∈xs:=aaD hk;refine aab (abv (Q:=λr Jn=>Jn=s'/\r=e x) (E:=E) ?_ (λr Jn ⟨es,er⟩=> ?_) λ_ _ h'=>h')
  ·refine wpAny_holding (aab (wpAny_dictFind_heap hu (i1 _ hm) g2 d2 k2 i2 n2 (λno=> ?_) λj p hj=> ?_))
   ·rcases he x k _ hk with ⟨h1,h2⟩ | ⟨q,h1,h2⟩
    ·exact aae ⟨rfl,h2.symm⟩
    ·obtain ⟨j,hj⟩:=Bf h1;exact aaI hj (no j q)
   ·rcases he x k _ hk with ⟨h1,h2⟩ | ⟨q,h1,h2⟩
    ·rw [atKey_of_get n2 hj] at h1;cases h1
    ·rw [atKey_of_get n2 hj] at h1;cases h1;dsimp only;refine aab (wpAny_dictEntries g2 d2 ?_);rw [Am k2 j,hj];dsimp only [Option.map,entryOfKey];exact wpAny_holding (h2 _ _ ⟨rfl,rfl⟩)
  ·subst es er;cases hex:e x with
   | false=>
    rw [aaF (by rfl)];refine aae (aae ?_);have:(List.range xs.length).all e=false:=by rw [List.all_eq_false];exact ⟨x,aaP.mpr (by omega),by rw [hex];decide⟩
    rw [this] at h;exact h
   | true=>
    rw [aaA (by decide)];refine aab (wpAny_dictEpoch g1 d1 ?_);rw [if_neg (by simp)];refine aae ⟨rfl,rfl,x+1,FV,by omega, ?_⟩;rw [abY,List.all_append,l7];simp [hex]
 ·rintro ⟨b1,b2⟩ s' ⟨rfl,hb,i,hr,hi,l7⟩;have hb:b1=none:=hb;subst hb;have:i=iq.size:=by have:=aa2 List.length hr;rw [List.length_range'] at this;simp at this;omega
  subst this;rw [z1] at l7;rw [l7] at h;exact aae h
theorem qh{id:String}(ha:s.heap.DictOfH knd a xs)(hb:s.heap.DictOfH knd b ys)(LX:(a==sysModules)=false)(sf:(b==sysModules)=false)(hl:xs.length≠ys.length)
  {Q:Bool->Shared->Prop} (h:Q false s):wpAny (model prog w) A (Builtin.Dict.samePairs id a b) Q E s:=by
 obtain ⟨o1,iq,Zp,g1,x1,d1,k1,i1,n1⟩:=ha;obtain ⟨o2,GK,Xm,g2,x2,d2,k2,i2,n2⟩:=hb;have sa:∀{c:Addr} {Q:Unit->Shared->Prop},(c==sysModules)=false->Q () s->wpAny (model prog w) A (Builtin.Dict.showsAll c) Q E s:=λhc hq=>by unfold Builtin.Dict.showsAll;rw [aaA (by rw [hc];decide)];exact aae hq
 unfold Builtin.Dict.samePairs;refine aab (sa LX (aab (sa sf (aab (wpAny_dictEntries g1 d1 (aab (wpAny_dictEntries g2 d2 ?_)))))));have z1:iq.size=xs.length:=by rw [<-aa7,k1,aac]
 have z2:GK.size=ys.length:=by rw [<-aa7,k2,aac]
 rw [if_pos (by rw [z1,z2];simpa using hl)];exact aab (wpAny_rule (aae h))
theorem nC(ta:s.TypeIs (.ref a) "dict")(tb:s.TypeIs (.ref b) "dict")(hu:A.units < cLine)(h:∀{E:Value->Shared->Prop} {Q:Bool->Shared->Prop},Q c s->wpAny (model prog w) A.in1 (Builtin.Dict.samePairs (toString "dict."++toString "__eq__") a b) Q E s)(q:Q (.bool c) s):wpAny (model prog w) A (richCompare .Eq (.ref a) (.ref b)) Q E s:=by
 refine wpAny_richCompare_same_room ta tb F.slot_dict_eq (wpAny_call_entry F.slot_dict_eq ta F.entry_dict_eq ?_ (F.args_dict_eq_2 _ _)) hu;show wpAny _ _ (Builtin.Dict.dictSlotArgs "__eq__" ⟨[.ref a, .ref b],[]⟩ >>= _) _ _ s;refine aab ?_;unfold Builtin.Dict.dictSlotArgs;refine aab (wpAny_notOrdered_dict ta ?_);refine aab (m:=slotArgs "__eq__" 1 _) (aae ?_);refine aae ?_;refine aab (wpAny_isInstance tb isSubtype_dict_dict ?_);rw [aaA (by decide)];refine aab (aae (aab (aae (aab (h ?_)))));have e:(c==true)=c:=by cases c <;> rfl
 refine aae ⟨Value.bool (c==true),rfl,⟨λz=>(nomatch z), ?_⟩⟩;rw [e];exact q
end
section
open PySem.AutoSeq1 (wpAny_loadPart')
open PySem.MeetsSeq PySem.MeetsSeq2 PySem.MeetsSeq3 PySem.SeqRoads2
theorem lI{l:Addr}{items:Array Value}{n:Nat}{dd:Option Addr}{sl:Array (Option Value)}{x:Value}{e:Nat->Bool}{Gv:Int}{j:Nat}(hj:j < items.size)(Jw:(j:Int) < Gv)
  (hit:e j=true) (Nq:∀m,m < j->e m=false):∀k i:Nat,j - i=k->i<=j->MeetsIn prog w (Builtin.«list.index.loop» ⟨[.ref l,x,rawInt i,rawInt Gv],[]⟩)
   (λA R s=>s.heap.get? l=some {cls:= .type "list",dict:=dd,data:= .seq items n,slots:=sl}/\(∀m (hm:m < items.size),jR prog w A.in1 s items[m] x (e m))/\R (.ok (.ret (.int j s.toks))) {s with toks:=s.toks+1})
 | 0,i,hk,QC=>λA R s h=>by
  obtain ⟨hp,g,d,tk,os⟩:=s;obtain ⟨hl,he,h⟩:=h;have Um:i=j:=by omega
  subst Um
  wp_walk using wpAny_loadPart' hl
  have hi:(if (i:Int) < Gv then items[((i:Nat):Int).toNat]? else none)=some items[i]:=by simp [Jw,hj]
  rw [hi];refine aab (he _ hj _ _ ?_);rw [hit]
  wp_walk
  exact h
 | k+1,i,hk,QC=>λA R s h=>by
  obtain ⟨hp,g,d,tk,os⟩:=s;obtain ⟨hl,he,h⟩:=h;have Bl:i < items.size:=by omega
  have B1:(i:Int) < Gv:=by omega
  wp_walk using wpAny_loadPart' hl
  have hi:(if (i:Int) < Gv then items[((i:Nat):Int).toNat]? else none)=some items[i]:=by simp [B1,Bl]
  have hc:((i:Int)+1)=((i+1:Nat):Int):=by push_cast;rfl
  rw [hi];refine aab (he _ Bl _ _ ?_);rw [Nq i (by omega)]
  wp_walk
  rw [hc];refine ⟨plainId_quiet plain_index_loop _,codeAny_builtin entry_index_loop ?_⟩;rw [Around.under_plainId plain_index_loop _];exact lI hj Jw hit Nq k (i+1) (by omega) (by omega) A R _ ⟨hl,he,h⟩
theorem vI{l:Addr}{items:Array Value}{n:Nat}{dd:Option Addr}{sl:Array (Option Value)}{x:Value}{e:Nat->Bool}{j:Nat}(hj:j < items.size)(K1:(j:Int) < 2 ^ 63 - 1)
  (hit:e j=true) (Nq:∀m,m < j->e m=false):MeetsIn prog w (Builtin.«list.index» ⟨[.ref l,x],[]⟩)
   (λA R s=>s.heap.get? l=some {cls:= .type "list",dict:=dd,data:= .seq items n,slots:=sl}/\(∀m (hm:m < items.size),jR prog w A.in1 s items[m] x (e m))/\R (.ok (.ret (.int j s.toks))) {s with toks:=s.toks+1}):=λA R s h=>by
 obtain ⟨hp,g,d,tk,os⟩:=s;obtain ⟨hl,he,h⟩:=h
 wp_walk using wpAny_loadPart' hl
 have a1:((λi:Int=>if i < 0 then max 0 (i+(items.size:Int)) else i) ((none:Option Int).getD 0))=((0:Nat):Int):=by simp
 have a2:((λi:Int=>if i < 0 then max 0 (i+(items.size:Int)) else i) ((none:Option Int).getD (2 ^ 63 - 1)))=2 ^ 63 - 1:=by simp
 rw [a1,a2];refine ⟨plainId_quiet plain_index_loop _,codeAny_builtin entry_index_loop ?_⟩;rw [Around.under_plainId plain_index_loop _];exact lI hj K1 hit Nq _ 0 rfl (abA _) A R _ ⟨hl,he,h⟩
theorem Fq{l:Addr}{xs ys:Array Value}{n n2:Nat}{dd OI:Option Addr}{sl kQ:Array (Option Value)}{e:Nat->Bool}(hz:xs.size=ys.size):
  MeetsIn prog w (Builtin.«tuple.__eq__» ⟨[.ref l, .ref b],[]⟩) (λA R s=>s.heap.get? l=some {cls:= .type "tuple",dict:=dd,data:= .seq xs n,slots:=sl}/\s.heap.get? b=some {cls:= .type "tuple",dict:=OI,data:= .seq ys n2,slots:=kQ}/\
   (∀j (h1:j < xs.size) (h2:j < ys.size),(List.range j).all e=true->jR prog w A.in1 s xs[j] ys[j] (e j))/\R (.ok (.ret (.bool ((List.range xs.size).all e)))) s):=λA R s h=>by
 obtain ⟨hp,g,d,tk,os⟩:=s;obtain ⟨hl,hb,he,h⟩:=h;have f2:=PySem.AutoSeq1.sub_tuple_tuple
 wp_walk using wpAny_loadPart' hl,wpAny_loadPart' hb,wpAny_forIn_list _ (λΗ b s'=>b.1=none/\s'=(⟨hp,g,d,tk,os⟩:Shared)/\∃i,Η=(xs.toList.zip ys.toList).drop i/\i<=xs.size/\(List.range i).all e=true) _
 case turn=>
  rintro ⟨y,x⟩ Η b s' ⟨HU,rfl,i,JU,hi,l7⟩;have Bl:i < (xs.toList.zip ys.toList).length:=by
   rcases aa8 i (xs.toList.zip ys.toList).length with h' | h'
   ·exact h'
   ·rw [List.drop_of_length_le h'] at JU;cases JU
  have hZ:(xs.toList.zip ys.toList).length=min xs.size ys.size:=by simp
  have h1:i < xs.size:=by omega
  have h2:i < ys.size:=by omega
  rw [abk Bl] at JU;injection JU with UT FV
  have hy:y=xs[i]:=by have:=congrArg Prod.fst UT;simpa using this
  have hx:x=ys[i]:=by have:=congrArg Prod.snd UT;simpa using this
  subst hy hx;refine aab (he i h1 h2 l7 _ _ ?_);cases hex:e i with
  | true=>
   wp_walk
   refine ⟨rfl,rfl,i+1,FV,h1, ?_⟩;rw [abY,List.all_append,l7];simp [hex]
  | false=>
   have:(List.range xs.size).all e=false:=by rw [List.all_eq_false];exact ⟨i,aaP.mpr h1,by rw [hex];decide⟩
   rw [this] at h
   wp_walk
   exact h
 case fin=>
  rintro ⟨b1,b2⟩ s' ⟨HU,rfl,i,hr,hi,l7⟩;simp only at HU;subst HU;have hi:i=xs.size:=by have:=aa2 List.length hr;simp at this;omega
  subst hi;rw [l7] at h
  wp_walk
  rw [hz];simpa [Builtin.Tuple.tupleCompareSizes] using h
 case h=>
  exact ⟨rfl,rfl,0,by simp⟩
end
inductive J4(P:Program)(w:World)(K:fv)(H:Hp)(n:Nat):V->V->Bool->Prop
 | eq {x y:V} {c:Bool} (h:x8 K H n x y c):J4 P w K H n x y c
 | same {a:Addr}:J4 P w K H n (.ref a) (.ref a) true
 | nd {a b:Addr} {ω mN:NL} {e:Nat->Bool} (gE:a≠b) (h1:H a=some (kR P w a ω)) (h2:H b=some (kR P w b mN)) (k1:d9 H ω) (k2:d9 H mN) (hl:ω.length=mN.length)
   (hn:∀j k ka v,ω[j]? =some (k,ka,v)->fi mN k=none->e j=false) (h:∀j k ka v v',ω[j]? =some (k,ka,v)->fi mN k=some v'->x8 K H n v v' (e j)):J4 P w K H n (.ref a) (.ref b) ((List.range ω.length).all e)
 | len {a b:Addr} {ω mN:NL} (gE:a≠b) (h1:H a=some (kR P w a ω)) (h2:H b=some (kR P w b mN)) (k1:d9 H ω) (k2:d9 H mN) (hl:ω.length≠mN.length):J4 P w K H n (.ref a) (.ref b) false
theorem Dv:∀{ω:NL} {xs:List (NK×Addr×Value)},NT ω xs->∀{j:Nat} {k:NK} {p:Addr×Value},xs[j]? =some (k,p)->∃v,ω[j]? =some (k,p.1,v)/\ag v p.2
 | _,_, .nil,j,k,u,h=>by simp at h
 | _,_, .cons (a:=p) (b:=q) r t,0,k,u,h=>by
  have:q=(k,u):=by simpa using h
  subst this;obtain ⟨e1,e2,e3⟩:=r;refine ⟨p.2.2, ?_,e3⟩;obtain ⟨p1,p2,p3⟩:=p;cases e1;cases e2;rfl
 | _,_, .cons r t,j+1,k,u,h=>by obtain ⟨v,e,rv⟩:=Dv t (show _=some (k,u) by simpa using h);exact ⟨v,by simpa using e,rv⟩
theorem EB(r:NT ω xs)(k:NK):(fi ω k=none/\atKey xs k=none)\/∃v q,fi ω k=some v/\atKey xs k=some q/\ag v q.2:=by
 have:=r.val k;cases h1:fi ω k with
 | none=>
  cases h2:atKey xs k with
  | none=>exact .inl ⟨rfl,rfl⟩
  | some u=>rw [h1,h2] at this;exact this.elim
 | some v=>
  cases h2:atKey xs k with
  | none=>rw [h1,h2] at this;exact this.elim
  | some u=>rw [h1,h2] at this;exact .inr ⟨v,u,rfl,rfl,this⟩
section
variable{σ:St}{H:Hp}
theorem Fs(I:Inv X δ σ H s){x y:V}(h:J4 X.prog X.w X.K H n x y c)(e:x=y):c=true:=by
 cases h with
 | eq h=>exact qv I h e
 | same=>rfl
 | nd gE=>exact aaI (V.ref.inj e) gE
 | len gE=>exact aaI (V.ref.inj e) gE
theorem L6(I:Inv X δ σ H s){x y:V}(h:J4 X.prog X.w X.K H n x y c){v:Value}(ru:ag x u)(rv:ag y v)(hu:A.units+(n+2) < cLine):jR X.prog X.w A s u v c:=by
 cases h with
 | eq h=>exact λE Q q=>j9 I h ru rv (by omega) X.prog X.w E Q q
 | same=>
  cases ru;cases rv;exact jR.same _
 | @nd a b ω mN e gE h1 h2 k1 k2 hl hn h=>
  cases ru;cases rv;obtain ⟨_,z1,xs,r1,d1⟩:=nP I.aB h1 k1;obtain ⟨_,z2,ys,r2,d2⟩:=nP I.aB h2 k2;refine jR.of_refs gE λE Q q=> ?_;rw [Paired.length r1] at q;refine nC d1.typeIs d2.typeIs (by omega) (λhq=>zx (nest_room (by omega)) d1 d2 z1 z2 (by rw [<-Paired.length r1,<-Paired.length r2];exact hl) (λj k p hj=> ?_) hq) q;obtain ⟨v,hv,rv⟩:=Dv r1 hj;rcases EB r2 k with ⟨q1,q2⟩ | ⟨v',u',q1,q2,q3⟩
  ·exact .inl ⟨q2,hn j k _ v hv q1⟩
  ·exact .inr ⟨u',q2,λE Q q=>j9 I (h j k _ v v' hv q1) rv q3 (by show A.units+1+n < cLine;omega) X.prog X.w E Q q⟩
 | @len a b ω mN gE h1 h2 k1 k2 hl=>
  cases ru;cases rv;obtain ⟨_,z1,xs,r1,d1⟩:=nP I.aB h1 k1;obtain ⟨_,z2,ys,r2,d2⟩:=nP I.aB h2 k2;exact jR.of_refs gE λE Q q=>nC d1.typeIs d2.typeIs (by omega) (λhq=>qh d1 d2 z1 z2 (by rw [<-Paired.length r1,<-Paired.length r2];exact hl) hq) q
def UA(P:Program)(w:World)(K:fv)(H:Hp)(n:Nat)(x y:V)(c:Bool):Prop:=
 ∃a b xs ys,∃e:Nat->Bool,x= .ref a/\y= .ref b/\ju K H a xs/\ju K H b ys/\xs.length=ys.length/\(∀j u v,xs[j]? =some u->ys[j]? =some v->(List.range j).all e=true->J4 P w K H n u v (e j))/\c=(List.range xs.length).all e
theorem L7(I:Inv X δ σ H s){x y:V}(h:UA X.prog X.w X.K H n x y c){v:Value}(ru:ag x u)(rv:ag y v)(hu:A.units+(n+3) < cLine):jR X.prog X.w A s u v c:=by
 obtain ⟨a,b,xs,ys,e,rfl,rfl,h1,h2,hl,he,rfl⟩:=h;cases ru;cases rv;by_cases ab:a=b
 ·subst ab;cases I.gs h1 h2;have:∀m,m<=xs.length->(List.range m).all e=true:=λm=>by
   induction m with
   | zero=>exact λ_=>rfl
   | succ m ih=>
    intro hm;have q:=ih (Nat.le_of_succ_le hm);have g:xs[m]? =some xs[m]:=aaa hm;rw [abY,List.all_append,q];simp [Fs I (he m _ _ g g q) rfl]
  rw [this _ (aal _)];exact jR.same _
 refine jR.of_refs ab λE Q q=> ?_;obtain ⟨its,r1,⟨⟨c1,Z',t1,s1⟩,g1,rfl,n1,rfl⟩,_⟩:=I.tuple h1;obtain ⟨Yv,r2,⟨⟨c2,OI,t2,s2⟩,g2,rfl,n2,rfl⟩,_⟩:=I.tuple h2;have P4:its.toArray.size=xs.length:=by rw [aay,<-r1.length]
 have hz:its.toArray.size=Yv.toArray.size:=by rw [P4,aay,<-r2.length];exact hl
 rw [<-P4] at q;refine wpAny_richCompare_same_room (T:="tuple") ⟨_,g1,rfl⟩ ⟨_,g2,rfl⟩ PySem.F.slot_tuple_eq (call_meetsIn PySem.F.slot_tuple_eq ⟨_,g1,rfl⟩ PySem.F.entry_tuple_eq (PySem.F.args_tuple_eq_2 _ _) (Fq (e:=e) hz) ⟨g1,g2,λj j1 j2 ja=> ?_,⟨λz=>(nomatch z),q⟩⟩) (by omega);have k1:j < xs.length:=by omega
 have k2:j < ys.length:=by omega
 have e1:xs[j]? =some xs[j]:=aaa k1;have e2:ys[j]? =some ys[j]:=aaa k2;obtain ⟨z1,P4,Y0⟩:=aJ r1 j1;obtain ⟨z2,NR,V9⟩:=aJ r2 j2;exact L6 I (he j _ _ P4 NR ja) Y0 V9 (by show A.units+1+(n+2) < cLine;omega)
def AI(P:Program)(w:World)(K:fv)(n:Nat):V->List V->Hp->VK->Prop:=λx vs H Q=>∃p xs y,∃f:Nat->Bool,∃j:Nat,x= .ref p/\vs=[y]/\fm K H p xs/\(∀i z,xs[i]? =some z->UA P w K H n z y (f i))/\j < xs.length/\f j=true/\(∀i,i < j->f i=false)/\Q (.int (j:Int)) H
theorem B9(hu:X.A.units+(n+4) < cLine):S4 X "list.index" (AI X.prog X.w X.K n):=by
 intro δ s σ H x vs v us Q I rx rv h;obtain ⟨p,xs,y,f,j,rfl,rfl,hq,hf,hj,ft,ff,q⟩:=h;cases rx;obtain ⟨u,rfl,ru⟩:=rv.one;obtain ⟨its,r,pl,hz⟩:=I.list hq;obtain ⟨⟨cls,dd,data,sl⟩,nn,ho,hc,Ly,hd⟩:=id pl;simp only at hc hd;subst hc hd;have lz:its.toArray.size=xs.length:=by rw [aay,<-r.length]
 have Tq:sizeLine < 2 ^ 63 - 1:=by decide
 refine call_meetsIn F.slot_list_index ⟨_,ho,rfl⟩ F.entry_list_index (F.args_list_index_2 _ _) (vI (e:=f) (j:=j) (by omega) (by omega) ft ff) ⟨ho,λm hm=> ?_, .int (j:Int),H,I.tok _,⟨_,rfl⟩,q⟩;obtain ⟨z,hz,rz⟩:=aJ r hm;exact L7 I (hf m z hz) rz ru (by show X.A.units+1+(n+3) < cLine;omega)
end
def tG(k:NK):Dt:= .tup [.tup (k.1.map nJ),nJ k.2]
def O7:V->Addr
 | .ref a=>a
 | _=>0
def KA(ks:List NK)(vs:List V):NL:=ks.zip (((vs.take ks.length).map O7).zip (vs.drop ks.length))
def jO(P:Program)(w:World)(ks:List NK)(ds:List Dt):MO:= .JD (λa vs=>kR P w a (KA ks vs)) (ks.map tG++ds)
def dJ(ks:List NK)(ds:List Dt)(k:NK):Option Dt:=((ks.zip ds).find? λx=>decide (x.1=k)).map (·.2)
def xf(ks:List NK)(k:NK):Bool:=ks.any λc=>decide (c=k)
def lA(ks:List NK)(k:NK):List NK:=if xf ks k then ks else ks++[k]
def sT{α:Type}(ks:List NK)(k:NK)(xs:List α)(x:α):List α:=if xf ks k then xs else xs++[x]
def lO{α:Type}(ks:List NK)(k:NK)(xs:List α)(x:α):List α:=if xf ks k then List.zipWith (λc y=>if c=k then x else y) ks xs else xs++[x]
section
variable{K:fv}{G:Hp}
theorem AL{k:Key}(h:Den K G L (nJ k) v):v=kV k:=by
 cases k with
 | inl i=>exact h
 | inr x=>exact h
theorem wm:∀{ks:List Key} {vs:List V},Θ K G L (ks.map nJ) vs->vs=ks.map kV
 | [],_,h=>h
 | k::ks,_,⟨v,r,e,h1,h2⟩=>by rw [e,AL h1,wm h2];rfl
theorem oQ(h:Den K G L (tG k) v):∃b,v= .ref b/\jx G k b:=by obtain ⟨a,vs,rfl,e,h⟩:=h;obtain ⟨v1,v2,rfl,h1,h2⟩:=iC h;obtain ⟨c,us,rfl,e2,h1⟩:=h1;rw [wm h1] at e2;rw [AL h2] at e;exact ⟨a,rfl,c,e,e2⟩
theorem jx.mono{G':Hp}(s:cE G G')(h:jx G k b):jx G' k b:=let ⟨c,h1,h2⟩:=h;⟨c,s _ _ h1,s _ _ h2⟩
theorem zZ:∀{ks:List NK} {vs:List V},Θ K G L (ks.map tG) vs->∃as:List Addr,vs=as.map V.ref/\as.length=ks.length/\∀(i:Nat) k b,ks[i]? =some k->as[i]? =some b->jx G k b
 | [],_,h=>⟨[],h,rfl,λi k b h=>by simp at h⟩
 | k::ks,_,⟨v,r,e,h1,h2⟩=>by
  obtain ⟨b,rfl,hb⟩:=oQ h1;obtain ⟨as,rfl,hl,ha⟩:=zZ h2;refine ⟨b::as,e,by simp [hl],λi k' b' g1 g2=> ?_⟩;cases i with
  | zero=>cases g1;cases g2;exact hb
  | succ i=>exact ha i k' b' (by simpa using g1) (by simpa using g2)
theorem xw(as:List Addr):(as.map V.ref).map O7=as:=by induction as with | nil=>rfl | cons a as ih=>rw [aav,aav,ih];rfl
theorem gf{ds:List Dt}{vs:List V}(h:Θ K G L (ks.map tG++ds) vs):∃(as:List Addr) (us:List V),vs=as.map V.ref++us/\as.length=ks.length/\(∀(i:Nat) k b,ks[i]? =some k->as[i]? =some b->jx G k b)/\Θ K G L (ks.map tG) (as.map V.ref)/\Θ K G L ds us/\KA ks vs=ks.zip (as.zip us):=by
 have key:∀{es fs:List Dt} {vs:List V},Θ K G L (es++fs) vs->∃a b,vs=a++b/\Θ K G L es a/\Θ K G L fs b:=by
  intro es
  induction es with
  | nil=>exact λh=>⟨[],_,rfl,rfl,h⟩
  | cons d es ih=>
   rintro fs _ ⟨v,r,rfl,h1,h2⟩;obtain ⟨a,b,rfl,h3,h4⟩:=ih h2;exact ⟨v::a,b,rfl,⟨v,a,rfl,h1,h3⟩,h4⟩
 obtain ⟨a,us,rfl,h1,h2⟩:=key h;obtain ⟨as,rfl,hl,hk⟩:=zZ h1;refine ⟨as,us,rfl,hl,hk,h1,h2, ?_⟩;unfold KA;rw [List.take_left' (by simp [hl]),List.drop_left' (by simp [hl]),xw]
end
theorem gC{H:Hp}(h:∀(i:Nat) k b,ks[i]? =some k->as[i]? =some b->jx H k b):d9 H (ks.zip (as.zip us)):=λx hx=>by obtain ⟨i,hi⟩:=abd.mp hx;rw [aaY] at hi;obtain ⟨h1,h2⟩:=hi;rw [aaY] at h2;exact h i _ _ h1 h2.1
theorem Ac(k:NK):∀{ks:List NK} {as:List Addr} {us:List V},as.length=ks.length->us.length=ks.length->((ks.zip (as.zip us)).find? λx=>decide (x.1=k)).isSome=xf ks k
 | [],_,_,_,_=>rfl
 | c::ks,a::as,u::us,h1,h2=>by
  rw [aaU,aaU];by_cases e:c=k
  ·rw [List.find?_cons_of_pos (by simpa using e)];simp [xf,e]
  ·rw [List.find?_cons_of_neg (by simpa using e),Ac k (by simpa using h1) (by simpa using h2)];simp [xf,e]
theorem Dd(k:NK)(v:V):∀{ks:List NK} {as:List Addr} {us:List V},as.length=ks.length->us.length=ks.length->(ks.zip (as.zip us)).map (λx=>if x.1=k then (x.1,x.2.1,v) else x)=ks.zip (as.zip (List.zipWith (λc y=>if c=k then v else y) ks us))
 | [],_,_,_,_=>by simp
 | c::ks,a::as,u::us,h1,h2=>by
  rw [List.zip_cons_cons,List.zip_cons_cons,List.map_cons,List.zipWith_cons_cons,List.zip_cons_cons,List.zip_cons_cons,Dd k v (by simpa using h1) (by simpa using h2)];by_cases e:c=k
  ·simp [e]
  ·simp [e]
theorem FJ(h1:as.length=ks.length)(h2:us.length=ks.length):vX (ks.zip (as.zip us)) k b v=(lA ks k).zip ((sT ks k as b).zip (lO ks k us v)):=by
 unfold vX lA sT lO;rw [Ac k h1 h2];by_cases e:xf ks k=true
 ·rw [aaF e,aaF e,aaF e,aaF e,Dd k v h1 h2]
 ·rw [if_neg e,if_neg e,if_neg e,if_neg e,List.zip_append (by rw [h1,h2]),List.zip_append (by simp [h1,h2])];rfl
section
variable{K:fv}{G:Hp}
theorem qX(k:NK):∀{ks:List NK} {as:List Addr} {ds:List Dt} {us:List V},Θ K G L ds us->as.length=ks.length->us.length=ks.length->(dJ ks ds k=none/\fi (ks.zip (as.zip us)) k=none)\/∃d u,dJ ks ds k=some d/\fi (ks.zip (as.zip us)) k=some u/\Den K G L d u
 | [],_,_,_,_,_,_=> .inl ⟨by simp [dJ],by simp [fi]⟩
 | c::ks,a::as,[],us,h,_,h2=>by cases h;simp at h2
 | c::ks,a::as,d::ds,_,⟨u,us,rfl,n0,n⟩,h1,h2=>by
  by_cases e:c=k
  ·exact .inr ⟨d,u,by simp [dJ,e],by simp [fi,e],n0⟩
  ·have q1:dJ (c::ks) (d::ds) k=dJ ks ds k:=by simp [dJ,List.find?_cons,e]
   have q2:fi ((c::ks).zip ((a::as).zip (u::us))) k=fi (ks.zip (as.zip us)) k:=by simp [fi,List.find?_cons,e]
   rw [q1,q2];exact qX k n (by simpa using h1) (by simpa using h2)
theorem Fo{k:NK}{d:Dt}{v:V}(nd:Den K G L d v):∀{ks:List NK} {ds:List Dt} {us:List V},Θ K G L ds us->Θ K G L (List.zipWith (λc y=>if c=k then d else y) ks ds) (List.zipWith (λc y=>if c=k then v else y) ks us)
 | [],_,_,_=>rfl
 | _::_,[],_,h=>by cases h;rfl
 | c::ks,e::ds,_,⟨u,us,rfl,n0,n⟩=>by
  refine ⟨_,_,rfl, ?_,Fo nd n⟩;by_cases q:c=k
  ·simp only [if_pos q];exact nd
  ·simp only [if_neg q];exact n0
end
section
variable{o e f i value:Expr}{to te tf ti tv:DE}{apos aA pos':Pos}{k':Nat}
def Pd(P:Program)(w:World)(t:DE):DE:=λρ M q x=>t ρ M (λd M1=>∃k,d= .loc k/\M1[k]? =some (.jF [] [])/\q d (M1.set k (jO P w [] []))) x
theorem Ng(h:JE X R e te)(hP:X.prog=P:=by rfl)(hw:X.w=w:=by rfl):JE X R e (Pd P w te):=by
 subst hP hw;exact .of (Ig h) λσ H G L ρ M q x rl n h hx=>by refine ⟨G,L,ρ,M,_,x,rl,n,h,hx,λv H1 ⟨d1,G1,L1,M1,e1,r1,n1,k,ed,hm,h1⟩=> ?_⟩;subst ed;obtain ⟨a,rfl,hk⟩:=n1;obtain ⟨_,vs,hH,_,dn⟩:=r1.fg k a _ hk hm;cases dn;exact ⟨a,rfl,hH, .loc k,G1,L1,_,e1.trans (r1.Fy hk),r1.setM (m:=jO X.prog X.w [] []) hk ⟨[],Τ,rfl⟩,⟨a,rfl,hk⟩,h1⟩
def MW(P:Program)(w:World)(to te tf:DE):DE:=λρ M q x=>to ρ M (λd M1=>(∃k ks ds,d= .loc k/\M1[k]? =some (jO P w ks ds)/\ks.length=ds.length)/\te ρ M1 (λdk M2=>tf ρ M2 (λdx M3=>∃k ks ds key,d= .loc k/\M3[k]? =some (jO P w ks ds)/\ks.length=ds.length/\dk=tG key/\q ((dJ ks ds key).getD dx) M3) x) x) x
theorem H_(hr:bt k' X.A)(ho:JE X R o to)(he:JE X R e te)(hf:JE X R f tf)(m:M2 X o "get" apos e f aA:=by exact ⟨rfl,rfl,rfl,rfl⟩)(hP:X.prog=P:=by rfl)(hw:X.w=w:=by rfl):JE X R (.Call (.Attribute o "get" apos) [e,f] [] aA) (MW P w to te tf):=by
 subst hP hw;exact .of (FE (wM hr (n:=2) (by decide)) ho he hf m) λσ H G L ρ M q x rl n h hx=>by
  refine ⟨G,L,ρ,M,_,x,rl,n,h,hx,λv H1 ⟨d1,G1,L1,M1,e1,r1,n1,⟨k0,WT,WK,SH,PH,hl0⟩,h1⟩=> ?_⟩;subst SH;obtain ⟨a,rfl,hk⟩:=n1;obtain ⟨_,X0,S5,QQ⟩:=r1.fg k0 a _ hk PH;obtain ⟨as0,us0,rfl,_,Y',_,_,Wq⟩:=gf QQ;refine ⟨a,rfl,⟨_,S5,by rw [Wq];exact gC λi k b g1 g2=>(Y' i k b g1 g2).mono r1.sub⟩,G1,L1,ρ,M1,_,x,r1,n.mono e1,h1,hx.on e1,λv2 H2 ⟨d2,G2,L2,M2,e2,r2,n2,h2⟩=> ?_⟩;refine ⟨G2,L2,ρ,M2,_,x,r2,(n.mono e1).mono e2,h2,(hx.on e1).on e2,λv3 H3 ⟨d3,G3,L3,M3,e3,r3,n3,k,ks,ds,key,ed,hm,hl,rH,h3⟩=> ?_⟩;cases ed;subst rH;have GO:=e2.trans e3;have GP:=GO.l.get hk;obtain ⟨_,vs,hH,dn⟩:=r3.fg k0 a _ GP hm;obtain ⟨as,us,rfl,BV,x_,_,dn,el⟩:=gf dn;obtain ⟨b,rfl,nb⟩:=oQ (Den.mono e3.g e3.l _ _ n2);have P5:us.length=ks.length:=by rw [<-dn.length,hl]
  have hH:=hH.trans (aa2 (λz=>some (kR X.prog X.w a z)) el);refine ⟨b,_,key,rfl,hH,gC λi k b g1 g2=>(x_ i k b g1 g2).mono r3.sub,nb.mono r3.sub, ?_⟩;rcases qX key dn BV P5 with ⟨q1,q2⟩ | ⟨d,u,q1,q2,du⟩
  ·rw [q1] at h3;rw [q2];exact fin_same (e1.trans GO) r3 n3 h3
  ·rw [q1] at h3;rw [q2];exact fin_same (e1.trans GO) r3 du h3
def MT(P:Program)(w:World)(to ti tv:DE):DS:=λDn ρ M=>tv ρ M (λy M1=>to ρ M1 (λd M2=>ti ρ M2 (λdi M3=>∃k ks ds key,d= .loc k/\M3[k]? =some (jO P w ks ds)/\ks.length=ds.length/\di=tG key/\ks.length < 1000/\Dn.nx ρ (M3.set k (jO P w (lA ks key) (lO ks key ds y)))) Dn.x) Dn.x) Dn.x
theorem A0(hr:bt k' X.A)(ho:JE X R o to)(hi:JE X R i ti)(hv:JE X R value tv)(hs:swapsWith value (some (.Subscript o i pos')) pos.line X.env=pure false:=by rfl)(hP:X.prog=P:=by rfl)(hw:X.w=w:=by rfl):JS X R (.Assign [.Subscript o i pos'] value pos) (MT P w to ti tv):=by
 subst hP hw;exact .of (Iz (wM hr (n:=2) (by decide)) ho hi hv hs) λσ H G L ρ M Dn rl n h hx=>by
  refine ⟨G,L,ρ,M,_,_,rl,n,h,hx,λv H1 ⟨dv,G1,L1,M1,e1,r1,n1,h1⟩=> ?_⟩;refine ⟨G1,L1,ρ,M1,_,_,r1,n.mono e1,h1,hx.on e1,λov H2 ⟨d,G2,L2,M2,e2,r2,n2,h2⟩=> ?_⟩;refine ⟨G2,L2,ρ,M2,_,_,r2,(n.mono e1).mono e2,h2,(hx.on e1).on e2,λiv H3 ⟨di,G3,L3,M3,e3,r3,n3,k,ks,ds,key,ed,hm,hl,rH,hlen,h3⟩=> ?_⟩;subst ed rH;obtain ⟨a,rfl,x_⟩:=n2;have GP:=e3.l.get x_;obtain ⟨_,vs,hH,dn⟩:=r3.fg k a _ GP hm;obtain ⟨as,us,rfl,BV,LZ,dk,dn,el⟩:=gf dn;have GO:=e2.trans e3;have Vs:=Den.mono GO.g GO.l _ _ n1;obtain ⟨b,rfl,nb⟩:=oQ n3;have P5:us.length=ks.length:=by rw [<-dn.length,hl]
  have hH:=hH.trans (aa2 (λz=>some (kR X.prog X.w a z)) el);have z:(ks.zip (as.zip us)).length < sizeLine:=by rw [abe];exact aaN (Nat.min_le_left _ _) (Nat.lt_trans hlen (by decide))
  refine ⟨a,b,_,key,rfl,rfl,hH,gC λi k b g1 g2=>(LZ i k b g1 g2).mono r3.sub,nb.mono r3.sub,z,ρ,G3,L3,_,((e1.trans e2).trans e3).trans (r3.Fy GP),r3.setM (m:=jO X.prog X.w (lA ks key) (lO ks key ds dv)) GP ⟨(sT ks key as b).map V.ref++lO ks key us v, ?_, ?_⟩,(((n.mono e1).mono e2).mono e3).mono (r3.Fy (o:= .own a) GP),h3⟩
  ·rw [Τ,FJ BV P5]
   congr 2
   unfold KA;have l1:((sT ks key as b).map V.ref).length=(lA ks key).length:=by unfold sT lA;split <;> simp [BV]
   rw [List.take_left' l1,List.drop_left' l1,xw]
  ·refine Θ.app ?_ ?_
   ·unfold lA sT;split
    ·exact dk
    ·rw [aao,aao];exact Θ.app dk ⟨_,_,rfl,n3,rfl⟩
   ·unfold lO;split
    ·exact Fo Vs dn
    ·exact Θ.app dn ⟨_,_,rfl,Vs,rfl⟩
end
inductive yO(P:Program)(w:World)(M:Ms)(n:Nat):Dt->Dt->Bool->Prop
 | eq {x y:Dt} {c:Bool} (h:jz M n x y c):yO P w M n x y c
 | same {k:Nat}:yO P w M n (.loc k) (.loc k) true
 | nd {k k2:Nat} {ks EE:List NK} {ds Cj:List Dt} {e:Nat->Bool} (gE:k≠k2) (h1:M[k]? =some (jO P w ks ds)) (h2:M[k2]? =some (jO P w EE Cj)) (l1:ks.length=ds.length) (l2:EE.length=Cj.length) (hl:ks.length=EE.length)
   (hn:∀j c,ks[j]? =some c->dJ EE Cj c=none->e j=false) (h:∀j c d d',ks[j]? =some c->ds[j]? =some d->dJ EE Cj c=some d'->jz M n d d' (e j)):yO P w M n (.loc k) (.loc k2) ((List.range ks.length).all e)
 | len {k k2:Nat} {ks EE:List NK} {ds Cj:List Dt} (gE:k≠k2) (h1:M[k]? =some (jO P w ks ds)) (h2:M[k2]? =some (jO P w EE Cj)) (l1:ks.length=ds.length) (l2:EE.length=Cj.length) (hl:ks.length≠EE.length):yO P w M n (.loc k) (.loc k2) false
def Cr(P:Program)(w:World)(M:Ms)(n:Nat)(x y:Dt)(c:Bool):Prop:=
 ∃ds es,∃e:Nat->Bool,x= .tup ds/\y= .tup es/\ds.length=es.length/\(∀j d d',ds[j]? =some d->es[j]? =some d'->(List.range j).all e=true->yO P w M n d d' (e j))/\c=(List.range ds.length).all e
section
variable{K:fv}{G:Hp}{M:Ms}{H:Hp}
theorem AM(r:Rl K G L M H){k:Nat}{ds:List Dt}(hk:L[k]? =some a)(h:M[k]? =some (jO P w ks ds))(hl:ks.length=ds.length):∃(as:List Addr) (us:List V),as.length=ks.length/\us.length=ks.length/\Θ K G L ds us/\d9 H (ks.zip (as.zip us))/\H a=some (kR P w a (ks.zip (as.zip us))):=by obtain ⟨_,vs,hH,dn⟩:=r.fg k a _ hk h;obtain ⟨as,us,rfl,BV,LZ,_,dn,el⟩:=gf dn;exact ⟨as,us,BV,by rw [<-dn.length,hl],dn,gC λi k b g1 g2=>(LZ i k b g1 g2).mono r.sub,hH.trans (aa2 (λz=>some (kR P w a z)) el)⟩
theorem mP(h1:as.length=ks.length)(h2:us.length=ks.length):(ks.zip (as.zip us)).length=ks.length:=by rw [abe,abe,h1,h2,abU,abU]
theorem Mo(r:Rl K G L M H){d d':Dt}(h:yO P w M n d d' c){v':V}(n1:Den K G L d v)(n2:Den K G L d' v'):J4 P w K H n v v' c:=by
 cases h with
 | eq h=>exact .eq (wD r h n1 n2)
 | same=>
  obtain ⟨a,rfl,h1⟩:=n1;obtain ⟨b,rfl,h2⟩:=n2;cases h1.symm.trans h2;exact .same
 | @nd k k2 ks EE ds Cj e gE h1 h2 l1 l2 hl hn h=>
  obtain ⟨a,rfl,g1⟩:=n1;obtain ⟨b,rfl,g2⟩:=n2;obtain ⟨as,us,la,lu,dn,nk,hH⟩:=AM r g1 h1 l1;obtain ⟨ZK,Zi,OD,ON,J',SG,LO⟩:=AM r g2 h2 l2;have ab:a≠b:=λe=>by subst e;exact gE ((List.getElem?_inj (aad.mp g1).1 r.nd).mp (g1.trans g2.symm))
  rw [<-mP la lu];refine .nd ab hH LO nk SG (by rw [mP la lu,mP OD ON];exact hl) (λj c ka v hj hv=> ?_) λj c ka v v' hj hv=> ?_
  ·rw [aaY] at hj;rcases qX c J' OD ON with ⟨q1,q2⟩ | ⟨d,u,q1,q2,du⟩
   ·exact hn j c hj.1 q1
   ·rw [hv] at q2;cases q2
  ·rw [aaY] at hj;obtain ⟨hc,hj⟩:=hj;rw [aaY] at hj;rcases qX c J' OD ON with ⟨q1,q2⟩ | ⟨d,u,q1,q2,du⟩
   ·rw [hv] at q2;cases q2
   ·rw [hv] at q2;cases q2;obtain ⟨d0,YE,dd⟩:=dn.back hj.2;exact wD r (h j c d0 d hc YE q1) dd du
 | @len k k2 ks EE ds Cj gE h1 h2 l1 l2 hl=>
  obtain ⟨a,rfl,g1⟩:=n1;obtain ⟨b,rfl,g2⟩:=n2;obtain ⟨as,us,la,lu,dn,nk,hH⟩:=AM r g1 h1 l1;obtain ⟨ZK,Zi,OD,ON,J',SG,LO⟩:=AM r g2 h2 l2;have ab:a≠b:=λe=>by subst e;exact gE ((List.getElem?_inj (aad.mp g1).1 r.nd).mp (g1.trans g2.symm))
  exact .len ab hH LO nk SG (by rw [mP la lu,mP OD ON];exact hl)
theorem LG(r:Rl K G L M H){d d':Dt}(h:Cr P w M n d d' c){v':V}(n1:Den K G L d v)(n2:Den K G L d' v'):UA P w K H n v v' c:=by obtain ⟨ds,es,e,rfl,rfl,hl,he,rfl⟩:=h;obtain ⟨a,vs,rfl,e1,m1⟩:=n1;obtain ⟨b,us,rfl,e2,m2⟩:=n2;refine ⟨a,b,vs,us,e,rfl,rfl, .of (r.sub _ _ e1), .of (r.sub _ _ e2),by rw [<-m1.length,<-m2.length];exact hl,λj u v hu hv ja=> ?_,by rw [m1.length]⟩;obtain ⟨d,hd,dn⟩:=m1.back hu;obtain ⟨d',df,Wx⟩:=m2.back hv;exact Mo r (he j d d' hd df ja) dn Wx
end
section
variable{e o i:Expr}{t:DA}{to ti:DE}{apos aA:Pos}{k':Nat}
def zY(P:Program)(w:World)(n:Nat)(to:DE)(t:DA):DE:=λρ M q x=>to ρ M (λd M1=>(∃xs,fU M1 d=some xs)/\t ρ M1 (λds M2=>∃y xs,∃f:Nat->Bool,∃j:Nat,ds=[y]/\fU M2 d=some xs/\(∀i z,xs[i]? =some z->Cr P w M2 n z y (f i))/\j < xs.length/\f j=true/\(∀i,i < j->f i=false)/\q (.int (j:Int)) M2) x) x
theorem Dw(n:Nat)(hr:bt k' X.A)(ho:JE X R o to)(ha:JA X R [e] t)(hn:n+4<=64:=by decide)(pF:attributeBase o "index" X.env (eval o X.env)=eval o X.env:=by rfl)
  (zg:((backTo aA (starEach [e] X.env)).all (λx=> !x.1)&&(backToKw aA (keywordEach [] X.env)).all (λx=>x.1.isSome)
   &&decide (([e]:List Expr).length+([]:List Keyword).length+(if ([]:List Keyword).isEmpty then 0 else 1) < 30))=true:=by rfl)
  (pO:(apos.endLine==aA.line)=true:=by rfl) (hs:starEach [e] X.env=(false,eval e X.env)::starEach [] X.env:=by rfl) (j6:(backTo aA (starEach [] X.env)).any (·.1)=false:=by rfl) (hP:X.prog=P:=by rfl) (hw:X.w=w:=by rfl):
  JE X R (.Call (.Attribute o "index" apos) [e] [] aA) (zY P w n to t):=by
 subst hP hw;exact .of (FX PySem.F.plainAttrs_list PySem.F.slot_list_index PySem.F.type_list_index (r:=AI X.prog X.w X.K n) (B9 (wM hr hn)) ho ha pF zg pO hs j6) λσ H G L ρ M q x rl n h hx=>by refine ⟨G,L,ρ,M,_,x,rl,n,h,hx,λv H1 ⟨d1,G1,L1,M1,e1,r1,n1,⟨xs,hm⟩,h1⟩=> ?_⟩;obtain ⟨a,vs,rfl,sq,m⟩:=cy r1 n1 hm;refine ⟨.inl ⟨rfl,vs,sq⟩,G1,L1,ρ,M1,_,x,r1,n.mono e1,h1,hx.on e1,λus H2 ⟨ds,G2,L2,M2,e2,r2,n2,y,xs',f,j,ed,GZ,hf,hj,ft,ff,h2⟩=> ?_⟩;subst ed;obtain ⟨u,rfl,n3⟩:=aM n2;obtain ⟨a2,MS,ea,NP,m2⟩:=cy r2 (Den.mono e2.g e2.l _ _ n1) GZ;cases ea;refine ⟨a,MS,u,f,j,rfl,rfl,NP,λi z hz=> ?_,by rw [<-m2.length];exact hj,ft,ff, .int (j:Int),G2,L2,_,e1.trans e2,r2,rfl,h2⟩;obtain ⟨d,hd,dn⟩:=m2.back hz;exact LG r2 (hf i d hd) dn n3
end
theorem El{α β:Type}{F:α->β->Prop}:∀{xs:List α} {ys:List β},xs.length=ys.length->(∀(i:Nat) x y,xs[i]? =some x->ys[i]? =some y->F x y)->Paired F xs ys
 | [],[],_,_=> .nil
 | x::xs,y::ys,hl,h=> .cons (h 0 x y rfl rfl) (El (by simpa using hl) λi a b ha hb=>h (i+1) a b (by simpa using ha) (by simpa using hb))
def bI(n:Nat):List Int:=(List.range n).map λi:Nat=>(i:Int)
section
theorem rW:cH X (.type "range") (λxs H Q=>∃j:Int,xs=[V.int j]/\∀l,H l=none->Q (.ref l) (upd H l (.Jc 0 j))):=by intro δ s σ H xs us Q I r ⟨j,ex,q⟩;subst ex;obtain ⟨u,rfl,rx⟩:=gF r;obtain ⟨t,rfl⟩:=rx;exact call_range_1 ⟨.ref s.heap.objs.size,_,I.laid (λb o e=>aah _ e) (aal _) (show bh X.prog X.w _ _ _ (.Jc 0 j) from ⟨_,_,_,aaw _ rfl⟩),rfl,q _ (I.aB.fresh (aal _))⟩
theorem rZ(hc:X.calm=true):cH X (.type "list") (λxs H Q=>∃(a:Addr) (n:Nat),xs=[V.ref a]/\Rd H a (.Jc 0 (n:Nat))/\n<=1000/\∀p,H p=none->Q (.ref p) (upd H p (.lst ((bI n).map V.int)))):=by
 intro δ s σ H xs us Q I r ⟨a,n,ex,e,hn,q⟩;subst ex;obtain ⟨u,rfl,rx⟩:=gF r;cases rx;obtain ⟨t,u,v,eg⟩:=e.ok I.aB;have sz:Builtin.Range.rangeSize 0 (n:Nat) 1=(n:Int):=by rw [rangeSize_one];split <;> omega
 refine call_list_range (I.ok.hd hc) (show IsRange s.heap a 0 (n:Nat) 1 t u v from eg) (small_one (by omega) (by omega) (by omega) (by omega)) sz (by omega) λh' tk um c' kp el it=> ?_;obtain ⟨il,ip⟩:=it;have hv:ao ((bI n).map V.int) um.toList:=by
  refine El (by unfold bI;rw [List.length_map,List.length_map,List.length_range];simpa using il.symm) λi x y hx hy=> ?_;obtain ⟨tk,rfl⟩:=ip i y (by simpa using hy);have hi:i < n:=by have:=(aad.mp hy).1;simp at this;omega
  unfold bI at hx;rw [aaj,aaj,aa0 hi] at hx;cases hx;exact ⟨tk,by simp⟩
 exact ⟨.ref s.heap.objs.size,_,I.laid (t':=tk) kp (Nat.le_refl _) (show bh X.prog X.w _ h' _ (.lst _) from ⟨by unfold bI;rw [List.length_map,List.length_map,List.length_range];exact Nat.le_trans hn (by decide),um.toList,c',hv,by simpa using el⟩),rfl,q _ (I.aB.fresh (Nat.le_refl _))⟩
end
def K4:List Dt->Ms->DQ->Prop:=λds M q=>∃n:Nat,ds=[.int (n:Nat)]/\n<=1000/\q (.loc M.length) (M++[.lst ((bI n).map Dt.int)])
section
variable{a:Expr}{t:DA}{p p2 GB:Pos}
theorem oS(hm:X.mg "list"=none)(GZ:X.mg "range"=none)(ha:JA X R [a] t)(hg:Gl X "list":=by rfl)(Tb:Gl X "range":=by rfl)(he:starEach [a] X.env=(false,eval a X.env)::starEach [] X.env:=by rfl)(fQ:(backTo GB (starEach [] X.env)).any (·.1)=false:=by rfl)(Lc:(backTo pos (starEach [] X.env)).any (·.1)=false:=by rfl)(hc:X.calm=true:=by rfl):JE X R (.Call (.Name "list" p) [.Call (.Name "range" p2) [a] [] GB] [] pos) (ya K4 t):=
 .of (jh (rZ hc) hg hm ri (vV (jh rW Tb GZ boot_range ha (by decide) (by decide) he fQ) zf bc) (by decide) (by decide) bc Lc) λσ H G L ρ M q x rl n h hx=>by refine ⟨G,L,ρ,M,_,x,rl,n,h,hx,λvs H1 ⟨ds,G1,L1,M1,e1,r1,n1,k,ek,hk,h1⟩=> ?_⟩;subst ek;obtain ⟨v,rfl,nv⟩:=aM n1;have nv:v= .int (k:Nat):=nv;subst nv;exact ⟨k,rfl,λl hl=>⟨l,k,rfl, .of Τ,hk,λp hp=>gL (e1.trans (r1.LD hl)) (r1.Fj hl) hp cQ h1⟩⟩
end
def MC(te tl:DE):DE:=λρ M q x=>te ρ M (λd M1=>tl ρ M1 (λdi M2=>∃ds n,d= .tup ds/\di= .int (n:Nat)/\n < ds.length/\q (.tup (ds.take n)) M2) x) x
theorem oB{e l:Expr}{te tl:DE}{p2:Pos}(he:JE X R e te)(hl:JE X R l tl):JE X R (.Subscript e (.Slice none (some l) none p2) pos) (MC te tl):=
 .of (k9 Fc he oE (oW hl)) λσ H G L ρ M q x rl n h hx=>by
  refine ⟨G,L,ρ,M,_,x,rl,n,h,hx,λv H1 ⟨d1,G1,L1,M1,e1,r1,n1,h1⟩=> ?_⟩;refine ⟨G1,L1,ρ,M1,_,x,r1,n.mono e1,h1,hx.on e1,λv2 H2 ⟨d2,G2,L2,M2,e2,r2,n2,ds,k,ed,ei,k1,h2⟩=> ?_⟩;subst ed ei;obtain ⟨a,vs,rfl,ea,m⟩:=Den.mono e2.g e2.l _ _ n1;have n2:v2= .int k:=n2;subst n2;have lv:=m.length;refine ⟨k,rfl,a,vs,rfl, .of (r2.sub _ _ ea),λz=> ?_,λp hp=> ?_⟩
  ·rw [HT.oG] at z;omega
  ·rw [sG];exact gQ (e1.trans e2) r2 hp (lJ r2 hp (Θ.of (ql k m.pair))) h2
end L2
namespace PySem
variable{es es':Array (Int×Value)}{t:SetTable}{a:Addr}{led:Bool}{l:List Int}{prog:Program}{w:World}{A:Around}{E Q:Value->Shared->Prop}{s:Shared}{R:Result->Shared->Prop}{items:Array Value}{ep:Nat}
abbrev J5:=Array Int×SetTable
def Qk(hs:Array Int):Array (Int×Value):=(hs.toList.map λh=>(h,Value.none)).toArray
def cz(es:Array (Int×Value)):Array Int:=(es.toList.map (·.1)).toArray
def bK(st:J5)(h:Int):J5:=
 let L:=layNew st.2 (Qk st.1) h .none
 if (!L.2.2.1&&L.2.1.tooFull)=true then
  let R:=relayAll L.2.1 L.1 (SetTable.grown L.1.size)
  (cz R.1,R.2.1)
 else (cz L.1,L.2.1)
def jE(st:J5):Bool:=st.2.fits st.1.size&&(st.2.plain&&st.2.led)&&SetTable.below st.2.place 0==0&&(List.range st.1.size).all λi=>SetTable.below st.2.place (st.2.place.getD i 0+1)==i+1
def xN(led:Bool)(l:List Int):J5:=l.foldl bK (#[], .fresh 0 0 led)
theorem B_(led:Bool)(l:List Int)(k:Int):xN led (l++[k])=bK (xN led l) k:=by unfold xN;rw [List.foldl_append];rfl
theorem bQ(es:Array (Int×Value)):(cz es).size=es.size:=by simp [cz]
theorem Im(es:Array (Int×Value)):cz (Qk (cz es))=cz es:=by simp [cz,Qk]
theorem oM:cz es=cz es'↔es.toList.map (·.1)=es'.toList.map (·.1):=by simp [cz]
theorem nA(es:Array (Int×Value))(p:Nat)(x:Int×Value):cz (SetTable.insertAt es p x)=SetTable.insertAt (cz es) p x.1:=by unfold cz SetTable.insertAt;apply Array.ext';simp [List.map_take,List.map_drop]
theorem HC{h:Int}{x x':Value}(e:cz es=cz es'):cz (layNew t es h x).1=cz (layNew t es' h x').1/\(layNew t es h x).2=(layNew t es' h x').2:=by
 have hs:es.size=es'.size:=by rw [<-bQ,e,bQ]
 unfold layNew;cases t.freeSlot h with
 | none=>
  refine ⟨?_,by rw [hs]⟩;rw [oM] at e⊢;simp [e]
 | some sd=>
  obtain ⟨slot,wd⟩:=sd;have hi:cz (SetTable.insertAt es (t.put slot).2 (h,x))=cz (SetTable.insertAt es' (t.put slot).2 (h,x')):=by rw [nA,nA,e]
  have hz:(SetTable.insertAt es (t.put slot).2 (h,x)).size=(SetTable.insertAt es' (t.put slot).2 (h,x')).size:=by rw [<-bQ,hi,bQ]
  refine ⟨hi, ?_⟩;show (_,_,_)=(_,_,_);rw [hz]
theorem fE(es:Array (Int×Value))(order:List Nat):((order.filterMap (λi=>es[i]?)).map (·.1))=order.filterMap λi=>(es.toList.map (·.1))[i]? :=by
 rw [List.map_filterMap]
 congr 1
 funext i
 simp
theorem Co{n:Nat}(e:cz es=cz es'):cz (relayAll t es n).1=cz (relayAll t es' n).1/\(relayAll t es n).2=(relayAll t es' n).2:=by
 have hs:es.size=es'.size:=by rw [<-bQ,e,bQ]
 have hm:es.map (·.1)=es'.map (·.1):=by apply Array.ext';rw [oM] at e;simpa using e
 unfold relayAll;rw [hm];cases t.relaid (es'.map (·.1)) n with
 | none=>exact ⟨e,by rw [hs]⟩
 | some to=>
  obtain ⟨t',order⟩:=to;have hf:cz (order.filterMap (es[·]?))=cz (order.filterMap (es'[·]?)):=by rw [oM];simp only [Array.toList_filterMap];rw [fE,fE,(oM.mp e)]
  have hz:(order.filterMap (es[·]?)).size=(order.filterMap (es'[·]?)).size:=by rw [<-bQ,hf,bQ]
  dsimp only;rw [hz,hs];split
  ·exact ⟨hf,rfl⟩
  ·exact ⟨e,rfl⟩
theorem jL{k:Int}(h0:0<=k)(h1:k < 4096):hashInt k=k:=by
 have e0:(k.natAbs:Int) % ((2 ^ 61 - 1:Nat):Int)=k:=by rw [Int.emod_eq_of_lt (by omega) (by omega)];omega
 have e1:(k== -1)=false:=by simp;omega
 have e:rawHash k=k:=by unfold rawHash;dsimp only;rw [e0,aaA (by omega:¬k < 0),e1];rfl
 unfold hashInt;rw [e,e1];rfl
def Heap.cB(h:Heap)(a:Addr)(led:Bool)(l:List Int):Prop:=
 ∃o es ep t,h.get? a=some o/\o.ExactSet/\o.data= .set es ep t/\(∀e∈es.toList,∃tk,e.2= .int e.1 tk)/\List.Perm (es.toList.map (·.1)) l/\(cz es,t)=xN led l/\t.fits es.size=true/\es.size < 1000
theorem Heap.cB.keep{h h':Heap}(x:h.cB a led l)(k:∀o,h.get? a=some o->h'.get? a=some o):h'.cB a led l:=by obtain ⟨o,es,ep,t,ho,r⟩:=x;exact ⟨o,es,ep,t,k o ho,r⟩
section
theorem B'{es:List (Int×Value)}(hv:∀e∈es,∃tk,e.2= .int e.1 tk)(hp:List.Perm (es.map (·.1)) l)(hl:∀k∈l,0<=k/\k < 4096):ElemsOf (intKind prog w) es:=λe he=>by obtain ⟨tk,e2⟩:=hv e he;have:=hl e.1 (hp.mem_iff.mp (aaf.mpr ⟨e,he,rfl⟩));refine ⟨⟨e.1,by rw [e2];simp [intKind,Value.isInt], ?_⟩,by rw [e2];rfl⟩;show e.1=hashInt e.1;rw [jL this.1 this.2]
theorem yB{Q:Bool->Shared->Prop}{k:Int}{tk:Tok}(hS:s.heap.cB a led l)(hl:∀k∈l,0<=k/\k < 4096)(h0:0<=k)(h1:k < 4096)(hn:l.length < 900)
  (hQ:∀h' b,Heap.SameBut a s.heap h'->h'.cB a led (if k∈l then l else l++[k])->Q b {s with heap:=h',toks:=s.toks+1}):wpAny (model prog w) A (setAdd a (.int k tk)) Q E s:=by
 obtain ⟨o,es,ep,t,ho,hex,hd,hv,hp,hr,hf,hb⟩:=hS;have rH:(intKind prog w).is k (.int k tk)=true:=by simp [intKind,Value.isInt]
 have Vl:(Value.int k tk).scannable=true:=rfl;have U0:=B' (prog:=prog) (w:=w) hv hp hl;have hlen:es.size=l.length:=by rw [<-hp.length_eq];simp
 have Wd:es.size < scanBound:=aaE hb (by decide);unfold setAdd;refine wpAny_holding (aab ((intKind prog w).pyHash rH ?_));unfold setAddHashed setAddHashedIn;refine wpAny_holding (aab (wpAny_setState_of ho hd hf ?_));dsimp only;rw [byScan_of Vl Wd U0];simp only [↓reduceIte];unfold setAddByScan;refine aab ?_;refine aab (wpAny_rule ?_);refine aab (wpAny_setScan_of rH ho hd hf U0 ?_);have hh:(intKind prog w).hash k=k:=jL h0 h1;cases IJ:List.findIdx? (λe=>(intKind prog w).is k e.2) es.toList with
 | some j=>
  dsimp only;obtain ⟨hj,V6,_⟩:=List.findIdx?_eq_some_iff_getElem.mp IJ;have hm:k∈l:=by
   have me:=aap hj;obtain ⟨V7,e2⟩:=hv _ me;obtain ⟨Z8,e3⟩:=Value.isInt_shape (show Value.isInt k es.toList[j].2=true from V6);rw [e3] at e2;injection e2 with e4
   rw [e4];exact hp.mem_iff.mp (aaf.mpr ⟨_,me,rfl⟩)
  refine aae (aae ?_);have:=hQ s.heap false (Heap.SameBut.refl a s.heap) (by rw [aaF hm];exact ⟨o,es,ep,t,ho,hex,hd,hv,hp,hr,hf,hb⟩);exact this
 | none=>
  dsimp only;have hm:k∉l:=λhm=>by obtain ⟨e,he,ek⟩:=aaf.mp (hp.mem_iff.mpr hm);obtain ⟨V7,e2⟩:=hv e he;have:=List.findIdx?_eq_none_iff.mp IJ e he;rw [e2,ek] at this;simp [intKind,Value.isInt] at this
  rw [hh];have tN:=layNew_perm t es k (.int k tk);have Fn:=layNew_fits t es k (.int k tk);have KD:=HC (t:=t) (es:=es) (es':=Qk (cz es)) (h:=k) (x:= .int k tk) (x':= .none) (Im es).symm
  have Tv:∀(b:Bool) {s₁:Shared} {Q':Unit->Shared->Prop},Q' () s₁->wpAny (model prog w) A (match b with | true=>rule "set.scan.the-table-gave-way" | false=>pure ()) Q' E s₁:=
   λb s₁ Q' hq=>by cases b <;> first | exact aae hq | exact wpAny_rule hq
  have qL:xN led (l++[k])=bK (cz es,t) k:=by rw [B_,<-hr]
  unfold bK at qL;dsimp only at qL;generalize hL0:layNew t (Qk (cz es)) k .none=L0 at KD qL;generalize hL:layNew t es k (.int k tk)=L at tN Fn KD⊢;obtain ⟨iq,t1,xl,Y5⟩:=L;obtain ⟨Qb,t0,Z3,g0⟩:=L0;obtain ⟨n1,n2⟩:=KD;dsimp only at tN Fn n1 n2 qL⊢;injection n2 with n2 n3
  injection n3 with n3 n4
  subst n2 n3 n4;rw [Array.toList_push] at tN;have Q8:∀e∈iq.toList,∃tk,e.2= .int e.1 tk:=λe he=>by
   rcases aaL.mp (tN.mem_iff.mp he) with he | he
   ·exact hv e he
   ·rw [abf.mp he];exact ⟨tk,rfl⟩
  have Hu:List.Perm (iq.toList.map (·.1)) (l++[k]):=by have:=tN.map (·.1);rw [aao] at this;exact this.trans (hp.append (List.Perm.refl _))
  have P4:iq.size=es.size+1:=by have:=tN.length_eq;simpa using this
  have SR:iq.size < 1000:=by omega
  refine aab (Tv _ ?_)
  have key:∀(g:Bool->Sem Unit),(∀(b:Bool) {s₁:Shared} {Q':Unit->Shared->Prop},Q' () s₁->wpAny (model prog w) A (g b) Q' E s₁)->wpAny (model prog w) A (do
    storeSet a iq t1
    if (!xl&&t1.tooFull)=true then do
      g (relayAll t1 iq (SetTable.grown iq.size)).2.2
      storeSet a (relayAll t1 iq (SetTable.grown iq.size)).1 (relayAll t1 iq (SetTable.grown iq.size)).2.1
      pure (some true)
     else pure (some true)) (λr s'=>r=some true/\∃h',Heap.SameBut a s.heap h'/\h'.cB a led (l++[k])/\s'={s with heap:=h',toks:=s.toks+1}) E {s with toks:=s.toks+1}:=λg Tv=>by
   refine aab (wpAny_storeSet_of ho hd ?_ (fits_of_scanBound (aaE SR (by decide))));have hg:∀{h:Heap} {o:Obj} {Qb:Array (Int×Value)} {ep:Nat} {t0:SetTable} (es':Array (Int×Value)) (t':SetTable),h.get? a=some o->o.data= .set Qb ep t0->(h.update a (Obj.putSet es' t')).get? a=some {o with data:= .set es' (ep+1) t'}:=λ{h o Qb ep t0} es' t' ho hd=>by have:=Heap.get?_update_self (Obj.putSet es' t') ho (by rw [putSet_of es' t' hd];rfl);rw [putSet_of es' t' hd] at this;exact this
   have Nr:=hg iq t1 ho hd;have Qw:=Heap.SameBut.update s.heap a (Obj.putSet iq t1);by_cases c:(!xl&&t1.tooFull)=true
   ·rw [aaF c] at qL⊢;have Pp:=relayAll_perm t1 iq (SetTable.grown iq.size);have K0:=relayAll_fits t1 iq (SetTable.grown iq.size);have Th:=Co (t:=t1) (n:=SetTable.grown iq.size) n1;have Xd:Qb.size=iq.size:=by rw [<-bQ,<-n1,bQ]
    rw [Xd] at qL;generalize relayAll t1 Qb (SetTable.grown iq.size)=R0 at qL Th;generalize relayAll t1 iq (SetTable.grown iq.size)=R at Pp K0 Th⊢;obtain ⟨GK,t2,g2⟩:=R;obtain ⟨YO,U',g20⟩:=R0;obtain ⟨q1,q2⟩:=Th;dsimp only at Pp K0 q1 q2 qL⊢;injection q2 with q2 q3
    subst q2;have NR:GK.size=iq.size:=by have:=Pp.length_eq;simpa using this
    refine aab (Tv _ ?_);refine aab (wpAny_storeSet_of Nr rfl ?_ (fits_of_scanBound (aaE (by omega:GK.size < 1000) (by decide))));have Np:=hg GK t2 Nr rfl;refine aae ⟨rfl,_,Qw.trans (Heap.SameBut.update _ a _),⟨_,GK,_,t2,Np,hex,rfl,λe he=>Q8 e (Pp.mem_iff.mp he),(Pp.map _).trans Hu, ?_,K0,by omega⟩,rfl⟩;rw [qL,q1]
   ·rw [aaA c] at qL⊢;refine aae ⟨rfl,_,Qw,⟨_,iq,_,t1,Nr,hex,rfl,Q8,Hu, ?_,Fn,SR⟩,rfl⟩;rw [qL,n1]
  have fin:∀(r:Option Bool) (s':Shared),(r=some true/\∃h',Heap.SameBut a s.heap h'/\h'.cB a led (l++[k])/\s'={s with heap:=h',toks:=s.toks+1})->wpAny (model prog w) A (match r with | some added=>pure added | none=>setAddHashedIn a (.int k tk) k 99999) Q E s':=by rintro r s' ⟨rfl,h',b1,b2,rfl⟩;exact aae (hQ h' true b1 (by rw [aaA hm];exact b2))
  split
  ·refine aab ?_;rw [hashByValue_scannable 8 Vl];refine aae ?_;refine abv (key _ ?_) (λr s' SD=>fin r s' SD) λ_ _ h=>h;intro b s₁ Q' hq;cases b <;> first | exact aae hq | exact wpAny_rule hq
  ·refine aab (aae ?_);refine abv (key _ ?_) (λr s' SD=>fin r s' SD) λ_ _ h=>h;intro b s₁ Q' hq;cases b <;> first | exact aae hq | exact wpAny_rule hq
end
namespace F
theorem eP:plainId "set.update.loop"=true:=by decide+kernel
theorem iS:entryFor table "set.update.loop"=some Builtin.«set.update.loop»:=entryFor_of_fast (by kernel_rfl)
end F
def ins(l:List Int)(k:Int):List Int:=if k∈l then l else l++[k]
def dd(ns:List Int):List Int:=ns.foldl ins []
theorem uW(ns:List Int)(k:Int):dd (ns++[k])=ins (dd ns) k:=by unfold dd;rw [List.foldl_append];rfl
theorem Hy{k x:Int}:x∈ins l k↔x∈l\/x=k:=by
 unfold ins;split
 ·rename_i h;exact ⟨.inl,λh'=>h'.elim id λe=>e▸h⟩
 ·simp
theorem Ij(l:List Int)(k:Int):(ins l k).length<=l.length+1:=by unfold ins;split <;> simp
theorem pK(ns:List Int):(∀x,x∈dd ns↔x∈ns)/\(dd ns).length<=ns.length/\(dd ns).Nodup:=by
 have key:∀n (ys:List Int),ys.length=n->(∀x,x∈dd ys↔x∈ys)/\(dd ys).length<=ys.length/\(dd ys).Nodup:=by
  intro n
  induction n with
  | zero=>intro ys h;have:ys=[]:=abp.mp h;subst this;exact ⟨λx=>Iff.rfl,aal _,List.nodup_nil⟩
  | succ n ih=>
   intro ys h;have gE:ys≠[]:=λe=>by subst e;cases h
   obtain ⟨zs,x,rfl⟩:∃zs x,ys=zs++[x]:=⟨ys.dropLast,ys.getLast gE,(aa3 gE).symm⟩;obtain ⟨h1,h2,h3⟩:=ih zs (by simpa using h);rw [uW];refine ⟨λy=>by rw [Hy,h1];simp, ?_, ?_⟩
   ·have:=Ij (dd zs) x;rw [aai];show _<=zs.length+1;omega
   ·unfold ins;split
    ·exact h3
    ·rename_i q;refine List.nodup_append.mpr ⟨h3,by simp,λa ha b hb=> ?_⟩;have:b=x:=by simpa using hb
     subst this;rintro rfl;exact q ha
 exact key _ ns rfl
section
variable{I:Addr}{fp wr:List Addr}{G:Array GenState->Array GenState->Prop}{n:Nat}{P:Nat->Value->Prop}{St:Nat->Shared->Prop}
theorem mM(W:WalksS prog w A.in1 I fp wr G n P St)(hn:n < 900)(S:Addr)(NC:S∉fp)(led:Bool)(ns:List Int)(hl:ns.length=n)(hb:∀k∈ns,0<=k/\k < 4096)(hP:∀i v,P i v->∃k tk,ns[i]? =some k/\v= .int k tk):
  ∀(k i:Nat) (s:Shared),n - i=k->i<=n->St i s->s.heap.cB S led (dd (ns.take i))->(∀s',Moved (S::wr) G s s'->s'.heap.cB S led (dd ns)->R (.ok (.ret .none)) s')->
  codeAny (model prog w) A (.builtin "set.update.loop" ⟨[.ref S, .ref I],[]⟩) R s:=by
 have UP:S∉wr:=λh=>NC (W.sub _ h);have GX:∀b∈wr,b∈S::wr:=λb hb=>aag _ hb;intro k
 induction k with
 | zero=>
  intro i s hk hi B1 hS hR;have uX:i=n:=by omega
  subst uX;refine codeAny_builtin F.iS ?_;rw [Around.under_plainId F.eP _];show wpAny _ A.in1 (pyNext (.ref I) >>= _) _ _ s;refine aab (W.done s _ _ B1 λs' hm=> ?_);rw [<-hl,List.take_length] at hS;exact aae (hR s' (hm.mono GX) (hS.keep λo e=>hm.heap S o UP e))
 | succ k ih=>
  intro i s hk hi B1 hS hR;have Bl:i < n:=by omega
  refine codeAny_builtin F.iS ?_;rw [Around.under_plainId F.eP _];show wpAny _ A.in1 (pyNext (.ref I) >>= _) _ _ s;refine aab (W.item i s _ _ Bl B1 λv s' hp Uc hm=> ?_);obtain ⟨x,tk,ex,rfl⟩:=hP i v hp;have Ka:=hS.keep λo e=>hm.heap S o UP e;have hx:=hb x (aaD ex);obtain ⟨f1,f2,f3⟩:=pK (ns.take i);have Rq:ns.take (i+1)=ns.take i++[x]:=by rw [List.take_add_one,ex];rfl
  show wpAny _ A.in1 (holding [Value.int x tk] (setAdd S (.int x tk)) >>= _) _ _ _;refine aab (wpAny_holding (yB Ka (λy hy=>hb y (List.mem_of_mem_take ((f1 y).mp hy))) hx.1 hx.2 (aaN f2 (by rw [abF];omega)) λh' b sb is=> ?_));have Xw:h'.cB S led (dd (ns.take (i+1))):=by rw [Rq,uW];exact is
  refine aae ⟨plainId_quiet F.eP _,ih (i+1) _ (by omega) Bl (W.frame _ s' _ _ Uc (Nat.le_succ _) λb hb o e=>sb.extBut b o (λh:b=S=>NC (by rw [<-h];exact hb)) e) Xw λJn S' Te=> ?_⟩;refine hR Jn (Moved.trans W.gtrans ((hm.mono GX).then_heap (Nat.le_succ _) λb o hb e=> ?_) S') Te;exact sb.extBut b o (λh:b=S=>hb (by rw [h];exact aak)) e
end
namespace F
theorem rq:isSubtype (.type "list") (.type "set")=pure false:=by rw [isSubtype_type];kernel_rfl
theorem jC:isSubtype (.type "list") (.type "frozenset")=pure false:=by rw [isSubtype_type];kernel_rfl
end F
section
theorem xQ{Q:Unit->Shared->Prop}{id:String}{S l:Addr}{ns:List Int}(hh:A.handled=none)(hl:s.heap.IsList l items)(hsz:items.size=ns.length)(hit:∀(i:Nat) (v:Value),items[i]? =some v->∃k tk,ns[i]? =some k/\v=Value.int k tk)(hb:∀k∈ns,0<=k/\k < 4096)(hn:ns.length < 900)(hS:s.heap.cB S led [])
  (hQ:∀h' tk,(∀b o,b≠S->s.heap.get? b=some o->h'.get? b=some o)->h'.cB S led (dd ns)->s.toks<=tk->Q () {s with heap:=h',toks:=tk}):wpAny (model prog w) A (Builtin.Frozenset.updateFrom id S (.ref l)) Q E s:=by
 have Wh:S≠l:=λe=>by obtain ⟨o,es,ep,t,ho,hex,_⟩:=hS;obtain ⟨o',oy,hc,_⟩:=hl;rw [e,oy] at ho;cases ho;rw [hex.1] at hc;exact aaI hc (by decide)
 have KI:S < s.heap.objs.size:=by obtain ⟨o,es,ep,t,ho,_⟩:=hS;exact aat ho
 have T4:l < s.heap.objs.size:=by obtain ⟨o',oy,_⟩:=hl;exact aat oy
 unfold Builtin.Frozenset.updateFrom Builtin.Frozenset.isAnySet;refine aab ?_;refine aab (wpAny_isInstance hl.typeIs F.rq ?_);show wpAny _ _ (isInstance (.ref l) (.type "frozenset")) _ _ _;refine wpAny_isInstance hl.typeIs F.jC ?_;dsimp only [Bool.false_eq_true,if_false];refine aab (wpAny_typeOf hl.typeIs ?_);rw [aaA (show¬(Value.type "list"==Value.type "dict")=true by decide)];refine aab (wpAny_pyIter_list hl ?_);have W:=(Walks.list (prog:=prog) (w:=w) (A:=A.in1) hh s.heap.objs.size l (aaM T4) items).toS;have U_:(s.heap.push {cls:= .type "list_iterator",data:= .fields #[.ref l, .int 0 0]}).cB S led (dd (ns.take 0)):=hS.keep λo e=>aah _ e;have NC:S∉[s.heap.objs.size,l]:=λq=>by
  rcases aaB.mp q with q | q
  ·exact aaI q (aaM KI)
  ·exact Wh (abf.mp q)
 refine aab (wpAny_runValue (mM W (by omega) S NC led ns hsz.symm hb (λi v h=>hit i v h) _ 0 _ rfl (abA _) ⟨⟨_,aaw _ rfl,rfl,rfl⟩,hl.at λo e=>aah _ e⟩ U_ λs' hm is=> ?_));rw [Moved.eq_with hm];refine aae (hQ s'.heap s'.toks (λb o hb e=>hm.heap b o (λq=> ?_) (aah _ e)) is hm.toks);rcases aaB.mp q with q | q
 ·exact hb q
 ·exact aaI (aat e) (by rw [abf.mp q];exact abo _)
end
namespace F
end F
section
abbrev aS(w:World):Bool:=w.params.followText "set-order"
theorem rY{Q₁:Value->Shared->Prop}(a:Value)
  (h:Q₁ (.ref s.heap.objs.size) {s with heap:=s.heap.push {cls:= .type "set",dict:=none,data:= .set #[] 0 (.fresh 0 0 (!aS w))}}):
  codeAny (model prog w) A (.call (.builtin "set.__new__") ⟨[.type "set",a],[]⟩) (wants Q₁ E) s:=by
 refine codeAny_of_tree ?_;show wpAny _ A.in1 (do checkBuiltinCall "set.__new__" ⟨[.type "set",a],[]⟩;again (.builtin "set.__new__" ⟨[.type "set",a],[]⟩)) _ _ s;refine aab (wpAny_of_eq (F.newCall_set_1 a) (aae ⟨plainId_quiet F.plain_set_new _,codeAny_builtin F.entry_set_new ?_⟩));rw [Around.under_plainId F.plain_set_new _];unfold Builtin.«set.__new__» Builtin.Frozenset.newClass;have GX:=sub_set_self;obtain ⟨hp,g,d,tk,os⟩:=s;dsimp only
 wp_walk
 refine wpAny_askSetting (aae ?_);dsimp only;simp only [newObj];refine aab (wpAny_alloc (aae ?_));exact aae h
theorem oo{M:Model}{self a:Value}{Q:Unit->Shared->Prop}(hT:s.TypeIs self "set")(hQ:Q () s):
  wpAny M A (checkBuiltinCall "set.__init__" ⟨[self,a],[]⟩) Q E s:=by
 simp only [checkBuiltinCall,kind_set_init,split_set_init,sig_set_init];refine aab (wpAny_isInstance hT sub_set_self ?_);simp only [Bool.not_true,Bool.false_eq_true,if_false];unfold Bind.checkArgs;dsimp only;refine aab (m:=Bind.printed "set" true _ _) (PyProof.Rows.printed_name (by decide) ?_);refine aab (m:=Bind.printed "*" false _ _) (PyProof.Rows.printed_star (self:=self) rfl hT λshort=> ?_);have XE:(Manifest.Receiver.self==Manifest.Receiver.none)=false:=by decide
 have hn:(if (Manifest.Receiver.self==Manifest.Receiver.none)=true then [self,a].length else [self,a].length - 1)=1:=by simp [XE]
 rw [hn];simp only [List.map_nil];have hc:Bind.check ⟨.positional,"set","*", .self,[⟨"iterable", .posOnly,false⟩]⟩ "set" short 1 []=pure ():=by simp [Bind.check,Bind.checkCount,Bind.isPositional];exact λh=>aaI h (by decide)
 rw [hc];exact aae hQ
set_option maxHeartbeats 1000000 in
set_option maxRecDepth 100000 in
theorem qj{l:Addr}{ns:List Int}(hh:A.handled=none)(hl:s.heap.IsList l items)(hsz:items.size=ns.length)(hit:∀(i:Nat) (v:Value),items[i]? =some v->∃k tk,ns[i]? =some k/\v=Value.int k tk)(hb:∀k∈ns,0<=k/\k < 4096)(hn:ns.length < 900)
  (hQ:∀h' tk,(∀b o,s.heap.get? b=some o->h'.get? b=some o)->h'.cB s.heap.objs.size (!aS w) (dd ns)->s.toks<=tk->Q (.ref s.heap.objs.size) {s with heap:=h',toks:=tk}):
  wpAny (model prog w) A (call (.type "set") [.ref l]) Q E s:=by
 obtain ⟨c,tl,Xq⟩:=F.called_set.mro;have UJ:=F.called_set.made;have GX:=F.called_set.sub;refine wpAny_call (codeAny_of_tree ?_);show wpAny _ _ (callAny (.type "set") _) _ _ _;refine aae ⟨Code.quiet_builtin _ (by decide+kernel),codeAny_builtin F.entry_type_call ?_⟩;rw [Around.under_plain (weight_type_call_type "set" [.ref l] []) rfl];have h1:=F.called_set.notType;have h2:=F.called_set.canCreate;have hct:=F.typeCall_set_1 (.ref l)
 repeat (any_goals (first | assumption | wp_step))
 refine codeAny_mono (rY (E:=E) (Q₁:=λobj s₁=>obj= .ref s.heap.objs.size/\s₁={s with heap:=s.heap.push {cls:= .type "set",dict:=none,data:= .set #[] 0 (.fresh 0 0 (!aS w))}}) (.ref l) ⟨rfl,rfl⟩) λr s₁ hr=> ?_;cases r with
 | error e=>exact hr
 | ok fl=>
  cases fl with
  | ret obj=>
   obtain ⟨rfl,rfl⟩:=hr;have hS:(s.heap.push {cls:= .type "set",dict:=none,data:= .set #[] 0 (.fresh 0 0 (!aS w))}).get? s.heap.objs.size=some {cls:= .type "set",dict:=none,data:= .set #[] 0 (.fresh 0 0 (!aS w))}:=aaw _ rfl;have hT:Shared.TypeIs {s with heap:=s.heap.push {cls:= .type "set",dict:=none,data:= .set #[] 0 (.fresh 0 0 (!aS w))}} (.ref s.heap.objs.size) "set":=⟨_,hS,rfl⟩;have Vp:=F.called_set.init.lookup;have hbi:=F.called_set.init.bind (.ref s.heap.objs.size)
   repeat (any_goals (first | assumption | wp_step))
   refine codeAny_mono (codeAny_call_builtin (R:=wants (λr s₂=>r= .none/\Q (.ref s.heap.objs.size) s₂) E) F.called_set.init.plain F.entry_set_init (oo hT ?_)) λr₂ s₂ EW=> ?_
   ·unfold Builtin.«set.__init__» noKeywords;have M_:(s.heap.push {cls:= .type "set",dict:=none,data:= .set #[] 0 (.fresh 0 0 (!aS w))}).IsList l items:=hl.at λo e=>aah _ e;have tl1:Shared.TypeIs {s with heap:=s.heap.push {cls:= .type "set",dict:=none,data:= .set #[] 0 (.fresh 0 0 (!aS w))}} (.ref l) "list":=M_.typeIs;generalize hu:Builtin.Frozenset.updateFrom=uf
    wp_walk
    subst hu;refine xQ (led:= !aS w) hh M_ hsz hit hb hn ⟨_, #[],0,_,hS,⟨rfl,rfl,rfl⟩,rfl,λe he=>by simp at he,by simp,rfl,rfl,by decide⟩ λh' tk kp is ht=> ?_;exact aae ⟨rfl,hQ h' tk (λb o e=>kp b o (aaM (aat e)) (aah _ e)) is ht⟩
   ·cases r₂ with
    | error e=>exact EW
    | ok OC=>
     cases OC with
     | ret r=>
      obtain ⟨rfl,hq⟩:=EW
      repeat (any_goals (first | assumption | wp_step))
     | _=>exact EW.elim
  | _=>exact hr.elim
end
namespace F
theorem e6:Manifest.owners.lookup (String.ofList ['r', 'o', 't', 'a', 'r', 'e', 't', 'i', '_', 't', 'e', 's'].reverse)=some Manifest.sig_set_iterator:=by kernel_rfl
theorem aq:Slot "set_iterator" "__next__" "set_iterator.__next__":=
 .of (owner:="set_iterator") (n:="__next__") (by rw [typeLookup_type,builtinLookup_eq_fast];kernel_rfl) (by decide+kernel) (by decide+kernel) (by decide+kernel)
  (by first | exact .inl (by decide+kernel) | exact .inr (by decide+kernel)) (by rw [isSubtype_type];kernel_rfl)
theorem cL:entryFor table "set_iterator.__next__"=some Builtin.«set_iterator.__next__»:=entryFor_of_tree (by kernel_rfl)
theorem cD(a:Value):argsOk "set_iterator.__next__" ⟨[a],[]⟩:=by unfold argsOk;rw [signature?_of (id:="set_iterator.__next__") (n:=['_', '_', 't', 'x', 'e', 'n', '_', '_']) (o:=['r', 'o', 't', 'a', 'r', 'e', 't', 'i', '_', 't', 'e', 's']) (by kernel_rfl) e6];kernel_rfl
theorem p_:entryFor table "set.__iter__"=some Builtin.«frozenset.__iter__»:=entryFor_alias (id':="frozenset.__iter__") (by kernel_rfl) rfl (by decide+kernel) (by kernel_rfl)
end F
theorem A2(h:jE (cz es,t)=true):t.fits es.size=true/\t.plain=true/\SetTable.below t.place 0=0/\∀i,i < es.size->SetTable.below t.place (t.place.getD i 0+1)=i+1:=by unfold jE at h;rw [aaz,aaz,aaz,aa5,bQ] at h;obtain ⟨⟨⟨a,b⟩,c⟩,d⟩:=h;exact ⟨a,(Bool.and_eq_true_iff.mp b).1,by simpa using c,λi hi=>by simpa using d i (List.mem_range.mpr hi)⟩
structure dI(w:World)(h:Heap)(a:Addr)(es:Array (Int×Value))(ep:Nat)(t:SetTable):Prop where
 at':∃o,h.get? a=some o/\o.ExactSet/\o.data= .set es ep t
 fits:t.fits es.size=true
 led:aS w=false->t.led=true
 good:aS w=false->jE (cz es,t)=true
theorem dI.keep{h h':Heap}(x:dI w h a es ep t)(k:∀o,h.get? a=some o->h'.get? a=some o):dI w h' a es ep t:=by obtain ⟨⟨o,ho,r⟩,f,l,g⟩:=x;exact ⟨⟨o,k o ho,r⟩,f,l,g⟩
def gP(w:World)(a:Addr)(es:Array (Int×Value))(ep:Nat):Array (Int×Value):=if aS w then pickOrder (w.params.setOrder a ep) es else es
def jI(w:World)(t:SetTable):Nat->Nat
 | 0=>0
 | i+1=>if aS w then 0 else t.place.getD i 0+1
def bC(w:World)(h:Heap)(it a:Addr)(t:SetTable)(i n ep:Nat):Prop:=∃o,h.get? it=some o/\o.cls= .type "set_iterator"/\o.data= .fields #[.int (jI w t i:Nat) 0, .int (i:Nat) 0, .ref a, .int (n:Nat) 0, .int (ep:Nat) 0]
section
theorem h9{Q:Bool->Shared->Prop}(h:Q (aS w) s):wpAny (model prog w) A setsByText Q E s:=by unfold setsByText;exact aab (wpAny_askSetting (aae h))
theorem dI.typeIs(x:dI w s.heap a es ep t):s.TypeIs (.ref a) "set":=by obtain ⟨⟨o,ho,hex,_⟩,_⟩:=x;exact ⟨o,ho,hex.1⟩
theorem mv(x:dI w s.heap a es ep t)
  (hQ:Q (.ref s.heap.objs.size) {s with heap:=s.heap.push {cls:= .type "set_iterator",data:= .fields #[.int 0 0, .int 0 0, .ref a, .int es.size 0, .int ep 0]}}):
  wpAny (model prog w) A (pyIter (.ref a)) Q E s:=by
 obtain ⟨⟨o,ho,hex,hd⟩,hf,hl,hg⟩:=id x;refine wpAny_pyIter_slot x.typeIs F.slot_set_iter (wpAny_call_entry F.slot_set_iter x.typeIs F.p_ ?_ (F.args_set_iter_1 _));unfold Builtin.«frozenset.__iter__»;refine aab (aae ?_);unfold Builtin.Frozenset.sizeOf;refine aab (aab (wpAny_setEntries_of ho hd hf (aae ?_)));unfold setDrawn;refine aab (aab (wpAny_setState_of ho hd hf ?_));refine aab (h9 (aae ?_));dsimp only
 rw [aaA (by
  cases hb:aS w with
  | true=>simp
  | false=>
   have hp:=(A2 (hg hb)).2.1;show¬((!false)&&(!t.plain&&decide (es.size > 1)))=true;rw [hp]
   simp)]
 refine aab (aae ?_);refine aab (wpAny_setEpoch_of ho hd hf ?_);refine aab (wpAny_newObj_type (aae ⟨_,rfl,"set_iterator",_,⟨_,aaw _ rfl,rfl⟩,F.aq.lookup, ?_⟩));simpa [rawInt] using hQ
theorem r9{Q:Array (Int×Value)->Shared->Prop}(x:dI w s.heap a es ep t)(hb:aS w=true)(hQ:Q (gP w a es ep) s):wpAny (model prog w) A (setWalk a) Q E s:=by obtain ⟨⟨o,ho,hex,hd⟩,hf,hl,hg⟩:=id x;unfold setWalk;refine aab (wpAny_setState_of ho hd hf ?_);refine aab (h9 ?_);rw [aaF hb];refine aab (wpAny_askSetting (aae ?_));unfold gP at hQ;rw [aaF hb] at hQ;exact hQ
theorem jH{i:Nat}{Q:Option (Value×Nat)->Shared->Prop}(x:dI w s.heap a es ep t)(hi:i<=es.size)(hQ:Q (((gP w a es ep)[i]?).map λe=>(e.2,jI w t (i+1))) s):
  wpAny (model prog w) A (setNext a (jI w t i) i ep) Q E s:=by
 obtain ⟨⟨o,ho,hex,hd⟩,hf,hl,hg⟩:=id x;unfold setNext;refine aab (wpAny_setState_of ho hd hf ?_);refine aab (h9 ?_);dsimp only;cases hb:aS w with
 | true=>
  simp only [if_true];rw [if_neg (by simp)];refine aab (r9 x hb (aae ?_));have e:jI w t i=jI w t (i+1):=by
   cases i with
   | zero=>show 0=if aS w=true then 0 else _;rw [aaF hb]
   | succ i=>show (if aS w=true then 0 else _)=if aS w=true then 0 else _;rw [aaF hb,aaF hb]
  rw [e];exact hQ
 | false=>
  obtain ⟨g1,g2,g3,g4⟩:=A2 (hg hb);simp only [Bool.false_eq_true,if_false]
  rw [aaA (by
   show¬(!t.plain&&decide (es.size > 1))=true
   rw [g2];simp)]
  refine aab ?_;show wpAny _ _ (if (!t.led&& !es.isEmpty)=true then unsupported "set:maker-not-led" else pure PUnit.unit) _ _ _;rw [if_neg (by rw [hl hb];simp)];refine aae ?_;have Iq:SetTable.below t.place (jI w t i)=i:=by
   cases i with
   | zero=>exact g3
   | succ i=>
    show SetTable.below t.place (if aS w=true then 0 else t.place.getD i 0+1)=_;rw [if_neg (by rw [hb];simp)];exact g4 i (by omega)
  have RI:t.place.size=es.size:=by unfold SetTable.fits at g1;simp at g1;exact g1.1
  have oy:gP w a es ep=es:=by unfold gP;rw [if_neg (by rw [hb];simp)]
  have QM:jI w t (i+1)=t.place.getD i 0+1:=by show (if aS w=true then 0 else _)=_;rw [if_neg (by rw [hb];simp)]
  rw [Iq];rw [oy,QM] at hQ;refine aae ?_;rcases aa8 i es.size with q | q
  ·have q2:i < t.place.size:=by omega
   rw [abl q] at hQ⊢;rw [abl q2];have e:t.place.getD i 0=t.place[i]:=by simp [q2]
   rw [e] at hQ;exact hQ
  ·rw [abG q] at hQ⊢;exact hQ
theorem bC.typeIs{it:Addr}{i n:Nat}(x:bC w s.heap it a t i n ep):s.TypeIs (.ref it) "set_iterator":=by obtain ⟨o,ho,hc,_⟩:=x;exact ⟨o,ho,hc⟩
theorem mL{it:Addr}{i:Nat}{Q:Option Value->Shared->Prop}(x:dI w s.heap a es ep t)(hit:bC w s.heap it a t i es.size ep)(hi:i < es.size){e:Int×Value}(he:(gP w a es ep)[i]? =some e)
  (hQ:∀h',bC w h' it a t (i+1) es.size ep->Heap.SameBut it s.heap h'->Q (some e.2) {s with heap:=h'}):wpAny (model prog w) A (pyNext (.ref it)) Q E s:=by
 obtain ⟨⟨o,ho,hex,hd⟩,hf,hl,hg⟩:=id x;obtain ⟨oi,NB,Vk,Iu⟩:=id hit;unfold pyNext
 refine aab (wpAny_attempt (wpAny_callSpecial?_slot (name:=Str.ofString "__next__") hit.typeIs F.aq
  (wpAny_call_entry F.aq hit.typeIs F.cL ?_ (F.cD _))))
 unfold Builtin.«set_iterator.__next__»;refine aab (aae ?_);refine aab (wpAny_fieldsOf NB Iu ?_);dsimp only;refine aab (wpAny_setEntries_of ho hd hf ?_);rw [if_neg (by simp)];simp only [Int.toNat_natCast];refine aab (jH x (abS hi) ?_);rw [he];dsimp only [Option.map];refine wpAny_bind (wpAny_setField NB Iu (by simp) ?_);have Nr:=Heap.get?_update_self (Obj.mapFields (·.setIfInBounds 0 (rawInt ((jI w t (i+1):Nat):Int)))) NB (Obj.isFreed_of_fields (Obj.data_mapFields Iu _));have Sw:(Obj.mapFields (·.setIfInBounds 0 (rawInt ((jI w t (i+1):Nat):Int))) oi).data=_:=Obj.data_mapFields Iu _;refine wpAny_bind (wpAny_setField Nr Sw (by simp) ?_)
 have Bb:bC w ((s.heap.update it (Obj.mapFields (·.setIfInBounds 0 (rawInt ((jI w t (i+1):Nat):Int))))).update it (Obj.mapFields (·.setIfInBounds 1 (rawInt ((i:Int)+1))))) it a t (i+1) es.size ep:=
  ⟨_,Heap.get?_update_self _ Nr (Obj.isFreed_of_fields (Obj.data_mapFields Sw _)),(Obj.cls_mapFields ..).trans ((Obj.cls_mapFields ..).trans Vk),by rw [Obj.data_mapFields Sw];simp [rawInt]⟩
 exact aae ⟨_,rfl,aae (hQ _ Bb ((Heap.SameBut.update ..).trans (Heap.SameBut.update ..)))⟩
theorem iN{it:Addr}{Q:Option Value->Shared->Prop}(hh:A.handled=none)(x:dI w s.heap a es ep t)(hit:bC w s.heap it a t es.size es.size ep)(hz:(gP w a es ep).size=es.size)
  (hQ:∀h',Heap.ExtBut it s.heap h'->Q none {s with heap:=h'}):wpAny (model prog w) A (pyNext (.ref it)) Q E s:=by
 obtain ⟨⟨o,ho,hex,hd⟩,hf,hl,hg⟩:=id x;obtain ⟨oi,NB,Vk,Iu⟩:=id hit;unfold pyNext
 refine aab (wpAny_attempt (wpAny_callSpecial?_slot (name:=Str.ofString "__next__") hit.typeIs F.aq
  (wpAny_call_entry F.aq hit.typeIs F.cL ?_ (F.cD _))))
 unfold Builtin.«set_iterator.__next__»;refine aab (aae ?_);refine aab (wpAny_fieldsOf NB Iu ?_);dsimp only;refine aab (wpAny_setEntries_of ho hd hf ?_);rw [if_neg (by simp)];simp only [Int.toNat_natCast];refine aab (jH x (aal _) ?_);rw [abG (by omega)];dsimp only [Option.map];refine wpAny_bind (wpAny_setField NB Iu (by simp) ?_);refine aab ?_;simp only [newExc,newTuple];refine aab (wpAny_newObj_type ?_ (by size_fits));refine wpAny_bind (m:=firstArgMember _ _) (wpAny_of_eq (a:=Value.none) (by first | rfl | (simp only [firstArgMember];rfl)) ?_);refine wpAny_newObj_type ?_ (by size_fits);simp only [raiseNew];refine aab (wpAny_handled ?_);rw [show A.in1.handled=none from hh];refine aab (aae (wpAny_throw ?_));refine aab (wpAny_isInstance (T:="StopIteration") (b:=true) ⟨_,aaw _ rfl,rfl⟩ isSubtype_stop ?_);exact aae (hQ _ (((Heap.SameBut.update ..).extBut.push _).push _))
end
namespace F
theorem cV:Slot "set_iterator" "__iter__" "set_iterator.__iter__":=
 .of (owner:="set_iterator") (n:="__iter__") (by rw [typeLookup_type,builtinLookup_eq_fast];kernel_rfl) (by decide+kernel) (by decide+kernel) (by decide+kernel)
  (by first | exact .inl (by decide+kernel) | exact .inr (by decide+kernel)) (by rw [isSubtype_type];kernel_rfl)
theorem gx:entryFor table "set_iterator.__iter__"=some Builtin.«dict_keyiterator.__iter__»:=entryFor_alias (id':="dict_keyiterator.__iter__") (by kernel_rfl) rfl (by decide+kernel) (by kernel_rfl)
theorem fN(a:Value):argsOk "set_iterator.__iter__" ⟨[a],[]⟩:=by unfold argsOk;rw [signature?_of (id:="set_iterator.__iter__") (n:=['_', '_', 'r', 'e', 't', 'i', '_', '_']) (o:=['r', 'o', 't', 'a', 'r', 'e', 't', 'i', '_', 't', 'e', 's']) (by kernel_rfl) e6];kernel_rfl
end F
theorem AU{α:Type}(next:Nat->Nat):∀(n k:Nat) (left:List α) (out:Array α),left.length=n->(pickOrder.go next n k left out).toList.Perm (out.toList++left)
 | 0,k,left,out,h=>by have:left=[]:=abp.mp h;subst this;show out.toList.Perm _;rw [aaW]
 | n+1,k,left,out,h=>by
  have hi:next k % left.length < left.length:=Nat.mod_lt _ (by omega)
  unfold pickOrder.go;rw [aaa hi];have ih:=AU next n (k+1) (left.eraseIdx (next k % left.length)) (out.push left[next k % left.length]) (by rw [List.length_eraseIdx_of_lt hi];omega)
  refine ih.trans ?_;rw [Array.toList_push,abj];refine List.Perm.append_left _ ?_;show (left[next k % left.length]::left.eraseIdx (next k % left.length)).Perm left;generalize next k % left.length=j at *
  have e:left=left.take j++left[j]::left.drop (j+1):=by rw [<-abk hi,abJ]
  rw [List.eraseIdx_eq_take_drop_succ]
  conv=>rhs;rw [e]
  exact List.perm_middle.symm
theorem Cc{α:Type}(next:Nat->Nat)(xs:Array α):(pickOrder next xs).toList.Perm xs.toList:=by
 have:=AU next xs.size 0 xs.toList #[] (by simp)
 exact this
theorem tJ(w:World)(a:Addr)(es:Array (Int×Value))(ep:Nat):(gP w a es ep).toList.Perm es.toList:=by
 unfold gP;split
 ·exact Cc _ _
 ·exact List.Perm.refl _
theorem mR(w:World)(a:Addr)(es:Array (Int×Value))(ep:Nat):(gP w a es ep).size=es.size:=by have:=(tJ w a es ep).length_eq;simpa using this
section
theorem bC.at{h h':Heap}{it:Addr}{i n:Nat}(x:bC w h it a t i n ep)(e:∀o,h.get? it=some o->h'.get? it=some o):bC w h' it a t i n ep:=by obtain ⟨o,ho,r⟩:=x;exact ⟨o,e o ho,r⟩
theorem Walks.Km(hh:A.handled=none)(I a:Addr)(gE:a≠I)(es:Array (Int×Value))(ep:Nat)(t:SetTable):
  Walks prog w A I [I,a] [I] es.size (λi v=>∃e,(gP w a es ep)[i]? =some e/\v=e.2) (λi h=>bC w h I a t i es.size ep/\dI w h a es ep t) where
 sub:=λb hb=>by simp at hb;simp [hb]
 frame:=λ_ _ _ st hk=>⟨st.1.at λo e=>hk I (by simp) o e,st.2.keep λo e=>hk a (by simp) o e⟩
 item:=λi s Q E hi st hQ=>by obtain ⟨e,he⟩:∃e,(gP w a es ep)[i]? =some e:=⟨_,abl (by rw [mR];exact hi)⟩;refine mL st.2 st.1 hi he λh' Bb QM=> ?_;exact hQ _ h' s.toks ⟨e,he,rfl⟩ ⟨Bb,st.2.keep λo e=>QM.extBut a o gE e⟩ λb o hb e=>QM.extBut b o (λh=>hb (by simp [h])) e
 done:=λs Q E st hQ=>iN hh st.2 st.1 (mR ..) λh' JB=>hQ h' s.toks λb o hb e=>JB b o (λh=>hb (by simp [h])) e
 self:=λi s Q E st hQ=>by refine wpAny_pyIter_slot st.1.typeIs F.cV (wpAny_call_entry F.cV st.1.typeIs F.gx ?_ (F.fN _));show wpAny _ _ (ret (.ref I)) _ _ s;exact aae ⟨_,rfl,"set_iterator",_,st.1.typeIs,F.aq.lookup,hQ⟩
theorem Ft{Q:Bool->Shared->Prop}(x:dI w s.heap a es ep t)(h:Q false s):wpAny (model prog w) A (Builtin.List.listLengthHint (.ref a)) Q E s:=by
 unfold Builtin.List.listLengthHint;refine aab (wpAny_specialOf x.typeIs F.slot_set_len.lookup ?_);generalize Vw:("set.__len__":String)=YN
 wp_delta
 rw [show splitId YN=some ("set","__len__") from by subst Vw;decide+kernel];subst Vw;refine aab (wpAny_isInstance x.typeIs sub_set_self ?_);refine wpAny_ite_split (λGL=>aaI GL (by decide)) (λ_=> ?_);refine wpAny_ite_split (λ_=> ?_) (λGL=>aaI (by decide+kernel) GL);refine aab (wpAny_typeOf x.typeIs ?_);exact aae h
theorem yH(hh:A.handled=none)(x:dI w s.heap a es ep t)(hlen:es.size<=sizeLine)(S:Addr)(res:Value)(c₀:Nat)(hS:s.heap.get? S=some {cls:= .type "list",data:= .seq #[] c₀})
  (hR:∀h' tk um c',(∀b o,b≠S->s.heap.get? b=some o->h'.get? b=some o)->h'.get? S=some {cls:= .type "list",dict:=none,data:= .seq um c',slots:= #[]}->s.toks<=tk->
   ItemsOf (λi v=>∃e,(gP w a es ep)[i]? =some e/\v=e.2) um es.size->R (.ok (.ret res)) {s with heap:=h',toks:=tk}):
  wpAny (model prog w) A.in1 (Builtin.List.listExtendWith (.ref S) (.ref a) res)
   (λfin s'=>match fin with | .done f=>R (.ok f) s' | .again c'=>c'.quiet=true/\codeAny (model prog w) A c' R s') (λe s'=>R (.error e) s') s:=by
 have Sh:S≠a:=λe=>by obtain ⟨⟨o,ho,hex,_⟩,_⟩:=x;rw [<-e,hS] at ho;cases ho;exact absurd hex.1 (by simp)
 have KI:S < s.heap.objs.size:=aat hS;have ZU:a≠s.heap.objs.size:=by obtain ⟨⟨o,ho,_⟩,_⟩:=x;exact aaM (aat ho)
 have Vt:S≠s.heap.objs.size:=aaM KI;have NC:S∉[s.heap.objs.size,a]:=λq=>by
  rcases aaB.mp q with q | q
  ·exact Vt q
  ·exact Sh (abf.mp q)
 have W:=(Walks.Km (prog:=prog) (w:=w) (A:=A.in1) hh s.heap.objs.size a ZU es ep t).toS
 have key:∀(h:Heap) (c₁ tk:Nat),s.toks<=tk->bC w h s.heap.objs.size a t 0 es.size ep->dI w h a es ep t->(∀b o,b≠S->s.heap.get? b=some o->h.get? b=some o)->
   h.get? S=some {cls:= .type "list",data:= .seq #[] c₁}->codeAny (model prog w) A (.builtin "list.extend.loop" ⟨[.ref S, .ref s.heap.objs.size,res],[]⟩) R {s with heap:=h,toks:=tk}:=by
  intro h c₁ tk Rg hit LX hk qc;refine codeAny_extend_loopS W hlen S NC res es.size 0 _ #[] c₁ rfl (abA _) ⟨hit,LX⟩ qc (ItemsOf.nil _) λs' um c' hm Ka qM=> ?_;rw [Moved.eq_with hm];refine hR s'.heap s'.toks um c' (λb o hb e=>hm.heap b o (λLp=> ?_) (hk b o hb e)) Ka (aax Rg hm.toks) qM;rcases aaB.mp Lp with e' | Lp
  ·exact hb e'
  ·exact aaI (aat e) (by rw [abf.mp Lp];exact abo _)
 have hT:=x.typeIs;unfold Builtin.List.listExtendWith;refine aab (wpAny_typeOf hT ?_);have h1:Builtin.List.listSameRef (.ref S) (.ref a)=false:=by simp [Builtin.List.listSameRef,Sh]
 have h2:(Value.type "set"==Value.type "list")=false:=by decide
 have h3:(Value.type "set"==Value.type "tuple")=false:=by decide
 simp only [h1,h2,h3,Bool.or_false,Bool.false_eq_true,if_false];refine aab (mv x ?_);have x1:=x.keep (h':=s.heap.push {cls:= .type "set_iterator",data:= .fields #[.int 0 0, .int 0 0, .ref a, .int es.size 0, .int ep 0]}) λo e=>aah _ e;refine aab (wpAny_holding (Ft x1 ?_));have CP:bC w (s.heap.push {cls:= .type "set_iterator",data:= .fields #[.int 0 0, .int 0 0, .ref a, .int es.size 0, .int ep 0]}) s.heap.objs.size a t 0 es.size ep:=⟨_,aaw _ rfl,rfl,rfl⟩;have qc:=aah {cls:= .type "set_iterator",data:= .fields #[.int 0 0, .int 0 0, .ref a, .int es.size 0, .int ep 0]} hS;refine wpAny_ite_split (λ_=> ?_) (λ_=>aae ⟨plainId_quiet F.plain_extend_loop _,key _ c₀ _ (aal _) CP x1 (λb o _ e=>aah _ e) qc⟩);refine aab (wpAny_rule ?_);refine aab ?_;show wpAny _ _ (updateSeq S (·.push .none) >>= λ_=>updateSeq S (·.pop)) _ _ _;refine aab (wpAny_updateSeq qc rfl ?_);have Jr:=Heap.get?_update_self (Obj.mapSeq (·.push Value.none)) qc rfl;refine wpAny_updateSeq (hz:=by seq_fits) Jr rfl ?_;have P6:=Heap.get?_update_self (Obj.mapSeq (·.pop)) Jr rfl;have Eu:∀b o,b≠S->(s.heap.push {cls:= .type "set_iterator",data:= .fields #[.int 0 0, .int 0 0, .ref a, .int es.size 0, .int ep 0]}).get? b=some o->(((s.heap.push {cls:= .type "set_iterator",data:= .fields #[.int 0 0, .int 0 0, .ref a, .int es.size 0, .int ep 0]}).update S (Obj.mapSeq (·.push Value.none))).update S (Obj.mapSeq (·.pop))).get? b=some o:=λb o hb e=>(Heap.get?_update_other _ _ (Ne.symm hb)).trans ((Heap.get?_update_other _ _ (Ne.symm hb)).trans e);exact aae ⟨plainId_quiet F.plain_extend_loop _,key _ _ _ (aal _) (CP.at λo e=>Eu _ o (Ne.symm Vt) e) (x1.keep λo e=>Eu _ o (Ne.symm Sh) e) (λb o hb e=>Eu b o hb (aah _ e)) P6⟩
theorem xF{Q:List Value->Shared->Prop}(hh:A.handled=none)(x:dI w s.heap a es ep t)(hlen:es.size<=sizeLine)
  (hQ:∀h' tk af,(∀b o,s.heap.get? b=some o->h'.get? b=some o)->s.heap.objs.size < h'.objs.size->s.toks<=tk->ItemsOf (λi v=>∃e,(gP w a es ep)[i]? =some e/\v=e.2) af es.size->Q af.toList {s with heap:=h',toks:=tk}):wpAny (model prog w) A (collect (.ref a)) Q E s:=by
 unfold collect;refine aab (wpAny_runValue (codeAny_builtin F.entry_proto_collect ?_));rw [Around.under_plainId F.plain_proto_collect _];show wpAny _ A.in1 (newList [] >>= λl=>again (.builtin "list.__iadd__" ⟨[l, .ref a],[]⟩)) _ _ s;refine aab (wpAny_newObj_type ?_);refine aae ⟨plainId_quiet F.plain_list_iadd _,codeAny_builtin F.entry_list_iadd ?_⟩;rw [Around.under_plainId F.plain_list_iadd _];have qc:(s.heap.push {cls:= .type "list",data:= .seq ([]:List Value).toArray}).get? s.heap.objs.size=some {cls:= .type "list",data:= .seq ([]:List Value).toArray}:=aaw _ rfl;show wpAny _ A.in1 (Builtin.List.listExtendWith (.ref s.heap.objs.size) (.ref a) (.ref s.heap.objs.size)) _ _ _;refine yH (R:=λr s'=>match r with | .ok (.ret v)=>wpAny (model prog w) A (match v with | .ref a=>(do match (<-load a).data with | .seq xs _=>pure xs.toList | _=>unsupported "internal:collect") | _=>unsupported "internal:collect") Q E s' | .ok _=>False | .error e=>E e s') (s:={s with heap:=s.heap.push {cls:= .type "list",data:= .seq ([]:List Value).toArray}}) hh (x.keep λo e=>aah _ e) hlen s.heap.objs.size (.ref s.heap.objs.size) 0 qc λh' tk um c' kp Ka Rg qM=> ?_;dsimp only;refine aab (wpAny_load Ka ?_);exact aae (hQ h' tk um (λb o e=>kp b o (aaM (aat e)) (aah _ e)) (aat Ka) Rg qM)
end
open PyProof.Rows
section
theorem yF(hh:A.handled=none)(x:dI w s.heap a es ep t)(hv:∀e∈es.toList,∃tk,e.2= .int e.1 tk)(hp:List.Perm (es.toList.map (·.1)) l)(yr:l.length < 64)
  (hQ:∀h' tk p vs ns' c,(∀b o,s.heap.get? b=some o->h'.get? b=some o)->s.heap.objs.size<=p->h'.get? p=some {cls:= .type "list",dict:=none,data:= .seq vs c,slots:= #[]}->IntsAre vs.toList ns'->ns'.Perm l->ns'.Pairwise (· <= ·)->Q (.ref p) {s with heap:=h',toks:=tk}):
  wpAny (model prog w) A (call (.builtin "sorted") [.ref a]) Q E s:=by
 have hz:es.size=l.length:=by rw [<-hp.length_eq];simp
 refine Calls.call_function_entry kind_sorted plain_sorted entry_sorted (args_sorted1 _) ?_;unfold Builtin.«sorted»;refine aab (m:=checkCount "sorted" 1 1 _) (aae ?_);refine aab (xF hh x (by rw [hz];exact aax (abS yr) (by decide)) λh1 Wo af Zs X1 Rg qM=> ?_);obtain ⟨as,ai⟩:=qM;have av:af.toList=(gP w a es ep).toList.map (·.2):=by
  apply abz;intro i;rw [aaj];rcases aa8 i es.size with q | q
  ·have q1:i < af.size:=by omega
   obtain ⟨e,h1,h2⟩:=ai i af[i] (abl q1);rw [abc,abl q1,abc,h1,h2];rfl
  ·rw [abc,abG (by omega),abc,abG (by rw [mR];exact q)];rfl
 have pm:=tJ w a es ep;have hI:IntsAre af.toList ((gP w a es ep).toList.map (·.1)):=by
  rw [av];have AV:∀e∈(gP w a es ep).toList,∃tk,e.2= .int e.1 tk:=λe he=>hv e (pm.mem_iff.mp he);generalize (gP w a es ep).toList=ls at AV
  induction ls with
  | nil=>exact .nil
  | cons e ls ih=>
   obtain ⟨tk,h⟩:=AV e aak;rw [aav,aav,h];exact .cons _ _ (ih λe he=>AV e (aag _ he))
 have KY:List.Perm ((gP w a es ep).toList.map (·.1)) l:=(pm.map _).trans hp;have TZ:af.toList.length < 64:=by rw [aa7,as,hz];exact yr
 refine aab (wpAny_newList ?_);have OH:(h1.push (seqObj "list" af.toList.toArray 0)).get? h1.objs.size=some (seqObj "list" af.toList.toArray 0):=aaw _ rfl;refine aab (wpAny_holding (wpAny_call_entry slot_list_sort ⟨_,OH,rfl⟩ entry_list_sort (list_sort_tree OH hI TZ λout ns' a1 a2 a3=>⟨_,rfl, ?_⟩) (args_list_sort _)));obtain ⟨c,hc⟩:=sortedHeap_at (h:=h1.push (seqObj "list" af.toList.toArray 0)) (out:=out) OH;refine aae ⟨_,rfl,hQ _ Wo h1.objs.size out ns' c (λb o e=> ?_) ?_ hc a1 (a2.trans KY) a3⟩
 ·have e1:=Zs b o e;have lt:=aat e1;rw [sortedHeap_old (aaM lt) (by rw [size_push'];exact Nat.lt_succ_of_lt lt),Heap.get?_push_ne _ _ _ (aaM lt)];exact e1
 ·exact abS X1
end
end PySem
namespace L2
open PySem PySem.Spec PyProof.Rows
def IS(a:Addr)(led:Bool)(l:List Int):HO:= .ext λh=>h.cB a led l
theorem LC{P:Program}{w:World}{H:Hp}{h:Heap}{a:Addr}{led:Bool}{l:List Int}(x:h.cB a led l):bh P w H h a (IS a led l):=by refine ⟨x, ?_,λh1 h2 y k=>y.keep k⟩;obtain ⟨o,_,_,_,ho,_⟩:=x;exact ⟨o,ho⟩
section
variable{X:Cx}
theorem xA(hc:X.calm=true):cH X (.type "set") (λxs H Q=>∃(p:Addr) (ns:List Int),xs=[V.ref p]/\fm X.K H p (ns.map V.int)/\(∀k∈ns,0<=k/\k < 4096)/\ns.length < 900/\∀a,H a=none->Q (.ref a) (upd H a (IS a (!aS X.w) (dd ns)))):=by
 intro δ s σ H xs us Q I r ⟨p,ns,ex,hq,hb,hn,q⟩;subst ex;obtain ⟨u,rfl,rx⟩:=gF r;cases rx;obtain ⟨its,rv,pl,hz⟩:=I.list hq;obtain ⟨ts,rfl,rfl⟩:=jn rv;refine qj (I.ok.hd hc) pl.isList (by simp) (λi v hv=> ?_) hb hn λh' tk kp is ht=> ?_
 ·rw [List.getElem?_toArray,aaj] at hv;obtain ⟨x,ex,rfl⟩:=aaQ.mp hv;exact ⟨x.1,x.2,by rw [aaj,ex];rfl,rfl⟩
 ·exact ⟨.ref s.heap.objs.size,_,I.laid (t':=tk) kp (aal _) (LC is),rfl,q _ (I.aB.fresh (aal _))⟩
theorem mi:∀{vs:List Value} {ns:List Int},IntsAre vs ns->ao (ns.map V.int) vs
 | _,_, .nil=> .nil
 | _,_, .cons n t h=> .cons ⟨t,rfl⟩ (mi h)
theorem qW(hc:X.calm=true):cH X (.builtin "sorted") (λxs H Q=>∃(a:Addr) (l:List Int),xs=[V.ref a]/\H a=some (IS a (!aS X.w) l)/\l.length < 64/\jE (xN true l)=true/\∀ns':List Int,ns'.Perm l->ns'.Pairwise (· <= ·)->∀p,H p=none->Q (.ref p) (upd H p (.lst (ns'.map V.int)))):=by
 intro δ s σ H xs us Q I r ⟨a,l,ex,ha,yr,hg,q⟩;subst ex;obtain ⟨u,rfl,rx⟩:=gF r;cases rx;obtain ⟨is,_⟩:=I.aB a _ ha;obtain ⟨o,es,ep,t,ho,hex,hd,hv,hp,hr,hf,hb⟩:=is;have QY:aS X.w=false->jE (cz es,t)=true:=λhb=>by rw [hr,hb];exact hg
 have x:dI X.w s.heap a es ep t:=⟨⟨o,ho,hex,hd⟩,hf,λhb=>by
  have:=QY hb;unfold jE at this;rw [aaz,aaz,aaz,aaz] at this
  exact this.1.1.2.2,QY⟩
 refine yF (I.ok.hd hc) x hv hp yr λh' tk p vs ns' c kp hle el a1 a2 a3=> ?_;have hl:ns'.length=l.length:=a2.length_eq;exact ⟨.ref p,_,I.laid (t':=tk) kp hle (show bh X.prog X.w _ h' _ (.lst _) from ⟨by rw [List.length_map,hl];exact Nat.le_trans (Nat.le_of_lt yr) (by decide),vs.toList,c,mi a1,by simpa using el⟩),rfl,q ns' a2 a3 _ (I.aB.fresh hle)⟩
end
def Kx:List Dt->Ms->DQ->Prop:=λds M q=>∃(d:Dt) (ns:List Int),ds=[d]/\fU M d=some (ns.map Dt.int)/\(∀k∈ns,0<=k/\k < 4096)/\ns.length < 64/\jE (xN true (dd ns))=true/\∀ns':List Int,ns'.Perm (dd ns)->ns'.Pairwise (· <= ·)->q (.loc M.length) (M++[.lst (ns'.map Dt.int)])
section
variable{X:Cx}{R:St->XK}{a:Expr}{t:DA}{p p2 pos GB:Pos}
theorem Cp:bootBuiltins "set"=some (.type "set"):=by decide+kernel
theorem lP:bootBuiltins "sorted"=some (.builtin "sorted"):=by decide+kernel
theorem Ir(hm:X.mg "sorted"=none)(GZ:X.mg "set"=none)(ha:JA X R [a] t)(hg:Gl X "sorted":=by rfl)(Tb:Gl X "set":=by rfl)(he:starEach [a] X.env=(false,eval a X.env)::starEach [] X.env:=by rfl)(fQ:(backTo GB (starEach [] X.env)).any (·.1)=false:=by rfl)(Lc:(backTo pos (starEach [] X.env)).any (·.1)=false:=by rfl)(hc:X.calm=true:=by rfl):JE X R (.Call (.Name "sorted" p) [.Call (.Name "set" p2) [a] [] GB] [] pos) (ya Kx t):=
 .of (rh (qW hc) hg hm lP (vV (jh (xA hc) Tb GZ Cp ha (by decide) (by decide) he fQ) zf bc) (by decide) (by decide) bc Lc) λσ H G L ρ M q x rl n h hx=>by refine ⟨G,L,ρ,M,_,x,rl,n,h,hx,λvs H1 ⟨ds,G1,L1,M1,e1,r1,n1,d,ns,ed,hl,hb,yr,QY,h1⟩=> ?_⟩;subst ed;obtain ⟨v,rfl,nv⟩:=aM n1;obtain ⟨p,vs,rfl,sq,m⟩:=cy r1 nv hl;rw [gY m] at sq;refine ⟨p,ns,rfl,sq,hb,by omega,λa ha=> ?_⟩;exact ⟨a,dd ns,rfl,Τ,aaN (pK ns).2.1 yr,QY,λns' pm pw p hp=>gL (e1.trans (r1.LD ha)) (r1.Fj ha) hp cQ (h1 ns' pm pw)⟩
end
end L2
namespace PySem
section
variable{prog:Program}{w:World}{A:Around}{E:Value->Shared->Prop}{s:Shared}
theorem iZ{d:Addr}{o:Obj}(ho:s.heap.get? d=some o)(hc:o.ExactDict):s.TypeIs (.ref d) "dict":=⟨o,ho,hc.1⟩
theorem ue{d:Addr}{o:Obj}{es:Array DictEntry}{ep:Nat}{Q:Value->Shared->Prop}(hd:(d==sysModules)=false)(ho:s.heap.get? d=some o)(hc:o.ExactDict)(vQ:o.data= .dict es ep)
  (hQ:Q (.ref s.heap.objs.size) {s with heap:=s.heap.push {cls:= .type "dict_keyiterator",data:= .fields #[.ref d, .int 0 0, .int es.size 0, .int ep 0]}}):
  wpAny (model prog w) A (pyIter (.ref d)) Q E s:=by
 have hT:s.TypeIs (.ref d) "dict":=iZ ho hc;refine wpAny_pyIter_slot hT F.slot_dict_iter (wpAny_call_entry F.slot_dict_iter hT F.entry_dict_iter ?_ (F.args_dict_iter_1 _));unfold Builtin.«dict.__iter__»;refine aab ?_;unfold Builtin.Dict.dictSlotNone;refine aab (wpAny_notOrdered_dict hT ?_);show wpAny _ _ (pure (Value.ref d)) _ _ s;refine aae ?_;show wpAny _ _ (Builtin.Dict.showsAll d >>= _) _ _ s;unfold Builtin.Dict.showsAll;rw [aaA (by rw [hd];exact aau)];refine aab (aae ?_);refine aab (wpAny_dictEntries ho vQ ?_);refine aab (wpAny_dictEpoch ho vQ ?_);refine aab (wpAny_newObj_type (aae ⟨_,rfl,"dict_keyiterator",_,⟨_,aaw _ rfl,rfl⟩,F.slot_dict_keyiterator_next.lookup, ?_⟩));simpa [rawInt] using hQ
theorem ud{it d:Addr}{i ep:Nat}{od:Obj}{es:Array DictEntry}{e:DictEntry}{Q:Option Value->Shared->Prop}(hit:s.heap.IsKeyIter it d i es.size ep)(Oc:s.heap.get? d=some od)(Ly:od.data= .dict es ep)(hx:es[i]? =some e)
  (hQ:∀h',h'.IsKeyIter it d (i+1) es.size ep->Heap.SameBut it s.heap h'->Q (some e.key) {s with heap:=h'}):wpAny (model prog w) A (pyNext (.ref it)) Q E s:=by
 obtain ⟨o,ho,hc,hd⟩:=id hit;unfold pyNext
 refine aab (wpAny_attempt (wpAny_callSpecial?_slot (name:=Str.ofString "__next__") hit.typeIs F.slot_dict_keyiterator_next
  (wpAny_call_entry F.slot_dict_keyiterator_next hit.typeIs F.entry_dict_keyiterator_next ?_ (F.args_dict_keyiterator_next_1 _))))
 refine aab (aae ?_);refine aab ?_;refine aab ?_
 first | refine aab (wpAny_typeNameOfWhole_keyiter hit.typeIs (aae ?_)) | refine aab (wpAny_typeNameOf_keyiter hit.typeIs (aae ?_))
 refine aab (wpAny_fieldsOf ho hd ?_);have Lw:Builtin.Dict_items.ownsTuple "dict_keyiterator"=false:=by decide
 simp only [Lw,Bool.false_eq_true,if_false];show wpAny _ _ (if (Value.ref d==Value.none)=true then _ else _) _ _ s;rw [aaA (show¬((Value.ref d==Value.none)=true) from aau)];refine aab (aae ?_);refine aab (wpAny_dictEntries Oc Ly ?_);rw [if_neg (by simp)];refine aab (aae ?_);refine aab (wpAny_dictEpoch Oc Ly ?_);rw [if_neg (by simp)];refine aae ?_;simp only [show¬((i:Int) < 0) from by omega,if_false,Int.toNat_natCast,hx];refine aab ?_
 first | refine aab (wpAny_typeNameOfWhole_keyiter hit.typeIs (aae ?_)) | refine aab (wpAny_typeNameOf_keyiter hit.typeIs (aae ?_))
 refine aab (wpAny_isOneOf_keyiter hit.typeIs ?_);show wpAny _ _ (setField (.ref it) 1 (rawInt ((i:Int)+1)) >>= _) _ _ s;refine wpAny_bind (wpAny_setField ho hd (by simp) ?_)
 have Bb:(s.heap.update it (Obj.mapFields (·.setIfInBounds 1 (rawInt ((i:Int)+1))))).IsKeyIter it d (i+1) es.size ep:=
  ⟨_,Heap.get?_update_self _ ho (Obj.isFreed_of_fields (Obj.data_mapFields hd _)),(Obj.cls_mapFields ..).trans hc,by rw [Obj.data_mapFields hd];simp [rawInt]⟩
 refine aab (wpAny_holding ?_);refine aab (wpAny_isOneOf_keyiter (s:={s with heap:=s.heap.update it (Obj.mapFields (·.setIfInBounds 1 (rawInt ((i:Int)+1))))}) Bb.typeIs ?_);show wpAny _ _ (pure e.key) _ _ _;exact aae (aae ⟨_,rfl,aae (hQ _ Bb (Heap.SameBut.update ..))⟩)
theorem mh{it d:Addr}{i ep:Nat}{od:Obj}{es:Array DictEntry}{Q:Option Value->Shared->Prop}(hh:A.handled=none)(hit:s.heap.IsKeyIter it d i es.size ep)(Oc:s.heap.get? d=some od)(Ly:od.data= .dict es ep)(V2:es.size<=i)
  (hQ:∀h',Heap.ExtBut it s.heap h'->Q none {s with heap:=h'}):wpAny (model prog w) A (pyNext (.ref it)) Q E s:=by
 obtain ⟨o,ho,hc,hd⟩:=id hit;unfold pyNext
 refine aab (wpAny_attempt (wpAny_callSpecial?_slot (name:=Str.ofString "__next__") hit.typeIs F.slot_dict_keyiterator_next
  (wpAny_call_entry F.slot_dict_keyiterator_next hit.typeIs F.entry_dict_keyiterator_next ?_ (F.args_dict_keyiterator_next_1 _))))
 refine aab (aae ?_);refine aab ?_;refine aab ?_
 first | refine aab (wpAny_typeNameOfWhole_keyiter hit.typeIs (aae ?_)) | refine aab (wpAny_typeNameOf_keyiter hit.typeIs (aae ?_))
 refine aab (wpAny_fieldsOf ho hd ?_);have Lw:Builtin.Dict_items.ownsTuple "dict_keyiterator"=false:=by decide
 simp only [Lw,Bool.false_eq_true,if_false];show wpAny _ _ (if (Value.ref d==Value.none)=true then _ else _) _ _ s;rw [aaA (show¬((Value.ref d==Value.none)=true) from aau)];refine aab (aae ?_);refine aab (wpAny_dictEntries Oc Ly ?_);rw [if_neg (by simp)];refine aab (aae ?_);refine aab (wpAny_dictEpoch Oc Ly ?_);rw [if_neg (by simp)];refine aae ?_;simp only [show¬((i:Int) < 0) from by omega,if_false,Int.toNat_natCast,Array.getElem?_eq_none V2];refine aab ?_
 first | refine aab (wpAny_typeNameOfWhole_keyiter hit.typeIs (aae ?_)) | refine aab (wpAny_typeNameOf_keyiter hit.typeIs (aae ?_))
 show wpAny _ _ (setField (.ref it) 0 .none >>= _) _ _ s;refine wpAny_bind (wpAny_setField ho hd (by simp) ?_);show wpAny _ _ (newExc (.type "StopIteration") [] >>= _) _ _ _;refine aab ?_;simp only [newExc,newTuple];refine aab (wpAny_newObj_type ?_ (by size_fits));refine wpAny_bind (m:=firstArgMember _ _) (wpAny_of_eq (a:=Value.none) (by first | rfl | (simp only [firstArgMember];rfl)) ?_);refine wpAny_newObj_type ?_ (by size_fits);simp only [raiseNew];refine aab (wpAny_handled ?_);rw [show A.in1.handled=none from hh];refine aab (aae (wpAny_throw ?_));refine aab (wpAny_isInstance (T:="StopIteration") (b:=true) ⟨_,aaw _ rfl,rfl⟩ isSubtype_stop ?_);exact aae (hQ _ (((Heap.SameBut.update ..).extBut.push _).push _))
end
end PySem
namespace L2
open PySem PySem.Spec PyProof.Rows
variable{P:Program}{w:World}{a:Addr}{ω:NL}{ep:Nat}{X:Cx}{δ:List (Addr×Obj)}{σ:St}{s:Shared}{tg:Expr}{E:Value->Shared->Prop}{pos:Pos}{R:St->XK}
def yI(P:Program)(w:World)(a:Addr)(ω:NL)(ep:Nat)(h:Heap):Prop:=ω.length<=sizeLine/\(a==sysModules)=false/\∃xs,NT ω xs/\
 ∃o es,h.get? a=some o/\o.ExactDict/\o.data= .dict es ep/\es.toList=xs.map (entryOfKey (cY (ax P w)))/\(xs.map (·.1)).Nodup
def u_(P:Program)(w:World)(a:Addr)(ω jo:NL)(ep:Nat):HO:= .ext λh=>yI P w a ω ep h/\ω=jo
section
variable{P':Program}{w':World}{H:Hp}{h:Heap}{jo:NL}
theorem yI.nd(x:yI P w a ω ep h):ER P w a ω h:=by obtain ⟨z,hd,xs,r,o,es,c⟩:=x;exact ⟨z,hd,xs,r,o,es,ep,c⟩
theorem Gi(ok:iL P w H h)(e:H a=some (u_ P' w' a ω jo ep)):yI P' w' a ω ep h/\ω=jo:=(ok a _ e).1
theorem K9(x:yI P' w' a ω ep h):bh P w H h a (u_ P' w' a ω ω ep):=by
 refine ⟨⟨x,rfl⟩, ?_,λh1 h2 y k=> ?_⟩
 ·obtain ⟨_,_,xs,_,o,es,e,_⟩:=x;exact ⟨o,e⟩
 ·obtain ⟨⟨z,hd,xs,r,o,es,e,c⟩,q⟩:=y;exact ⟨⟨z,hd,xs,r,o,es,k _ e,c⟩,q⟩
end
section
variable{H:Hp}{jo:NL}
theorem Inv.Hc(I:Inv X δ σ H s)(mu:Lf (H a))(x:yI X.prog X.w a ω ep s.heap):Inv X δ σ (upd H a (u_ X.prog X.w a ω ω ep)) s:=by
 have he:∃u,s.heap.get? a=some u:=let ⟨_,_,_,_,o,_,e,_⟩:=x;⟨o,e⟩
 exact I.write (x:=a) (e:=a) (h':=s.heap) (t':=s.toks) mu (.inl rfl) (λb u _ q=>q) he (K9 x)
theorem Inv.wG(I:Inv X δ σ H s)(e:H a=some (u_ X.prog X.w a ω jo ep)):Inv X δ σ (upd H a (kR X.prog X.w a ω)) s:=by
 have x:=(Gi I.aB e).1;have he:∃u,s.heap.get? a=some u:=let ⟨_,_,_,_,o,_,e,_⟩:=x;⟨o,e⟩
 exact I.write (x:=a) (e:=a) (h':=s.heap) (t':=s.toks) (by rw [e];exact True.intro) (.inl rfl) (λb u _ q=>q) he (zA x.nd)
end
def Q9(P:Program)(w:World)(a:Addr)(ω:NL)(ep:Nat):It:=
 ⟨λi H=>(∃k1,H a=some (u_ P w a k1 ω ep))/\i < ω.length,λi H x H'=>H'=H/\∃kv,ω[i]? =some kv/\x= .ref kv.2.1,λi H=>(∃k1,H a=some (u_ P w a k1 ω ep))/\ω.length<=i⟩
theorem LN{xs:List (NK×Addr×Value)}{es:Array DictEntry}(r:NT ω xs)(he:es.toList=xs.map (entryOfKey (cY (ax P w)))){i:Nat}{kv:NK×Addr×V}(h:ω[i]? =some kv):∃e,es[i]? =some e/\e.key= .ref kv.2.1:=by obtain ⟨q,hq,r1,r2,r3⟩:=yh r h;refine ⟨entryOfKey (cY (ax P w)) q,by rw [<-abc,he,aaj,hq];rfl, ?_⟩;show Value.ref q.2.1=_;rw [r2]
theorem Ih{K:fv}(a it:Addr)(ω:NL)(ep:Nat):si P w K tg (Q9 P w a ω ep) [it] it (λi h=>h.IsKeyIter it a i ω.length ep) where
 mem:=by simp
 obj:=λi h st b hb=>by
  have e:b=it:=by simpa using hb
  subst e;obtain ⟨o,e,c,d⟩:=st;exact ⟨o,e,λv z=>by rw [d] at z;cases z⟩
 keep:=λi h h' st k=>by obtain ⟨o,e,r⟩:=st;exact ⟨o,k it (by simp) o e,r⟩
 item:=by
  intro X hP hw hK hc i δ s σ H E I hf st hg;subst hP hw hK;obtain ⟨⟨k1,hq⟩,hi⟩:=hg;obtain ⟨⟨z,hd,xs,rel,od,es,ho,hex,vQ,he,hn⟩,ek⟩:=Gi I.aB hq;rw [ek] at rel;obtain ⟨f0,f1,f2,f3,f4,f5⟩:=hf it (by simp);have hx:ω[i]? =some ω[i]:=aaa hi;obtain ⟨en,WO,hk⟩:=LN rel he hx;have hz:es.size=ω.length:=by rw [Paired.length rel,<-aa7,he,aac]
  have og:s.heap.IsKeyIter it a i es.size ep:=by rw [hz];exact st
  refine ud og ho vQ WO λh' oJ sb=> ?_;have oJ:h'.IsKeyIter it a (i+1) ω.length ep:=by rw [<-hz];exact oJ
  have I1:Inv X δ σ H {s with heap:=h'}:=I.turned (t':=s.toks) (λb o hb e=>(sb.2 b hb).trans e) f0 f1 f3 f4 f5;obtain ⟨o,e,c,d⟩:=id oJ;exact ⟨en.key,rfl,pG (s:={s with heap:=h'}) e c d (by decide) ⟨.ref ω[i].2.1,H,I1,hk,⟨rfl,ω[i],hx,rfl⟩,oJ,λb hb=>(hf b hb).1⟩⟩
 done:=by
  intro X hP hw hK hc i δ s σ H E I hf st hg;subst hP hw hK;obtain ⟨⟨k1,hq⟩,hi⟩:=hg;obtain ⟨⟨z,hd,xs,rel,od,es,ho,hex,vQ,he,hn⟩,ek⟩:=Gi I.aB hq;rw [ek] at rel;obtain ⟨f0,f1,f2,f3,f4,f5⟩:=hf it (by simp);have hz:es.size=ω.length:=by rw [Paired.length rel,<-aa7,he,aac]
  have og:s.heap.IsKeyIter it a i es.size ep:=by rw [hz];exact st
  exact mh (I.ok.hd hc) og ho vQ (by rw [hz];exact hi) λh' eb=>⟨rfl,I.turned (t':=s.toks) (λb o hb e=>eb b o hb e) f0 f1 f3 f4 f5⟩
 self:=λ_ _ _ _ _ st h=>wpAny_pyIter_keyiter st h
section
variable{H:Hp}{Q:It->Hp->Prop}
theorem OR(I:Inv X δ σ H s)(e:H a=some (kR X.prog X.w a ω))(q:∀ep,Q (Q9 X.prog X.w a ω ep) (upd H a (u_ X.prog X.w a ω ω ep))):wpAny (model X.prog X.w) X.A (pyIter (.ref a)) (Dy X δ σ tg Q) E s:=by
 obtain ⟨z,hd,xs,rel,o,es,ep,ho,hex,vQ,he,hn⟩:=(show ER X.prog X.w a ω s.heap from (I.aB a _ e).1);have hz:es.size=ω.length:=by rw [Paired.length rel,<-aa7,he,aac]
 refine ue hd ho hex vQ ?_;have I1:=I.Hc (by rw [e];exact True.intro) (show yI X.prog X.w a ω ep s.heap from ⟨z,hd,xs,rel,o,es,ho,hex,vQ,he,hn⟩);refine ⟨s.heap.objs.size,[s.heap.objs.size],_,_,_,rfl,I1.kept (t':=s.toks) λb o e=>aah _ e,Ih a _ ω ep,⟨_,aaw _ rfl,rfl,by rw [hz];rfl⟩,λb hb=> ?_,q ep⟩;have e:b=s.heap.objs.size:=by simpa using hb
 subst e;exact I1.yP (aal _) (I1.aB.fresh (aal _))
end
def M7(P:Program)(w:World)(t:TE):TI:=λσ H R=>t σ H λv H1=>∃a ω,v= .ref a/\H1 a=some (kR P w a ω)/\∀ep,R (Q9 P w a ω ep) (upd H1 a (u_ P w a ω ω ep))
theorem QB{e:Expr}{t:TE}(h:PE X e t):PI X tg e (M7 X.prog X.w t):=by intro δ s σ H R I ht;refine bx (h δ s σ H _ I ht) λu s1 ⟨v,H1,I1,rv,a,ω,ev,ha,q⟩=> ?_;subst ev;obtain rfl:u=Value.ref a:=rv;exact OR I1 ha q
def W'(P:Program)(w:World)(D:vW):St->Hp->Prop:=λσ H=>∃a ω jo ep,H a=some (u_ P w a ω jo ep)/\D.nx σ (upd H a (kR P w a ω))
theorem zh{st:Stmt}{t:TS}(h:PS X st t):PS X st (λD σ H=>t {D with nx:=W' X.prog X.w D} σ H):=by
 intro δ s σ H D I h';refine bx (h δ s σ H _ I h') λf s' sp=> ?_;cases f with
 | next=>
  obtain ⟨σ',H',I',a,ω,jo,ep,e,q⟩:=sp;exact ⟨σ',_,I'.wG e,q⟩
 | brk=>exact sp
 | cont=>exact sp
 | ret u=>exact sp
def Kr(P:Program)(w:World)(td ty:TE):TE:=λσ H Q=>td σ H λx H1=>ty σ H1 λy H2=>∃a b ω jo ep k v,x= .ref a/\y= .ref b/\H2 a=some (u_ P w a ω jo ep)/\d9 H2 ω/\jx H2 k b/\fi ω k=some v/\Q v H2
section
variable{o i:Expr}{td ty:TE}
theorem DZ(hu:X.A.units+2 < cLine)(ho:PE X o td)(hi:PE X i ty)(hs:xV i):PE X (.Subscript o i pos) (Kr X.prog X.w td ty):=by
 intro δ s σ H Q I h;refine tV abP.lookup hs (bx (ho δ s σ H _ I h) λu s1 ⟨x,H1,I1,rx,q1⟩=>bx (hi δ s1 σ H1 _ I1 q1) λiv s2 ⟨y,H2,I2,ry,a,b,ω,jo,ep,k,v,ex,ey,e,nk,eb,l,q2⟩=> ?_);subst ex ey;obtain rfl:u=Value.ref a:=rx;obtain rfl:iv=Value.ref b:=ry;have I3:=I2.wG e;have ha:upd H2 a (kR X.prog X.w a ω) a=some (kR X.prog X.w a ω):=Τ;have ne:∀{c:Addr} {xs:List V},H2 c=some (.tup xs)->c≠a:=λhc z=>by rw [z,e] at hc;cases hc
 have mk:∀{k:NK} {b:Addr},jx H2 k b->jx (upd H2 a (kR X.prog X.w a ω)) k b:=λ⟨c,h1,h2⟩=>⟨c,by rw [Ζ (ne h1)];exact h1,by rw [Ζ (ne h2)];exact h2⟩;have X8:d9 (upd H2 a (kR X.prog X.w a ω)) ω:=λx hx=>mk (nk x hx);obtain ⟨z,hd,xs,rel,dd⟩:=nP I3.aB ha X8;obtain ⟨w',hw,uQ⟩:=fZ.some_of (v:=v) (o:=(atKey xs k).map (·.2)) (by rw [<-l];exact rel.val k);obtain ⟨p,hp,KY⟩:=aaQ.mp hw;refine ⟨dd.typeIs,wpAny_getItem_heap (nest_room hu) (o_ I3.aB (mk eb)) dd hp ?_⟩;rw [KY];exact ⟨v,H2,I2.tok _,uQ,q2⟩
end
def zi(P:Program)(w:World)(ks:List NK)(ds:List Dt)(jo:NL)(ep:Nat):MO:= .JD (λa vs=>u_ P w a (KA ks vs) jo ep) (ks.map tG++ds)
section
variable{K:fv}{G:Hp}{L:List Addr}{M:Ms}{H:Hp}
theorem Qj(r:Rl K G L M H){k:Nat}{ks:List NK}{ds:List Dt}{jo:NL}(hk:L[k]? =some a)(h:M[k]? =some (zi P w ks ds jo ep))(hl:ks.length=ds.length):∃(as:List Addr) (us:List V),as.length=ks.length/\us.length=ks.length/\Θ K G L (ks.map tG) (as.map V.ref)/\Θ K G L ds us/\d9 H (ks.zip (as.zip us))/\H a=some (u_ P w a (ks.zip (as.zip us)) jo ep):=by obtain ⟨_,vs,hH,dn⟩:=r.fg k a _ hk h;obtain ⟨as,us,rfl,BV,LZ,dk,dn,el⟩:=gf dn;exact ⟨as,us,BV,by rw [<-dn.length,hl],dk,dn,gC λi k b g1 g2=>(LZ i k b g1 g2).mono r.sub,hH.trans (aa2 (λz=>some (u_ P w a z jo ep)) el)⟩
end
def Fm(P:Program)(w:World)(i:Nat)(to te:DE)(Λ:List Nat):DS:=λDn ρ M=>to ρ M (λd M1=>∃k ks ds,d= .loc k/\M1[k]? =some (jO P w ks ds)/\ks.length=ds.length/\ks.length<=sizeLine/\∀jo ep,gr te (lX Λ ρ) (λM'=>M'[k]? =some (zi P w ks ds jo ep)) (ks.map tG) [] (M1.set k (zi P w ks ds jo ep)) λys M2=>M2[k]? =some (zi P w ks ds jo ep)/\Dn.nx (ρ.set i (some (.lst ys))) (M2.set k (jO P w ks ds))) Dn.x
def Gz(P:Program)(w:World)(to ti:DE):DE:=λρ M q x=>to ρ M (λd M1=>ti ρ M1 (λdk M2=>∃k ks ds jo ep key dv,d= .loc k/\M2[k]? =some (zi P w ks ds jo ep)/\ks.length=ds.length/\dk=tG key/\dJ ks ds key=some dv/\q dv M2) x) x
section
variable{elt iter o i:Expr}{x:Str}{px:Pos}{scope:Scope}{to te ti:DE}{ys:List Str}{Λ:List Nat}{k':Nat}
theorem Ib(hr:bt k' X.A)(ho:JE X R o to)(hi:JE X R i ti)(hs:xV i:=by intro _ _;rfl)(hP:X.prog=P:=by rfl)(hw:X.w=w:=by rfl):JE X R (.Subscript o i pos) (Gz P w to ti):=by
 subst hP hw;exact .of (DZ (wM hr (n:=2) (by decide)) ho hi hs) λσ H G L ρ M q x rl n h hx=>by
  refine ⟨G,L,ρ,M,_,x,rl,n,h,hx,λv H1 ⟨d1,G1,L1,M1,e1,r1,n1,h1⟩=> ?_⟩;refine ⟨G1,L1,ρ,M1,_,x,r1,n.mono e1,h1,hx.on e1,λv2 H2 ⟨d2,G2,L2,M2,e2,r2,n2,k,ks,ds,jo,ep,key,dv,ed,hm,hl,rH,hg,h2⟩=> ?_⟩;subst ed rH;obtain ⟨a,rfl,hk⟩:=n1;obtain ⟨as,us,la,lu,_,dn,nk,hH⟩:=Qj r2 (e2.l.get hk) hm hl;obtain ⟨b,rfl,nb⟩:=oQ n2;rcases qX key dn la lu with ⟨q1,q2⟩ | ⟨d,u,q1,q2,du⟩
  ·rw [hg] at q1;cases q1
  ·rw [hg] at q1;cases q1;exact ⟨a,b,_,jo,ep,key,u,rfl,rfl,hH,nk,nb.mono r2.sub,q2,fin_same (e1.trans e2) r2 du h2⟩
theorem xu{i:Nat}{y:Str}{py i5:Pos}(hN:X.N.Nodup)(DP:X.N[i]? =some y)(hy:Loc X.env.scope y)(S:ah X scope [x] ys Λ)(hi:JE X R iter to)(he:∀C s H fp,JE (Cx.comp X (x::ys) scope C s H fp) (λ_=>E0) elt te)(hc:X.calm=true:=by rfl)(E8:swapsWith (.ListComp elt [⟨.Name x px,iter,[],0⟩] scope pos) (some (.Name y py)) i5.line X.env=pure true:=by rfl)(hs:∀x,foldedSetIterable iter X.env x=pure x:=by intro _;rfl)(hf:X.fn y=true\/X.env.scope.names.lookup y=some .local:=by first | exact .inl rfl | exact .inr rfl | assumption)(hP:X.prog=P:=by rfl)(hw:X.w=w:=by rfl):JS X R (.Assign [.Name y py] (.ListComp elt [⟨.Name x px,iter,[],0⟩] scope pos) i5) (Fm P w i to te Λ):=by
 subst hP hw;exact .of (zh (nE (tc:=xB X.K (λ_=>E0) rg) (te:=sg X.K (λ_=>E0) te) hN DP hy S hc (QB hi) (dP S (i:=0) rfl) (cj (Nat.zero_lt_succ 0)) (λ_ _ _ _=>gS) he E8 hs hf)) λσ H G L ρ M Dn rl n h hx=>by
  refine ⟨G,L,ρ,M,_,_,rl,n,h,hx,λv H1 ⟨d,G1,L1,M1,e1,r1,n1,k,ks,ds,ed,hk,hl,hz,h1⟩=> ?_⟩;subst ed;obtain ⟨a,rfl,x_⟩:=n1;obtain ⟨vs,hH,QQ⟩:=(r1.fg k a _ x_ hk).2;obtain ⟨as,us,rfl,BV,LZ,dk,dn,el⟩:=gf QQ;have P5:us.length=ks.length:=by rw [<-dn.length,hl]
  have P7:H1 a=some (kR X.prog X.w a (ks.zip (as.zip us))):=hH.trans (aa2 (λz=>some (kR X.prog X.w a z)) el);refine ⟨a,_,rfl,P7,λep D hD=> ?_⟩;have h1:=h1 (ks.zip (as.zip us)) ep;have WD:upd H1 a (u_ X.prog X.w a (ks.zip (as.zip us)) (ks.zip (as.zip us)) ep) a=some (u_ X.prog X.w a (KA ks (as.map V.ref++us)) (ks.zip (as.zip us)) ep):=by rw [Τ,el]
  have r2:Rl X.K G1 L1 (M1.set k (zi X.prog X.w ks ds (ks.zip (as.zip us)) ep)) (upd H1 a (u_ X.prog X.w a (ks.zip (as.zip us)) (ks.zip (as.zip us)) ep)):=r1.setM (m:=zi X.prog X.w ks ds (ks.zip (as.zip us)) ep) x_ ⟨as.map V.ref++us,WD,QQ⟩;have e2:Ex G1 L1 H1 G1 L1 (upd H1 a (u_ X.prog X.w a (ks.zip (as.zip us)) (ks.zip (as.zip us)) ep)):=r1.Fy x_;have zl:(ks.zip (as.zip us)).length=ks.length:=mP BV P5;generalize XX:ks.zip (as.zip us)=kz at h1 r2 e2 hD zl⊢;generalize LO:upd H1 a (u_ X.prog X.w a kz kz ep)=H2 at r2 e2 hD;have rd:∀{G':Hp} {L':List Addr} {M':Ms} {H':Hp},Pre L1 L'->Rl X.K G' L' M' H'->M'[k]? =some (zi X.prog X.w ks ds kz ep)->∃k1,H' a=some (u_ X.prog X.w a k1 kz ep):=λl r' aB=>by obtain ⟨vs',hh,_⟩:=(r'.fg k a _ (l.get x_) aB).2;exact ⟨_,hh⟩
  have yl:Jx X.K (Q9 X.prog X.w a kz ep) (ks.map tG) (λM'=>M'[k]? =some (zi X.prog X.w ks ds kz ep)) G1 L1:=by
   refine ⟨λi G' L' M' H' d g l r' aB hd=> ?_,λi G' L' M' H' g l r' aB hd=> ?_⟩
   ·have hi:i < ks.length:=by have:=(aad.mp hd).1;rwa [aac] at this
    refine ⟨⟨rd l r' aB,by omega⟩,λv H3 hy=> ?_⟩;obtain ⟨rfl,kv,Lg,rfl⟩:=hy;rw [<-XX,aaY,aaY] at Lg;obtain ⟨v',AV,dv⟩:=dk.get hd;rw [aaj,Lg.2.1] at AV;have AV:V.ref kv.2.1=v':=aaG AV;rw [<-AV] at dv;exact ⟨G', .refl _ _ _,r',Den.mono g l _ _ dv⟩
   ·rw [aac] at hd;exact ⟨rd l r' aB,by omega⟩
  rw [i7] at h1;refine lq aO r2 ((n.mono e1).mono e2) yl hD (by rw [aac];exact hz) h1 λG3 L3 M3 H3 GR vs e3 r3 g3 l3 Lx n3 ⟨hm,hq⟩=> ?_;have yE:=e3.l.get x_;obtain ⟨Vy,Mn,Zx⟩:=(r3.fg k a _ yE hm).2;refine ⟨a,KA ks Vy,kz,ep,Mn, ?_⟩;have ne:D≠a:=λz=>by rw [z,Mn] at Lx;cases Lx
  obtain ⟨d4,G4,L4,M4,e4,r4,n4,h4⟩:=vv (q:=λd M=>Dn.nx (ρ.set i (some d)) M) (e3.trans (r3.Fy yE)) (r3.setM (m:=jO X.prog X.w ks ds) yE ⟨Vy,Τ,Zx⟩) hD g3 l3 (by rw [Ζ ne];exact Lx) n3 hq;have Ve:=(e1.trans e2).trans e4;exact ⟨_,G4,L4,M4,Ve,r4,(n.mono Ve).set i n4,h4⟩
end
def Nd(td ty tx:TE):TE:=λσ H Q=>td σ H λx H1=>∃a,x=V.ref a/\UK H1 a/\ty σ H1 λy H2=>tx σ H2 λz H3=>∃ω k,H3 a=some (.dK ω)/\y=kV k/\ω.length < sizeLine/\(∀v,gk ω k=some v->Q v H3)/\(gk ω k=none->Q z (upd H3 a (.dK (putK ω k z))))
section
variable{H:Hp}{ω:List (Key×V)}{k:Key}{A:Around}{u r:Value}{d:V}
theorem Gq{Q:Value->Shared->Prop}(I:Inv X δ σ H s)(e:H a=some (.dK ω))(ry:ag (kV k) u)(rd:ag d r)(hz:ω.length < sizeLine)
  (h1:∀v w' s',gk ω k=some v->Inv X δ σ H s'->ag v w'->Q w' s') (h2:∀s',gk ω k=none->Inv X δ σ (upd H a (.dK (putK ω k d))) s'->Q r s'):
  wpAny (model X.prog X.w) A (call (.builtin "dict.setdefault") [.ref a,u,r]) Q E s:=by
 obtain ⟨z,hd,vs,rel,dd⟩:=CZ I.aB e;have rv:=rel.val k;refine call_meetsIn PySem.F.slot_dict_setdefault dd.typeIs PySem.F.entry_dict_setdefault (PySem.F.args_dict_setdefault_3 _ _ _) (kt_meets_setdefault (ax X.prog X.w) a (xq ry) hd r) ⟨vs,dd,by rw [<-rel.length];exact z,λv hv=> ?_,λhv h' Rj hs=> ?_⟩
 ·cases l:gk ω k with
  | none=>rw [l,hv] at rv;cases rv
  | some v0=>rw [l,hv] at rv;exact h1 v0 v _ l (I.tok _) rv
 ·cases l:gk ω k with
  | some v0=>rw [l,hv] at rv;cases rv
  | none=>
   refine h2 _ l ?_;have hl:(putK ω k d).length<=sizeLine:=by have:=xi ω k d;omega
   have he:∃q,h'.get? a=some q:=let ⟨q,_,_,hq,_⟩:=Rj;⟨q,hq⟩
   exact Ad I (by rw [e];exact True.intro) hs he (Ep hl hd (rel.put k rd) Rj)
end
section
variable{o e f:Expr}{td ty tx:TE}{apos aA:Pos}
theorem Dx(ho:PE X o td)(he:PE X e ty)(hf:PE X f tx)(m:M2 X o "setdefault" apos e f aA):PE X (.Call (.Attribute o "setdefault" apos) [e,f] [] aA) (Nd td ty tx):=by
 intro δ s σ H Q I h;refine wpAny_Call_method m.base m.JY m.line PySem.F.plainAttrs_dict PySem.F.slot_dict_setdefault PySem.F.type_dict_setdefault (bx (ho δ s σ H _ I h) λu s1 ⟨x,H1,I1,rx,a,ex,d,q1⟩=> ?_);subst ex;obtain rfl:u=Value.ref a:=rx;obtain ⟨t1,t2,_⟩:=Nj I1 d;refine ⟨t1,t2, ?_⟩;rw [m.trees]
 refine Calls.callWith_builtin rfl (Calls.evalArgs_plain (Calls.spliced_cons (bx (he δ s1 σ H1 _ I1 q1) λiv s2 ⟨y,H2,I2,ry,q2⟩=>
  Calls.spliced_cons (bx (hf δ s2 σ H2 _ I2 q2) λfv s3 ⟨z,H3,I3,rz,ω,k,ea,ey,hz,q3,q4⟩=>Calls.spliced_nil ?_))))
 subst ey;exact Gq I3 ea ry rz hz (λv w' s4 l I4 uQ=>⟨v,H3,I4,uQ,q3 v l⟩) λs4 l I4=>⟨z,_,I4,rz,q4 l⟩
end
def FH(to ti tx:DE):DE:=λρ M q x=>to ρ M (λd M1=>(∃k ks ds,d= .loc k/\M1[k]? =some (.jF ks ds))/\ti ρ M1 (λdi M2=>tx ρ M2 (λz M3=>∃k ks ds key,d= .loc k/\M3[k]? =some (.jF ks ds)/\GY di=some key/\ks.length < 1000/\
 (∀v,aI ks ds key=some v->q v M3)/\(aI ks ds key=none->q z (M3.set k (.jF (qQ ks key) (lD ks key ds z))))) x) x) x
section
variable{o e f:Expr}{to te tx:DE}{apos aA:Pos}
theorem GW(ho:JE X R o to)(he:JE X R e te)(hf:JE X R f tx)(m:M2 X o "setdefault" apos e f aA:=by exact ⟨rfl,rfl,rfl,rfl⟩):JE X R (.Call (.Attribute o "setdefault" apos) [e,f] [] aA) (FH to te tx):=
 .of (Dx ho he hf m) λσ H G L ρ M q x rl n h hx=>by
  refine ⟨G,L,ρ,M,_,x,rl,n,h,hx,λv H1 ⟨d1,G1,L1,M1,e1,r1,n1,⟨k0,WT,WK,SH,PH⟩,h1⟩=> ?_⟩;subst SH;obtain ⟨a,rfl,NG⟩:=n1;obtain ⟨_,X0,S5,_,_⟩:=r1.fg k0 a _ NG PH;refine ⟨a,rfl, .inl ⟨_, .inl S5⟩, ?_⟩;refine ⟨G1,L1,ρ,M1,_,x,r1,n.mono e1,h1,hx.on e1,λv2 H2 ⟨d2,G2,L2,M2,e2,r2,n2,h2⟩=> ?_⟩;refine ⟨G2,L2,ρ,M2,_,x,r2,(n.mono e1).mono e2,h2,(hx.on e1).on e2,λv3 H3 ⟨d3,G3,L3,M3,e3,r3,n3,k,ks,ds,key,ed,hm,hk,hlen,hs,hn⟩=> ?_⟩;cases ed;have GO:=e2.trans e3;have GP:=GO.l.get NG;obtain ⟨_,vs,hH,hl,dn⟩:=r3.fg k0 a _ GP hm;have Gy:ks.length=vs.length:=hl.trans dn.length;have kv:v2=kV key:=vf hk n2;have z:(ks.zip vs).length < sizeLine:=by rw [abe];exact aaN (Nat.min_le_left _ _) (Nat.lt_trans hlen (by decide))
  refine ⟨_,key,hH,kv,z,λv l=> ?_,λl=> ?_⟩
  ·cases hg:aI ks ds key with
   | none=>rw [sQ dn hg] at l;cases l
   | some d=>
    obtain ⟨u,hu,du⟩:=gq dn hg;rw [hu] at l;cases l;exact fin_same (e1.trans GO) r3 du (hs d hg)
  ·cases hg:aI ks ds key with
   | some d=>
    obtain ⟨u,hu,du⟩:=gq dn hg;rw [hu] at l;cases l
   | none=>
    refine ⟨_,G3,L3,_,(e1.trans GO).trans (r3.Fy GP),r3.setM (m:= .jF (qQ ks key) (lD ks key ds d3)) GP ⟨lD ks key vs v3,by rw [Τ,Lb Gy], ?_, ?_⟩,n3,hn hg⟩
    ·unfold qQ lD;split
     ·rw [tQ hl]
     ·rw [aai,aai,hl];rfl
    ·unfold lD;split
     ·exact sx n3 dn hl
     ·exact dn.app ⟨_,_,rfl,n3,rfl⟩
end
section
theorem qS:cH X (.builtin "sorted") (λxs H Q=>∃(p:Addr) (ns:List Int),xs=[V.ref p]/\fm X.K H p (ns.map V.int)/\ns.length < 64/\∀ns':List Int,ns'.Perm ns->ns'.Pairwise (· <= ·)->∀p',H p'=none->Q (.ref p') (upd H p' (.lst (ns'.map V.int)))):=by
 intro δ s σ H xs us Q I r ⟨p,ns,ex,hq,yr,q⟩;subst ex;obtain ⟨u,rfl,rx⟩:=gF r;cases rx;obtain ⟨its,rv,pl,hz⟩:=I.list hq;obtain ⟨ts,rfl,rfl⟩:=jn rv;have hI:IntsAre (ts.map λx=>Value.int x.1 x.2) (ts.map (·.1)):=by
  clear rv pl hz q hq yr
  induction ts with
  | nil=>exact .nil
  | cons x ts ih=>exact .cons _ _ ih
 have yr:(ts.map λx=>Value.int x.1 x.2).length < 64:=by simpa using yr
 refine sorted_ints pl.isList hI yr λout ns' a1 a2 a3=> ?_;obtain ⟨e,he⟩:=sortedAll_at s.heap (ts.map λx=>Value.int x.1 x.2) out;have hl:ns'.length < 64:=by rw [a2.length_eq];simpa using yr
 exact ⟨.ref (s.heap.objs.size+1),_,I.laid (t':=s.toks) (λ_ _=>sortedAll_old) (Nat.le_succ _) (show bh X.prog X.w _ _ _ (.lst _) from ⟨by rw [List.length_map];exact Nat.le_trans (Nat.le_of_lt hl) (by decide),out.toList,e,mi a1,by simpa [seqObj] using he⟩),rfl,q ns' a2 a3 _ (I.aB.fresh (Nat.le_succ _))⟩
end
def Kp:List Dt->Ms->DQ->Prop:=λds M q=>∃(d:Dt) (ns:List Int),ds=[d]/\fU M d=some (ns.map Dt.int)/\ns.length < 64/\∀ns':List Int,ns'.Perm ns->ns'.Pairwise (· <= ·)->q (.loc M.length) (M++[.lst (ns'.map Dt.int)])
section
variable{a:Expr}{t:DA}{p:Pos}
theorem EK(hm:X.mg "sorted"=none)(ha:JA X R [a] t)(hg:Gl X "sorted":=by rfl)(he:starEach [a] X.env=(false,eval a X.env)::starEach [] X.env:=by rfl)(fQ:(backTo pos (starEach [] X.env)).any (·.1)=false:=by rfl):JE X R (.Call (.Name "sorted" p) [a] [] pos) (ya Kp t):=
 .of (rh qS hg hm lP ha (by decide) (by decide) he fQ) λσ H G L ρ M q x rl n h hx=>by refine ⟨G,L,ρ,M,_,x,rl,n,h,hx,λvs H1 ⟨ds,G1,L1,M1,e1,r1,n1,d,ns,ed,hl,yr,h1⟩=> ?_⟩;subst ed;obtain ⟨v,rfl,nv⟩:=aM n1;obtain ⟨p,vs,rfl,sq,m⟩:=cy r1 nv hl;rw [gY m] at sq;exact ⟨p,ns,rfl,sq,yr,λns' pm pw p' hp=>gL e1 r1 hp cQ (h1 ns' pm pw)⟩
end
theorem Dg{o i:Expr}{to ti:DE}(ho:JE X R o to)(hi:JE X R i ti)(hs:xV i:=by intro _ _;rfl)(hP:X.prog=P:=by rfl)(hw:X.w=w:=by rfl):JE X R (.Subscript o i pos) (yp P w to ti):=by subst hP hw;exact HD ho hi hs
end L2
namespace Fr0
variable{b t:Int}
def g(a b:Int):Int:=(Int.gcd a b:Nat)
theorem w6{a:Int}(h:b≠0):0 < g a b:=by have:=Int.gcd_pos_of_ne_zero_right a h;unfold g;omega
theorem Fg{a:Int}(h:0<=a):g a 0=a:=by unfold g;rw [Int.gcd_zero_right];omega
theorem Ez{a:Int}(hb:0 < b):g b (a.fmod b)=g a b:=by
 unfold g;rw [abu a (aaX hb),Int.gcd_comm a b]
 congr 1
 refine Int.gcd_right_eq_iff.mpr λc hc=> ?_;rw [Int.emod_def];constructor
 ·intro h;have:=Int.dvd_add h (Int.dvd_mul_of_dvd_left (c:=a / b) hc);rwa [Int.sub_add_cancel] at this
 ·intro h;exact Int.dvd_sub h (Int.dvd_mul_of_dvd_left (c:=a / b) hc)
theorem Jm(a b:Int):g (if a < 0 then -a else a) (if b < 0 then -b else b)=g a b:=by unfold g;split <;> split <;> simp
def dv(t b:Int):Int:=if b < 0 then -(g t b) else g t b
def ae(t b:Int):Int×Int:=(t.fdiv (dv t b),b.fdiv (dv t b))
theorem zT(h:b≠0):dv t b≠0:=by have:=w6 (a:=t) h;unfold dv;split <;> omega
theorem xy{k p:Int}(h:k≠0):(k * p).fdiv k=p:=by rw [abV];exact Int.mul_fdiv_cancel p h
theorem FR(h:b≠0):∃p q:Int,t=dv t b * p/\b=dv t b * q/\0 < q/\Int.gcd p q=1:=by
 have hg:=w6 (a:=t) h;have h0:0 < Int.gcd t b:=Int.gcd_pos_of_ne_zero_right t h;obtain ⟨p,hp⟩:=Int.gcd_dvd_left t b;obtain ⟨q,hq⟩:=Int.gcd_dvd_right t b;have hc:Int.gcd p q=1:=by
  have e:=Int.gcd_ediv_gcd_ediv_gcd h0;have n0:(Int.gcd t b:Int)≠0:=by omega
  have e1:t / (Int.gcd t b:Int)=p:=by
   conv=>lhs;arg 1;rw [hp]
   exact abn p n0
  have e2:b / (Int.gcd t b:Int)=q:=by
   conv=>lhs;arg 1;rw [hq]
   exact abn q n0
  rwa [e1,e2] at e
 have N1:t=g t b * p:=hp;have CH:b=g t b * q:=hq;by_cases hb:b < 0
 ·have hd:dv t b= -(g t b):=by unfold dv;rw [if_pos hb]
  refine ⟨-p, -q, ?_, ?_, ?_, ?_⟩
  ·rw [hd,Int.neg_mul_neg];exact N1
  ·rw [hd,Int.neg_mul_neg];exact CH
  ·have:g t b * q < 0:=by rw [<-CH];exact hb
   by_cases q0:0<=q
   ·exact aaI (Int.mul_nonneg (aaX hg) q0) (by omega)
   ·omega
  ·simpa using hc
 ·have hd:dv t b=g t b:=by unfold dv;rw [if_neg hb]
  refine ⟨p,q,by rw [hd];exact N1,by rw [hd];exact CH, ?_,hc⟩;have:0 < g t b * q:=by rw [<-CH];omega
  exact Int.pos_of_mul_pos_right this hg
theorem eG  (h : b ≠ 0) : ∃ p q : Int, ae t b = (p, q) /\ 0 < q /\ Int.gcd p q = 1 /\ t = dv t b * p /\ b = dv t b * q := by
  obtain ⟨p, q, hp, hq, h0, hc⟩ := FR (t := t) h;have n0 := zT (t := t) h;refine ⟨p, q, ?_, h0, hc, hp, hq⟩;unfold ae
  have e1 : t.fdiv (dv t b) = p := by conv => lhs; arg 1; rw [hp]
                                      exact xy n0
  have e2 : b.fdiv (dv t b) = q := by conv => lhs; arg 1; rw [hq]
                                      exact xy n0
  rw [e1, e2]
theorem bH(h:b≠0):t * (ae t b).2=b * (ae t b).1:=by
 obtain ⟨p,q,e,_,_,hp,hq⟩:=eG (t:=t) h;rw [e];show t * q=b * p
 calc t * q=dv t b * p * q:=by rw [<-hp]
  _=dv t b * q * p:=by rw [abL,abV p q,<-abL]
  _=b * p:=by rw [<-hq]
theorem aU(h:b≠0):0 < (ae t b).2:=by obtain ⟨p,q,e,h0,_⟩:=eG (t:=t) h;rw [e];exact h0
theorem lW(h:b≠0):Int.gcd (ae t b).1 (ae t b).2=1:=by obtain ⟨p,q,e,_,hc,_⟩:=eG (t:=t) h;rw [e];exact hc
theorem nz{k m n:Int}(h:k∣m * n)(hc:Int.gcd k m=1):k∣n:=by have:=(Int.dvd_gcd_mul_iff_dvd_mul (k:=k) (n:=m) (m:=n)).mpr h;rw [hc] at this;simpa using this
theorem yu{p q p' q':Int}(hq:0 < q)(CH:0 < q')(h:Int.gcd p q=1)(h':Int.gcd p' q'=1)(e:p * q'=p' * q):p=p'/\q=q':=by
 have d1:q∣q':=by have:q∣p * q':=⟨p',by rw [e,abV]⟩;exact nz this (by rw [Int.gcd_comm];exact h)
 have d2:q'∣q:=by have:q'∣p' * q:=⟨p,by rw [<-e,abV]⟩;exact nz this (by rw [Int.gcd_comm];exact h')
 have eq:q=q':=Int.le_antisymm (Int.le_of_dvd CH d1) (Int.le_of_dvd hq d2);subst eq;exact ⟨Int.eq_of_mul_eq_mul_right (by omega) e,rfl⟩
theorem oK{p q:Int}(h:b≠0)(hq:0 < q)(hc:Int.gcd p q=1)(e:t * q=b * p):ae t b=(p,q):=by
 have h1:=bH (t:=t) h;have h2:=aU (t:=t) h;have h3:=lW (t:=t) h;have h4:(ae t b).1 * q=p * (ae t b).2:=by
  have:b * ((ae t b).1 * q)=b * (p * (ae t b).2):=by rw [<-abL,<-h1,Int.mul_right_comm,e,abL]
  exact abb h this
 have:=yu h2 hq h3 hc h4;exact Prod.ext this.1 this.2
theorem uY(h:b≠0):(dv t b).natAbs<=b.natAbs:=by
 have e:(dv t b).natAbs=Int.gcd t b:=by unfold dv g;split <;> omega
 rw [e];exact Int.gcd_le_natAbs_right t h
theorem pW  (h : b ≠ 0) : (ae t b).1.natAbs <= t.natAbs := by
  obtain ⟨p, q, e, _, _, hp, _⟩ := eG (t := t) h;have n0 := zT (t := t) h;rw [e];show p.natAbs <= t.natAbs
  have : t.natAbs = (dv t b).natAbs * p.natAbs := by conv => lhs; rw [hp]
                                                     exact abQ _ _
  rw [this];exact Nat.le_mul_of_pos_left _ (by omega)
theorem l6  (h : b ≠ 0) : (ae t b).2.natAbs <= b.natAbs := by
  obtain ⟨p, q, e, _, _, _, hq⟩ := eG (t := t) h;have n0 := zT (t := t) h;rw [e];show q.natAbs <= b.natAbs
  have : b.natAbs = (dv t b).natAbs * q.natAbs := by conv => lhs; rw [hq]
                                                     exact abQ _ _
  rw [this];exact Nat.le_mul_of_pos_left _ (by omega)
theorem HN(h:0 < b):ae t b=(t.fdiv (g t b),b.fdiv (g t b)):=by unfold ae dv;rw [aaA (by omega)]
end Fr0
namespace Tx
open PySem PySem.NumText
end Tx
namespace Bz
end Bz
namespace N51
section
variable{κ α:Type} [DecidableEq κ]
def get(ks:List κ)(vs:List α)(k:κ):Option α:=((ks.zip vs).find? λx=>decide (x.1=k)).map (·.2)
def has(ks:List κ)(k:κ):Bool:=ks.any λc=>decide (c=k)
def putK(ks:List κ)(k:κ):List κ:=if has ks k then ks else ks++[k]
def vM(ks:List κ)(k:κ)(vs:List α)(v:α):List α:=if has ks k then List.zipWith (λc y=>if c=k then v else y) ks vs else vs++[v]
theorem jg{ks:List κ}{k:κ}:has ks k=true↔k∈ks:=by unfold has;rw [List.any_eq_true];exact ⟨λ⟨c,h,e⟩=>aaq e▸h,λh=>⟨k,h,aam rfl⟩⟩
theorem dQ{c k:κ}{v:α}{ks:List κ}{vs:List α}:get (c::ks) (v::vs) k=if c=k then some v else get ks vs k:=by
 unfold get;rw [aaU];by_cases e:c=k
 ·rw [if_pos e,List.find?_cons_of_pos (by simpa using e)];rfl
 ·rw [if_neg e,List.find?_cons_of_neg (by simpa using e)]
theorem de{k:κ}:∀{ks:List κ} {vs:List α},vs.length=ks.length->((get ks vs k).isSome=true↔k∈ks)
 | [],vs,_=>by simp [get]
 | c::ks,v::vs,h=>by
  rw [dQ];by_cases e:c=k
  ·simp [e]
  ·rw [if_neg e,de (by simpa using h)];simp [Ne.symm e]
theorem pE{k:κ}{v:α}:∀{ks:List κ} {vs:List α} {j:Nat},ks.Nodup->ks[j]? =some k->vs[j]? =some v->get ks vs k=some v
 | [],_,j,_,h,_=>by simp at h
 | _::_,[],j,_,_,h=>by simp at h
 | c::ks,u::vs,0,_,h1,h2=>by rw [dQ];simp at h1 h2;rw [aaF h1,h2]
 | c::ks,u::vs,j+1,hn,h1,h2=>by rw [abr] at hn;simp at h1 h2;rw [dQ,aaA (λe=>hn.1 (by rw [e];exact aaD h1))];exact pE hn.2 h1 h2
theorem Gw{ks:List κ}{k:κ}{vs:List α}{v:α}(h:vs.length=ks.length):(vM ks k vs v).length=(putK ks k).length:=by
 unfold vM putK;split
 ·rw [List.length_zipWith,h,abU]
 ·simp [h]
theorem zH{ks:List κ}{k:κ}(h:ks.Nodup):(putK ks k).Nodup:=by
 unfold putK;split
 ·exact h
 ·rename_i q;rw [ab1];refine ⟨h,by simp,λa ha b hb=> ?_⟩;have:b=k:=by simpa using hb
  subst this;rintro rfl;exact q (jg.mpr ha)
theorem ET{ks:List κ}{k c:κ}:c∈putK ks k↔c∈ks\/c=k:=by
 unfold putK;split
 ·rename_i q;exact ⟨.inl,λh=>h.elim id λe=>e▸jg.mp q⟩
 ·simp
theorem Ab{k c:κ}{v:α}:∀{ks:List κ} {vs:List α},vs.length=ks.length->get ks (List.zipWith (λc y=>if c=k then v else y) ks vs) c=if c=k/\k∈ks then some v else get ks vs c
 | [],vs,_=>by simp [get]
 | d::ks,u::vs,h=>by
  rw [List.zipWith_cons_cons,dQ,dQ,Ab (by simpa using h)];by_cases e:d=c
  ·subst e;by_cases q:d=k
   ·simp [q]
   ·simp [q]
  ·rw [aaA e,aaA e];by_cases q:c=k
   ·subst q;simp [Ne.symm e]
   ·simp [q]
theorem Ai{k c:κ}{v:α}:∀{ks:List κ} {vs:List α},vs.length=ks.length->get (ks++[k]) (vs++[v]) c=(get ks vs c).or (if k=c then some v else none)
 | [],vs,h=>by
  have:vs=[]:=by simpa using h
  subst this;show get [k] [v] c=_;rw [dQ];simp [get]
 | d::ks,u::vs,h=>by
  rw [List.cons_append,List.cons_append,dQ,dQ,Ai (by simpa using h)];by_cases e:d=c
  ·simp [e]
  ·simp [e]
theorem Hb{k c:κ}{v:α}{ks:List κ}{vs:List α}(h:vs.length=ks.length):get (putK ks k) (vM ks k vs v) c=if c=k then some v else get ks vs c:=by
 unfold putK vM;by_cases q:has ks k=true
 ·rw [aaF q,aaF q,Ab h];have:=jg.mp q;simp [this]
 ·rw [aaA q,aaA q,Ai h];have nk:¬k∈ks:=λz=>q (jg.mpr z);by_cases e:c=k
  ·subst e;have:get ks vs c=none:=by
    cases g:get ks vs c with
    | none=>rfl
    | some w=>exact aaI ((de h).mp (by rw [g];rfl)) nk
   simp [this]
  ·rw [aaA e,aaA (Ne.symm e)];cases get ks vs c <;> rfl
theorem mB:∀{ks ls:List κ},ks.Nodup->(∀c∈ks,c∈ls)->ks.length<=ls.length
 | [],_,_,_=>abA _
 | c::ks,ls,n,s=>by rw [abr] at n;have hc:=s c aak;have h:=mB (ls:=ls.erase c) n.2 λd hd=>(List.mem_erase_of_ne (a:=d) (b:=c) (λe:d=c=>n.1 (e▸hd))).mpr (s d (aag _ hd));rw [List.length_erase_of_mem hc] at h;have:=abt hc;rw [aaO];omega
theorem BK [DecidableEq α]{ks ls:List κ}{vs us:List α}(h1:vs.length=ks.length)(h2:us.length=ls.length)(n1:ks.Nodup)(n2:ls.Nodup):
  (ks.length=ls.length/\∀(j:Nat) k v,ks[j]? =some k->vs[j]? =some v->get ls us k=some v)↔∀k,get ks vs k=get ls us k:=by
 constructor
 ·rintro ⟨hl,h⟩ k;have sub:∀c∈ks,c∈ls:=λc hc=>by
   obtain ⟨j,hj⟩:=abd.mp hc;have lt:j < vs.length:=by rw [h1];exact (aad.mp hj).1
   exact (de h2).mp (by rw [h j c vs[j] hj (aaa lt)];rfl)
  have sup:∀c∈ls,c∈ks:=λc hc=>Classical.byContradiction λq=>by have:=mB (ks:=c::ks) (ls:=ls) (abr.mpr ⟨q,n1⟩) λd hd=>(aaB.mp hd).elim (λe=>e▸hc) (sub d);rw [aaO] at this;omega
  cases g:get ks vs k with
  | none=>
   cases g2:get ls us k with
   | none=>rfl
   | some w=>
    have:=(de h1).mpr (sup k ((de h2).mp (by rw [g2];rfl)));rw [g] at this;cases this
  | some v=>
   have hk:=(de h1).mp (by rw [g];rfl);obtain ⟨j,hj⟩:=abd.mp hk;have lt:j < vs.length:=by rw [h1];exact (aad.mp hj).1
   have e:=pE n1 hj (aaa lt);rw [g] at e;cases e;exact (h j k _ hj (aaa lt)).symm
 ·intro h;refine ⟨?_,λj k v hj hv=>by rw [<-h];exact pE n1 hj hv⟩;have p1:∀c,c∈ks↔c∈ls:=λc=>by rw [<-de h1,<-de h2,h]
  exact Nat.le_antisymm (mB n1 λc hc=>(p1 c).mp hc) (mB n2 λc hc=>(p1 c).mpr hc)
end
section
variable{κ α β:Type} [DecidableEq κ]
def Jj(op:α->β->α)(z:α)(D:List κ×List α)(x:κ×β):List κ×List α:=(putK D.1 x.1,vM D.1 x.1 D.2 (op ((get D.1 D.2 x.1).getD z) x.2))
def gc(op:α->β->α)(z:α)(xs:List (κ×β)):List κ×List α:=xs.foldl (Jj op z) ([],[])
def xr(op:α->β->α)(z:α)(xs:List (κ×β))(k:κ):α:=xs.foldl (λa x=>if x.1=k then op a x.2 else a) z
theorem pL(op:α->β->α)(z:α)(xs:List (κ×β))(x:κ×β):gc op z (xs++[x])=Jj op z (gc op z xs) x:=by unfold gc;rw [List.foldl_append];rfl
theorem wz(op:α->β->α)(z:α)(xs:List (κ×β))(x:κ×β)(k:κ):xr op z (xs++[x]) k=if x.1=k then op (xr op z xs k) x.2 else xr op z xs k:=by unfold xr;rw [List.foldl_append];rfl
theorem dt(op:α->β->α)(z:α)(xs:List (κ×β)):(gc op z xs).2.length=(gc op z xs).1.length/\(gc op z xs).1.Nodup/\(∀k,k∈(gc op z xs).1↔k∈xs.map (·.1))/\∀k,(get (gc op z xs).1 (gc op z xs).2 k).getD z=xr op z xs k:=by
 have key:∀n (ys:List (κ×β)),ys.length=n->(gc op z ys).2.length=(gc op z ys).1.length/\(gc op z ys).1.Nodup/\(∀k,k∈(gc op z ys).1↔k∈ys.map (·.1))/\∀k,(get (gc op z ys).1 (gc op z ys).2 k).getD z=xr op z ys k:=by
  intro n
  induction n with
  | zero=>
   intro ys h;have:ys=[]:=abp.mp h;subst this;exact ⟨rfl,List.nodup_nil,λk=>Iff.rfl,λk=>rfl⟩
  | succ n ih=>
   intro ys h;have gE:ys≠[]:=λe=>by subst e;cases h
   obtain ⟨zs,x,rfl⟩:∃zs x,ys=zs++[x]:=⟨ys.dropLast,ys.getLast gE,(aa3 gE).symm⟩;obtain ⟨h1,h2,h3,h4⟩:=ih zs (by simpa using h);rw [pL];refine ⟨Gw h1,zH h2,λk=> ?_,λk=> ?_⟩
   ·show k∈putK _ _↔_;rw [ET,h3,aao,aaL];simp
   ·show (get (putK _ _) (vM _ _ _ _) k).getD z=_;rw [Hb h1,wz];by_cases e:k=x.1
    ·subst e;rw [aaF rfl,aaF rfl,h4];rfl
    ·rw [aaA e,aaA (λq=>e q.symm),h4]
 exact key _ xs rfl
theorem Bw{op:α->β->α}{z:α}{xs ys:List (κ×β)}(nx:∀k∈xs.map (·.1),xr op z xs k≠z)(ny:∀k∈ys.map (·.1),xr op z ys k≠z):
  (∀k,get (gc op z xs).1 (gc op z xs).2 k=get (gc op z ys).1 (gc op z ys).2 k)↔∀k∈(xs++ys).map (·.1),xr op z xs k=xr op z ys k:=by
 obtain ⟨a1,a2,a3,a4⟩:=dt op z xs;obtain ⟨b1,b2,b3,b4⟩:=dt op z ys
 have some_of:∀{zs:List (κ×β)} {k:κ},(gc op z zs).2.length=(gc op z zs).1.length->(∀k,k∈(gc op z zs).1↔k∈zs.map (·.1))->(∀k,(get (gc op z zs).1 (gc op z zs).2 k).getD z=xr op z zs k)->
   (k∈zs.map (·.1)/\get (gc op z zs).1 (gc op z zs).2 k=some (xr op z zs k))\/(k∉zs.map (·.1)/\get (gc op z zs).1 (gc op z zs).2 k=none/\xr op z zs k=z):=λ{zs k} c1 c3 c4=>by
  have q:=c4 k;have p:=de (k:=k) c1;rw [c3] at p;cases g:get (gc op z zs).1 (gc op z zs).2 k with
  | none=>rw [g] at p q;exact .inr ⟨λh=>by simpa using p.mpr h,rfl,q.symm⟩
  | some v=>rw [g] at p q;exact .inl ⟨p.mp rfl,by rw [<-q];rfl⟩
 constructor
 ·intro h k hk;rw [<-a4 k,<-b4 k,h k]
 ·intro h k;rcases some_of (k:=k) a1 a3 a4 with ⟨m1,g1⟩ | ⟨m1,g1,t1⟩ <;> rcases some_of (k:=k) b1 b3 b4 with ⟨m2,g2⟩ | ⟨m2,g2,t2⟩
  ·rw [g1,g2,h k (by rw [aao];exact aaH _ m1)]
  ·have:=h k (by rw [aao];exact aaH _ m1);rw [t2] at this;exact aaI this (nx k m1)
  ·have:=h k (by rw [aao];exact aar _ m2);rw [t1] at this;exact aaI this.symm (ny k m2)
  ·rw [g1,g2]
end
variable{n i:Nat}{s:Nat->Nat->Bool}
structure Cl(n:Nat)(c:Nat->Nat):Prop where
 le:∀i,i < n->c i<=i
 fx:∀i,i < n->c (c i)=c i
def dg(n:Nat)(c:Nat->Nat):List Nat:=(List.range n).filter λi=>decide (c i=i)
theorem aH{c:Nat->Nat}:i∈dg n c↔i < n/\c i=i:=by unfold dg;rw [abW,aaP];exact ⟨λh=>⟨h.1,aaq h.2⟩,λh=>⟨h.1,aam h.2⟩⟩
theorem zy(n:Nat)(c:Nat->Nat):(dg n c).Nodup:=List.Nodup.sublist List.filter_sublist List.nodup_range
theorem oI(n:Nat)(c:Nat->Nat):(dg n c).length<=n:=by have:=List.length_filter_le (λi=>decide (c i=i)) (List.range n);rw [aby] at this;exact this
theorem Ql{c d:Nat->Nat}(hc:Cl n c)(hd:Cl n d)(r:∀i,i < n->c (d i)=c i)(hi:i < n)(ne:d i≠c i):(dg n c).length < (dg n d).length:=by
 have sub:∀j∈dg n c,j∈dg n d:=λj hj=>by obtain ⟨h1,h2⟩:=aH.mp hj;have a:=hd.le j h1;have b:=hc.le (d j) (by omega);rw [r j h1,h2] at b;exact aH.mpr ⟨h1,by omega⟩
 have Iu:d i < n:=aaN (hd.le i hi) hi;have m1:d i∈dg n d:=aH.mpr ⟨Iu,hd.fx i hi⟩;have m2:d i∉dg n c:=λh=>ne (by rw [<-r i hi,(aH.mp h).2]);exact mB (ks:=d i::dg n c) (abr.mpr ⟨m2,zy n c⟩) λx hx=>(aaB.mp hx).elim (λe=>e▸m1) (sub x)
def least(s:Nat->Nat->Bool)(i:Nat):Nat:=((List.range i).find? λj=>s j i).getD i
theorem least_le(s:Nat->Nat->Bool)(i:Nat):least s i<=i:=by
 unfold least;cases h:(List.range i).find? λj=>s j i with
 | none=>exact aal _
 | some j=>exact abS (aaP.mp (List.mem_of_find?_eq_some h))
theorem dX(rf:s i i=true):s (least s i) i=true:=by
 unfold least;cases h:(List.range i).find? λj=>s j i with
 | none=>exact rf
 | some j=>exact (List.find?_some (p:=λj=>s j i) h)
theorem jm{j:Nat}(h:s j i=true):least s i<=j:=by
 rcases aa8 j i with q | q
 ·unfold least;cases g:(List.range i).find? λj=>s j i with
  | none=>
   rw [List.find?_eq_none] at g;exact aaI h (g j (aaP.mpr q))
  | some k=>
   rw [List.find?_range_eq_some] at g;rcases aa8 j k with z | z
   ·have:=g.2.2 j z;rw [h] at this;cases this
   ·exact z
 ·exact aax (least_le s i) q
theorem wF(rf:∀i,i < n->s i i=true)(tr:∀i j k,i < n->j < n->k < n->s i j=true->s j k=true->s i k=true):Cl n (least s) where
 le:=λi _=>least_le s i
 fx:=λi hi=>by have l:=least_le s i;have l2:=least_le s (least s i);have a:=dX (rf i hi);have b:=dX (rf (least s i) (by omega));have:=jm (tr _ _ _ (by omega) (by omega) hi b a);omega
theorem wV(rf:∀i,i < n->s i i=true)(sy:∀i j,i < n->j < n->s i j=true->s j i=true)(tr:∀i j k,i < n->j < n->k < n->s i j=true->s j k=true->s i k=true){j:Nat}(hi:i < n)(hj:j < n):least s i=least s j↔s i j=true:=by
 have li:=least_le s i;have lj:=least_le s j;constructor
 ·intro e;have a:=dX (rf i hi);have b:=dX (rf j hj);rw [e] at a;exact tr _ _ _ hi (by omega) hj (sy _ _ (by omega) hi a) b
 ·intro h;have a:=jm (tr _ _ _ (by omega) hi hj (dX (rf i hi)) h);have b:=jm (tr _ _ _ (by omega) hj hi (dX (rf j hj)) (sy _ _ hi hj h));omega
end N51
seal L2.JE L2.JT L2.JW L2.JA L2.JS L2.Bh L2.JI L2.JK
local macro_rules | `(tactic| walk_at "vc")=>`(tactic| dsimp only [L2.gN,L2.Oj,L2.Ca,L2.VO,L2.MA,L2.Jt,L2.VR,L2.N9,L2.y6,L2.Jl,L2.CS,L2.ya,L2.kP,L2.P8,L2.ik,L2.dC,L2.nW,L2.ic,L2.Dh,L2.Qs,L2.qr,L2.Pt,L2.UZ,L2.N2,L2.OK,L2.Vr,L2.VQ,L2.m7,List.map_cons,List.map_nil,List.length_cons,List.length_nil,List.cons_append,List.nil_append,List.replicate,List.getElem?_cons_zero,List.getElem?_cons_succ,List.set_cons_zero,List.set_cons_succ,Nat.reduceSub,Nat.reduceAdd,Nat.zero_add])
namespace Pg
open PySem L2
variable{P:Program}{w:World}{mg:Str->Option Value}{f bR eV kT bT bY:Addr}{fd b5 eY lx b6 bU:FuncData}{M:Ms}{d e:Dt}{xs ds:List Dt}{i n k j m y:Nat}{ρ:En}{x:NK}{b S t a size:Int}{ns:List Int}{c c':Nat->Nat}{ls l:List Nat}
def top(i:Nat):Stmt:=PySem.Challenge.pw_chanceduel_k54_whole_copies_come_togethe.main.body.getD i (.Pass ⟨0,0,0,0⟩)
def cls(i j:Nat):Stmt:=match top i with
 | .ClassDef _ _ _ b _ _ _ _ _ _ _=>b.getD j (.Pass ⟨0,0,0,0⟩)
 | _=> .Pass ⟨0,0,0,0⟩
abbrev eR:Stmt:=top 7
abbrev mV:Stmt:=top 8
abbrev EA:Stmt:=top 9
abbrev rj:Stmt:=top 14
abbrev mK:Stmt:=top 15
abbrev fL:Stmt:=top 16
abbrev hX:Stmt:=top 17
abbrev kI:Stmt:=top 18
abbrev ph:Stmt:=top 19
abbrev j0:Stmt:=top 20
abbrev kG:Stmt:=top 24
abbrev jT:Stmt:=top 27
abbrev fS:Stmt:=top 28
abbrev pU:Stmt:=top 29
abbrev hG:Stmt:=top 30
abbrev u3:Stmt:=top 31
abbrev ke:Stmt:=top 32
abbrev mS:Stmt:=top 33
abbrev vn:Stmt:=top 35
abbrev jW:Stmt:=top 36
abbrev pY:Stmt:=top 37
abbrev j5:Stmt:=top 38
abbrev tT:Stmt:=top 39
abbrev d8:Stmt:=top 40
abbrev pd:Stmt:=top 41
abbrev kl:Stmt:=top 42
abbrev mY:Stmt:=top 43
abbrev qt:Stmt:=top 44
abbrev kL:Stmt:=top 45
abbrev qU:Stmt:=top 46
abbrev mH:Stmt:=top 47
abbrev nc:Stmt:=top 48
abbrev LW:Stmt:=top 49
abbrev kF:Stmt:=cls 25 0
abbrev kj:Stmt:=cls 25 1
abbrev iG:Stmt:=cls 25 2
abbrev kf:Stmt:=cls 25 3
abbrev iD:Stmt:=cls 25 4
abbrev mF:Stmt:=cls 25 5
abbrev jQ:Stmt:=cls 25 6
open PySem L2 Fr0 Tx
structure Ev(K:fv)(mg:Str->Option Value)(Cm:Addr):Prop where
 cF:mg "len"=none
 qF:mg "abs"=none
 gR:mg "isinstance"=none
 D1:mg "int"=none
 yJ:mg "bool"=none
 EH:mg "str"=none
 ve:mg "tuple"=none
 gX:mg "list"=none
 aQ:mg "range"=none
 fq:mg "enumerate"=none
 A1:mg "any"=none
 zU:mg "all"=none
 s_:mg "sum"=none
 Ff:mg "zip"=none
 iR:mg "sorted"=none
 A3:mg "set"=none
 ib:PySem.W.kitOne K (.type "int") (.type "bool")=some false
 Xp:PySem.W.kitOne K (.type "int") (.type "str")=some false
 ZT:PySem.W.kitOne K (.type "tuple") (.type "str")=some false
 Wl:PySem.W.kitOne K (.type "tuple") (.type "int")=some false
 Wv:PySem.W.kitOne K (.type "list") (.type "str")=some false
 WV:PySem.W.kitOne K (.type "list") (.type "int")=some false
 YQ:PySem.W.kitOne K (.type "tuple") (.type "list")=some false
 klt:PySem.W.kitOne K (.type "list") (.type "tuple")=some false
 c9:BJ K Cm
 bW:fT K Cm "kept_rows"
 fP:fT K Cm "kept_share"
 Gs:∃a o its n,mg "HANDS"=some (.ref a)/\K.lookup a=some o/\o.cls= .type "tuple"/\o.data= .seq its n/\its.size<=sizeLine/\Paired (λ(z:Str) (u:Value)=>∃tk,u= .str z tk) ["one","other"] its.toList
 nO:∃tk,mg "MOST_DOORS"=some (.int 6 tk)
 hW:∃tk,mg "MOST_BOTTOM"=some (.int 1000000 tk)
 lE:∃tk,mg "MOST_PLACES"=some (.int 12 tk)
 eQ:∃tk,mg "MOST_SHARE_BOTTOM"=some (.int 1000 tk)
section
variable{K:fv}{base:Heap}{Cm:Addr}
def D5:DF:=λds M q _=>match ds with
 | [.int a, .int b]=>q (.int (g a b)) M
 | _=>False
theorem bE:Δ ["one","other","great","small","rest"] ["one","other"] (χ eR):= .of rfl
theorem mQ(F:eD K "common_divisor" "common_divisor" eR f fd)(E:Ev K mg Cm):aC P w K mg base (dh P w) 1 f fd ["one","other"] (eh K D5):=by
 refine F.gH bE (λds M q x h=> ?_) (λb8 A outer s H E' hr=>⟨_,(η (Β 2 bE.nd (z_ E.qF (ar (jv 0) ε)))
   (η (Β 3 bE.nd (z_ E.qF (ar (jv 1) ε)))
   (η (qZ (nB hr (jv 3) ν) (η (Β 4 bE.nd (bf (jv 2) (jv 3)))
   (η (Β 2 bE.nd (jv 3))
   (μ (Β 3 bE.nd (jv 4))))))
   (μ (Γ (jv 2)))))),λds M q x h=> ?_⟩)
 ·unfold D5 at h;split at h; · rfl
  ·exact h.elim
 ·unfold D5 at h;split at h
  ·rename_i a b;refine ⟨λm ρ M'=>M'=M/\∃(x y:Int) (r:Option Dt),ρ=[some (.int a),some (.int b),some (.int x),some (.int y),r]/\0<=x/\0<=y/\g x y=g a b/\m=y.toNat,⟨_,rfl,_,_,_,rfl,by split <;> omega,by split <;> omega,Jm a b,rfl⟩, ?_⟩;rintro m ρ M' ⟨rfl,x,y,r,rfl,hx,hy,e,rfl⟩;refine ⟨λhb=> ?_,λhb=> ?_⟩
   ·have HS:y≠0:=by simpa using hb
    refine ⟨_,λρ' M2 h2=>h2, ?_⟩;refine ⟨by omega,(x % y).toNat, ?_,rfl,y,x % y,_,rfl,hy,aaT _ HS, ?_,rfl⟩
    ·have:=aaV x (show 0 < y by omega);have:=aaT x HS;omega
    ·rw [<-abu x hy,Ez (by omega)];exact e
   ·have HS:y=0:=by simpa using hb
    subst HS;rw [Fg hx] at e;subst e;exact h
  ·exact h.elim
theorem BQ{i j:Int}(h:gU j)(l:i.natAbs<=j.natAbs):gU i:=aaN l h
def Al:DF:=λds M q _=>match ds with
 | [.int t, .int b]=>gU b/\(b=0->False)/\(b≠0->q (.tup [.int (ae t b).1, .int (ae t b).2]) M)
 | _=>False
theorem km:Δ ["top","bottom","divisor"] ["top","bottom"] (χ mV):= .of rfl
theorem wQ(F:eD K "fraction" "fraction" mV f fd)(E:Ev K mg Cm){e7:Addr}{fc:FuncData}(bD:aR P w K mg base 1 "common_divisor" ["one","other"] D5 e7 fc):aC P w K mg base (dh P w) 2 f fd ["top","bottom"] (eh K Al):=by
 refine F.gH km (λds M q x h=> ?_) (λb8 A outer s H E' hr=>⟨_,(η (aE (da hr (jv 1) ν) (μ kY) Ξ)
   (η (Β 2 km.nd (au bD hr ο (ar (jv 0) (ar (jv 1) ε))))
   (η (iX (aE (tI (jv 1) ν) (μ (Β 2 km.nd (sD (jv 2)))) Ξ))
   (μ (Γ (aD (ζ (FO (jv 0) (jv 2)) (ζ (FO (jv 1) (jv 2)) ε bJ) bJ))))))),λds M q x h=> ?_⟩)
 ·unfold Al at h;split at h; · rfl
  ·exact h.elim
 ·unfold Al at h;split at h
  ·rename_i t b;obtain ⟨hB,h0,h1⟩:=h;refine ⟨λhb=> ?_,λhb=> ?_⟩
   ·exact h0 (by simpa using hb)
   ·have Jz:b≠0:=by simpa using hb
    refine ⟨λρ M'=>M'=M/\ρ=[some (.int t),some (.int b),some (.int (dv t b))],⟨λhn=> ?_,λhn=> ?_⟩, ?_⟩
    ·have LV:b < 0:=by simpa using hn
     exact ⟨rfl,by unfold dv;rw [if_pos LV];rfl⟩
    ·have LV:¬b < 0:=by simpa using hn
     exact ⟨rfl,by unfold dv;rw [if_neg LV];rfl⟩
    ·rintro ρ M' ⟨rfl,rfl⟩;have hd:=zT (t:=t) Jz;have UX:gU (dv t b):=BQ hB (uY Jz);exact ⟨⟨hd,UX⟩,⟨hd,UX⟩,fI,h1 Jz⟩
  ·exact h.elim
abbrev Fr:=Int×Int
def Χ(p:Fr):Dt:= .tup [.int p.1, .int p.2]
def b_(p:Fr):Bool:=decide ((if p.1 < 0 then -p.1 else p.1)<=10 ^ 30)&&decide (p.2<=1000000)
def pH:DF:=λds M q _=>∃p,ds=[Χ p]/\q (.bl (b_ p)) M
theorem BL:Δ ["pay"] ["pay"] (χ rj):= .of rfl
theorem zP(F:eD K "fits_pay" "fits_pay" rj f fd)(E:Ev K mg Cm):aC P w K mg base (dh P w) 1 f fd ["pay"] (eh K pH):=by
 refine F.gH BL (λds M q x h=> ?_) (λb8 A outer s H E' hr=>⟨_,(μ (Γ (ix (yd (z_ E.qF (ζ (Κ (jv 0) ν) ε aT)) (gD ν ν)) (kC (yd (Κ (jv 0) ν) (qV E.hW)))))),λds M q x h=> ?_⟩)
 ·obtain ⟨p,rfl,_⟩:=h;rfl
 ·obtain ⟨p,rfl,h⟩:=h;refine ⟨⟨by decide,by decide,by decide⟩,λh1=> ?_,λh1=> ?_⟩
  ·have e:b_ p=decide (p.2<=1000000):=by unfold b_;rw [show decide ((if p.1 < 0 then -p.1 else p.1)<=10 ^ 30)=true from h1];rfl
   rw [e] at h;exact h
  ·have e:b_ p=false:=by unfold b_;rw [show decide ((if p.1 < 0 then -p.1 else p.1)<=10 ^ 30)=false from h1];rfl
   rw [e] at h;exact h
theorem ou{ok:Ms->Prop}(h:jD M d=some (xs,ok)):ok M:=by
 cases d with
 | lst ds=>cases h;trivial
 | dM ns=>cases h;trivial
 | loc k=>
  have h:(match M[k]? with | some (.lst xs)=>some (xs,λM':Ms=>M'[k]? =some (.lst xs)) | _=>none)=some (xs,ok):=h;split at h
  ·rename_i ys hm;cases h;exact hm
  ·cases h
 | _=>cases h
theorem qY{ok:Ms->Prop}(h:jD M d=some (xs,ok)):qD M d=some (xs,ok):=by
 cases d with
 | lst ds=>cases h;rfl
 | dM ns=>cases h;rfl
 | loc k=>exact h
 | _=>cases h
theorem aZ{ok:Ms->Prop}{q:List Dt->(Ms->Prop)->Ms->Prop}{x:DX}(hv:ρ[i]? =some (some d))(hl:jD M d=some (xs,ok))(h:q xs ok M):cX (ik i) ρ M q x:=by unfold cX ik;rw [hv];show (match qD M d with | some (xs,ok)=>q xs ok M | none=>False);rw [qY hl];exact h
theorem bg{n:Int}(h:n.natAbs < 2 ^ k)(hk:k<=8000:=by decide):gU n:=aaE h (Nat.pow_le_pow_right (by decide) hk)
def az(t:Int)(p:Fr)(size:Int):Bool:=decide (0<=t)&&(decide (t < size)&&b_ p)
def sW:DF:=λds M q _=>∃t p r size,ds=[.tup (.int t::Χ p::r), .int size]/\q (.bl (az t p size)) M
theorem yw:Δ ["door","size"] ["door","size"] (χ mK):= .of rfl
theorem xP(F:eD K "fits_door" "fits_door" mK f fd)(E:Ev K mg Cm){qR:Addr}{pD:FuncData}(eK:aR P w K mg base 1 "fits_pay" ["pay"] pH qR pD):aC P w K mg base (dh P w) 2 f fd ["door","size"] (eh K sW):=by
 refine F.gH yw (λds M q x h=> ?_) (λb8 A outer s H E' hr=>⟨_,(μ (Γ (ix (yd ν (Κ (jv 0) ν)) (ix (HA (Κ (jv 0) ν) (jv 1)) (kC (au eK hr ο (ζ (Κ (jv 0) ν) ε aT))))))),λds M q x h=> ?_⟩)
 ·obtain ⟨t,p,r,size,rfl,_⟩:=h;rfl
 ·obtain ⟨t,p,r,size,rfl,h⟩:=h;walk_at "vc";refine υ rfl Φ ?_;refine ⟨λh1=> ?_,λh1=> ?_⟩
  ·refine υ rfl Φ ⟨λh2=> ?_,λh2=> ?_⟩
   ·refine υ rfl (Ν (j:=1) rfl) ⟨p,rfl, ?_⟩;have e:az t p size=b_ p:=by unfold az;rw [h1,h2];rfl
    rw [<-e];exact h
   ·have e:az t p size=false:=by unfold az;rw [h1,h2];rfl
    rw [<-e];exact h
  ·have e:az t p size=false:=by unfold az;rw [h1];rfl
   rw [<-e];exact h
abbrev cb:=Int×Fr×List Fr
def ba(d:cb):Dt:= .tup (.int d.1::Χ d.2.1::d.2.2.map Χ)
def Ρ(ds:List cb)(size:Int):Bool:=decide (1<=ds.length)&&decide (ds.length<=6)&&ds.all λd=>az d.1 d.2.1 size
def qK:DF:=λas M q _=>∃d size ds ok,as=[d, .int size]/\jD M d=some (ds.map ba,ok)/\ds.length<=100/\q (.bl (Ρ ds size)) M
theorem nU:Δ ["doors","size"] ["doors","size"] (χ kI):= .of rfl
theorem vo(F:eD K "fits_doors" "fits_doors" kI f fd)(E:Ev K mg Cm){CA:Addr}{A9:FuncData}(jS:aR P w K mg base 2 "fits_door" ["door","size"] sW CA A9):aC P w K mg base (dh P w) 3 f fd ["doors","size"] (eh K qK):=by
 refine F.gH nU (λds M q x h=> ?_) (λb8 A outer s H E' hr=>⟨_,(η (aE (JW.jt (Ag (tI (dU E.cF (ar (jv 0) ε)) ν) (vR (J9 (dU E.cF (ar (jv 0) ε)) (qV E.nO))))) (μ (Γ CQ)) Ξ)
   (μ (Γ (Oz E.zU (ζ (c5 (ys:=["size"]) (Λ:=[1]) (.of nU rfl rfl rfl) (bu (jv 0)) (λC s H fp=>(au jS hr (dF (P:=P) (w:=w)) (ar (jv 0) (ar (jv 1) ε))))) ε))))),λds M q x h=> ?_⟩)
 ·obtain ⟨d,size,ds,ok,rfl,_⟩:=h;rfl
 ·obtain ⟨d,size,ds,ok,rfl,hl,hz,h⟩:=h;have hs:=kW hl;walk_at "vc";refine aL hs ⟨λh1=> ?_,λh1=> ?_⟩
  ·refine ⟨λ_=> ?_,λz=>(nomatch z)⟩;have e:Ρ ds size=false:=by
    have:(ds.length:Int) < 1:=by simpa using h1
    unfold Ρ;rw [aaK (by omega)];rfl
   rw [<-e];exact h
  ·have h1:¬(ds.length:Int) < 1:=by simpa using h1
   refine aL hs ⟨λh2=> ?_,λh2=> ?_⟩
   ·have e:Ρ ds size=false:=by
     have:6 < (ds.length:Int):=by simpa using h2
     unfold Ρ;rw [aaK (p:=ds.length<=6) (by omega),Bool.and_false];rfl
    rw [<-e];exact h
   ·have h2:¬6 < (ds.length:Int):=by simpa using h2
    refine aZ rfl hl ⟨by rw [aac];exact aax hz (by decide), ?_⟩;refine cM (f:=λd=> .bl (match d with | .tup (.int t:: .tup [.int a, .int b]::_)=>az t (a,b) size | _=>false)) (ou hl) (λx hx q hq=> ?_) ?_
    ·obtain ⟨y,_,rfl⟩:=aaf.mp hx;exact ⟨y.1,y.2.1,y.2.2.map Χ,size,rfl,hq⟩
    ·refine ⟨ds.map λd=>az d.1 d.2.1 size, ?_, ?_⟩
     ·rw [aas,aaR,aas];rfl
     ·have e:Ρ ds size=(ds.map λd=>az d.1 d.2.1 size).all id:=by unfold Ρ;rw [aam (show 1<=ds.length by omega),aam (show ds.length<=6 by omega),List.all_map];rfl
      rw [<-e];exact h
def gy(cs:List Fr):Int:=cs.foldl (λb c=>b * c.2 / g b c.2) 1
theorem iH{c:Int}(hb:0 < b)(hc:0 < c):0 < b * c / g b c/\b * c / g b c<=b * c/\0 < g b c/\g b c<=c:=by
 have hg:0 < g b c:=w6 (by omega);have V0:0 < b * c:=ab2 hb hc;have hd:g b c∣c:=Int.gcd_dvd_right ..;have hle:g b c<=c:=Int.le_of_dvd hc hd;have h1:c<=b * c:=by have:=Int.mul_le_mul_of_nonneg_right (show 1<=b by omega) (show 0<=c by omega);simpa using this
 refine ⟨Int.ediv_pos_of_pos_of_dvd V0 (by omega) (Int.dvd_mul_of_dvd_right hd), ?_,hg,hle⟩;exact Int.ediv_le_self _ (by omega)
def Pc(cs:List Fr):Prop:=cs.length<=12/\∀c∈cs,0 < c.2/\c.2 < 2 ^ 200/\c.1.natAbs < 2 ^ 200
def Y2(cs:List Fr):Prop:=cs.length<=13/\∀c∈cs,0 < c.2/\c.2 < 2 ^ 200
theorem m6:∀(cs:List Fr) (b:Int) (k:Nat),0 < b->b<=2 ^ (200 * k)->(∀c∈cs,0 < c.2/\c.2 < 2 ^ 200)->0 < cs.foldl (λb c=>b * c.2 / g b c.2) b/\cs.foldl (λb c=>b * c.2 / g b c.2) b<=2 ^ (200 * (k+cs.length))
 | [],b,k,h0,h1,_=>⟨h0,h1⟩
 | c::cs,b,k,h0,h1,hc=>by
  obtain ⟨c0,c1⟩:=hc c aak;obtain ⟨s0,s1,_⟩:=iH h0 c0;have Bl:b * c.2 / g b c.2<=2 ^ (200 * (k+1)):=by refine Int.le_trans s1 ?_;rw [show 200 * (k+1)=200 * k+200 by omega,Int.pow_add];exact Int.mul_le_mul h1 (aaX c1) (aaX c0) (aaX (Int.pow_pos (by decide)))
  have:=m6 cs _ (k+1) s0 Bl λd hd=>hc d (aag _ hd);rw [List.foldl_cons,aaO,show k+(cs.length+1)=k+1+cs.length by omega];exact this
theorem Qd{n:Int}(h0:0<=n)(h:n<=2 ^ k)(hk:k < 8000):gU n:=by
 refine bg (k:=k+1) ?_ hk;have:(n.natAbs:Int) < ((2 ^ (k+1):Nat):Int):=by rw [abO h0,Int.natCast_pow,Int.pow_succ];have:(0:Int) < 2 ^ k:=Int.pow_pos (by decide);show n < 2 ^ k * 2;omega
 exact Int.ofNat_lt.mp this
theorem jN:∀(cs:List Fr) (b:Int),0 < b->(∀c∈cs,0 < c.2)->0 < cs.foldl (λb c=>b * c.2 / g b c.2) b
 | [],_,h0,_=>h0
 | c::cs,b,h0,hc=>jN cs _ (iH h0 (hc c aak)).1 λd hd=>hc d (aag _ hd)
theorem Eh{n:Int}(h0:0<=n)(h:n < 2 ^ k)(hk:k<=8000):gU n:=by
 refine bg (k:=k) ?_ hk;have:(n.natAbs:Int) < ((2 ^ k:Nat):Int):=by rw [abO h0,Int.natCast_pow];exact h
 exact Int.ofNat_lt.mp this
def jJ:DF:=λds M q _=>∃cs:List Fr,ds=[.lst (cs.map Χ)]/\Y2 cs/\q (.int (gy cs)) M
theorem cZ:Δ ["chances","bottom","chance"] ["chances"] (χ fL):= .of rfl
theorem n9(F:eD K "common_bottom" "common_bottom" fL f fd)(E:Ev K mg Cm){e7:Addr}{fc:FuncData}(bD:aR P w K mg base 1 "common_divisor" ["one","other"] D5 e7 fc):aC P w K mg base (dh P w) 2 f fd ["chances"] (eh K jJ):=by
 refine F.gH cZ (λds M q x h=> ?_) (λb8 A outer s H E' hr=>⟨_,(η (Β 1 cZ.nd ν)
   (η (gW (bu (jv 0)) (aw (i:=2) cZ.nd rfl (Or.inl rfl)) aO (μ (Β 1 cZ.nd (dj (bF (jv 1) (Κ (jv 2) ν)) (au bD hr ο (ar (jv 1) (ζ (Κ (jv 2) ν) ε aT)))))))
   (μ (Γ (jv 1))))),λds M q x h=> ?_⟩)
 ·obtain ⟨cs,rfl,_⟩:=h;rfl
 ·obtain ⟨cs,rfl,⟨hz,hc⟩,h⟩:=h;walk_at "vc";refine aZ (i:=0) rfl rfl ?_;refine dH (λxs ρ M'=>M'=M/\∃Dq Η r,cs=Dq++Η/\xs=Η.map Χ/\ρ=[some (.lst (cs.map Χ)),some (.int (gy Dq)),r]) (λ_ _ _ _=>trivial) (λx xs ρ M' hj wJ=> ?_) (λρ M' hj=> ?_) _ _ _ ⟨rfl,[],cs,none,rfl,rfl,rfl⟩
  ·obtain ⟨rfl,Dq,Η,r,e,ex,rfl⟩:=hj;cases Η with
   | nil=>cases ex
   | cons c Η=>
    cases ex;have hd:∀d∈Dq,0 < d.2/\d.2 < 2 ^ 200:=λd hd=>by obtain ⟨a,b⟩:=hc d (by rw [e];exact aaH _ hd);exact ⟨a,b⟩
    obtain ⟨c0,c1⟩:=hc c (by rw [e];exact aar _ aak);obtain ⟨b0,b1⟩:=m6 Dq 1 0 (by decide) (by decide) hd;have hl:Dq.length<=13:=by have:=aa2 List.length e;rw [aai] at this;omega
    obtain ⟨s0,s1,g0,g1⟩:=iH b0 c0;refine ⟨⟨Qd (aaX b0) b1 (by omega),Eh (aaX c0) c1 (by decide)⟩,⟨g0,Eh (aaX g0) (Int.lt_of_le_of_lt g1 c1) (by decide)⟩, ?_⟩;refine wJ _ _ ⟨rfl,Dq++[c],Η,some (Χ c),by rw [e];simp,rfl, ?_⟩;have e2:gy (Dq++[c])=gy Dq * c.2 / g (gy Dq) c.2:=by unfold gy;rw [List.foldl_append];rfl
    rw [e2];rfl
  ·obtain ⟨rfl,Dq,Η,r,e,ex,rfl⟩:=hj;cases Η with
   | nil=>rw [aaW] at e;subst e;exact h
   | cons c Η=>cases ex
def Ο(cs:List Fr):Bool:= !(cs.any λc=>decide (c.1<=0))&&(decide ((cs.map λc=>c.1 * (gy cs / c.2)).sum=gy cs)&&decide (gy cs<=1000000))
def ly:DF:=λds M q _=>∃cs:List Fr,ds=[.lst (cs.map Χ)]/\Pc cs/\q (.bl (Ο cs)) M
theorem cI:Δ ["chances","bottom","whole"] ["chances"] (χ hX):= .of rfl
theorem qb(F:eD K "fits_chances" "fits_chances" hX f fd)(E:Ev K mg Cm){rX:Addr}{rB:FuncData}(eX:aR P w K mg base 2 "common_bottom" ["chances"] jJ rX rB):aC P w K mg base (dh P w) 3 f fd ["chances"] (eh K ly):=by
 refine F.gH cI (λds M q x h=> ?_) (λb8 A outer s H E' hr=>⟨_,(η (aE (jZ (QH E.A1 (ζ (c5 (ys:=[]) (Λ:=[]) (.of cI rfl rfl rfl) (bu (jv 0)) (λC s H fp=>(yd (Κ (jv 0) ν) ν))) ε))) (μ (Γ CQ)) Ξ)
   (η (Β 1 cI.nd (au eX hr ο (ar (jv 0) ε)))
   (η (Β 2 cI.nd (EO E.s_ (ζ (c5 (ys:=["bottom"]) (Λ:=[1]) (.of cI rfl rfl rfl) (bu (jv 0)) (λC s H fp=>(bF (Κ (jv 0) ν) (dj (jv 1) (Κ (jv 0) ν))))) ε)))
   (μ (Γ (ix (Pm hr (jv 2) (jv 1)) (kC (yd (jv 1) (qV E.hW))))))))),λds M q x h=> ?_⟩)
 ·obtain ⟨cs,rfl,_⟩:=h;rfl
 ·obtain ⟨cs,rfl,RM,h⟩:=h;obtain ⟨hz,hc⟩:=id RM;have NR:(cs.map Χ).length<=sizeLine:=by rw [aac];exact aax hz (by decide)
  obtain ⟨b0,b1⟩:=m6 cs 1 0 (by decide) (by decide) λc h=>⟨(hc c h).1,(hc c h).2.1⟩;walk_at "vc";refine aZ (i:=0) rfl rfl ⟨NR, ?_⟩;refine cM (f:=λd=> .bl (match d with | .tup [.int a, .int b]=>decide (a<=0) | _=>false)) trivial (λx hx q hq=> ?_) ?_
  ·obtain ⟨y,_,rfl⟩:=aaf.mp hx;exact hq
  ·refine ⟨cs.map λc=>decide (c.1<=0),by rw [aas,aaR,aas];rfl,λ_ z=>(nomatch z),λ_ z=>(nomatch z), ?_⟩;have ea:(cs.map λc=>decide (c.1<=0)).any id=cs.any λc=>decide (c.1<=0):=by rw [List.any_map];rfl
   rw [ea];refine ⟨λh1=> ?_,λh1=> ?_⟩
   ·have e:Ο cs=false:=by unfold Ο;rw [h1];rfl
    rw [<-e];exact h
   ·refine ⟨cs,rfl,⟨by omega,λc h=>⟨(hc c h).1,(hc c h).2.1⟩⟩, ?_⟩;walk_at "vc";refine aZ (i:=0) rfl rfl ⟨NR, ?_⟩;refine cM (f:=λd=> .int (match d with | .tup [.int a, .int b]=>a * (gy cs / b) | _=>0)) trivial (λx hx q hq=> ?_) ?_
    ·obtain ⟨y,hy,rfl⟩:=aaf.mp hx;obtain ⟨y0,y1,y2⟩:=hc y hy;refine ⟨⟨y0,Eh (aaX y0) y1 (by decide)⟩,⟨bg y2, ?_⟩,hq⟩;refine Qd (k:=200 * (0+cs.length)) (Int.ediv_nonneg (aaX b0) (aaX y0)) (Int.le_trans (Int.ediv_le_self _ (aaX b0)) b1) (by omega)
    ·refine ⟨cs.map λc=>c.1 * (gy cs / c.2),by rw [aas,aaR,aas];rfl,⟨_,_,rfl⟩, ?_⟩;refine ⟨λh2=> ?_,λh2=> ?_⟩
     ·have e:Ο cs=decide (gy cs<=1000000):=by unfold Ο;rw [h1,h2];rfl
      rw [e] at h;exact h
     ·have e:Ο cs=false:=by unfold Ο;rw [h1,h2];rfl
      rw [<-e];exact h
inductive Rw where
 | fin (p:Fr)
 | ι (k:Str) (ds:List cb)
def θ(d:cb):Fr:=d.2.2.headD (0,1)
def cC:Rw->Prop
 | .fin p=>0 < p.2
 | .ι k ds=>k≠"end"/\ds.length<=12/\(k="chance"->(∀d∈ds,d.2.2=[θ d])/\Pc (ds.map θ))/\∀d∈ds,d.2.2.length<=1/\0 < d.2.1.2
def iU(M:Ms)(d:Dt):Rw->Prop
 | .fin p=>d= .tup [.str "end",Χ p]
 | .ι k ds=>∃e ok,d= .tup [.str k,e]/\jD M e=some (ds.map ba,ok)
def ak:Rw->Dt
 | .fin p=> .tup [.str "end",Χ p]
 | .ι k ds=> .tup [.str k, .lst (ds.map ba)]
theorem AD(M:Ms)(r:Rw):iU M (ak r) r:=by
 cases r with
 | fin p=>rfl
 | ι k ds=>exact ⟨_,_,rfl,rfl⟩
theorem vG(p:Fr):(Χ p).under n:=⟨trivial,trivial,trivial⟩
theorem AF{n:Nat}:∀(ps:List Fr),Dt.bz n (ps.map Χ)
 | []=>trivial
 | p::ps=>⟨vG p,AF ps⟩
theorem Mi(d:cb):(ba d).under n:=⟨trivial,vG _,AF _⟩
theorem gT{n:Nat}:∀(ds:List cb),Dt.bz n (ds.map ba)
 | []=>trivial
 | d::ds=>⟨Mi d,gT ds⟩
theorem oR(r:Rw):(ak r).under n:=by
 cases r with
 | fin p=>exact ⟨trivial,vG p,trivial⟩
 | ι k ds=>exact ⟨trivial,gT ds,trivial⟩
def b9(k:Str):Bool:=k=="one" || k=="other"
def fk(r:Rw)(size:Int):Bool:=match r with
 | .fin p=>b_ p
 | .ι k ds=>if b9 k then Ρ ds size else if k="chance" then Ρ ds size&&Ο (ds.map θ) else false
theorem ED{j:Int}{ok:Ms->Prop}{q:List Dt->(Ms->Prop)->Ms->Prop}{x:DX}(hv:ρ[i]? =some (some (.tup ds)))(hj:i9 ds j=some d)(hl:jD M d=some (xs,ok))(h:q xs ok M):cX (kP cq (ik i) (dC (.int j))) ρ M q x:=by unfold cX kP ik;rw [hv];show cq (.tup ds) (.int j) M (λd M1=>match qD M1 d with | some (xs,ok)=>q xs ok M1 | none=>False);refine υ rfl hj ?_;show (match qD M d with | some (xs,ok)=>q xs ok M | none=>False);rw [qY hl];exact h
theorem Fw{k:Str}:Q1 (.str k) [.str "one", .str "other"]=b9 k:=by show ((("one":Str)==k) || ((("other":Str)==k) || false))=(k=="one" || k=="other");rw [Bool.or_false,BEq.comm (a:=("one":Str)),BEq.comm (a:=("other":Str))]
def xo:DF:=λas M q _=>∃d r size,as=[d, .int size]/\iU M d r/\cC r/\q (.bl (fk r size)) M
theorem mX:Δ ["row","size","kind"] ["row","size"] (χ ph):= .of rfl
theorem zG   (F:eD K "fits_row" "fits_row" ph f fd) (E:Ev K mg Cm) {qR:Addr} {pD:FuncData} (eK:aR P w K mg base 1 "fits_pay" ["pay"] pH qR pD) {yi:Addr} {yK:FuncData} (fC:aR P w K mg base 3 "fits_doors" ["doors","size"] qK yi yK) {uU:Addr} {uh:FuncData} (fM:aR P w K mg base 3 "fits_chances" ["chances"] ly uU uh):aC P w K mg base (dh P w) 4 f fd ["row","size"] (eh K xo):=by
 refine F.gH mX (λds M q x h=> ?_) (λb8 A outer s H E' hr=>⟨_,(η (Β 2 mX.nd (Κ (jv 0) ν))
   (η (aE (da hr (jv 2) fX) (μ (Γ (au eK hr ο (ζ (Κ (jv 0) ν) ε aT)))) Ξ)
   (η (aE (Nh (jv 2) (PY E.Gs)) (μ (Γ (au fC hr ο (ζ (Κ (jv 0) ν) (ar (jv 1) ε) aT)))) Ξ)
   (η (aE (da hr (jv 2) fX) (μ (Γ (ix (au fC hr ο (ζ (Κ (jv 0) ν) (ar (jv 1) ε) aT)) (kC (au fM hr ο (ζ (c5 (ys:=[]) (Λ:=[]) (.of mX rfl rfl rfl) (bu (Κ (jv 0) ν)) (λC s H fp=>(Κ (jv 0) ν))) ε)))))) Ξ)
   (μ (Γ CQ)))))),λds M q x h=> ?_⟩)
 ·obtain ⟨d,r,size,rfl,_⟩:=h;rfl
 ·obtain ⟨d,r,size,rfl,ra,ro,h⟩:=h;cases r with
  | fin p=>
   have ra:d= .tup [.str "end",Χ p]:=ra;subst ra;exact ⟨λ_=>⟨p,rfl,h⟩,λz=>(nomatch z)⟩
  | ι k ds=>
   obtain ⟨e,ok,rfl,hl⟩:=ra;obtain ⟨hk,hz,Au,_⟩:=ro;refine ⟨λz=>aaI (aaq z) hk,λ_=> ?_⟩;refine ⟨.str k,[.str "one", .str "other"],[.str "one", .str "other"],rfl,rfl,rfl, ?_⟩;rw [Fw];refine ⟨λh1=> ?_,λh1=> ?_⟩
   ·refine ⟨e,size,ds,ok,rfl,hl,by omega, ?_⟩;have e1:fk (.ι k ds) size=Ρ ds size:=by show (if b9 k then _ else _)=_;rw [aaF h1]
    rw [<-e1];exact h
   ·have e1:fk (.ι k ds) size=if k="chance" then Ρ ds size&&Ο (ds.map θ) else false:=by show (if b9 k then _ else _)=_;rw [aaA (by rw [h1];decide)]
    rw [e1] at h;refine ⟨λh2=> ?_,λh2=> ?_⟩
    ·have h2:k="chance":=aaq h2;rw [aaF h2] at h;obtain ⟨Oo,RM⟩:=Au h2;refine ⟨e,size,ds,ok,rfl,hl,by omega,λh3=> ?_,λh3=> ?_⟩
     ·rw [h3,Bool.true_and] at h;show cX _ _ _ _ _;refine ED (i:=0) (j:=1) (ds:=[.str k,e]) rfl (Ν (j:=1) rfl) hl ⟨by rw [aac];exact aax hz (by decide), ?_⟩;refine cM (f:=λd=>match d with | .tup [_,_,c]=>c | _=> .bV) (ou hl) (λx hx q hq=> ?_) ?_
      ·obtain ⟨y,hy,rfl⟩:=aaf.mp hx;have ey:ba y= .tup [.int y.1,Χ y.2.1,Χ (θ y)]:=by unfold ba;rw [Oo y hy];rfl
       rw [ey] at hq⊢;exact hq
      ·refine ⟨ds.map θ, ?_,RM,h⟩;rw [aaR,aas,aas];have:∀y∈ds,((λd=>match d with | Dt.tup [_,_,c]=>c | _=>Dt.bV) ∘ ba) y=(Χ ∘ θ) y:=λy hy=>by
        have ey:ba y= .tup [.int y.1,Χ y.2.1,Χ (θ y)]:=by unfold ba;rw [Oo y hy];rfl
        show (match ba y with | Dt.tup [_,_,c]=>c | _=>Dt.bV)=Χ (θ y);rw [ey]
       rw [aaS this]
     ·rw [h3,Bool.false_and] at h;exact h
    ·have h2:k≠"chance":=abH h2;rw [aaA h2] at h;exact h
def kD:DF:=λas M q _=>∃d r,as=[d]/\iU M d r/\cC r/\match r with
 | .fin p=>q (.tup [.str "end",Χ p]) M
 | .ι k ds=>q (.tup [.str k, .loc M.length]) (M++[.lst (ds.map ba)])
theorem wU:Δ ["row"] ["row"] (χ j0):= .of rfl
theorem u0(F:eD K "copied_row" "copied_row" j0 f fd)(E:Ev K mg Cm):aC P w K mg base (dh P w) 1 f fd ["row"] (eh K kD):=by
 refine F.gH wU (λds M q x h=> ?_) (λb8 A outer s H E' hr=>⟨_,(η (aE (da hr (Κ (jv 0) ν) fX) (μ (Γ (aD (ζ (Κ (jv 0) ν) (ζ (Κ (jv 0) ν) ε aT) aT)))) Ξ)
   (μ (Γ (aD (ζ (Κ (jv 0) ν) (ζ (Fv E.gX (ζ (Κ (jv 0) ν) ε aT)) ε bc) aT))))),λds M q x h=> ?_⟩)
 ·obtain ⟨d,r,rfl,_⟩:=h;rfl
 ·obtain ⟨d,r,rfl,ra,ro,h⟩:=h;cases r with
  | fin p=>
   have ra:d= .tup [.str "end",Χ p]:=ra;subst ra;exact ⟨λ_=>⟨fI,h⟩,λz=>(nomatch z)⟩
  | ι k ds=>
   obtain ⟨e,ok,rfl,hl⟩:=ra;refine ⟨λz=>aaI (aaq z) ro.1,λ_=> ?_⟩;show (match gJ M e with | some xs=>_ | none=>False);rw [kW hl];exact ⟨fI,h⟩
def eJ(p:Fr):Bool:=decide (0<=p.1)&&(decide (p.1 < p.2)&&decide (p.2<=1000))
def pQ:DF:=λas M q _=>∃p,as=[Χ p]/\q (.bl (eJ p)) M
theorem xW:Δ ["share"] ["share"] (χ kG):= .of rfl
theorem uO(F:eD K "fits_share" "fits_share" kG f fd)(E:Ev K mg Cm):aC P w K mg base (dh P w) 1 f fd ["share"] (eh K pQ):=by
 refine F.gH xW (λds M q x h=> ?_) (λb8 A outer s H E' hr=>⟨_,(μ (Γ (ix (yd ν (Κ (jv 0) ν)) (ix (HA (Κ (jv 0) ν) (Κ (jv 0) ν)) (kC (yd (Κ (jv 0) ν) (qV E.eQ))))))),λds M q x h=> ?_⟩)
 ·obtain ⟨p,rfl,_⟩:=h;rfl
 ·obtain ⟨p,rfl,h⟩:=h;unfold eJ at h;refine ⟨λh1=>⟨λh2=> ?_,λh2=> ?_⟩,λh1=> ?_⟩
  ·rw [show decide (0<=p.1)=true from h1,show decide (p.1 < p.2)=true from h2] at h;exact h
  ·rw [show decide (0<=p.1)=true from h1,show decide (p.1 < p.2)=false from h2] at h;exact h
  ·rw [show decide (0<=p.1)=false from h1] at h;exact h
theorem Jg{c:Int}(hb:b∣S)(hc:c∣S)(Jz:0 < b)(V5:0 < c):b * c / g b c∣S/\b∣b * c / g b c/\c∣b * c / g b c:=by
 have e:b * c / g b c=(Int.lcm b c:Nat):=by
  have h:=Int.gcd_mul_lcm b c;have hg:0 < g b c:=w6 (by omega);have h2:((Int.gcd b c:Nat):Int) * ((Int.lcm b c:Nat):Int)=b * c:=by rw [<-Int.natCast_mul,h,Int.natCast_mul,abO (aaX Jz),abO (aaX V5)]
  rw [<-h2];exact Int.mul_ediv_cancel_left _ (by unfold g at hg;omega)
 rw [e];exact ⟨Int.coe_lcm_dvd hb hc,Int.dvd_lcm_left ..,Int.dvd_lcm_right ..⟩
theorem pX:∀(cs:List Fr) (b S:Int),0 < b->b∣S->(∀c∈cs,0 < c.2/\c.2∣S)->cs.foldl (λb c=>b * c.2 / g b c.2) b∣S/\b∣cs.foldl (λb c=>b * c.2 / g b c.2) b/\∀c∈cs,c.2∣cs.foldl (λb c=>b * c.2 / g b c.2) b
 | [],b,S,_,h,_=>⟨h,Int.dvd_refl b,λc hc=>nomatch hc⟩
 | c::cs,b,S,h0,h,hc=>by
  obtain ⟨c0,cS⟩:=hc c aak;obtain ⟨d1,d2,d3⟩:=Jg h cS h0 c0;obtain ⟨i1,i2,i3⟩:=pX cs _ S (iH h0 c0).1 d1 λx hx=>hc x (aag _ hx);rw [List.foldl_cons];refine ⟨i1,Int.dvd_trans d2 i2,λx hx=> ?_⟩;rcases aaB.mp hx with rfl | hx
  ·exact Int.dvd_trans d3 i2
  ·exact i3 x hx
theorem nR(m:Int)(f:Int->Int):∀(ws:List Int),(ws.map λw=>m * f w).sum=m * (ws.map f).sum
 | []=>by simp
 | w::ws=>by simp only [List.map_cons,List.sum_cons];rw [nR m f ws,Int.mul_add]
theorem pS(h:0 < b):(ae t b).2∣b:=by obtain ⟨p,q,e,_,_,_,eb⟩:=eG (t:=t) (show b≠0 by omega);rw [e];exact ⟨dv t b,by show b=q * dv t b;rw [abV];exact eb⟩
theorem nq(ht:0 < t)(h:0 < b):0 < (ae t b).1:=by have hc:=bH (t:=t) (show b≠0 by omega);have hp:=aU (t:=t) (show b≠0 by omega);have h1:0 < t * (ae t b).2:=ab2 ht hp;rw [hc] at h1;exact Int.pos_of_mul_pos_right h1 h |> λz=>z
theorem kq{ws:List Int}(hS:ws.sum=S)(hw:∀w∈ws,0 < w)(hn:ws≠[])(U_:S<=1000000)(hz:ws.length<=12):Ο (ws.map λw=>ae w S)=true/\Pc (ws.map λw=>ae w S):=by
 have pos:∀{l:List Int},(∀w∈l,0 < w)->0<=l.sum/\(l≠[]->0 < l.sum)/\∀w∈l,w<=l.sum:=by
  intro l
  induction l with
  | nil=>exact λ_=>⟨by simp,λz=>absurd rfl z,λw hw=>nomatch hw⟩
  | cons a l ih=>
   intro h;obtain ⟨i1,i2,i3⟩:=ih λw hw=>h w (aag _ hw);have:=h a aak;rw [abg];refine ⟨by omega,λ_=>by omega,λw hw=> ?_⟩;rcases aaB.mp hw with rfl | hw
   ·omega
   ·have:=i3 w hw;omega
 obtain ⟨_,p2,p3⟩:=pos hw;have S0:0 < S:=by rw [<-hS];exact p2 hn
 have NQ:S≠0:=by omega
 have hd:∀c∈ws.map (λw=>ae w S),0 < c.2/\c.2∣S:=λc hc=>by obtain ⟨w,_,rfl⟩:=aaf.mp hc;exact ⟨aU NQ,pS S0⟩
 obtain ⟨⟨m,hm⟩,_,hB⟩:=pX (ws.map λw=>ae w S) 1 S (by decide) (Int.one_dvd _) hd;have B0:0 < gy (ws.map λw=>ae w S):=by refine (jN (ws.map λw=>ae w S) 1 (by decide) λc hc=>(hd c hc).1)
 generalize TC:gy (ws.map λw=>ae w S)=B at *
 have hm:S=B * m:=by rw [<-TC];exact hm
 have m0:0 < m:=by
  rcases Int.lt_trichotomy m 0 with h | h | h
  ·have:=Int.mul_neg_of_pos_of_neg B0 h;omega
  ·rw [h,Int.mul_zero] at hm;omega
  ·exact h
 have key:((ws.map λw=>ae w S).map λc=>c.1 * (B / c.2)).sum=B:=by
  have e1:∀w∈ws,m * ((ae w S).1 * (B / (ae w S).2))=w:=λw hw=>by
   have hb:(ae w S).2∣B:=by rw [<-TC];exact hB _ (aaf.mpr ⟨w,hw,rfl⟩)
   obtain ⟨k,hk⟩:=hb;have q0:=aU (t:=w) NQ;have e2:B / (ae w S).2=k:=by rw [hk];exact abn _ (by omega)
   have hc:=bH (t:=w) NQ;rw [e2];have Ka:S=(ae w S).2 * k * m:=by rw [<-hk];exact hm
   generalize (ae w S).1=x at *
   generalize (ae w S).2=y at *
   have e4:S * x=y * (m * (x * k)):=by rw [Ka];simp only [Int.mul_assoc,Int.mul_comm,Int.mul_left_comm]
   have e3:y * (m * (x * k))=y * w:=by rw [<-e4,<-hc,abV]
   exact abb (by omega) e3
  have e5:m * ((ws.map λw=>ae w S).map λc=>c.1 * (B / c.2)).sum=m * B:=by rw [aas];show m * (ws.map λw=>(ae w S).1 * (B / (ae w S).2)).sum=m * B;rw [<-nR,aaS e1,List.map_id',hS,hm,abV]
  exact abb (by omega) e5
 refine ⟨?_,⟨by rw [aac];exact hz,λc hc=> ?_⟩⟩
 ·unfold Ο;rw [TC,key];have ha:((ws.map λw=>ae w S).any λc=>decide (c.1<=0))=false:=by rw [List.any_eq_false];intro c hc;obtain ⟨w,Ro,rfl⟩:=aaf.mp hc;have:=nq (hw w Ro) S0;simpa using this
  have hle:B<=S:=by have:=Int.mul_le_mul_of_nonneg_left (show 1<=m by omega) (aaX B0);rw [Int.mul_one,<-hm] at this;exact this
  rw [ha,aam rfl,aam (show B<=1000000 by omega)];rfl
 ·obtain ⟨w,Ro,rfl⟩:=aaf.mp hc;have q0:=aU (t:=w) NQ;have l1:=pW (t:=w) NQ;have l2:=l6 (t:=w) NQ;have:=p3 w Ro;have w0:=hw w Ro;have big:(1000000:Int) < 2 ^ 200:=by decide
  have WL:1000000 < 2 ^ 200:=by decide
  exact ⟨q0,by omega,by omega⟩
theorem qB{α:Type}{te:DE}{cs:En}{ok:Ms->Prop}{F:Dt->α->Prop}{f:α->Dt}{M:Ms}{k:List Dt->Ms->Prop}(ho:ok M)(ht:∀x a,F x a->∀q:DQ,q (f a) M->te (some x::cs) M q jw):∀{xs:List Dt} {as:List α} {af:List Dt},Paired F xs as->k (af++as.map f) M->gr te cs ok xs af M k
 | _,_,af, .nil,h=>⟨ho,by simpa using h⟩
 | _,_,af, .cons r t,h=>⟨ho,ht _ _ r _ (qB ho ht t (by simpa using h))⟩
theorem wj{C C':Addr}{ns ns':List Str}{xs':List Dt}{ys:List Dt}{ok:Ms->Prop}(hk:M[k]? =some (.ins C ns xs))(h:jD M e=some (ys,ok)):jD (M.set k (.ins C' ns' xs')) e=some (ys,ok):=by
 cases e with
 | lst ds=>exact h
 | dM ns=>exact h
 | loc j=>
  have h:(match M[j]? with | some (.lst xs)=>some (xs,λM':Ms=>M'[j]? =some (.lst xs)) | _=>none)=some (ys,ok):=h;have ne:k≠j:=λz=>by subst z;rw [hk] at h;cases h
  show (match (M.set k (.ins C' ns' xs'))[j]? with | some (.lst xs)=>some (xs,λM':Ms=>M'[j]? =some (.lst xs)) | _=>none)=some (ys,ok);rw [aa4 ne];exact h
 | _=>cases h
theorem Bo{C C':Addr}{ns ns':List Str}{xs':List Dt}{r:Rw}(hk:M[k]? =some (.ins C ns xs))(h:iU M d r):iU (M.set k (.ins C' ns' xs')) d r:=by
 cases r with
 | fin p=>exact h
 | ι k' ds=>
  obtain ⟨e,ok,h1,h2⟩:=h;exact ⟨e,ok,h1,wj hk h2⟩
theorem Cs{C:Addr}{f:Str}{v:Dt}{ns:List Str}{ok:Ms->Prop}{q:List Dt->(Ms->Prop)->Ms->Prop}{x:DX}(hv:ρ[i]? =some (some d))(ho:Ho C M d ns ds)(hf:(ns.zip ds).lookup f=some v)(hl:jD M v=some (xs,ok))(h:q xs ok M):cX (KG C f (ik i)) ρ M q x:=by unfold cX KG ik;rw [hv];refine ⟨ns,ds,v,ho,hf, ?_⟩;show (match qD M v with | some (xs,ok)=>q xs ok M | none=>False);rw [qY hl];exact h
def Ε(C:Addr)(Α:Fr)(γ:List Rw):Dt:= .obj C ["kept_share","kept_rows"] [Χ Α, .lst (γ.map ak)]
def EN(Cm:Addr):DF:=λas M q _=>∃k d Α ds γ ok,as=[.loc k,Χ Α,d]/\M[k]? =some (.ins Cm [] [])/\jD M d=some (ds,ok)/\Paired (iU M) ds γ/\eJ Α=true/\1<=γ.length/\γ.length<=12/\
 (∀r∈γ,cC r/\fk r γ.length=true)/\q .bV (M.set k (.ins Cm ["kept_share","kept_rows"] [Χ Α, .lst (γ.map ak)]))
theorem fJ:Δ ["self","share","rows","place","row"] ["self","share","rows"] (χ kF):= .of rfl
theorem vC(F:eD K "__init__" "Floor.__init__" kF f fd)(E:Ev K mg Cm){zE:Addr}{y8:FuncData}(iI:aR P w K mg base 1 "fits_share" ["share"] pQ zE y8){FF:Addr}{Gb:FuncData}(mj:aR P w K mg base 4 "fits_row" ["row","size"] xo FF Gb){kK:Addr}{ky:FuncData}(cP:aR P w K mg base 1 "copied_row" ["row"] kD kK ky):aC P w K mg base (dh P w) 5 f fd ["self","share","rows"] (eh K (EN Cm)):=by
 refine F.gH fJ (λds M q x h=> ?_) (λb8 A outer s H E' hr=>⟨_,(η (aE (zr (jZ (au iI hr ο (ar (jv 1) ε)))) (μ kY) Ξ)
   (η (aE (JW.jt (Ag (tI (dU E.cF (ar (jv 2) ε)) ν) (vR (J9 (dU E.cF (ar (jv 2) ε)) (qV E.lE))))) (μ kY) Ξ)
   (η (gW (IA E.fq (ar (jv 2) ε)) (qP rfl (cf (aw (i:=3) fJ.nd rfl (Or.inl rfl)) (cf (aw (i:=4) fJ.nd rfl (Or.inl rfl)) lV))) D4 (μ (aE (zr (jZ (au mj hr ο (ar (jv 4) (ζ (dU E.cF (ar (jv 2) ε)) ε bc))))) (μ kY) Ξ)))
   (η (AE E.c9 E.fP (jv 0) (jv 1))
   (μ (AE E.c9 E.bW (jv 0) (c5 (ys:=[]) (Λ:=[]) (.of fJ rfl rfl rfl) (bu (jv 2)) (λC s H fp=>(dR (au cP hr (dF (P:=P) (w:=w)) (ar (jv 0) ε))))))))))),λds M q x h=> ?_⟩)
 ·obtain ⟨k,d,Α,ds,γ,ok,rfl,_⟩:=h;rfl
 ·obtain ⟨k,d,Α,ds,γ,ok,rfl,hk,hl,hp,hs,h1,Vq,OQ,h⟩:=h;have hlen:ds.length=γ.length:=Paired.length hp;walk_at "vc";refine ⟨Α,rfl,λz=> ?_,λ_=> ?_⟩
  ·rw [hs] at z;exact nomatch z
  have RF:=kW hl;refine aL RF ⟨λz=> ?_,λ_=> ?_⟩
  ·have:(ds.length:Int) < 1:=by simpa using z
   omega
  refine aL RF ⟨λz=> ?_,λ_=> ?_⟩
  ·have:12 < (ds.length:Int):=by simpa using z
   omega
  refine ⟨d,ds,ok,rfl,hl, ?_⟩;refine dH (λxs ρ M'=>M'=M/\∃n GR Ae a b,xs=jK n GR/\Paired (iU M) GR Ae/\(∀r∈Ae,r∈γ)/\ρ=[some (.loc k),some (Χ Α),some d,a,b]) (λxs ρ M' hj=>by obtain ⟨rfl,_⟩:=hj;exact ou hl) (λx xs ρ M' hj wJ=> ?_) (λρ M' hj=> ?_) _ _ _ ⟨rfl,0,ds,γ,none,none,rfl,hp,λ_ h=>h,rfl⟩
  ·obtain ⟨rfl,n,GR,Ae,a,b,ex,N1,uX,rfl⟩:=hj;cases N1 with
   | nil=>cases ex
   | cons ra t=>
    rename_i d1 r1 X' Qr;cases ex;refine aL RF ⟨d1,r1,ds.length,rfl,ra,(OQ r1 (uX r1 aak)).1,λz=> ?_,λ_=> ?_⟩
    ·rw [hlen,(OQ r1 (uX r1 aak)).2] at z;exact nomatch z
    ·exact wJ _ _ ⟨rfl,n+1,X',Qr,_,_,rfl,t,λr hr=>uX r (aag _ hr),rfl⟩
  ·obtain ⟨rfl,n,GR,Ae,a,b,ex,N1,uX,rfl⟩:=hj;have XO:k < M'.length:=(aad.mp hk).1;refine ⟨k,[],[],rfl,hk,(λz=>(nomatch z)),by decide, ?_⟩;have M_:=wj (C':=Cm) (ns':=["kept_share"]) (xs':=[Χ Α]) hk hl;dsimp only [Jk,List.nil_append];show cX _ _ _ _ _;refine aZ (i:=2) rfl M_ ⟨by rw [hlen];exact aax Vq (by decide), ?_⟩;have KY:Paired (λx a=>iU (M'.set k (.ins Cm ["kept_share"] [Χ Α])) x a/\cC a) ds γ:=by
    have:∀{xs:List Dt} {rs:List Rw},Paired (iU M') xs rs->(∀r∈rs,cC r)->Paired (λx a=>iU (M'.set k (.ins Cm ["kept_share"] [Χ Α])) x a/\cC a) xs rs:=by
     intro xs rs hp
     induction hp with
     | nil=>exact λ_=> .nil
     | cons r t ih=>exact λh=> .cons ⟨Bo hk r,h _ aak⟩ (ih λy hy=>h y (aag _ hy))
    exact this hp λr hr=>(OQ r hr).1
   refine qB (f:=ak) (ou M_) (λx a ha q' hq=> ?ht) KY ?fin
   case ht=>
    obtain ⟨ha,ho⟩:=ha;refine ⟨x,a,rfl,ha,ho, ?_⟩;cases a with
    | fin p=>exact G8 ⟨trivial,vG p,trivial⟩ hq
    | ι k2 Cj=>exact mz (.tup (.cons (.old trivial) (.cons (.A8 (Nat.le_refl _) (by simp) (gA.old (gT Cj))) .nil))) hq
   case fin=>
    refine ⟨k,["kept_share"],[Χ Α],rfl,by rw [aba XO],by decide,by decide, ?_⟩;rw [List.set_set];exact h
def kindOf:Rw->Str
 | .fin _=>"end"
 | .ι k _=>k
def cw:Rw->List cb
 | .fin _=>[]
 | .ι _ ds=>ds
def JH:Rw->Dt
 | .fin p=>Χ p
 | .ι _ _=> .bV
def jM:Nat->List Rw->List Dt
 | _,[]=>[]
 | n, .fin p::r=> .tup [.str "end",Χ p]::jM n r
 | n, .ι k _::r=> .tup [.str k, .loc n]::jM (n+1) r
def ig:List Rw->Ms
 | []=>[]
 | .fin _::r=>ig r
 | .ι _ ds::r=> .lst (ds.map ba)::ig r
theorem uH{γ:List Rw}{r:Rw}(h:γ[i]? =some r):(γ.map ak)[i]? =some (ak r):=by rw [aaj,h];rfl
theorem Ml{r:Rw}:∃e,ak r= .tup [.str (kindOf r),e]:=by
 cases r with
 | fin p=>exact ⟨_,rfl⟩
 | ι k ds=>exact ⟨_,rfl⟩
def z7(C:Addr):DF:=λas M q _=>∃Α γ,as=[Ε C Α γ]/\q (.int γ.length) M
theorem wa:Δ ["self"] ["self"] (χ kj):= .of rfl
theorem uS(F:eD K "size" "Floor.size" kj f fd)(E:Ev K mg Cm):aC P w K mg base (dh P w) 1 f fd ["self"] (eh K (z7 Cm)):=by
 refine F.gH wa (λds M q x h=> ?_) (λb8 A outer s H E' hr=>⟨_,(μ (Γ (dU E.cF (ζ (tP E.c9 E.bW (jv 0)) ε)))),λds M q x h=> ?_⟩)
 ·obtain ⟨Α,γ,rfl,_⟩:=h;rfl
 ·obtain ⟨Α,γ,rfl,h⟩:=h;refine ⟨_,_,_, .inl rfl,rfl, ?_⟩;show iF [.lst (γ.map ak)] M _;refine aL (xs:=γ.map ak) rfl ?_;rw [aac];exact h
def zN(C:Addr):DF:=λas M q _=>∃Α γ,as=[Ε C Α γ]/\q (Χ Α) M
theorem vp:Δ ["self"] ["self"] (χ iG):= .of rfl
theorem rQ(F:eD K "share" "Floor.share" iG f fd)(E:Ev K mg Cm):aC P w K mg base (dh P w) 1 f fd ["self"] (eh K (zN Cm)):=by
 refine F.gH vp (λds M q x h=> ?_) (λb8 A outer s H E' hr=>⟨_,(μ (Γ (tP E.c9 E.fP (jv 0)))),λds M q x h=> ?_⟩)
 ·obtain ⟨Α,γ,rfl,_⟩:=h;rfl
 ·obtain ⟨Α,γ,rfl,h⟩:=h;exact ⟨_,_,_, .inl rfl,rfl,h⟩
def sP(C:Addr):DF:=λas M q _=>∃Α γ i r,as=[Ε C Α γ, .int (i:Nat)]/\γ[i]? =some r/\q (.str (kindOf r)) M
theorem wN:Δ ["self","place"] ["self","place"] (χ kf):= .of rfl
theorem ug(F:eD K "kind" "Floor.kind" kf f fd)(E:Ev K mg Cm):aC P w K mg base (dh P w) 1 f fd ["self","place"] (eh K (sP Cm)):=by
 refine F.gH wN (λds M q x h=> ?_) (λb8 A outer s H E' hr=>⟨_,(μ (Γ (Κ (Κ (tP E.c9 E.bW (jv 0)) (jv 1)) ν))),λds M q x h=> ?_⟩)
 ·obtain ⟨Α,γ,i,r,rfl,_⟩:=h;rfl
 ·obtain ⟨Α,γ,i,r,rfl,hi,h⟩:=h;refine ⟨_,_,_, .inl rfl,rfl, ?_⟩;walk_at "vc";refine υ (xs:=γ.map ak) rfl (Ν (uH hi)) ?_;obtain ⟨e,er⟩:=Ml (r:=r);rw [er];exact h
def GC(C:Addr):DF:=λas M q _=>∃Α γ i r,as=[Ε C Α γ, .int (i:Nat)]/\γ[i]? =some r/\cC r/\q (.loc M.length) (M++[.lst ((cw r).map ba)])
theorem vi:Δ ["self","place"] ["self","place"] (χ iD):= .of rfl
theorem r8(F:eD K "doors" "Floor.doors" iD f fd)(E:Ev K mg Cm)(Υ:fh P w K mg base 1 Cm "kind" ["self","place"] (sP Cm) bR b5):aC P w K mg base (dh P w) 2 f fd ["self","place"] (eh K (GC Cm)):=by
 refine F.gH vi (λds M q x h=> ?_) (λb8 A outer s H E' hr=>⟨_,(η (aE (da hr (fY Υ hr ο (jv 0) (ar (jv 1) ε)) fX) (μ (Γ (m8 ε))) Ξ)
   (μ (Γ (Fv E.gX (ζ (Κ (Κ (tP E.c9 E.bW (jv 0)) (jv 1)) ν) ε aT))))),λds M q x h=> ?_⟩)
 ·obtain ⟨Α,γ,i,r,rfl,_⟩:=h;rfl
 ·obtain ⟨Α,γ,i,r,rfl,hi,ro,h⟩:=h;refine ⟨⟨_,_, .inl rfl,rfl⟩,Α,γ,i,r,rfl,hi, ?_⟩;cases r with
  | fin p=>exact ⟨λ_=>⟨by decide,h⟩,λz=>(nomatch z)⟩
  | ι k ds=>
   refine ⟨λz=>aaI (aaq z) ro.1,λ_=> ?_⟩;refine ⟨_,_,_, .inl rfl,rfl, ?_⟩;walk_at "vc";refine υ (xs:=γ.map ak) rfl (Ν (uH hi)) ?_;exact h
def KU(C:Addr):DF:=λas M q _=>∃Α γ i r,as=[Ε C Α γ, .int (i:Nat)]/\γ[i]? =some r/\cC r/\q (JH r) M
theorem ze:Δ ["self","place"] ["self","place"] (χ mF):= .of rfl
theorem xj(F:eD K "pay" "Floor.pay" mF f fd)(E:Ev K mg Cm)(Υ:fh P w K mg base 1 Cm "kind" ["self","place"] (sP Cm) bR b5):aC P w K mg base (dh P w) 2 f fd ["self","place"] (eh K (KU Cm)):=by
 refine F.gH ze (λds M q x h=> ?_) (λb8 A outer s H E' hr=>⟨_,(η (aE (da hr (fY Υ hr ο (jv 0) (ar (jv 1) ε)) fX) (μ (Γ (Κ (Κ (tP E.c9 E.bW (jv 0)) (jv 1)) ν))) Ξ)
   (μ (Γ Tp))),λds M q x h=> ?_⟩)
 ·obtain ⟨Α,γ,i,r,rfl,_⟩:=h;rfl
 ·obtain ⟨Α,γ,i,r,rfl,hi,ro,h⟩:=h;refine ⟨⟨_,_, .inl rfl,rfl⟩,Α,γ,i,r,rfl,hi, ?_⟩;cases r with
  | fin p=>
   refine ⟨λ_=> ?_,λz=>(nomatch z)⟩;refine ⟨_,_,_, .inl rfl,rfl, ?_⟩;walk_at "vc";refine υ (xs:=γ.map ak) rfl (Ν (uH hi)) ?_;exact h
  | ι k ds=>exact ⟨λz=>aaI (aaq z) ro.1,λ_=>h⟩
theorem pk{te:DE}{cs:En}{k:List Dt->Ms->Prop} (ht:∀r M (q:DQ),cC r->(match r with
  | .fin p=>q (.tup [.str "end",Χ p]) M
  | .ι k ds=>q (.tup [.str k, .loc M.length]) (M++[.lst (ds.map ba)]))->te (some (ak r)::cs) M q jw):∀(γ:List Rw) (af:List Dt) (M:Ms),(∀r∈γ,cC r)->k (af++jM M.length γ) (M++ig γ)->gr te cs (λ_=>True) (γ.map ak) af M k
 | [],af,M,_,h=>⟨trivial,by simpa [jM,ig] using h⟩
 | r::γ,af,M,ho,h=>by
  refine ⟨trivial,ht r M _ (ho r aak) ?_⟩;cases r with
  | fin p=>
   refine pk ht γ _ M (λr hr=>ho r (aag _ hr)) ?_;simpa [jM,ig] using h
  | ι k' ds=>
   refine pk ht γ _ _ (λr hr=>ho r (aag _ hr)) ?_;simpa [jM,ig] using h
def Ju(C:Addr):DF:=λas M q _=>∃Α γ,as=[Ε C Α γ]/\γ.length<=12/\(∀r∈γ,cC r)/\q (.loc (M.length+(ig γ).length)) (M++ig γ++[.lst (jM M.length γ)])
theorem nF:Δ ["self"] ["self"] (χ jQ):= .of rfl
theorem uB(F:eD K "rows" "Floor.rows" jQ f fd)(E:Ev K mg Cm){kK:Addr}{ky:FuncData}(cP:aR P w K mg base 1 "copied_row" ["row"] kD kK ky):aC P w K mg base (dh P w) 2 f fd ["self"] (eh K (Ju Cm)):=by
 refine F.gH nF (λds M q x h=> ?_) (λb8 A outer s H E' hr=>⟨_,(μ (Γ (pM (ys:=[]) (Λ:=[]) (.of nF rfl rfl rfl) (bu (tP E.c9 E.bW (jv 0))) (λC s H fp=>(au cP hr (dF (P:=P) (w:=w)) (ar (jv 0) ε)))))),λds M q x h=> ?_⟩)
 ·obtain ⟨Α,γ,rfl,_⟩:=h;rfl
 ·obtain ⟨Α,γ,rfl,hz,ho,h⟩:=h;walk_at "vc";refine Cs (i:=0) (d:=Ε Cm Α γ) rfl (.inl rfl) rfl rfl ⟨by rw [aac];exact aax hz (by decide), ?_⟩;refine pk (λr M q hr hq=>⟨ak r,r,rfl,AD M r,hr,by cases r <;> exact hq⟩) γ [] M ho ?_;rw [aaR,aai];exact h
theorem iO{q:DQ}(u:Dt.bz M.length ds)(h:q (.lst ds) M):uu M q (.loc M.length) (M++[.lst ds]):=mz (.A8 (aal _) (by rw [aa9];rfl) (gA.old u)) h
theorem Ji{d:cb}{q:DQ}(h:q (Χ d.2.1) M):cq (ba d) (.int 1) M q:=υ (xs:= .int d.1::Χ d.2.1::d.2.2.map Χ) rfl (Ν (j:=1) rfl) h
theorem Di{d:cb}{q:DQ}(h:q (.int d.1) M):cq (ba d) (.int 0) M q:=υ (xs:= .int d.1::Χ d.2.1::d.2.2.map Χ) rfl Φ h
theorem tM{k:Str}{q:DQ}(h:q e M):cq (.tup [.str k,e]) (.int 1) M q:=υ (xs:=[.str k,e]) rfl (Ν (j:=1) rfl) h
theorem d7{g:Dt->En->(En->Prop)->Prop}{tb:DS}{Dn:nN}(J:List Dt->En->Ms->Prop)
  (step:∀x xs ρ M,J (x::xs) ρ M->(∀ρ M,J xs ρ M->lF g tb Dn xs ρ M)->g x ρ λρ'=>tb {Dn with nx:=lF g tb Dn xs,ct:=lF g tb Dn xs,bk:=Dn.nx} ρ' M)
  (fin:∀ρ M,J [] ρ M->Dn.nx ρ M):∀(xs:List Dt) (ρ:En) (M:Ms),J xs ρ M->lF g tb Dn xs ρ M
 | [],ρ,M,h=>fin _ _ h
 | x::xs,ρ,M,h=>step x xs ρ M h λρ' M' h'=>d7 J step fin xs ρ' M' h'
theorem eI{lo:Int}{x:Dt}(h:x::xs=bL lo n):∃m,n=m+1/\x= .int lo/\xs=bL (lo+1) m:=by
 cases n with
 | zero=>exact nomatch h
 | succ m=>
  unfold bL at h;rw [abh,aav,aas] at h;cases h;refine ⟨m,rfl,by simp, ?_⟩;unfold bL;apply aaS;intro k _;show Dt.int (lo+((k+1:Nat):Int))=Dt.int (lo+1+(k:Int))
  congr 1
  omega
theorem lM{lo:Int}{x:Dt}(h:x∈bL lo n):∃k:Nat,k < n/\x= .int (lo+k):=by unfold bL at h;obtain ⟨k,hk,rfl⟩:=aaf.mp h;exact ⟨k,aaP.mp hk,rfl⟩
theorem eW{lo:Int}:(bL lo n).length=n:=by unfold bL;simp
theorem qI{α:Type}{te:DE}{cs:En}{M:Ms}{f:α->Dt}(G:α->Prop){k:List Dt->Ms->Prop}:∀(xs:List Dt) (af:List α),(∀a∈af,G a)->(∀x∈xs,∀q:DQ,(∀a,G a->q (f a) M)->te (some x::cs) M q jw)->
  (∀as:List α,as.length=af.length+xs.length->(∀a∈as,G a)->k (as.map f) M)->jG te cs xs (af.map f) M k
 | [],af,ha,_,h=>h af (by simp) ha
 | x::xs,af,ha,ht,h=>ht x aak _ λa hg=>by
  have e:af.map f++[f a]=(af++[a]).map f:=by simp
  rw [e];refine qI G xs (af++[a]) (λb hb=> ?_) (λy hy=>ht y (List.mem_cons_of_mem _ hy)) λas hl XI=>h as (by rw [hl];simp;omega) XI;rcases aaL.mp hb with hb | hb
  ·exact ha b hb
  ·have:b=a:=by simpa using hb
   rw [this];exact hg
theorem oP{n:Nat}:∀(xs:List Int),Dt.bz n (xs.map Dt.int)
 | []=>trivial
 | _::xs=>⟨trivial,oP xs⟩
theorem yG{m:Int}:∀{l:List Int},(∀w∈l,w<=m)->l.sum<=l.length * m
 | [],_=>by simp
 | a::l,h=>by have i:=yG (l:=l) λw hw=>h w (aag _ hw);have:=h a aak;rw [abg,aaO,Int.natCast_add,Int.add_mul];omega
def vA(bp:Int)(r:Rw):Prop:=cC r/\fk r bp=true
theorem Aw{k:Str}{ds:List cb}{bp:Int}(hk:b9 k=true)(hz:1<=ds.length)(RC:ds.length<=6)(hd:∀d∈ds,az d.1 d.2.1 bp=true)(hs:∀d∈ds,d.2.2=[]/\0 < d.2.1.2):vA bp (.ι k ds):=by
 have fd:Ρ ds bp=true:=by unfold Ρ;rw [aam hz,aam RC,aa5.mpr hd];rfl
 have ne:k≠"end"/\k≠"chance":=by refine ⟨λz=> ?_,λz=> ?_⟩ <;> (subst z;exact aaI hk (by decide))
 refine ⟨⟨ne.1,by omega,λz=>aaI z ne.2,λd h=>⟨by rw [(hs d h).1];exact abA _,(hs d h).2⟩⟩, ?_⟩;show (if b9 k then _ else _)=true;rw [aaF hk];exact fd
theorem tq{ds:List cb}{bp:Int}(hz:1<=ds.length)(RC:ds.length<=6)(hd:∀d∈ds,az d.1 d.2.1 bp=true)(h1:∀d∈ds,d.2.2=[θ d])(hc:Ο (ds.map θ)=true)(ho:Pc (ds.map θ))(hp:∀d∈ds,0 < d.2.1.2):vA bp (.ι "chance" ds):=by
 have fd:Ρ ds bp=true:=by unfold Ρ;rw [aam hz,aam RC,aa5.mpr hd];rfl
 refine ⟨⟨by decide,by omega,λ_=>⟨h1,ho⟩,λd h=>⟨by rw [h1 d h];exact aal _,hp d h⟩⟩, ?_⟩;have e:fk (.ι "chance" ds) bp=(Ρ ds bp&&Ο (ds.map θ)):=by dsimp only [fk];rw [aaA (by decide),aaF rfl]
 rw [e,fd,hc];rfl
theorem vS{bp:Int}{p:Fr}(h0:0<=t)(h1:t < bp)(hp:b_ p=true):az t p bp=true:=by unfold az;rw [aam h0,aam h1,hp];rfl
theorem kM{xs:List Int}(h:j < xs.length):i9 (xs.map Dt.int) (j:Int)=some (.int xs[j]):=Ν (by rw [aaj,aaa h];rfl)
theorem oN:∀{l:List Int},(∀w∈l,0 < w)->l≠[]->0 < l.sum
 | [],_,z=>aaI rfl z
 | [a],h,_=>by have:=h a List.mem_cons_self;simpa using this
 | a::b::l,h,_=>by have i:=oN (l:=b::l) (λw hw=>h w (List.mem_cons_of_mem _ hw)) (by simp);have:=h a aak;rw [abg];omega
def Sz(k:Nat)(p:Fr):Prop:=p.1.natAbs < 2 ^ k/\0 < p.2/\p.2.natAbs < 2 ^ k
def c7(p q:Fr):Fr:=ae (p.1 * q.2+q.1 * p.2) (p.2 * q.2)
theorem gZ{a b l:Nat}(h:a < 2 ^ k)(h':b < 2 ^ l):a * b < 2 ^ (k+l):=by rw [Nat.pow_add];exact Nat.mul_lt_mul'' h h'
theorem Ht(hb:0 < b)(h1:t.natAbs < 2 ^ k)(h2:b.natAbs < 2 ^ k):Sz k (ae t b):=
 ⟨aaN (pW (by omega)) h1,aU (by omega),aaN (l6 (by omega)) h2⟩
theorem mq{p q:Fr}{l:Nat}(hp:Sz k p)(hq:Sz l q):(p.1 * q.2+q.1 * p.2).natAbs < 2 ^ (k+l+1)/\(p.2 * q.2).natAbs < 2 ^ (k+l+1)/\0 < p.2 * q.2:=by
 have a:=gZ hp.1 hq.2.2;have b:=gZ hq.1 hp.2.2;have c:=gZ hp.2.2 hq.2.2;rw [Nat.add_comm l k] at b;have e:(2:Nat) ^ (k+l+1)=2 ^ (k+l)+2 ^ (k+l):=by rw [Nat.pow_succ];omega
 have hn:=Int.natAbs_add_le (p.1 * q.2) (q.1 * p.2);rw [abQ,abQ] at hn;refine ⟨by rw [e];omega, ?_,ab2 hp.2.1 hq.2.1⟩;rw [abQ,e];omega
theorem G7{p q:Fr}{l:Nat}(hp:Sz k p)(hq:Sz l q):Sz (k+l+1) (c7 p q):=
 let ⟨a,b,c⟩:=mq hp hq
 Ht c a b
theorem oH{p:Fr}(h:Sz k p)(hk:k<=8000):gU p.1:=bg h.1 hk
theorem fH{p:Fr}(h:Sz k p)(hk:k<=8000):gU p.2:=bg h.2.2 hk
theorem N8{p:Fr}{q:DQ}(h:q (.int p.1) M):cq (Χ p) (.int 0) M q:=υ (xs:=[.int p.1, .int p.2]) rfl Φ h
theorem JR{p:Fr}{q:DQ}(h:q (.int p.2) M):cq (Χ p) (.int 1) M q:=υ (xs:=[.int p.1, .int p.2]) rfl (Ν (j:=1) rfl) h
def Jv:DF:=λas M q _=>∃p r k l,as=[Χ p,Χ r]/\Sz k p/\Sz l r/\k+l+1<=8000/\q (Χ (c7 p r)) M
theorem Lr:Δ ["one","other"] ["one","other"] (χ EA):= .of rfl
theorem Hh(F:eD K "plus" "plus" EA f fd)(E:Ev K mg Cm){Bv:Addr}{Bk:FuncData}(j_:aR P w K mg base 2 "fraction" ["top","bottom"] Al Bv Bk):aC P w K mg base (dh P w) 3 f fd ["one","other"] (eh K Jv):=by
 refine F.gH Lr (λds M q x h=> ?_) (λb8 A outer s H E' hr=>⟨_,(μ (Γ (au j_ hr ο (ζ (aK (bF (Κ (jv 0) ν) (Κ (jv 1) ν)) (bF (Κ (jv 1) ν) (Κ (jv 0) ν))) (ζ (bF (Κ (jv 0) ν) (Κ (jv 1) ν)) ε bJ) bJ)))),λds M q x h=> ?_⟩)
 ·obtain ⟨p,r,k,l,rfl,_⟩:=h;rfl
 ·obtain ⟨p,r,k,l,rfl,hp,IJ,hk,h⟩:=h;obtain ⟨a,b,c⟩:=mq hp IJ;refine ⟨⟨oH hp (by omega),fH IJ (by omega)⟩,⟨oH IJ (by omega),fH hp (by omega)⟩,⟨fH hp (by omega),fH IJ (by omega)⟩,bg b hk,λz=>aaI z (by omega),λ_=>h⟩
theorem iz{te:DE}{cs:En}{ok:Ms->Prop}{M:Ms}{k:List Dt->Ms->Prop}(ho:ok M):∀{ys af:List Dt} {f:Nat->Dt},(∀(i:Nat) x,ys[i]? =some x->∀q:DQ,q (f i) M->te (some x::cs) M q jw)->k (af++(List.range ys.length).map f) M->gr te cs ok ys af M k
 | [],af,f,_,h=>⟨ho,by simpa using h⟩
 | y::ys,af,f,hf,h=>⟨ho,hf 0 y rfl _ (iz ho (f:=λi=>f (i+1)) (λi x hx=>hf (i+1) x (by simpa using hx)) (by
   rw [aaO,abh,aav,aas] at h
   simpa [Function.comp_def] using h))⟩
def uc(P:Program)(w:World):DF:=λas M q _=>∃(xs:List Dt) (f:Nat->Nat->Bool),as=[.lst xs]/\xs.length<=1000/\(∀(i j:Nat) d d',xs[i]? =some d->xs[j]? =some d'->Cr P w M 2 d d' (f i j))/\(∀i,i < xs.length->f i i=true)/\q (.loc M.length) (M++[.lst ((List.range xs.length).map λi=>Dt.int (N51.least f i:Nat))])
theorem nr:Δ ["marks"] ["marks"] (χ jT):= .of rfl
theorem vm(F:eD K "classes_by" "classes_by" jT f fd)(E:Ev K mg Cm):aC P w K mg base (dh P w) 1 f fd ["marks"] (eh K (uc P w)):=by
 refine F.gH nr (λds M q x h=> ?_) (λb8 A outer s H E' hr=>⟨_,(μ (Γ (pM (ys:=["marks"]) (Λ:=[0]) (.of nr rfl rfl rfl) (bu (jv 0)) (λC s H fp=>(Dw (P:=P) (w:=w) 2 hr (jv 1) (ar (jv 0) ε)))))),λds M q x h=> ?_⟩)
 ·obtain ⟨p,f,rfl,_⟩:=h;rfl
 ·obtain ⟨xs,f,rfl,hl,hf,IJ,h⟩:=h;walk_at "vc";dsimp only [oC,cX,ik];show xs.length<=sizeLine/\gr (zY P w 2 (ik 1) (ic (ik 0) nW)) [some (.lst xs)] _ xs [] M _;refine ⟨aax hl (by decide),iz trivial (f:=λi=>Dt.int (N51.least f i:Nat)) (λi x hx q' hq=> ?_) ?_⟩
  ·have hi:i < xs.length:=(aad.mp hx).1;show (∃ys,fU M (.lst xs)=some ys)/\∃y ys,∃g:Nat->Bool,∃j:Nat,[x]=[y]/\fU M (.lst xs)=some ys/\(∀i z,ys[i]? =some z->Cr P w M 2 z y (g i))/\j < ys.length/\g j=true/\(∀i,i < j->g i=false)/\q' (.int (j:Int)) M;have l:=N51.least_le f i;refine ⟨⟨xs,rfl⟩,x,xs,λj=>f j i,N51.least f i,rfl,rfl,λj z hz=>hf j i z x hz hx,by omega,N51.dX (IJ i hi),λj hj=> ?_,hq⟩;cases e:f j i with
   | false=>exact e
   | true=>exact aaI (N51.jm e) (by omega)
  ·exact h
def D7(r:Rw):Dt:= .tup [.str (kindOf r),JH r]
def br:Rw->Rw->Bool
 | .fin p, .fin q=>decide (p=q)
 | .ι k _, .ι l _=>decide (k=l)
 | _,_=>false
theorem oX(e:Nat->Bool):(List.range 2).all e=(e 0&&e 1):=by simp [List.range,List.range.loop]
theorem G9(e:Nat->Bool):(List.range 1).all e=e 0:=by simp [List.range,List.range.loop]
theorem qC(p q:Fr):jz M (n+1) (Χ p) (Χ q) (decide (p=q)):=by
 have h:=jz.tup (M:=M) (n:=n) (ds:=[.int p.1, .int p.2]) (es:=[.int q.1, .int q.2]) (f:=λj=>match j with | 0=>gb (.int p.1) (.int q.1) | _=>gb (.int p.2) (.int q.2)) λj d e h1 h2=>by
  match j with
  | 0=>cases h1;cases h2;exact .flat rfl rfl
  | 1=>cases h1;cases h2;exact .flat rfl rfl
  | j+2=>cases h1
 have e:((List.range (min [Dt.int p.1, .int p.2].length [Dt.int q.1, .int q.2].length)).all (λj=>match j with | 0=>gb (.int p.1) (.int q.1) | _=>gb (.int p.2) (.int q.2))&&[Dt.int p.1, .int p.2].length==[Dt.int q.1, .int q.2].length)=decide (p=q):=by show ((List.range 2).all _&&true)=_;rw [oX,Bool.and_true,abq,aaz,decide_eq_true_eq];show (gb (.int p.1) (.int q.1)=true/\gb (.int p.2) (.int q.2)=true)↔_;simp [gb,Prod.ext_iff]
 rw [e] at h;exact h
theorem eq1{r r':Rw}(h:cC r)(h':cC r'):Cr P w M 2 (D7 r) (D7 r') (br r r'):=by
 refine ⟨_,_,λj=>match j with | 0=>gb (.str (kindOf r)) (.str (kindOf r')) | _=>match r,r' with | .fin p, .fin q=>decide (p=q) | _,_=>true,rfl,rfl,rfl,λj d d' h1 h2 ja=> ?_, ?_⟩
 ·match j with
  | 0=>cases h1;cases h2;exact .eq (.flat rfl rfl)
  | 1=>
   cases h1;cases h2;rw [G9] at ja;have ja:gb (.str (kindOf r)) (.str (kindOf r'))=true:=ja;have ja:kindOf r=kindOf r':=by simpa [gb] using ja
   match r,r',h,h',ja with
   | .fin p, .fin q,_,_,_=>exact .eq (qC p q)
   | .fin p, .ι k ds,_,h',ja=>exact aaI ja.symm h'.1
   | .ι k ds, .fin p,h,_,ja=>exact aaI ja h.1
   | .ι k ds, .ι l es,_,_,_=>exact .eq (.flat (x:= .bV) (y:= .bV) rfl rfl)
  | j+2=>cases h1
 ·show _=(List.range 2).all _;rw [oX]
  match r,r',h,h' with
  | .fin p, .fin q,_,_=>simp [br,kindOf,gb]
  | .fin p, .ι k ds,_,h'=>simp [br,kindOf,gb,Ne.symm h'.1]
  | .ι k ds, .fin p,h,_=>simp [br,kindOf,gb,h.1]
  | .ι k ds, .ι l es,_,_=>rw [Bool.eq_iff_iff];simp [br,kindOf,gb]
def yc(γ:List Rw)(j i:Nat):Bool:=match γ[j]?,γ[i]? with
 | some r,some r'=>br r r'
 | _,_=>false
def cm(n:Nat)(c:Nat->Nat):List Dt:=(List.range n).map λi=>Dt.int (c i:Nat)
theorem j8:∀r:Rw,br r r=true
 | .fin p=>by simp [br]
 | .ι k ds=>by simp [br]
def Ei(C:Addr):DF:=λas M q _=>∃Α γ,as=[Ε C Α γ]/\γ.length<=12/\(∀r∈γ,cC r)/\q (.loc M.length) (M++[.lst (cm γ.length (N51.least (yc γ)))])
theorem iP:Δ ["floor"] ["floor"] (χ fS):= .of rfl
theorem n_(F:eD K "first_classes" "first_classes" fS f fd)(E:Ev K mg Cm){jU:Addr}{kH:FuncData}(cR:aR P w K mg base 1 "classes_by" ["marks"] (uc P w) jU kH)(aW:fh P w K mg base 1 Cm "size" ["self"] (z7 Cm) eV eY){mG:Addr}{mE:FuncData}(dE:fh P w K mg base 2 Cm "pay" ["self","place"] (KU Cm) mG mE)(Υ:fh P w K mg base 1 Cm "kind" ["self","place"] (sP Cm) bR b5):aC P w K mg base (dh P w) 4 f fd ["floor"] (eh K (Ei Cm)):=by
 refine F.gH iP (λds M q x h=> ?_) (λb8 A outer s H E' hr=>⟨_,(μ (Γ (au cR hr ο (ζ (tY (ys:=["floor"]) (Λ:=[0]) (.of iP rfl rfl rfl) (bN E.aQ (ζ (fK aW hr ο (jv 0)) ε bc)) (λC s H fp=>(aD (ζ (fY Υ hr (dF (P:=P) (w:=w)) (jv 1) (ar (jv 0) ε)) (ζ (fY dE hr (dF (P:=P) (w:=w)) (jv 1) (ar (jv 0) ε)) ε bc) bc)))) ε)))),λds M q x h=> ?_⟩)
 ·obtain ⟨p,f,rfl,_⟩:=h;rfl
 ·obtain ⟨Α,γ,rfl,hl,ok,h⟩:=h;walk_at "vc";dsimp only [qd,Ca,ic,nW,lG,ik];refine ⟨⟨_,_, .inl rfl,rfl⟩,Α,γ,rfl,⟨by omega,by omega⟩,by rw [eW];exact aax (show _<=12 by omega) (by decide), ?_⟩;refine my (f:=λx=>match x with | .int j=>(γ.map D7).getD j.toNat .bV | _=> .bV) _ _ (λx A_ q' hq=> ?_) ?_
  ·obtain ⟨k,hk,rfl⟩:=lM A_;have hk:k < γ.length:=by omega
   have e:γ[k]? =some γ[k]:=aaa hk;rw [abK] at hq⊢;have hq:q' (D7 γ[k]) M:=by
    have z:(match Dt.int (k:Int) with | .int j=>(γ.map D7).getD j.toNat .bV | _=> .bV)=D7 γ[k]:=by show (γ.map D7).getD ((k:Int).toNat) .bV=_;rw [aa6,aan,aaj,e];rfl
    rw [<-z];exact hq
   dsimp only [Dh,ic,nW,lG,ik];exact ⟨⟨_,_, .inl rfl,rfl⟩,Α,γ,k,γ[k],rfl,e,⟨_,_, .inl rfl,rfl⟩,Α,γ,k,γ[k],rfl,e,ok _ (aap hk),fI,hq⟩
  ·have z:[]++List.map (λx=>match x with | Dt.int j=>(γ.map D7).getD j.toNat Dt.bV | _=>Dt.bV) (bL 0 ((γ.length:Int)).toNat)=γ.map D7:=by
    rw [aaR,aa6];refine abz λi=> ?_;unfold bL;rw [aas,aaj,aaj];rcases aa8 i γ.length with hi | hi
    ·rw [aa0 hi,aaa hi];show some ((γ.map D7).getD ((0+(i:Int)).toNat) .bV)=_;rw [abK,aa6,aan,aaj,aaa hi];rfl
    ·rw [List.getElem?_eq_none (by simpa using hi),List.getElem?_eq_none hi];rfl
   rw [z];refine ⟨γ.map D7,yc γ,rfl,by rw [aac];omega,λi j d d' h1 h2=> ?_,λi hi=> ?_,by rw [aac];exact h⟩
   ·rw [aaj] at h1 h2;obtain ⟨r,e1,rfl⟩:=aaQ.mp h1;obtain ⟨r',e2,rfl⟩:=aaQ.mp h2;have:yc γ i j=br r r':=by unfold yc;rw [e1,e2]
    rw [this];exact eq1 (ok _ (aaD e1)) (ok _ (aaD e2))
   ·rw [aac] at hi;unfold yc;rw [aaa hi];exact j8 _
theorem Hs(ks:List NK)(k:NK):xf ks k=N51.has ks k:=rfl
theorem E5(ks:List NK)(k:NK):lA ks k=N51.putK ks k:=rfl
theorem gp(f:Fr->Dt)(k:NK):∀(ks:List NK) (vs:List Fr),dJ ks (vs.map f) k=(N51.get ks vs k).map f
 | [],vs=>by simp [dJ,N51.get]
 | _::_,[]=>by simp [dJ,N51.get]
 | c::ks,v::vs=>by
  have ih:=gp f k ks vs;unfold dJ N51.get at ih⊢;rw [aav,aaU,aaU];by_cases e:c=k
  ·rw [List.find?_cons_of_pos (by simpa using e),List.find?_cons_of_pos (by simpa using e)];rfl
  ·rw [List.find?_cons_of_neg (by simpa using e),List.find?_cons_of_neg (by simpa using e)];exact ih
theorem Cd(f:Fr->Dt)(k:NK)(v:Fr)(ks:List NK)(vs:List Fr):lO ks k (vs.map f) (f v)=(N51.vM ks k vs v).map f:=by
 have key:∀(ks:List NK) (vs:List Fr),List.zipWith (λc y=>if c=k then f v else y) ks (vs.map f)=(List.zipWith (λc y=>if c=k then v else y) ks vs).map f:=by
  intro ks
  induction ks with
  | nil=>intro vs;rfl
  | cons c ks ih=>
   intro vs;cases vs with
   | nil=>rfl
   | cons u vs=>
    rw [aav,List.zipWith_cons_cons,List.zipWith_cons_cons,aav,ih];by_cases e:c=k
    ·simp only [if_pos e]
    ·simp only [if_neg e]
 unfold lO N51.vM;rw [Hs];split
 ·exact key ks vs
 ·rw [aao];rfl
def π(c:Nat->Nat)(d:cb):NK:=([.inl d.2.1.1, .inl d.2.1.2], .inl (c d.1.toNat:Nat))
def Ι(c:Nat->Nat):Rw->List NK×List Fr
 | .fin _=>([],[])
 | .ι k ds=>if k="chance" then N51.gc c7 (0,1) (ds.map λd=>(π c d,θ d)) else N51.gc (λ_ _=>(1,1)) (0,1) (ds.map λd=>(π c d,θ d))
theorem xb(c:Nat->Nat)(k:Str):Ι c (.ι k [])=([],[]):=by show (if k="chance" then _ else _)=_;split <;> rfl
theorem tL(c:Nat->Nat)(k:Str)(ds:List cb)(d:cb):Ι c (.ι k (ds++[d]))=(N51.putK (Ι c (.ι k ds)).1 (π c d),N51.vM (Ι c (.ι k ds)).1 (π c d) (Ι c (.ι k ds)).2 (if k="chance" then c7 ((N51.get (Ι c (.ι k ds)).1 (Ι c (.ι k ds)).2 (π c d)).getD (0,1)) (θ d) else (1,1))):=by
 by_cases e:k="chance"
 ·simp only [Ι,if_pos e,List.map_append,List.map_cons,List.map_nil,N51.pL];rfl
 ·simp only [Ι,if_neg e,List.map_append,List.map_cons,List.map_nil,N51.pL];rfl
theorem vc{κ:Type} [DecidableEq κ](key:κ):∀(xs:List (κ×Fr)) (a:Fr) (k:Nat),(∀x∈xs,Sz 200 x.2)->Sz k a->∃l,l<=k+201 * xs.length/\Sz l (xs.foldl (λa x=>if x.1=key then c7 a x.2 else a) a)
 | [],a,k,_,h=>⟨k,by simp,h⟩
 | x::xs,a,k,hx,h=>by
  rw [List.foldl_cons];by_cases e:x.1=key
  ·rw [aaF e];obtain ⟨l,h1,h2⟩:=vc key xs _ _ (λy hy=>hx y (aag _ hy)) (G7 h (hx x aak));exact ⟨l,by rw [aaO];omega,h2⟩
  ·rw [aaA e];obtain ⟨l,h1,h2⟩:=vc key xs _ _ (λy hy=>hx y (aag _ hy)) h;exact ⟨l,by rw [aaO];omega,h2⟩
theorem g7(c:Nat->Nat)(k:Str)(ds:List cb):(Ι c (.ι k ds)).1.length=((Ι c (.ι k ds)).2.map Χ).length/\(Ι c (.ι k ds)).1.length<=ds.length:=by
 have key:∀(op:Fr->Fr->Fr),(N51.gc op (0,1) (ds.map λd=>(π c d,θ d))).1.length=((N51.gc op (0,1) (ds.map λd=>(π c d,θ d))).2.map Χ).length/\(N51.gc op (0,1) (ds.map λd=>(π c d,θ d))).1.length<=ds.length:=λop=>by obtain ⟨a1,a2,a3,_⟩:=N51.dt op (0,1) (ds.map λd=>(π c d,θ d));refine ⟨by rw [aac,a1], ?_⟩;have:=N51.mB a2 λx hx=>(a3 x).mp hx;simpa using this
 by_cases e:k="chance"
 ·simp only [Ι,if_pos e];exact key _
 ·simp only [Ι,if_neg e];exact key _
theorem He(c:Nat->Nat)(ds:List cb)(hs:∀d∈ds,Sz 200 (θ d))(x:NK):∃l,l<=1+201 * ds.length/\Sz l ((N51.get (Ι c (.ι "chance" ds)).1 (Ι c (.ι "chance" ds)).2 x).getD (0,1)):=by
 have e:Ι c (.ι "chance" ds)=N51.gc c7 (0,1) (ds.map λd=>(π c d,θ d)):=by simp only [Ι,if_pos]
 rw [e,(N51.dt c7 (0,1) (ds.map λd=>(π c d,θ d))).2.2.2 x]
 obtain ⟨l,h1,h2⟩:=vc x (ds.map λd=>(π c d,θ d)) (0,1) 1 (λy hy=>by
  obtain ⟨d,hd,rfl⟩:=aaf.mp hy
  exact hs d hd) ⟨by decide,by decide,by decide⟩
 exact ⟨l,by simpa using h1,h2⟩
def zI(P:Program)(w:World)(C:Addr):DF:=λas M q _=>∃Α γ i r n c dc,as=[Ε C Α γ, .int (i:Nat),dc]/\(∀E,gJ (M++E) dc=some (cm n c))/\γ[i]? =some r/\cC r/\(∀d∈cw r,0<=d.1/\d.1 < n)/\(∀d∈cw r,Sz 200 (θ d))/\n<=12/\q (.loc M.length) (M++[jO P w (Ι c r).1 ((Ι c r).2.map Χ)])
theorem ji:Δ ["floor","place","classes","pairs","door","pair"] ["floor","place","classes"] (χ pU):= .of rfl
theorem yv(F:eD K "pairs_of" "pairs_of" pU f fd)(E:Ev K mg Cm){xn:Addr}{wo:FuncData}(h8:fh P w K mg base 2 Cm "doors" ["self","place"] (GC Cm) xn wo)(Υ:fh P w K mg base 1 Cm "kind" ["self","place"] (sP Cm) bR b5){Qo:Addr}{Po:FuncData}(y3:aR P w K mg base 3 "plus" ["one","other"] Jv Qo Po):aC P w K mg base (dh P w) 5 f fd ["floor","place","classes"] (eh K (zI P w Cm)):=by
 refine F.gH ji (λds M q x h=> ?_) (λb8 A outer s H E' hr=>⟨_,(η (Β 3 ji.nd (Ng (P:=P) (w:=w) Dm))
   (η (gW (bu (dR (fY h8 hr ο (jv 0) (ar (jv 1) ε)))) (aw (i:=4) ji.nd rfl (Or.inl rfl)) aO (η (Β 5 ji.nd (aD (ζ (Κ (jv 4) ν) (ζ (Κ (jv 2) (Κ (jv 4) ν)) ε aT) aT)))
   (μ (aE (da hr (fY Υ hr ο (jv 0) (ar (jv 1) ε)) fX) (μ (A0 (P:=P) (w:=w) hr (jv 3) (jv 5) (au y3 hr ο (ζ (H_ (P:=P) (w:=w) hr (jv 3) (jv 5) (aD (ζ ν (ζ ν ε bb) bb))) (ζ (Κ (jv 4) ν) ε aT) bc)))) (μ (A0 (P:=P) (w:=w) hr (jv 3) (jv 5) (aD (ζ ν (ζ ν ε bb) bb))))))))
   (μ (Γ (jv 3))))),λds M q x h=> ?_⟩)
 ·obtain ⟨Α,γ,i,r,n,c,dc,rfl,_⟩:=h;rfl
 ·obtain ⟨Α,γ,i,r,n,c,dc,rfl,Nu,e,ok,ht,hs,hn,h⟩:=h;have eM:(M++[MO.jF [] []]).set M.length (jO P w [] [])=M++[jO P w [] []]:=by simp
  refine ⟨M.length,rfl,by simp, ?_⟩;rw [eM];refine ⟨⟨_,_, .inl rfl,rfl⟩,Α,γ,i,r,rfl,e,ok,iO (gT _) ?_⟩
  match r,e,ok,ht,hs,h with
  | .fin p,_,_,_,_,h=>exact ⟨trivial,h⟩
  | .ι kd ds,e,ok,ht,hs,h=>
  show ia _ _ _ (λ_=>True) (ds.map ba) [some (Ε Cm Α γ),some (.int (i:Nat)),some dc,some (.loc M.length),none,none] (M++[jO P w [] []]);refine dH (λxs ρ M'=>∃done Η a b,ds=done++Η/\xs=Η.map ba/\ρ=[some (Ε Cm Α γ),some (.int (i:Nat)),some dc,some (.loc M.length),a,b]/\M'=M++[jO P w (Ι c (.ι kd done)).1 ((Ι c (.ι kd done)).2.map Χ)]) (λ_ _ _ _=>trivial) (λx xs ρ M' hJ ih=> ?_) (λρ M' hJ=> ?_) _ _ _ ⟨[],ds,none,none,rfl,rfl,rfl,by rw [xb];rfl⟩
  ·obtain ⟨done,Η,a,b,e1,e2,rfl,rfl⟩:=hJ;cases Η with
   | nil=>cases e2
   | cons d Η=>
    cases e2;have md:d∈ds:=by rw [e1];simp
    obtain ⟨t0,tn⟩:=ht d md;obtain ⟨t,et⟩:=abE t0;have tl:t < n:=by omega
    have Mv:i9 ((List.range n).map λi=>Dt.int (c i:Nat)) d.1=some (.int (c t:Nat)):=by rw [et];exact Ν (by rw [aaj,aa0 tl];rfl)
    generalize Kd:(ia (gN 4) _ _ _ (Η.map ba):En->Ms->Prop)=Nx at ih⊢;walk_at "vc";refine υ (d:=ba d) (xs:= .int d.1::Χ d.2.1::d.2.2.map Χ) rfl (Ν (j:=1) rfl) ?_;refine υ (d:=ba d) (xs:= .int d.1::Χ d.2.1::d.2.2.map Χ) rfl Φ ?_;refine υ (d:=dc) (Nu _) Mv ?_;refine ⟨fI,⟨_,_, .inl rfl,rfl⟩,Α,γ,i,_,rfl,e, ?_⟩;have ek:Dt.tup [Χ d.2.1,Dt.int (c t:Nat)]=tG (π c d):=by unfold tG π;rw [et];rfl
    have gm:(M++[jO P w (Ι c (.ι kd done)).1 ((Ι c (.ι kd done)).2.map Χ)])[M.length]? =some (jO P w (Ι c (.ι kd done)).1 ((Ι c (.ι kd done)).2.map Χ)):=by simp
    obtain ⟨f1,f2⟩:=g7 c kd done;have f3:(Ι c (.ι kd done)).1.length < 1000:=by
     have q1:ds.length<=12:=ok.2.1;have q2:done.length<=ds.length:=by rw [e1];simp
     omega
    have nx:∀v,v=(if kd="chance" then c7 ((N51.get (Ι c (.ι kd done)).1 (Ι c (.ι kd done)).2 (π c d)).getD (0,1)) (θ d) else (1,1))->∀ρ',ρ'=[some (Ε Cm Α γ),some (.int (i:Nat)),some dc,some (.loc M.length),some (ba d),some (.tup [Χ d.2.1, .int (c t:Nat)])]->Nx ρ' ((M++[jO P w (Ι c (.ι kd done)).1 ((Ι c (.ι kd done)).2.map Χ)]).set M.length (jO P w (lA (Ι c (.ι kd done)).1 (π c d)) (lO (Ι c (.ι kd done)).1 (π c d) ((Ι c (.ι kd done)).2.map Χ) (Χ v)))):=by rintro v ev _ rfl;refine ih _ _ ⟨done++[d],Η,_,_,by rw [e1];simp,rfl,rfl, ?_⟩;rw [tL,Cd,E5,ev];simp
    refine ⟨λhb=> ?_,λhb=> ?_⟩
    ·have hb:kd="chance":=aaq hb;have hc:=(ok.2.2.1 hb).1 d md;obtain ⟨l,M_,Gy⟩:=He c done (λd hd=>hs d (by rw [show cw (.ι kd ds)=ds from rfl,e1];exact aaH _ hd)) (π c d);have q1:ds.length<=12:=ok.2.1;have q2:done.length<=ds.length:=by rw [e1];simp
     refine ⟨⟨M.length,_,_,rfl,gm,f1⟩,fI,M.length,_,_,π c d,rfl,gm,f1,ek, ?_⟩;subst hb;have eg:(dJ (Ι c (.ι "chance" done)).1 ((Ι c (.ι "chance" done)).2.map Χ) (π c d)).getD (Dt.tup [.int 0, .int 1])=Χ ((N51.get (Ι c (.ι "chance" done)).1 (Ι c (.ι "chance" done)).2 (π c d)).getD (0,1)):=by rw [gp];cases N51.get (Ι c (.ι "chance" done)).1 (Ι c (.ι "chance" done)).2 (π c d) <;> rfl
     rw [eg];have ed:ba d= .tup [.int d.1,Χ d.2.1,Χ (θ d)]:=by unfold ba;rw [hc];rfl
     refine (υ (d:=ba d) (xs:=[.int d.1,Χ d.2.1,Χ (θ d)]) (by rw [ed];rfl) (Ν (j:=2) rfl) ?_:cq (ba d) (.int 2) (M++[_]) _);exact ⟨_,θ d,l,200,rfl,Gy,hs d md,by omega,M.length,_,_,π c d,rfl,gm,f1,ek,f3,nx _ (by rw [aaF rfl]) _ rfl⟩
    ·have hb:¬kd="chance":=abH hb;refine ⟨fI,M.length,_,_,π c d,rfl,gm,f1,ek,f3,nx (1,1) (by rw [aaA hb]) _ rfl⟩
  ·obtain ⟨done,Η,a,b,e1,e2,rfl,rfl⟩:=hJ;cases Η with
   | cons d Η=>cases e2
   | nil=>
    rw [aaW] at e1;subst e1;exact h
abbrev PD:=List NK×List Fr
def mC(D D':PD)(j:Nat):Bool:=match D.1[j]?,D.2[j]? with
 | some k,some v=>(match N51.get D'.1 D'.2 k with
  | some v'=>decide (v=v')
  | none=>false)
 | _,_=>false
def eT(D D':PD):Bool:=decide (D.1.length=D'.1.length)&&(List.range D.1.length).all (mC D D')
theorem eq2{Ds:List PD}(hM:∀(i:Nat) (D:PD),Ds[i]? =some D->M[m+i]? =some (jO P w D.1 (D.2.map Χ)))(hl:∀(i:Nat) (D:PD),Ds[i]? =some D->D.1.length=D.2.length){D D':PD}(hi:Ds[i]? =some D)(hj:Ds[j]? =some D'):
  Cr P w M 2 (.tup [.int (c i:Nat), .loc (m+i)]) (.tup [.int (c j:Nat), .loc (m+j)]) (decide (c i=c j)&&(if i=j then true else eT D D')):=by
 refine ⟨_,_,λx=>match x with | 0=>gb (.int (c i:Nat)) (.int (c j:Nat)) | _=>if i=j then true else eT D D',rfl,rfl,rfl,λx d d' h1 h2 ja=> ?_, ?_⟩
 ·match x with
  | 0=>cases h1;cases h2;exact .eq (.flat rfl rfl)
  | 1 =>
   cases h1;cases h2;show yO P w M 2 _ _ (if i=j then true else eT D D');by_cases e:i=j
   ·subst e;rw [aaF rfl];exact .same
   ·rw [aaA e];have l1:=hl i D hi;have l2:=hl j D' hj;unfold eT;by_cases le:D.1.length=D'.1.length
    ·rw [aam le,Bool.true_and];refine .nd (by omega) (hM i D hi) (hM j D' hj) (by rw [aac];exact l1) (by rw [aac];exact l2) le (λx k hk hn=> ?_) λx k d d' hk hd hn=> ?_
     ·rw [gp,Option.map_eq_none_iff] at hn;unfold mC;rw [hk,aaa (show x < D.2.length by rw [<-l1];exact (aad.mp hk).1)];show (match N51.get D'.1 D'.2 k with | some v'=>_ | none=>false)=false;rw [hn]
     ·rw [gp] at hn;obtain ⟨v',g,rfl⟩:=aaQ.mp hn;rw [aaj] at hd;obtain ⟨v,gv,rfl⟩:=aaQ.mp hd;have:mC D D' x=decide (v=v'):=by unfold mC;rw [hk,gv];show (match N51.get D'.1 D'.2 k with | some v'=>decide (v=v') | none=>false)=_;rw [g]
      rw [this];exact qC v v'
    ·rw [aaK le,Bool.false_and];exact .len (by omega) (hM i D hi) (hM j D' hj) (by rw [aac];exact l1) (by rw [aac];exact l2) le
  | x+2=>cases h1
 ·show _=(List.range 2).all _;rw [oX];show _=(gb (.int (c i:Nat)) (.int (c j:Nat))&&_)
  congr 1
  rw [abq];simp [gb];omega
theorem xm{te:DE}{cs:En}{f:Nat->Dt}{g:Nat->MO}{M:Ms}{k:List Dt->Ms->Prop}:∀(n lo:Nat) (af:List Dt),(∀i,lo<=i->i < lo+n->∀q:DQ,q (f i) (M++(List.range (i+1)).map g)->te (some (.int (i:Nat))::cs) (M++(List.range i).map g) q jw)->k (af++(List.range' lo n).map f) (M++(List.range (lo+n)).map g)->jG te cs ((List.range' lo n).map λi=>Dt.int (i:Nat)) af (M++(List.range lo).map g) k
 | 0,lo,af,_,h=>by simpa [jG] using h
 | n+1,lo,af,hf,h=>by rw [List.range'_succ,aav];refine hf lo (aal _) (by omega) _ ?_;refine xm n (lo+1) (af++[f lo]) (λi h1 h2=>hf i (by omega) (by omega)) ?_;rw [List.range'_succ,aav] at h;rw [abj,show lo+1+n=lo+(n+1) by omega];exact h
theorem Sx(n:Nat):bL 0 n=(List.range' 0 n).map λi=>Dt.int (i:Nat):=by unfold bL;rw [List.range_eq_range'];exact aaS λi _=>by rw [abK]
def yT(γ:List Rw)(c:Nat->Nat)(j i:Nat):Bool:=decide (c j=c i)&&(if j=i then true else match γ[j]?,γ[i]? with
 | some r,some r'=>eT (Ι c r) (Ι c r')
 | _,_=>false)
def Nv(P:Program)(w:World)(c:Nat->Nat)(r:Rw):MO:=jO P w (Ι c r).1 ((Ι c r).2.map Χ)
def Fh(P:Program)(w:World)(C:Addr):DF:=λas M q _=>∃Α γ c dc,as=[Ε C Α γ,dc]/\(∀E,gJ (M++E) dc=some (cm γ.length c))/\γ.length<=12/\(∀r∈γ,cC r)/\(∀r∈γ,∀d∈cw r,0<=d.1/\d.1 < γ.length)/\(∀r∈γ,∀d∈cw r,Sz 200 (θ d))/\q (.loc (M++γ.map (Nv P w c)).length) (M++γ.map (Nv P w c)++[.lst (cm γ.length (N51.least (yT γ c)))])
theorem jP:Δ ["floor","classes"] ["floor","classes"] (χ hG):= .of rfl
theorem qf(F:eD K "next_classes" "next_classes" hG f fd)(E:Ev K mg Cm){jU:Addr}{kH:FuncData}(cR:aR P w K mg base 1 "classes_by" ["marks"] (uc P w) jU kH)(aW:fh P w K mg base 1 Cm "size" ["self"] (z7 Cm) eV eY){q5:Addr}{qO:FuncData}(eL:aR P w K mg base 5 "pairs_of" ["floor","place","classes"] (zI P w Cm) q5 qO):aC P w K mg base (dh P w) 7 f fd ["floor","classes"] (eh K (Fh P w Cm)):=by
 refine F.gH jP (λds M q x h=> ?_) (λb8 A outer s H E' hr=>⟨_,(μ (Γ (au cR hr ο (ζ (tY (ys:=["classes","floor"]) (Λ:=[1,0]) (.of jP rfl rfl rfl) (bN E.aQ (ζ (fK aW hr ο (jv 0)) ε bc)) (λC s H fp=>(aD (ζ (Κ (jv 1) (jv 0)) (ζ (au eL hr (dF (P:=P) (w:=w)) (ar (jv 2) (ar (jv 0) (ar (jv 1) ε)))) ε bc) aT)))) ε)))),λds M q x h=> ?_⟩)
 ·obtain ⟨Α,γ,c,dc,rfl,_⟩:=h;rfl
 ·obtain ⟨Α,γ,c,dc,rfl,Nu,hl,ok,ht,hs,h⟩:=h;walk_at "vc";dsimp only [qd,Ca,ic,nW,lG,ik];refine ⟨⟨_,_, .inl rfl,rfl⟩,Α,γ,rfl,⟨by omega,by omega⟩,by rw [eW];exact aax (show _<=12 by omega) (by decide), ?_⟩;obtain ⟨g,eg⟩:∃g:Nat->MO,g=λi=>Nv P w c (γ.getD i (.fin (0,1))):=⟨_,rfl⟩;have gi:∀i r,γ[i]? =some r->g i=Nv P w c r:=λi r h=>by rw [eg];show Nv P w c (γ.getD i _)=_;rw [aan,h];rfl
  rw [Int.toNat_natCast,Sx,show M=M++(List.range 0).map g from (by simp)];refine xm (f:=λi=> .tup [.int (c i:Nat), .loc (M.length+i)]) γ.length 0 [] (λi _ hi q' hq=> ?_) ?_
  ·have hi:i < γ.length:=by omega
   have e:γ[i]? =some γ[i]:=aaa hi;have Mv:i9 ((List.range γ.length).map λi=>Dt.int (c i:Nat)) ((i:Nat):Int)=some (.int (c i:Nat)):=Ν (by rw [aaj,aa0 hi];rfl);dsimp only [Dh,ic,nW,kP,ik,CS];refine (υ (d:=dc) (Nu _) Mv ?_:cq dc (.int ((i:Nat):Int)) (M++(List.range i).map g) _);have me:=aap hi;refine ⟨Α,γ,i,γ[i],γ.length,c,dc,rfl,λE=>by rw [abj];exact Nu _,e,ok _ me,ht _ me,hs _ me,hl,fI, ?_⟩;rw [abY,aao,<-abj] at hq;have z:(M++(List.range i).map g).length=M.length+i:=by simp
   rw [z];have z2:[jO P w (Ι c γ[i]).1 ((Ι c γ[i]).2.map Χ)]=List.map g [i]:=by rw [aav,List.map_nil,gi i _ e];rfl
   rw [z2];exact hq
  ·show uc P w [Dt.lst _] _ _ _;rw [Nat.zero_add,aaR,<-List.range_eq_range'];have st:M++(List.range γ.length).map g=M++γ.map (Nv P w c):=by
    congr 1
    refine abz λi=> ?_;rw [aaj,aaj];rcases aa8 i γ.length with hi | hi
    ·rw [aa0 hi,aaa hi];show some (g i)=some _;rw [gi i _ (aaa hi)]
    ·rw [List.getElem?_eq_none (by simpa using hi),List.getElem?_eq_none hi];rfl
   rw [st];refine ⟨_,yT γ c,rfl,by simp;omega,λi j d d' h1 h2=> ?_,λi hi=> ?_,by rw [List.length_map,List.length_range];exact h⟩
   ·rw [aaj] at h1 h2;obtain ⟨i',e1,rfl⟩:=aaQ.mp h1;obtain ⟨j',e2,rfl⟩:=aaQ.mp h2;have li:i < γ.length:=by have:=(List.getElem?_eq_some_iff.mp e1).1;simpa using this
    have lj:j < γ.length:=by have:=(List.getElem?_eq_some_iff.mp e2).1;simpa using this
    rw [aa0 li] at e1;rw [aa0 lj] at e2;cases e1;cases e2;have a1:yT γ c i j=(decide (c i=c j)&&(if i=j then true else eT (Ι c γ[i]) (Ι c γ[j]))):=by unfold yT;rw [aaa li,aaa lj]
    rw [a1];refine eq2 (Ds:=γ.map (Ι c)) (λk D hk=> ?_) (λk D hk=> ?_) (by rw [aaj,aaa li];rfl) (by rw [aaj,aaa lj];rfl)
    ·rw [aaj] at hk;obtain ⟨r,e,rfl⟩:=aaQ.mp hk;rw [aaC (by omega),abD,aaj,e];rfl
    ·rw [aaj] at hk;obtain ⟨r,e,rfl⟩:=aaQ.mp hk;cases r with
     | fin p=>rfl
     | ι k ds=>have:=(g7 c k ds).1;rwa [aac] at this
   ·unfold yT;simp
def Hm(D:PD):Prop:=D.2.length=D.1.length/\D.1.Nodup
theorem jc{D D':PD}(h:Hm D)(h':Hm D'):eT D D'=true↔∀k,N51.get D.1 D.2 k=N51.get D'.1 D'.2 k:=by
 rw [<-N51.BK h.1 h'.1 h.2 h'.2];unfold eT;rw [aaz,decide_eq_true_eq,aa5];refine and_congr_right λ_=>⟨λq j k v hk hv=> ?_,λq j hj=> ?_⟩
 ·have:=q j (aaP.mpr (aad.mp hk).1);unfold mC at this;rw [hk,hv] at this;cases g:N51.get D'.1 D'.2 k with
  | none=>
   have this:(match N51.get D'.1 D'.2 k with | some v'=>decide (v=v') | none=>false)=true:=this;rw [g] at this;cases this
  | some v'=>
   have this:(match N51.get D'.1 D'.2 k with | some v'=>decide (v=v') | none=>false)=true:=this;rw [g] at this;rw [aaq this]
 ·have hj:=aaP.mp hj;have J6:j < D.2.length:=by rw [h.1];exact hj
  unfold mC;rw [aaa hj,aaa J6];show (match N51.get D'.1 D'.2 D.1[j] with | some v'=>decide (D.2[j]=v') | none=>false)=true;rw [q j _ _ (aaa hj) (aaa J6)];exact aam rfl
theorem cK(c:Nat->Nat)(r:Rw):Hm (Ι c r):=by
 cases r with
 | fin p=>exact ⟨rfl,List.nodup_nil⟩
 | ι k ds=>
  have key:∀(op:Fr->Fr->Fr),Hm (N51.gc op (0,1) (ds.map λd=>(π c d,θ d))):=λop=>by obtain ⟨a1,a2,_⟩:=N51.dt op (0,1) (ds.map λd=>(π c d,θ d));exact ⟨a1,a2⟩
  by_cases e:k="chance"
  ·simp only [Ι,if_pos e];exact key _
  ·simp only [Ι,if_neg e];exact key _
theorem bq{γ:List Rw}(hi:i < γ.length)(hj:j < γ.length):yT γ c i j=true↔c i=c j/\∀k,N51.get (Ι c γ[i]).1 (Ι c γ[i]).2 k=N51.get (Ι c γ[j]).1 (Ι c γ[j]).2 k:=by
 have a1:yT γ c i j=(decide (c i=c j)&&(if i=j then true else eT (Ι c γ[i]) (Ι c γ[j]))):=by unfold yT;rw [aaa hi,aaa hj]
 rw [a1,aaz,decide_eq_true_eq];refine and_congr_right λ_=> ?_;by_cases e:i=j
 ·subst e;rw [aaF rfl];exact ⟨λ_ _=>rfl,λ_=>rfl⟩
 ·rw [aaA e];exact jc (cK c _) (cK c _)
theorem Dk(γ:List Rw)(c:Nat->Nat):N51.Cl γ.length (N51.least (yT γ c)):=
 N51.wF (λi hi=>(bq hi hi).mpr ⟨rfl,λ_=>rfl⟩) λi j k hi hj hk h1 h2=>(bq hi hk).mpr ⟨((bq hi hj).mp h1).1.trans ((bq hj hk).mp h2).1,λx=>(((bq hi hj).mp h1).2 x).trans (((bq hj hk).mp h2).2 x)⟩
theorem Bi(γ:List Rw)(c:Nat->Nat)(hi:i < γ.length):c (N51.least (yT γ c) i)=c i:=by have h:=N51.dX (s:=yT γ c) (i:=i) ((bq hi hi).mpr ⟨rfl,λ_=>rfl⟩);exact ((bq (aaN (N51.least_le _ _) hi) hi).mp h).1
theorem Ea{γ:List Rw}(hc:N51.Cl γ.length c)(hi:i < γ.length)(ne:N51.least (yT γ c) i≠c i):(N51.dg γ.length c).length < (N51.dg γ.length (N51.least (yT γ c))).length:=
 N51.Ql hc (Dk γ c) (λ_ h=>Bi γ c h) hi ne
theorem aX:∀{r s t:Rw},br r s=true->br s t=true->br r t=true
 | .fin p, .fin q, .fin o,h1,h2=>by have h1:p=q:=aaq h1;rw [h1];exact h2
 | .ι k _, .ι l _, .ι o _,h1,h2=>by have h1:k=l:=aaq h1;have h2:l=o:=aaq h2;exact aam (h1.trans h2)
 | .fin _, .ι _ _,_,h1,_=>(nomatch h1)
 | .ι _ _, .fin _,_,h1,_=>(nomatch h1)
 | .fin _, .fin _, .ι _ _,_,h2=>(nomatch h2)
 | .ι _ _, .ι _ _, .fin _,_,h2=>(nomatch h2)
theorem eU{γ:List Rw}(hi:i < γ.length)(hj:j < γ.length):yc γ i j=br γ[i] γ[j]:=by unfold yc;rw [aaa hi,aaa hj]
theorem LL(γ:List Rw):N51.Cl γ.length (N51.least (yc γ)):=
 N51.wF (λi hi=>by rw [eU hi hi];exact j8 _) λi j k hi hj hk h1 h2=>by rw [eU hi hj] at h1;rw [eU hj hk] at h2;rw [eU hi hk];exact aX h1 h2
def bM(γ:List Rw):Nat->Nat->Nat
 | 0=>N51.least (yc γ)
 | k+1=>N51.least (yT γ (bM γ k))
def c6(γ:List Rw)(k:Nat):List Dt:=cm γ.length (bM γ k)
theorem fV(γ:List Rw)(k:Nat):N51.Cl γ.length (bM γ k):=by
 cases k with
 | zero=>exact LL γ
 | succ k=>exact Dk γ _
theorem gO:(cm n c).length=n:=by unfold cm;rw [List.length_map,List.length_range]
theorem lQ(h:i < n):(cm n c)[i]? =some (.int (c i:Nat)):=by unfold cm;rw [List.getElem?_map,List.getElem?_range h];rfl
theorem mU:cm n c=cm n c'↔∀i,i < n->c i=c' i:=by
 constructor
 ·intro h i hi;have:=lQ (c:=c) hi;rw [h,lQ hi] at this;have:=aaG this;have:((c' i:Nat):Int)=(c i:Nat):=Dt.int.inj this;omega
 ·intro h;unfold cm;exact aaS λi hi=>by rw [h i (aaP.mp hi)]
theorem LS(h:cm n c≠cm n c'):∃i,i < n/\c i≠c' i:=
 Classical.byContradiction λq=>h (mU.mpr λi hi=>Classical.byContradiction λz=>q ⟨i,hi,z⟩)
theorem FL{γ:List Rw}(h:c6 γ (k+1)≠c6 γ k):(N51.dg γ.length (bM γ k)).length < (N51.dg γ.length (bM γ (k+1))).length:=by obtain ⟨i,hi,ne⟩:=LS h;exact Ea (fV γ k) hi ne
structure kN(γ:List Rw)(m:Nat):Prop where
 pos:1<=m
 JY:m<=13
 ne:∀k,k+1 < m->c6 γ (k+1)≠c6 γ k
 eq:c6 γ m=c6 γ (m - 1)
theorem kN.uniq{γ:List Rw}{m':Nat}(h:kN γ m)(h':kN γ m'):m=m':=by
 have key:∀{a b:Nat},kN γ a->kN γ b->¬a < b:=λ{a b} ha hb hl=>by have p:=ha.pos;have:=hb.ne (a - 1) (by omega);rw [show a - 1+1=a by omega] at this;exact this ha.eq
 have a:=key h h';have b:=key h' h;omega
def AQ(n:Nat)(c c':Nat->Nat):Bool:=(List.range n).all λj=>decide (c j=c' j)
theorem sX:AQ n c c'=true↔cm n c=cm n c':=by unfold AQ;rw [aa5,mU];exact ⟨λh i hi=>aaq (h i (aaP.mpr hi)),λh i hi=>aam (h i (aaP.mp hi))⟩
theorem Ia(h1:fU M d=some (cm n c))(h2:fU M e=some (cm n c')):jz M (k+1) d e (AQ n c c'):=by
 have h:=jz.lst (M:=M) (n:=k) (d:=d) (e:=e) (f:=λj=>decide (c j=c' j)) h1 h2 (by rw [gO,gO]) λj x y hx hy=>by
  have lj:j < n:=by have:=(aad.mp hx).1;rwa [gO] at this
  rw [lQ lj] at hx hy;cases hx;cases hy;have z:gb (V.int ((c j:Nat):Int)) (V.int ((c' j:Nat):Int))=decide (c j=c' j):=by rw [Bool.eq_iff_iff];simp [gb];omega
  have:=jz.flat (M:=M) (n:=k) (d:= .int ((c j:Nat):Int)) (e:= .int ((c' j:Nat):Int)) rfl rfl;rwa [z] at this
 rw [gO] at h;exact h
theorem ll:i9 (xs++[d]) (-1)=some d:=by
 unfold i9;rw [aai];show ((GJ (xs.length+1) (-1)).bind _)=_;have e:GJ (xs.length+1) (-1)=some xs.length:=by unfold GJ;simp;omega
 rw [e];show (xs++[d])[xs.length]? =_;simp
theorem aF{o:MO}:(M++[o])[M.length]? =some o:=by simp
theorem bO{E:Ms}{m:MO}(h:M[k]? =some m):(M++E)[k]? =some m:=by rw [aaJ (aad.mp h).1];exact h
theorem eN(h:M[k]? =some (MO.lst xs)):gJ M (.loc k)=some xs:=by show (match M[k]? with | some (.lst xs)=>some xs | _=>none)=_;rw [h]
theorem bX(h:M[k]? =some (MO.lst xs)):fU M (.loc k)=some xs:=by show (match M[k]? with | some (.lst xs)=>some xs | _=>none)=_;rw [h]
def Xt(M M1:Ms):Prop:=∀(k:Nat) (o:MO),M[k]? =some o->M1[k]? =some o
section
variable{M1 M2:Ms}
theorem Xt.refl:Xt M M:=λ_ _ h=>h
theorem Xt.trans(a:Xt M M1)(b:Xt M1 M2):Xt M M2:=λk o h=>b k o (a k o h)
theorem Xt.app{E:Ms}:Xt M (M++E):=λ_ _ h=>bO h
theorem Xt.set{o:MO}(a:Xt M M1)(h:M.length<=j):Xt M (M1.set j o):=λk u e=>by rw [aa4 (λq=>by have:=(aad.mp e).1;omega)];exact a k u e
theorem Xt.len(a:Xt M M1):M.length<=M1.length:=by
 rcases Nat.eq_zero_or_pos M.length with z | z
 ·omega
 ·have:=a (M.length - 1) _ (aaa (by omega));have:=(aad.mp this).1;omega
end
structure CB(M:Ms)(lo kr:Nat)(γ:List Rw)(ls:List Nat):Prop where
 at':M[kr]? =some (.lst (ls.map Dt.loc))
 lo1:lo<=kr
 each:∀k a,ls[k]? =some a->lo<=a/\a≠kr/\M[a]? =some (.lst (c6 γ k))
 nd:ls.Nodup
theorem CB.mono{M1:Ms}{lo kr:Nat}{γ:List Rw}(h:CB M lo kr γ ls)(x:Xt M M1):CB M1 lo kr γ ls:=
 ⟨x _ _ h.at',h.lo1,λk a e=>⟨(h.each k a e).1,(h.each k a e).2.1,x _ _ (h.each k a e).2.2⟩,h.nd⟩
structure Sm(γ:List Rw):Prop where
 len:γ.length<=12
 ok:∀r∈γ,cC r
 to:∀r∈γ,∀d∈cw r,0<=d.1/\d.1 < γ.length
 sz:∀r∈γ,∀d∈cw r,Sz 200 (θ d)
def vk(C:Addr):DF:=λas M q _=>∃Α γ,as=[Ε C Α γ]/\Sm γ/\∀(m kr:Nat) (ls:List Nat) (M1:Ms),kN γ m->ls.length=m->Xt M M1->CB M1 M.length kr γ ls->q (.loc kr) M1
theorem k_:Δ ["floor","rounds","classes"] ["floor"] (χ u3):= .of rfl
theorem Bq   (F:eD K "parted" "parted" u3 f fd) (E:Ev K mg Cm) {rE:Addr} {rN:FuncData} (eZ:aR P w K mg base 4 "first_classes" ["floor"] (Ei Cm) rE rN) {vU:Addr} {tZ:FuncData} (dG:aR P w K mg base 7 "next_classes" ["floor","classes"] (Fh P w Cm) vU tZ):aC P w K mg base (dh P w) 9 f fd ["floor"] (eh K (vk Cm)):=by
 refine F.gH k_ (λds M q x h=> ?_) (λb8 A outer s H E' hr=>⟨_,(η (Β 1 k_.nd (m8 (ζ (au eZ hr ο (ar (jv 0) ε)) ε bc)))
   (η (Β 2 k_.nd (au dG hr ο (ar (jv 0) (ζ (Κ (jv 1) (sD ν)) ε aT))))
   (η (qZ (pC 1 hr (jv 2) (Κ (jv 1) (sD ν))) (η (kZ (iW (jv 1) (ar (jv 2) ε)))
   (μ (Β 2 k_.nd (au dG hr ο (ar (jv 0) (ar (jv 2) ε)))))))
   (μ (Γ (jv 1)))))),λds M q x h=> ?_⟩)
 ·obtain ⟨Α,γ,rfl,_⟩:=h;rfl
 ·obtain ⟨Α,γ,rfl,fl,h⟩:=h;walk_at "vc";dsimp only [Jq];walk_at "vc";refine ⟨Α,γ,rfl,fl.len,fl.ok, ?_⟩;have l0:(M++[MO.lst (cm γ.length (N51.least (yc γ)))]).length=M.length+1:=by rw [aai];rfl
  refine ⟨by decide, ?_⟩;rw [l0];have a0:(M++[MO.lst (cm γ.length (N51.least (yc γ)))]++[MO.lst [Dt.loc M.length]])[M.length]? =some (.lst (c6 γ 0)):=bO aF;have a1:(M++[MO.lst (cm γ.length (N51.least (yc γ)))]++[MO.lst [Dt.loc M.length]])[M.length+1]? =some (.lst ([M.length].map Dt.loc)):=by rw [<-l0];exact aF
  have x1:Xt M (M++[MO.lst (cm γ.length (N51.least (yc γ)))]++[MO.lst [Dt.loc M.length]]):=Xt.app.trans Xt.app;have l1:(M++[MO.lst (cm γ.length (N51.least (yc γ)))]++[MO.lst [Dt.loc M.length]]).length=M.length+2:=by rw [aai,l0];rfl
  generalize M++[MO.lst (cm γ.length (N51.least (yc γ)))]++[MO.lst [Dt.loc M.length]]=M1 at *
  show cq (.loc (M.length+1)) (.int (-1)) M1 (λd2 M2=>Fh P w Cm [Ε Cm Α γ,d2] M2 _ _);refine (υ (d:= .loc (M.length+1)) (i:= -1) (eN a1) (ll (xs:=[])) ?_:cq (.loc (M.length+1)) (.int (-1)) M1 _);refine ⟨Α,γ,bM γ 0, .loc M.length,rfl,λE=>eN (bO a0),fl.len,fl.ok,fl.to,fl.sz, ?_⟩;refine ⟨λmm ρ' M2=>∃(k kc:Nat) (ls:List Nat),mm=13 - (N51.dg γ.length (bM γ k)).length/\k<=(N51.dg γ.length (bM γ k)).length/\ls.length=k+1/\(∀j,j < k->c6 γ (j+1)≠c6 γ j)/\Xt M M2/\CB M2 M.length (M.length+1) γ ls/\M.length<=kc/\kc≠M.length+1/\kc∉ls/\M2[kc]? =some (.lst (c6 γ (k+1)))/\ρ'=[some (Ε Cm Α γ),some (.loc (M.length+1)),some (.loc kc)],⟨_,0,_,[M.length],rfl,Nat.zero_le _,rfl,λj hj=>absurd hj (by omega),x1.trans (Xt.app.trans Xt.app),⟨bO (bO a1),by omega,λk a e=> ?_,by simp⟩, ?_, ?_, ?_,aF,rfl⟩,λmm ρ' M2 hw=> ?_⟩
  ·cases k with
   | zero=>cases e;exact ⟨aal _,by omega,bO (bO a0)⟩
   | succ k=>cases e
  ·rw [aai,l1];omega
  ·rw [aai,l1];omega
  ·rw [aai,l1,abf];omega
  ·obtain ⟨k,kc,ls,rfl,hk,hl,ne,x2,ca,c1,c2,c3,hc,rfl⟩:=hw;have UM:=aax (N51.oI γ.length (bM γ k)) fl.len;obtain ⟨li,la,rfl⟩:∃li la,ls=li++[la]:=⟨ls.dropLast,ls.getLast (λe=>by subst e;cases hl),(aa3 _).symm⟩;have Vp:li.length=k:=by rw [aai] at hl;exact Nat.succ.inj hl
   have P9:(li++[la])[k]? =some la:=by rw [aaC (by omega),Vp,aa9];rfl
   have BV:=ca.each k la P9;have Pr:i9 ((li++[la]).map Dt.loc) (-1)=some (.loc la):=by rw [aao];exact ll
   walk_at "vc";dsimp only [Bu];refine (υ (d:= .loc (M.length+1)) (i:= -1) (eN ca.at') Pr ?_:cq (.loc (M.length+1)) (.int (-1)) M2 _);refine ⟨_, .inr ⟨_,bX hc⟩, .inr ⟨_,bX BV.2.2⟩,Ia (k:=0) (bX hc) (bX BV.2.2),λhb=> ?_,λhb=> ?_⟩
   ·have gE:c6 γ (k+1)≠c6 γ k:=λe=>by have:=sX.mpr e;rw [this] at hb;cases hb
    have more:=FL gE;refine ⟨_,λρ2 M3 hn=>hn, ?_⟩;dsimp only [Mf];walk_at "vc";refine ⟨⟨_,_,rfl,ca.at'⟩,M.length+1,_,_,rfl,rfl,ca.at',by rw [aac,hl];exact aaN (show k+1<=13 by omega) (by decide), ?_⟩;have kc2:=(aad.mp hc).1;have XF:=(aad.mp ca.at').1;have l3:(M2.set (M.length+1) (.lst ((li++[la]).map Dt.loc++[.loc kc]))).length=M2.length:=abI;have UQ:(M2.set (M.length+1) (.lst ((li++[la]).map Dt.loc++[.loc kc])))[kc]? =some (.lst (c6 γ (k+1))):=by rw [aa4 (Ne.symm c2)];exact hc
    have Vx:CB (M2.set (M.length+1) (.lst ((li++[la]).map Dt.loc++[.loc kc]))) M.length (M.length+1) γ ((li++[la])++[kc]):=by
     refine ⟨by rw [aba XF,aao (l₁:=li++[la])];rfl,by omega,λj a e=> ?_, ?_⟩
     ·rcases aa8 j (li++[la]).length with q | q
      ·rw [aaJ q] at e;obtain ⟨e1,e2,e3⟩:=ca.each j a e;exact ⟨e1,e2,by rw [aa4 (Ne.symm e2)];exact e3⟩
      ·rw [aaC q] at e;have ej:j=k+1:=by have:=(aad.mp e).1;have this:j - (li++[la]).length < 1:=this;omega
       subst ej;rw [hl,aa9] at e;cases e;exact ⟨c1,c2,UQ⟩
     ·exact List.nodup_append.mpr ⟨ca.nd,by simp,λa ha b hb=>by
       have:b=kc:=by simpa using hb
       subst this;rintro rfl
       exact c3 ha⟩
    have x3:Xt M (M2.set (M.length+1) (.lst ((li++[la]).map Dt.loc++[.loc kc]))):=x2.set (by omega);have X_:∀j a,(li++[la]++[kc])[j]? =some a->a < M2.length:=λj a e=>by have:=(aad.mp (Vx.each j a e).2.2).1;omega
    generalize M2.set (M.length+1) (.lst ((li++[la]).map Dt.loc++[.loc kc]))=M3 at *
    refine ⟨Α,γ,bM γ (k+1), .loc kc,rfl,λE=>eN (bO UQ),fl.len,fl.ok,fl.to,fl.sz, ?_⟩;refine ⟨_, ?_,k+1,_,(li++[la])++[kc],rfl,by omega,by rw [aai,hl];rfl,λj hj=> ?_,x3.trans (Xt.app.trans Xt.app),Vx.mono (Xt.app.trans Xt.app), ?_, ?_, ?_,aF,rfl⟩
    ·omega
    ·rcases aa8 j k with q | q
     ·exact ne j q
     ·rw [show j=k by omega];exact gE
    ·rw [aai];omega
    ·rw [aai];omega
    ·intro hm;obtain ⟨j,hj⟩:=abd.mp hm;have:=X_ j _ hj;rw [aai] at this;omega
   ·have he:c6 γ (k+1)=c6 γ k:=by
     refine sX.mp ?_;cases e:AQ γ.length (bM γ (k+1)) (bM γ k) with
     | true=>rfl
     | false=>rw [e] at hb;cases hb
    exact h (k+1) _ (li++[la]) M2 ⟨by omega,by omega,λj hj=>ne j (by omega),he⟩ hl x2 ca
theorem N':1<=sizeLine:=by decide
theorem kQ:2<=sizeLine:=by decide
theorem OX:3<=sizeLine:=by decide
def sU(l:List Nat):List Dt:=l.map λj:Nat=>Dt.int (j:Nat)
theorem lC:(sU l).length=l.length:=aac ..
theorem Av(h:i < l.length):(sU l)[i]? =some (.int (l[i]:Nat)):=by unfold sU;rw [List.getElem?_map,List.getElem?_eq_getElem h];rfl
theorem Fd{n:Nat}:∀l:List Nat,Dt.bz n (sU l)
 | []=>trivial
 | _::l=>⟨trivial,Fd l⟩
theorem gM(h:y∈ls):ls.idxOf y < ls.length:=List.idxOf_lt_length_iff.mpr h
theorem oU(h:y∈ls):ls[ls.idxOf y]'(gM h)=y:=List.getElem_idxOf (gM h)
theorem vE{x:Nat}(hx:x∈ls)(hy:y∈ls)(e:ls.idxOf x=ls.idxOf y):x=y:=by
 rw [<-oU hx,<-oU hy]
 congr 1
theorem HG{x:Nat}:jz M n (.int (x:Nat)) (.int (y:Nat)) (decide (x=y)):=by
 have z:gb (V.int (x:Nat)) (V.int (y:Nat))=decide (x=y):=by rw [Bool.eq_iff_iff];simp [gb];omega
 have:=jz.flat (M:=M) (n:=n) (d:= .int (x:Nat)) (e:= .int (y:Nat)) rfl rfl;rwa [z] at this
theorem wy(M:Ms)(h:y∈ls):∃f:Nat->Bool,(∀(i:Nat) z,(sU ls)[i]? =some z->jz M 1 z (.int (y:Nat)) (f i))/\ls.idxOf y < (sU ls).length/\f (ls.idxOf y)=true/\∀i,i < ls.idxOf y->f i=false:=by
 refine ⟨λi=>decide (ls.getD i 0=y),λi z hz=> ?_,by rw [lC];exact gM h, ?_,λi hi=> ?_⟩
 ·have hi:i < ls.length:=by have:=(aad.mp hz).1;rwa [lC] at this
  rw [Av hi] at hz;cases hz;have:ls.getD i 0=ls[i]:=by rw [aan,aaa hi];rfl
  show jz M 1 _ _ (decide (ls.getD i 0=y));rw [this];exact HG
 ·have hi:=gM h;show decide (ls.getD (ls.idxOf y) 0=y)=true;rw [aan,aaa hi];exact aam (oU h)
 ·have Gy:i < ls.length:=Nat.lt_trans hi (gM h);show decide (ls.getD i 0=y)=false;rw [aan,aaa Gy];have:=List.not_of_lt_findIdx (p:=(· ==y)) (xs:=ls) hi;have e2:ls[i]≠y:=λe=>by have this:(ls[i]==y)=false:=this;rw [e] at this;simp at this
  exact aaK e2
def Kw:NK->Fr
 | ([.inl a, .inl b],_)=>(a,b)
 | _=>(0,1)
def MU:NK->Nat
 | (_, .inl y)=>y.toNat
 | _=>0
theorem qe(c:Nat->Nat)(d:cb):Kw (π c d)=d.2.1:=rfl
theorem qz(c:Nat->Nat)(d:cb):MU (π c d)=c d.1.toNat:=by show ((c d.1.toNat:Nat):Int).toNat=_;omega
def jd(ls:List Nat)(kv:NK×Fr):cb:=(((ls.idxOf (MU kv.1):Nat):Int),Kw kv.1,[kv.2])
def O5(d:cb):cb:=(d.1,d.2.1,[])
abbrev CI(c:Nat->Nat)(r:Rw):List (NK×Fr):=(Ι c r).1.zip (Ι c r).2
def rO(ls:List Nat)(c:Nat->Nat):Rw->Rw
 | .fin p=> .fin p
 | .ι k ds=> .ι k (if k="chance" then (CI c (.ι k ds)).map (jd ls) else ((CI c (.ι k ds)).map (jd ls)).map O5)
theorem e9{k:Str}{ds:List cb}:x∈(Ι c (.ι k ds)).1↔∃d∈ds,x=π c d:=by
 have key:∀op:Fr->Fr->Fr,x∈(N51.gc op (0,1) (ds.map λd=>(π c d,θ d))).1↔∃d∈ds,x=π c d:=λop=>by rw [(N51.dt op (0,1) (ds.map λd=>(π c d,θ d))).2.2.1 x,aas,aaf];exact ⟨λ⟨d,h1,h2⟩=>⟨d,h1,h2.symm⟩,λ⟨d,h1,h2⟩=>⟨d,h1,h2.symm⟩⟩
 by_cases e:k="chance"
 ·simp only [Ι,if_pos e];exact key _
 ·simp only [Ι,if_neg e];exact key _
def Ax(P:Program)(w:World)(C:Addr):DF:=λas M q _=>∃Α γ i r n c dc ls,as=[Ε C Α γ, .int (i:Nat),dc, .lst (sU ls)]/\(∀E,gJ (M++E) dc=some (cm n c))/\γ[i]? =some r/\cC r/\(∀d∈cw r,0<=d.1/\d.1 < n)/\(∀d∈cw r,Sz 200 (θ d))/\n<=12/\(∀t,t < n->c t∈ls)/\∀E,q (ak (rO ls c r)) (M++E)
theorem dW:Δ ["floor","place","classes","leasts","pairs","doors"] ["floor","place","classes","leasts"] (χ ke):= .of rfl
theorem vz(F:eD K "joined_row" "joined_row" ke f fd)(E:Ev K mg Cm)(Υ:fh P w K mg base 1 Cm "kind" ["self","place"] (sP Cm) bR b5){mG:Addr}{mE:FuncData}(dE:fh P w K mg base 2 Cm "pay" ["self","place"] (KU Cm) mG mE){q5:Addr}{qO:FuncData}(eL:aR P w K mg base 5 "pairs_of" ["floor","place","classes"] (zI P w Cm) q5 qO):aC P w K mg base (dh P w) 7 f fd ["floor","place","classes","leasts"] (eh K (Ax P w Cm)):=by
 refine F.gH dW (λds M q x h=> ?_) (λb8 A outer s H E' hr=>⟨_,(η (aE (da hr (fY Υ hr ο (jv 0) (ar (jv 1) ε)) fX) (μ (Γ (aD (ζ fX (ζ (fY dE hr ο (jv 0) (ar (jv 1) ε)) ε bc) bb)))) Ξ)
   (η (Β 4 dW.nd (au eL hr ο (ar (jv 0) (ar (jv 1) (ar (jv 2) ε)))))
   (η (xu (P:=P) (w:=w) (i:=5) dW.nd rfl (Or.inl rfl) (ys:=["pairs","leasts"]) (Λ:=[4,3]) (.of dW rfl rfl rfl) (jv 4) (λC s H fp=>(aD (ζ (Az 1 hr (jv 2) (ζ (Κ (jv 0) ν) ε aT)) (ζ (Κ (jv 0) ν) (ζ (Ib (P:=P) (w:=w) hr (jv 1) (jv 0)) ε aT) aT) bc))))
   (η (aE (da hr (fY Υ hr ο (jv 0) (ar (jv 1) ε)) fX) (μ (Γ (aD (ζ fX (ar (jv 5) ε) bb)))) Ξ)
   (μ (Γ (aD (ζ (fY Υ hr ο (jv 0) (ar (jv 1) ε)) (ζ (c5 (ys:=[]) (Λ:=[]) (.of dW rfl rfl rfl) (bu (jv 5)) (λC s H fp=>(oB (jv 0) ν))) ε) bc)))))))),λds M q x h=> ?_⟩)
 ·obtain ⟨Α,γ,i,r,n,c,dc,ls,rfl,_⟩:=h;rfl
 ·obtain ⟨Α,γ,i,r,n,c,dc,ls,rfl,Nu,e,ok,ht,hs,hn,NA,h⟩:=h;refine ⟨⟨_,_, .inl rfl,rfl⟩,Α,γ,i,r,rfl,e, ?_⟩
  match r,e,ok,ht,hs,h with
  | .fin p,e,ok,_,_,h=>
   refine ⟨λ_=>⟨⟨_,_, .inl rfl,rfl⟩,Α,γ,i, .fin p,rfl,e,ok,kQ, ?_⟩,λz=>(nomatch z)⟩;have:=h [];rwa [aaW] at this
  | .ι kd ds,e,ok,ht,hs,h=>
  have KW:kd≠"end":=ok.1;refine ⟨λz=>aaI (aaq z) KW,λ_=> ?_⟩;refine ⟨Α,γ,i, .ι kd ds,n,c,dc,rfl,Nu,e,ok,ht,hs,hn, ?_⟩;obtain ⟨f1,f2⟩:=g7 c kd ds;have f3:(Ι c (.ι kd ds)).2.length=(Ι c (.ι kd ds)).1.length:=by rw [aac] at f1;exact f1.symm
  have f4:=(cK c (.ι kd ds)).2;have Hn:ds.length<=12:=ok.2.1;have mem:∀x∈(Ι c (.ι kd ds)).1,∃d∈ds,x=π c d:=λx hx=>e9.mp hx;have Rm:∀dd:List cb,(∀E,q (ak (.ι kd dd)) (M++E))->(∀E,q (ak (.ι kd dd)) (M++E)):=λ_ h=>h;have hj:rO ls c (.ι kd ds)= .ι kd (if kd="chance" then (CI c (.ι kd ds)).map (jd ls) else ((CI c (.ι kd ds)).map (jd ls)).map O5):=rfl;rw [hj] at h;unfold CI at h;generalize LZ:(Ι c (.ι kd ds)).1=ks at *
  generalize QV:(Ι c (.ι kd ds)).2=vs at *
  have gm:(M++[jO P w ks (vs.map Χ)])[M.length]? =some (jO P w ks (vs.map Χ)):=aF;dsimp only [Fm];walk_at "vc";refine ⟨M.length,ks,vs.map Χ,rfl,gm,f1,aax (show ks.length<=12 by omega) (by decide),λjo ep=> ?_⟩;have es:(M++[jO P w ks (vs.map Χ)]).set M.length (zi P w ks (vs.map Χ) jo ep)=M++[zi P w ks (vs.map Χ) jo ep]:=by rw [aaZ _ _ (aal _),aa9];rfl
  rw [es];have gw:(M++[zi P w ks (vs.map Χ) jo ep])[M.length]? =some (zi P w ks (vs.map Χ) jo ep):=aF;refine iz (f:=λj=>ba (jd ls ((ks.zip vs).getD j (([], .inl 0),(0,1))))) gw (λj x hx q' hq=> ?_) ?_
  ·rw [aaj] at hx;obtain ⟨key,ek,rfl⟩:=aaQ.mp hx;have jl:j < ks.length:=(aad.mp ek).1;have jv:j < vs.length:=by omega
   have ez:(ks.zip vs).getD j (([], .inl 0),(0,1))=(key,vs[j]):=by rw [aan,(aaY (z:=(key,vs[j]))).mpr ⟨ek,aaa jv⟩];rfl
   rw [ez] at hq;obtain ⟨d,md,rfl⟩:=mem key (aaD ek);obtain ⟨t0,tn⟩:=ht d md;have tl:d.1.toNat < n:=by omega
   have eg:dJ ks (vs.map Χ) (π c d)=some (Χ vs[j]):=by rw [gp,N51.pE f4 ek (aaa jv)];rfl
   have en:tG (π c d)= .tup [Χ d.2.1, .int (c d.1.toNat:Nat)]:=rfl;dsimp only [Dh,ic,nW,E_,Gz];walk_at "vc";refine ⟨⟨_,rfl⟩, ?_⟩;refine (υ (d:=tG (π c d)) (xs:=[Χ d.2.1, .int (c d.1.toNat:Nat)]) rfl (Ν (j:=1) rfl) ?_:cq (tG (π c d)) (.int 1) _ _);obtain ⟨fx,x1,x2,x3,x4⟩:=wy (M++[zi P w ks (vs.map Χ) jo ep]) (NA _ tl);refine ⟨_,sU ls,fx,_,rfl,rfl,x1,x2,x3,x4, ?_⟩;refine (υ (d:=tG (π c d)) (xs:=[Χ d.2.1, .int (c d.1.toNat:Nat)]) rfl Φ ?_:cq (tG (π c d)) (.int 0) _ _);refine ⟨M.length,ks,vs.map Χ,jo,ep,π c d,_,rfl,gw,f1,rfl,eg,OX, ?_⟩;have ej:ba (jd ls (π c d,vs[j]))= .tup [.int (ls.idxOf (c d.1.toNat):Nat),Χ d.2.1,Χ vs[j]]:=by unfold ba jd;rw [qz,qe];rfl
   rw [ej] at hq;exact hq
  ·have ed:[]++(List.range (ks.map tG).length).map (λj=>ba (jd ls ((ks.zip vs).getD j (([], .inl 0),(0,1)))))=((ks.zip vs).map (jd ls)).map ba:=by
    rw [aaR,aas,aac];apply abz;intro j;rw [aaj,aaj];rcases aa8 j ks.length with hj | hj
    ·rw [aa0 hj];have hz:j < (ks.zip vs).length:=by rw [abe];omega
     rw [aaa hz];show some (ba (jd ls ((ks.zip vs).getD j _)))=some _;rw [aan,aaa hz];rfl
    ·rw [List.getElem?_eq_none (by simpa using hj),List.getElem?_eq_none (by rw [List.length_zip];omega)];rfl
   have GK:(M++[zi P w ks (vs.map Χ) jo ep]).set M.length (jO P w ks (vs.map Χ))=M++[jO P w ks (vs.map Χ)]:=by rw [aaZ _ _ (aal _),aa9];rfl
   rw [ed,GK];refine ⟨gw, ?_⟩;have lz:(ks.zip vs).length<=12:=by rw [abe];omega
   generalize ks.zip vs=zs at *
   refine ⟨⟨_,_, .inl rfl,rfl⟩,Α,γ,i, .ι kd ds,rfl,e,λhb=> ?_,λhb=> ?_⟩
   ·have hb:kd="chance":=aaq hb;rw [aaF hb] at h;subst hb;exact ⟨kQ,h _⟩
   ·have hb:kd≠"chance":=abH hb;rw [aaA hb] at h;refine ⟨⟨_,_, .inl rfl,rfl⟩,Α,γ,i, .ι kd ds,rfl,e, ?_⟩;show cX _ _ _ _ _;refine aZ (i:=5) (d:= .lst ((zs.map (jd ls)).map ba)) rfl rfl ⟨by rw [aac,aac];exact aax lz (by decide), ?_⟩;refine cM (f:=λd=>match d with | .tup [a,b,_]=> .tup [a,b] | _=> .bV) trivial (λx A_ q' hq=> ?_) ?_
    ·obtain ⟨d,hd,rfl⟩:=aaf.mp A_;obtain ⟨y,hy,rfl⟩:=aaf.mp hd;exact ⟨_,2,rfl,rfl,by show 2 < 3;decide,hq⟩
    ·have e3:[]++((zs.map (jd ls)).map ba).map (λd=>match d with | .tup [a,b,_]=> .tup [a,b] | _=> .bV)=((zs.map (jd ls)).map O5).map ba:=by rw [aaR,aas,aas,aas,aas];rfl
     rw [e3];exact ⟨kQ,h _⟩
def v7(k:Str):Fr->Fr->Fr:=if k="chance" then c7 else λ_ _=>(1,1)
def aY(p:Fr)(y:Nat):NK:=([.inl p.1, .inl p.2], .inl (y:Nat))
abbrev vZ(c:Nat->Nat)(ds:List cb):List (NK×Fr):=ds.map λd=>(π c d,θ d)
def Ω(c:Nat->Nat)(k:Str)(ds:List cb)(x:NK):Fr:=N51.xr (v7 k) (0,1) (vZ c ds) x
theorem u7(c:Nat->Nat)(k:Str)(ds:List cb):Ι c (.ι k ds)=N51.gc (v7 k) (0,1) (vZ c ds):=by
 unfold v7;by_cases e:k="chance"
 ·simp only [Ι,if_pos e]
 ·simp only [Ι,if_neg e]
theorem cG{d:cb}{p:Fr}:π c d=aY p y↔d.2.1=p/\c d.1.toNat=y:=by
 unfold π aY;constructor
 ·intro h;injection h with h1 h2
  injection h1 with a1 a2
  injection a2 with a2 _
  have a1:=Sum.inl.inj a1;have a2:=Sum.inl.inj a2;have h2:=Sum.inl.inj h2;exact ⟨Prod.ext a1 a2,by omega⟩
 ·rintro ⟨rfl,rfl⟩;rfl
theorem dz(c:Nat->Nat)(k:Str)(ds:List cb)(d:cb)(x:NK):Ω c k (ds++[d]) x=if π c d=x then v7 k (Ω c k ds x) (θ d) else Ω c k ds x:=by unfold Ω vZ;rw [aao];exact N51.wz _ _ _ _ _
theorem dD{k:Str}(hk:k≠"chance"):∀{ds:List cb},(∃d∈ds,π c d=x)->Ω c k ds x=(1,1):=λ{ds} h=>by
 have key:∀(ds:List cb) (a:Fr),a=(1,1)\/(∃d∈ds,π c d=x)->(vZ c ds).foldl (λa y=>if y.1=x then v7 k a y.2 else a) a=(1,1):=by
  intro ds
  induction ds with
  | nil=>
   intro a h;rcases h with h | ⟨d,hd,_⟩
   ·exact h
   ·cases hd
  | cons d ds ih=>
   intro a h;show (vZ c ds).foldl _ (if π c d=x then v7 k a (θ d) else a)=_;by_cases e:π c d=x
   ·rw [aaF e];exact ih _ (.inl (by unfold v7;rw [if_neg hk]))
   ·rw [aaA e];refine ih _ ?_;rcases h with h | ⟨d',hd,he⟩
    ·exact .inl h
    ·rcases aaB.mp hd with rfl | hd
     ·exact aaI he e
     ·exact .inr ⟨d',hd,he⟩
 exact key ds _ (.inr h)
theorem pA{c:Nat->Nat}{x:NK}:∀(ds:List cb) (a:Fr),(∀d∈ds,0 < (θ d).1/\0 < (θ d).2)->0<=a.1->0 < a.2->(0 < a.1\/∃d∈ds,π c d=x)->0 < ((vZ c ds).foldl (λa y=>if y.1=x then c7 a y.2 else a) a).1
 | [],a,_,_,_,h=>by
  rcases h with h | ⟨d,hd,_⟩
  ·exact h
  ·cases hd
 | d::ds,a,hp,h0,h1,h=>by
  show 0 < ((vZ c ds).foldl _ (if π c d=x then c7 a (θ d) else a)).1;have RI:=λd' df=>hp d' (aag _ df);obtain ⟨c0,c1⟩:=hp d aak;by_cases e:π c d=x
  ·rw [aaF e];have t0:0 < a.1 * (θ d).2+(θ d).1 * a.2:=by have:=Int.mul_nonneg h0 (aaX c1);have:=ab2 c0 h1;omega
   have b0:0 < a.2 * (θ d).2:=ab2 h1 c1;have p1:0 < (c7 a (θ d)).1:=nq t0 b0;have p2:0 < (c7 a (θ d)).2:=aU (by omega);exact pA ds _ RI (aaX p1) p2 (.inl p1)
  ·rw [aaA e];refine pA ds _ RI h0 h1 ?_;rcases h with h | ⟨d',hd,he⟩
   ·exact .inl h
   ·rcases aaB.mp hd with rfl | hd
    ·exact aaI he e
    ·exact .inr ⟨d',hd,he⟩
structure eu(n:Nat)(k:Str)(ds:List cb):Prop where
 ok:cC (.ι k ds)
 to:∀d∈ds,0<=d.1/\d.1 < n
 sz:∀d∈ds,Sz 200 (θ d)
 pos:k="chance"->∀d∈ds,0 < (θ d).1/\0 < (θ d).2
theorem eu.sub{k:Str}{ds es:List cb}(h:eu n k (ds++es)):eu n k ds:=by have m:∀{d},d∈ds->d∈ds++es:=λhd=>aaH _ hd;obtain ⟨⟨a1,a2,a3,a4⟩,b,c,d⟩:=h;rw [aai] at a2;refine ⟨⟨a1,by omega,λz=>⟨λx hx=>(a3 z).1 x (m hx),by rw [aac];omega,λx hx=> ?_⟩,λx hx=>a4 x (m hx)⟩,λx hx=>b x (m hx),λx hx=>c x (m hx),λz x hx=>d z x (m hx)⟩;obtain ⟨y,hy,rfl⟩:=aaf.mp hx;exact (a3 z).2.2 _ (aaf.mpr ⟨y,m hy,rfl⟩)
theorem eu.ne{k:Str}{ds:List cb}(h:eu n k ds)(c:Nat->Nat):∀x∈(vZ c ds).map (·.1),N51.xr (v7 k) (0,1) (vZ c ds) x≠(0,1):=λx hx e=>by
 obtain ⟨y,hy,rfl⟩:=aaf.mp hx;obtain ⟨d,hd,rfl⟩:=aaf.mp hy;by_cases hk:k="chance"
 ·have hp:=pA (c:=c) (x:=π c d) ds (0,1) (h.pos hk) (by decide) (by decide) (.inr ⟨d,hd,rfl⟩);have e:(vZ c ds).foldl (λa y=>if y.1=π c d then c7 a y.2 else a) (0,1)=(0,1):=by unfold N51.xr v7 at e;rw [aaF hk] at e;exact e
  rw [e] at hp;exact aaI hp (by decide)
 ·have:=dD (c:=c) hk (x:=π c d) ⟨d,hd,rfl⟩;unfold Ω at this;rw [this] at e;exact aaI e (by decide)
theorem eu.OF{k:Str}{ds es:List cb}(h:eu n k ds)(h':eu n k es)(c:Nat->Nat):eT (Ι c (.ι k ds)) (Ι c (.ι k es))=true↔∀d∈ds++es,Ω c k ds (π c d)=Ω c k es (π c d):=by
 rw [jc (cK c _) (cK c _),u7,u7,N51.Bw (h.ne c) (h'.ne c),<-aao];constructor
 ·intro q d hd;exact q _ (aaf.mpr ⟨_,aaf.mpr ⟨d,hd,rfl⟩,rfl⟩)
 ·intro q x hx;obtain ⟨y,hy,rfl⟩:=aaf.mp hx;obtain ⟨d,hd,rfl⟩:=aaf.mp hy;exact q d hd
theorem Jb{k:Str}{ds:List cb}(h:eu n k ds)(hk:k="chance")(c:Nat->Nat)(x:NK):∃l,l<=1+201 * ds.length/\Sz l (Ω c k ds x):=by
 unfold Ω N51.xr v7;rw [aaF hk]
 obtain ⟨l,h1,h2⟩:=vc x (vZ c ds) (0,1) 1 (λy hy=>by
  obtain ⟨d,hd,rfl⟩:=aaf.mp hy
  exact h.sz d hd) ⟨by decide,by decide,by decide⟩
 exact ⟨l,by simpa using h1,h2⟩
theorem EV{p p':Fr}{x:Nat}:jz M 2 (.tup [Χ p, .int (x:Nat)]) (.tup [Χ p', .int (y:Nat)]) (decide (p=p')&&decide (x=y)):=by
 have z:gb (V.int (x:Nat)) (V.int (y:Nat))=decide (x=y):=by rw [Bool.eq_iff_iff];simp [gb];omega
 have h:=jz.tup (M:=M) (n:=1) (ds:=[Χ p, .int (x:Nat)]) (es:=[Χ p', .int (y:Nat)]) (f:=λj=>match j with | 0=>decide (p=p') | _=>decide (x=y)) λj d e h1 h2=>by
  match j with
  | 0=>cases h1;cases h2;exact qC p p'
  | 1=>
   cases h1;cases h2;have:=jz.flat (M:=M) (n:=1) (d:= .int (x:Nat)) (e:= .int (y:Nat)) rfl rfl;rwa [z] at this
  | j+2=>cases h1
 have e:((List.range (min [Χ p,Dt.int (x:Nat)].length [Χ p',Dt.int (y:Nat)].length)).all (λj=>match j with | 0=>decide (p=p') | _=>decide (x=y))&&[Χ p,Dt.int (x:Nat)].length==[Χ p',Dt.int (y:Nat)].length)=(decide (p=p')&&decide (x=y)):=by show ((List.range 2).all _&&true)=_;rw [oX,Bool.and_true];rfl
 rw [e] at h;exact h
structure zc(size:Int)(r:Rw):Prop where
 good:vA size r
 hand:∀k ds,r= .ι k ds->b9 k=true->∀d∈ds,d.2.2=[]
theorem Jy{n:Int}{k:Str}{ds:List cb}(h:zc n (.ι k ds)):1<=ds.length/\ds.length<=6/\∀d∈ds,az d.1 d.2.1 n=true:=by
 obtain ⟨⟨_,hf⟩,_⟩:=h;have hf:(if b9 k then Ρ ds n else if k="chance" then Ρ ds n&&Ο (ds.map θ) else false)=true:=hf;have key:Ρ ds n=true:=by
  by_cases c:b9 k=true
  ·rw [aaF c] at hf;exact hf
  ·rw [aaA c] at hf;by_cases c2:k="chance"
   ·rw [aaF c2,aaz] at hf;exact hf.1
   ·rw [aaA c2] at hf;cases hf
 unfold Ρ at key;rw [aaz,aaz,aa5,decide_eq_true_eq,decide_eq_true_eq] at key;exact ⟨key.1.1,key.1.2,key.2⟩
theorem uN{n:Int}{p:Fr}(h:az t p n=true):0<=t/\t < n/\b_ p=true:=by unfold az at h;rw [aaz,aaz,decide_eq_true_eq,decide_eq_true_eq] at h;exact ⟨h.1,h.2.1,h.2.2⟩
theorem Fp{t' b':Int}(h:b≠0)(h':b'≠0)(e:t * b'=t' * b):ae t b=ae t' b':=by
 have hq:=aU (t:=t') h';have hc:=lW (t:=t') h';have hx:=bH (t:=t') h'
 have:ae t b=((ae t' b').1,(ae t' b').2):=oK h hq hc (by
  generalize (ae t' b').1=p at *
  generalize (ae t' b').2=q at *
  have:b' * (t * q)=b' * (b * p):=by grind
  exact abb h' this)
 rw [this]
theorem A7:∀(cs:List Fr) (b:Int),0 < b->(∀c∈cs,0 < c.2)->0 < cs.foldl (λb c=>b * c.2 / g b c.2) b
 | [],_,h,_=>h
 | c::cs,b,h,hc=>A7 cs _ (iH h (hc c aak)).1 λx hx=>hc x (aag _ hx)
theorem GH:∀(cs:List Fr),∃S:Int,∀c∈cs,c.2∣S
 | []=>⟨1,λ_ h=>nomatch h⟩
 | c::cs=>by
  obtain ⟨S,h⟩:=GH cs;refine ⟨c.2 * S,λx hx=> ?_⟩;rcases aaB.mp hx with rfl | hx
  ·exact Int.dvd_mul_right ..
  ·exact Int.dvd_trans (h x hx) (Int.dvd_mul_left ..)
theorem qi{cs:List Fr}(h:∀c∈cs,0 < c.2):0 < gy cs/\∀c∈cs,c.2∣gy cs:=by obtain ⟨S,hS⟩:=GH cs;exact ⟨A7 cs 1 (by decide) h,(pX cs 1 S (by decide) ⟨S,by omega⟩ λc hc=>⟨h c hc,hS c hc⟩).2.2⟩
def xv(B:Int)(d:cb):Int:=(θ d).1 * (B / (θ d).2)
def cU(c:Nat->Nat)(B:Int)(ds:List cb)(x:NK):Int:=(ds.map λd=>if π c d=x then xv B d else 0).sum
theorem jk(c:Nat->Nat)(B:Int)(ds:List cb)(d:cb)(x:NK):cU c B (ds++[d]) x=cU c B ds x+if π c d=x then xv B d else 0:=by unfold cU;rw [List.map_append,List.sum_append];simp
theorem cN{c:Nat->Nat}{B:Int}(hB:0 < B){x:NK}:∀(n:Nat) (ds:List cb),ds.length=n->(∀d∈ds,0 < (θ d).2/\(θ d).2∣B)->Ω c "chance" ds x=ae (cU c B ds x) B
 | 0,ds,hn,_=>by have:ds=[]:=abp.mp hn;subst this;show (0,1)=ae 0 B;exact (oK (by omega) (by decide) (by decide) (by omega)).symm
 | n+1,ds,hn,hd=>by
  have gE:ds≠[]:=λe=>by subst e;cases hn
  obtain ⟨zs,d,rfl⟩:∃zs d,ds=zs++[d]:=⟨ds.dropLast,ds.getLast gE,(aa3 gE).symm⟩;have ih:=cN (c:=c) hB (x:=x) n zs (by simpa using hn) λd df=>hd d (List.mem_append_left _ df);obtain ⟨c0,cd⟩:=hd d (aar _ (abf.mpr rfl));rw [dz,jk,ih];by_cases e:π c d=x
  ·rw [aaF e,aaF e];show c7 (ae (cU c B zs x) B) (θ d)=_;have hw:xv B d * (θ d).2=(θ d).1 * B:=by unfold xv;rw [abL,Int.ediv_mul_cancel cd]
   have p0:=aU (t:=cU c B zs x) (show B≠0 by omega);have px:=bH (t:=cU c B zs x) (show B≠0 by omega);unfold c7;generalize ae (cU c B zs x) B=p at *
   generalize cU c B zs x=a at *
   generalize xv B d=wd at *
   generalize θ d=q at *
   refine Fp ?_ (by omega) ?_
   ·have:=ab2 p0 c0;omega
   ·grind
  ·rw [aaA e,aaA e,Int.add_zero]
theorem xc{ks:List NK}(nd:ks.Nodup)(h:x∈ks)(v:Int):(ks.map λy=>if x=y then v else 0).sum=v:=by
 induction ks with
 | nil=>cases h
 | cons y ks ih=>
  rw [abr] at nd;rw [aav,abg];by_cases e:x=y
  ·rw [aaF e];have z:(ks.map λy=>if x=y then v else 0).sum=0:=by
    have:∀l:List NK,x∉l->(l.map λy=>if x=y then v else 0).sum=0:=by
     intro l
     induction l with
     | nil=>intro _;rfl
     | cons a l S8=>
      intro hn;rw [aav,abg,aaA (λe:x=a=>hn (by rw [e];exact aak)),S8 λh=>hn (aag _ h)];rfl
    exact this ks (e▸nd.1)
   rw [z];omega
  ·rw [aaA e,ih nd.2 ((aaB.mp h).resolve_left e)];omega
theorem vY(f g:NK->Int):∀ks:List NK,(ks.map λx=>f x+g x).sum=(ks.map f).sum+(ks.map g).sum
 | []=>rfl
 | x::ks=>by rw [aav,aav,aav,abg,abg,abg,vY f g ks];omega
theorem AA{c:Nat->Nat}{B:Int}{ks:List NK}(nd:ks.Nodup):∀(n:Nat) (ds:List cb),ds.length=n->(∀d∈ds,π c d∈ks)->(ks.map (cU c B ds)).sum=(ds.map (xv B)).sum
 | 0,ds,hn,_=>by
  have:ds=[]:=abp.mp hn;subst this;show (ks.map λ_=>(0:Int)).sum=0
  induction ks with
  | nil=>rfl
  | cons x ks ih=>rw [aav,abg,ih (abr.mp nd).2 (λ_ h=>nomatch h)];rfl
 | n+1,ds,hn,hd=>by
  have gE:ds≠[]:=λe=>by subst e;cases hn
  obtain ⟨zs,d,rfl⟩:∃zs d,ds=zs++[d]:=⟨ds.dropLast,ds.getLast gE,(aa3 gE).symm⟩;have ih:=AA (c:=c) (B:=B) nd n zs (by simpa using hn) λd df=>hd d (List.mem_append_left _ df);have e:cU c B (zs++[d])=λx=>cU c B zs x+(if π c d=x then xv B d else 0):=funext λx=>jk c B zs d x;rw [e,vY,ih,xc nd (hd d (aar _ (abf.mpr rfl))),aao,abZ];simp
theorem wB{c:Nat->Nat}{B:Int}{x:NK}:∀(ds:List cb),(∀d∈ds,0 < xv B d)->(∃d∈ds,π c d=x)->0 < cU c B ds x
 | [],_,h=>by obtain ⟨d,hd,_⟩:=h;cases hd
 | d::ds,hw,h=>by
  have nn:∀l:List cb,(∀d∈l,0 < xv B d)->0<=cU c B l x:=by
   intro l
   induction l with
   | nil=>intro _;exact Int.le_refl _
   | cons a l ih=>
    intro hw;have:=ih λd hd=>hw d (aag _ hd);have:=hw a aak;show 0<=(if π c a=x then xv B a else 0)+cU c B l x;split <;> omega
  have r:=nn ds λd hd=>hw d (aag _ hd);have w0:=hw d aak;show 0 < (if π c d=x then xv B d else 0)+cU c B ds x;by_cases e:π c d=x
  ·rw [aaF e];omega
  ·rw [aaA e]
   have:=wB ds (λd hd=>hw d (aag _ hd)) (by
    obtain ⟨d',df,e'⟩:=h;rcases aaB.mp df with rfl | df
    ·exact aaI e' e
    ·exact ⟨d',df,e'⟩)
   omega
theorem Ay(c:Nat->Nat)(k:Str)(ds:List cb):(Ι c (.ι k ds)).2=(Ι c (.ι k ds)).1.map (Ω c k ds):=by
 rw [u7];obtain ⟨a1,a2,a3,a4⟩:=N51.dt (v7 k) (0,1) (vZ c ds);apply abz;intro i;rw [aaj];rcases aa8 i (N51.gc (v7 k) (0,1) (vZ c ds)).1.length with h | h
 ·have h2:i < (N51.gc (v7 k) (0,1) (vZ c ds)).2.length:=by omega
  rw [aaa h,aaa h2];have:=N51.pE a2 (aaa h) (aaa h2);have q:=a4 (N51.gc (v7 k) (0,1) (vZ c ds)).1[i];rw [this] at q;show some _=some (Ω c k ds _);unfold Ω;rw [<-q];rfl
 ·rw [abm h,abm (by omega)];rfl
theorem wH{r:Rw}(h:zc n r)(NA:∀t,t < n->c t∈ls):zc ls.length (rO ls c r):=by
 cases r with
 | fin p=>exact ⟨⟨h.good.1,h.good.2⟩,λ_ _ z=>(nomatch z)⟩
 | ι k ds=>
  obtain ⟨d1,d6,hd⟩:=Jy h;have mem:∀x∈(Ι c (.ι k ds)).1,∃d∈ds,x=π c d:=λx hx=>e9.mp hx;have f2:=(g7 c k ds).2;have f3:=(cK c (.ι k ds));have pv:=Ay c k ds;have n1:1<=(Ι c (.ι k ds)).1.length:=by have:ds[0]∈ds:=aap (by omega);exact abt (e9.mpr ⟨_,this,rfl⟩)
  have inv:∀x∈ds.map (π c),x∈(Ι c (.ι k ds)).1:=λx hx=>by obtain ⟨d,h1,rfl⟩:=aaf.mp hx;exact e9.mpr ⟨d,h1,rfl⟩
  have zl:(CI c (.ι k ds)).length=(Ι c (.ι k ds)).1.length:=by rw [abe,f3.1,abU]
  have each:∀e∈(CI c (.ι k ds)).map (jd ls),az e.1 e.2.1 ls.length=true/\0 < e.2.1.2:=λe he=>by
   obtain ⟨kv,Lg,rfl⟩:=aaf.mp he;obtain ⟨key,v⟩:=kv;obtain ⟨d,md,rfl⟩:=mem key (List.of_mem_zip Lg).1;obtain ⟨t0,t1,pf⟩:=uN (hd d md);have lt:=gM (NA d.1.toNat (by omega));have ek:jd ls (π c d,v)=(((ls.idxOf (c d.1.toNat):Nat):Int),d.2.1,[v]):=by unfold jd;rw [qz,qe]
   rw [ek];exact ⟨vS (by show (0:Int)<=(ls.idxOf (c d.1.toNat):Nat);omega) (by show ((ls.idxOf (c d.1.toNat):Nat):Int) < ls.length;omega) pf,(h.good.1.2.2.2 d md).2⟩
  by_cases hk:k="chance"
  ·subst hk;have hc:=h.good.1.2.2.1 rfl;have hf:=h.good.2;have hf:(if b9 "chance" then Ρ ds n else if ("chance":Str)="chance" then Ρ ds n&&Ο (ds.map θ) else false)=true:=hf;rw [aaA (by decide),aaF rfl,aaz] at hf;have Sv:=hf.2;unfold Ο at Sv;rw [aaz,aaz,decide_eq_true_eq,decide_eq_true_eq] at Sv;obtain ⟨g0,g1,g2⟩:=Sv;obtain ⟨B0,Bd⟩:=qi (cs:=ds.map θ) λx hx=>(hc.2.2 x hx).1;generalize gy (ds.map θ)=B at *
   have aA:∀d∈ds,0 < (θ d).2/\(θ d).2∣B:=λd df=>⟨(hc.2.2 _ (aaf.mpr ⟨d,df,rfl⟩)).1,Bd _ (aaf.mpr ⟨d,df,rfl⟩)⟩;have RO:∀d∈ds,0 < xv B d:=λd df=>by
    have t0:0 < (θ d).1:=by
     rcases Int.lt_or_le 0 (θ d).1 with q | q
     ·exact q
     ·have:(ds.map θ).any (λc=>decide (c.1<=0))=true:=List.any_eq_true.mpr ⟨_,aaf.mpr ⟨d,df,rfl⟩,aam q⟩;rw [this] at g0;cases g0
    obtain ⟨c0,m,hm⟩:=aA d df;have m0:0 < m:=by
     rcases Int.lt_or_le 0 m with q | q
     ·exact q
     ·have:=Int.mul_nonpos_of_nonneg_of_nonpos (aaX c0) q;omega
    unfold xv;rw [hm,abn _ (by omega)];exact ab2 t0 m0
   have ws:(((Ι c (.ι "chance" ds)).1.map (cU c B ds))).sum=B:=by rw [AA f3.2 _ ds rfl λd df=>e9.mpr ⟨d,df,rfl⟩];rw [aas] at g1;exact g1
   have U3:=kq ws (λv hv=>by
    obtain ⟨x,hx,rfl⟩:=aaf.mp hv;obtain ⟨d,md,rfl⟩:=mem x hx
    exact wB ds RO ⟨d,md,rfl⟩) (λe=>by
     have:=aa2 List.length e;rw [aac] at this;have:(Ι c (.ι "chance" ds)).1.length=0:=this
     omega) g2 (by rw [aac];omega)
   have ev:((CI c (.ι "chance" ds)).map (jd ls)).map θ=((Ι c (.ι "chance" ds)).1.map (cU c B ds)).map λv=>ae v B:=by rw [aas,aas];have e1:(CI c (.ι "chance" ds)).map (θ ∘ jd ls)=(CI c (.ι "chance" ds)).map (·.2):=aaS λ_ _=>rfl;rw [e1];show ((Ι c (.ι "chance" ds)).1.zip (Ι c (.ι "chance" ds)).2).map (·.2)=_;rw [List.map_snd_zip (by rw [f3.1];exact aal _),pv];exact aaS λx _=>cN B0 _ ds rfl aA
   show zc _ (.ι "chance" (if ("chance":Str)="chance" then _ else _));rw [aaF rfl];refine ⟨tq (by rw [aac,zl];exact n1) (by rw [aac,zl];omega) (λe he=>(each e he).1) (λe he=> ?_) (by rw [ev];exact U3.1) (by rw [ev];exact U3.2) (λe he=>(each e he).2),λk' GR e Vz=> ?_⟩
   ·obtain ⟨kv,_,rfl⟩:=aaf.mp he;rfl
   ·cases e;exact aaI Vz (by decide)
  ·have hh:b9 k=true:=by
    have hf:(if b9 k then Ρ ds n else if k="chance" then Ρ ds n&&Ο (ds.map θ) else false)=true:=h.good.2;by_cases q:b9 k=true
    ·exact q
    ·rw [aaA q,aaA hk] at hf;cases hf
   show zc _ (.ι k (if k="chance" then _ else _));rw [aaA hk];refine ⟨Aw hh (by rw [aac,aac,zl];exact n1) (by rw [aac,aac,zl];omega) (λe he=> ?_) (λe he=> ?_),λk' GR e Vz d df=> ?_⟩
   ·obtain ⟨e',JB,rfl⟩:=aaf.mp he;exact (each e' JB).1
   ·obtain ⟨e',JB,rfl⟩:=aaf.mp he;exact ⟨rfl,(each e' JB).2⟩
   ·cases e;obtain ⟨e',JB,rfl⟩:=aaf.mp df;rfl
def dq:Nat->Nat->J5->Bool
 | 0,_,st=>jE st
 | n+1,v,st=>dq n (v+1) st&&dq n (v+1) (bK st v)
theorem bZ{v:Nat}{st:J5}(a:dq n (v+1) st=true)(b:dq n (v+1) (bK st v)=true):dq (n+1) v st=true:=by show (dq n (v+1) st&&dq n (v+1) (bK st v))=true;rw [a,b];rfl
abbrev og:J5:=bK (#[], .fresh 0 0 true) ((0:Nat):Int)
theorem C2:dq 7 5 og=true:=by decide+kernel
theorem DC:dq 7 5 (bK og ((4:Nat):Int))=true:=by decide+kernel
theorem DD:dq 7 5 (bK og ((3:Nat):Int))=true:=by decide+kernel
theorem Ed:dq 7 5 (bK (bK og ((3:Nat):Int)) ((4:Nat):Int))=true:=by decide+kernel
theorem CV:dq 7 5 (bK og ((2:Nat):Int))=true:=by decide+kernel
theorem CU:dq 7 5 (bK (bK og ((2:Nat):Int)) ((4:Nat):Int))=true:=by decide+kernel
theorem Eg:dq 7 5 (bK (bK og ((2:Nat):Int)) ((3:Nat):Int))=true:=by decide+kernel
theorem D8:dq 7 5 (bK (bK (bK og ((2:Nat):Int)) ((3:Nat):Int)) ((4:Nat):Int))=true:=by decide+kernel
theorem C_:dq 7 5 (bK og ((1:Nat):Int))=true:=by decide+kernel
theorem Du:dq 7 5 (bK (bK og ((1:Nat):Int)) ((4:Nat):Int))=true:=by decide+kernel
theorem Gm:dq 7 5 (bK (bK og ((1:Nat):Int)) ((3:Nat):Int))=true:=by decide+kernel
theorem D6:dq 7 5 (bK (bK (bK og ((1:Nat):Int)) ((3:Nat):Int)) ((4:Nat):Int))=true:=by decide+kernel
theorem GA:dq 7 5 (bK (bK og ((1:Nat):Int)) ((2:Nat):Int))=true:=by decide+kernel
theorem C9:dq 7 5 (bK (bK (bK og ((1:Nat):Int)) ((2:Nat):Int)) ((4:Nat):Int))=true:=by decide+kernel
theorem DH:dq 7 5 (bK (bK (bK og ((1:Nat):Int)) ((2:Nat):Int)) ((3:Nat):Int))=true:=by decide+kernel
theorem FU:dq 7 5 (bK (bK (bK (bK og ((1:Nat):Int)) ((2:Nat):Int)) ((3:Nat):Int)) ((4:Nat):Int))=true:=by decide+kernel
theorem IT:dq 11 1 og=true:=(bZ (bZ (bZ (bZ C2 DC) (bZ DD Ed)) (bZ (bZ CV CU) (bZ Eg D8))) (bZ (bZ (bZ C_ Du) (bZ Gm D6)) (bZ (bZ GA C9) (bZ DH FU))))
theorem IX(h:M[k]? =some (MO.lst xs)):jD M (.loc k)=some (xs,λM':Ms=>M'[k]? =some (MO.lst xs)):=by show (match M[k]? with | some (.lst xs)=>some (xs,λM':Ms=>M'[k]? =some (MO.lst xs)) | _=>none)=_;rw [h]
def pP(n:Nat):Rw->Prop
 | .fin p=>0 < p.2
 | .ι k ds=>eu n k ds
theorem zc.kept{r:Rw}(h:zc n r):pP n r/\cC r/\(∀d∈cw r,0<=d.1/\d.1 < n)/\∀d∈cw r,Sz 200 (θ d):=by
 obtain ⟨⟨ho,hf⟩,hh⟩:=id h;cases r with
 | fin p=>exact ⟨ho,ho,λ_ z=>(nomatch z),λ_ z=>(nomatch z)⟩
 | ι k ds=>
  obtain ⟨d1,d6,hd⟩:=Jy h;have to:∀d∈ds,0<=d.1/\d.1 < (n:Int):=λd df=>⟨(uN (hd d df)).1,(uN (hd d df)).2.1⟩;have hf:(if b9 k then Ρ ds n else if k="chance" then Ρ ds n&&Ο (ds.map θ) else false)=true:=hf;have pos:k="chance"->∀d∈ds,0 < (θ d).1/\0 < (θ d).2:=λhk d df=>by
   refine ⟨?_,((ho.2.2.1 hk).2.2 _ (aaf.mpr ⟨d,df,rfl⟩)).1⟩;rw [aaA (by rw [hk];decide),aaF hk,aaz] at hf;have h2:=hf.2;unfold Ο at h2;rw [aaz] at h2;have h3:=h2.1;rcases Int.lt_or_le 0 (θ d).1 with q | q
   ·exact q
   ·have:(ds.map θ).any (λc=>decide (c.1<=0))=true:=List.any_eq_true.mpr ⟨_,aaf.mpr ⟨d,df,rfl⟩,aam q⟩;rw [this] at h3;cases h3
  have sz:∀d∈ds,Sz 200 (θ d):=λd df=>by
   by_cases hk:k="chance"
   ·obtain ⟨a,b,c⟩:=(ho.2.2.1 hk).2.2 _ (aaf.mpr ⟨d,df,rfl⟩);exact ⟨c,a,by omega⟩
   ·have Hl:b9 k=true:=by
     by_cases c:b9 k=true
     ·exact c
     ·rw [aaA c,aaA hk] at hf;cases hf
    have e:=hh k ds rfl Hl d df;have:θ d=(0,1):=by unfold θ;rw [e];rfl
    rw [this];exact ⟨by decide,by decide,by decide⟩
  exact ⟨⟨ho,to,sz,pos⟩,ho,to,sz⟩
structure Fk(γ:List Rw):Prop where
 fl:Sm γ
 rk:∀r∈γ,pP γ.length r
theorem tX{n:Nat}:∀(rs:List Rw),Dt.bz n (rs.map ak)
 | []=>trivial
 | r::rs=>⟨oR r,tX rs⟩
theorem Dc{γ:List Rw}(Hn:γ.length<=12)(h:∀r∈γ,zc γ.length r):Fk γ:=
 ⟨⟨Hn,λr hr=>(h r hr).kept.2.1,λr hr=>(h r hr).kept.2.2.1,λr hr=>(h r hr).kept.2.2.2⟩,λr hr=>(h r hr).kept.1⟩
theorem RB{q:List Dt->Ms->Prop}{x:DX}(hv:ρ[i]? =some (some d))(hs:gJ M d=some xs)(h:q [.int xs.length] M):ic (ya iF (ic (ik i) nW)) nW ρ M q x:=by dsimp only [ic,ya,ik,nW];rw [hv];exact aL hs h
theorem k7{M:Ms}:∀rs:List Rw,Paired (iU M) (rs.map ak) rs
 | []=> .nil
 | r::rs=> .cons (AD _ r) (k7 rs)
theorem qE{q:DQ}{A:Addr}{Α:Fr}{γ:List Rw}(h:q (Ε A Α γ) M):uu M q (.loc M.length) ((M++[MO.ins A [] []]).set M.length (.ins A ["kept_share","kept_rows"] [Χ Α, .lst (γ.map ak)])):=by
 have e:(M++[MO.ins A [] []]).set M.length (.ins A ["kept_share","kept_rows"] [Χ Α, .lst (γ.map ak)])=M++[.ins A ["kept_share","kept_rows"] [Χ Α, .lst (γ.map ak)]]:=by rw [aaZ _ _ (aal _),aa9];rfl
 rw [e];exact mz (d':=Ε A Α γ) (.Sd (Nat.le_refl _) (by simp) (.cons (.old ⟨trivial,trivial,trivial⟩) (.cons (.old (tX γ)) .nil))) h
theorem HV:cm n c=sU ((List.range n).map c):=by unfold cm sU;rw [List.map_map];rfl
theorem uL:∀(n v:Nat) (st:J5) (l:List Nat),dq n v st=true->l.Pairwise (· < ·)->(∀x∈l,v<=x/\x < v+n)->jE ((l.map λx:Nat=>(x:Int)).foldl bK st)=true
 | 0,v,st,l,h,_,hl=>by
  cases l with
  | nil=>exact h
  | cons x l=>have:=hl x aak;omega
 | n +1,v,st,l,h,hp,hl=>by
  have h:(dq n (v+1) st&&dq n (v+1) (bK st (v:Nat)))=true:=h;rw [aaz] at h;cases l with
  | nil=>exact uL n (v+1) st [] h.1 .nil λ_ z=>(nomatch z)
  | cons x l=>
   rw [ab0] at hp;by_cases e:x=v
   ·subst e;exact uL n (x+1) _ l h.2 hp.2 λy hy=>by have:=hp.1 y hy;have:=hl y (aag _ hy);omega
   ·have hx:=hl x aak;exact uL n (v+1) st (x::l) h.1 (ab0.mpr hp) λy hy=>by
     have h1:=hl y hy;rcases aaB.mp hy with rfl | XY
     ·omega
     ·have:=hp.1 y XY;omega
theorem zQ:∀{a b:List Int},a.Pairwise (· < ·)->b.Pairwise (· < ·)->(∀x,x∈a↔x∈b)->a=b
 | [],[],_,_,_=>rfl
 | [],y::b,_,_,h=>by have:=(h y).mpr aak;cases this
 | x::a,[],_,_,h=>by have:=(h x).mp aak;cases this
 | x::a,y::b,ha,hb,h=>by
  rw [ab0] at ha hb;have e:x=y:=by
   rcases aaB.mp ((h x).mp aak) with e | hx
   ·exact e
   ·rcases aaB.mp ((h y).mpr aak) with e | hy
    ·exact e.symm
    ·have:=hb.1 x hx;have:=ha.1 y hy;omega
  subst e;rw [zQ ha.2 hb.2 λz=> ?_];constructor
  ·intro hz;rcases aaB.mp ((h z).mp (aag _ hz)) with e | JU
   ·have:=ha.1 z hz;omega
   ·exact JU
  ·intro hz;rcases aaB.mp ((h z).mpr (aag _ hz)) with e | JU
   ·have:=hb.1 z hz;omega
   ·exact JU
abbrev nj(l:List Nat):List Int:=l.map λx:Nat=>(x:Int)
theorem lU(n:Nat)(c:Nat->Nat):(N51.dg n c).Pairwise (· < ·):=by unfold N51.dg;exact List.Pairwise.filter _ List.pairwise_lt_range
theorem Bx(n:Nat)(c:Nat->Nat):N51.dg (n+1) c=N51.dg n c++(if c n=n then [n] else []):=by
 unfold N51.dg;rw [abY,List.filter_append];by_cases e:c n=n
 ·rw [if_pos e];simp [e]
 ·rw [if_neg e];simp [e]
theorem yS{n:Nat}{c:Nat->Nat}(h:N51.Cl n c):∀k,k<=n->dd (nj ((List.range k).map c))=nj (N51.dg k c)
 | 0,_=>rfl
 | k+1,hk=>by
  have ih:=yS h k (by omega);have e:nj ((List.range (k+1)).map c)=nj ((List.range k).map c)++[((c k:Nat):Int)]:=by unfold nj;rw [List.range_succ,List.map_append,List.map_append];rfl
  rw [e,uW,ih,Bx];unfold ins;by_cases q:c k=k
  ·rw [aaF q,aaA]
   ·unfold nj;rw [List.map_append,q];rfl
   ·intro hm;obtain ⟨x,hx,ex⟩:=aaf.mp hm;have:=(N51.aH.mp hx).1;omega
  ·rw [aaA q,aaW,aaF];have l1:=h.le k (by omega);exact aaf.mpr ⟨c k,N51.aH.mpr ⟨by omega,h.fx k (by omega)⟩,rfl⟩
theorem DV(h:N51.Cl n c)(zw:n<=12)(n1:1<=n):jE (xN true (dd (nj ((List.range n).map c))))=true:=by
 rw [yS h n (aal _)];have inc:=lU n c;have m0:0∈N51.dg n c:=N51.aH.mpr ⟨by omega,by have:=h.le 0 (by omega);omega⟩;have lt:∀x∈N51.dg n c,x < 12:=λx hx=>by have:=(N51.aH.mp hx).1;omega
 cases hl:N51.dg n c with
 | nil=>rw [hl] at m0;cases m0
 | cons x l=>
  rw [hl,ab0] at inc;rw [hl] at m0 lt;have e:x=0:=by
   rcases aaB.mp m0 with e | e
   ·exact e.symm
   ·have:=inc.1 0 e;omega
  subst e;exact uL 11 1 _ l IT inc.2 λy hy=>by have:=inc.1 y hy;have:=lt y (aag _ hy);omega
theorem yX(h:N51.Cl n c)(p:ns.Perm (dd (nj ((List.range n).map c))))(s:ns.Pairwise (· <= ·)):ns=nj (N51.dg n c):=by
 have nd:ns.Nodup:=p.nodup_iff.mpr (pK _).2.2;refine zQ ?_ ?_ λx=> ?_
 ·refine List.Pairwise.imp (λh=> ?_) (List.Pairwise.and s nd);obtain ⟨h1,h2⟩:=h;omega
 ·exact List.pairwise_map.mpr ((lU n c).imp λh=>by omega)
 ·rw [p.mem_iff,yS h n (aal _)]
theorem A6(l:List Nat):(nj l).map Dt.int=sU l:=by unfold nj sU;rw [List.map_map];rfl
abbrev fW(γ:List Rw)(m:Nat):List Nat:=N51.dg γ.length (bM γ (m - 1))
def ξ(γ:List Rw)(m:Nat):List Rw:=(fW γ m).map λi=>rO (fW γ m) (bM γ (m - 1)) (γ.getD i (.fin (0,1)))
def DW(γ:List Rw)(m:Nat):List Nat:=(List.range γ.length).map λi=>(fW γ m).idxOf (bM γ (m - 1) i)
structure Rb(Α:Fr)(γ:List Rw):Prop where
 NN:Sm γ
 fit:∀r∈γ,zc γ.length r
 n1:1<=γ.length
 shr:eJ Α=true
def sN(C:Addr):DF:=λas M q _=>∃Α γ,as=[Ε C Α γ]/\Rb Α γ/\∀(m kw:Nat) (M1:Ms),kN γ m->Xt M M1->M.length<=kw->M1[kw]? =some (.lst (sU (DW γ m)))->q (.tup [Ε C Α (ξ γ m), .loc kw]) M1
theorem dm:Δ ["floor","classes","leasts","rows"] ["floor"] (χ mS):= .of rfl
theorem xt(F:eD K "together" "together" mS f fd)(E:Ev K mg Cm){uK:Addr}{vL:FuncData}(gh:aR P w K mg base 9 "parted" ["floor"] (vk Cm) uK vL){zB:Addr}{zu:FuncData}(i0:aR P w K mg base 7 "joined_row" ["floor","place","classes","leasts"] (Ax P w Cm) zB zu){j3:Addr}{kg:FuncData}(ck:HJ P w K mg base 5 "Floor" Cm ["self","share","rows"] (EN Cm) j3 kg){iw:Addr}{iK:FuncData}(cx:fh P w K mg base 1 Cm "share" ["self"] (zN Cm) iw iK):aC P w K mg base (dh P w) 11 f fd ["floor"] (eh K (sN Cm)):=by
 refine F.gH dm (λds M q x h=> ?_) (λb8 A outer s H E' hr=>⟨_,(η (Β 1 dm.nd (Κ (au gh hr ο (ar (jv 0) ε)) (sD ν)))
   (η (Β 2 dm.nd (dR (Ir E.iR E.A3 (ar (jv 1) ε))))
   (η (nQ (i:=3) dm.nd rfl (Or.inl rfl) (ys:=["floor","classes","leasts"]) (Λ:=[0,1,2]) (.of dm rfl rfl rfl) (bu (jv 2)) (λC s H fp=>(dR (au i0 hr (dF (P:=P) (w:=w)) (ar (jv 1) (ar (jv 0) (ar (jv 2) (ar (jv 3) ε))))))))
   (μ (Γ (aD (ζ (dR (zo ck hr ο (ζ (fK cx hr ο (jv 0)) (ar (jv 3) ε) bc))) (ζ (pM (ys:=["leasts"]) (Λ:=[2]) (.of dm rfl rfl rfl) (bu (jv 1)) (λC s H fp=>(Az 1 hr (jv 1) (ar (jv 0) ε)))) ε) bc))))))),λds M q x h=> ?_⟩)
 ·obtain ⟨Α,γ,rfl,_⟩:=h;rfl
 ·obtain ⟨Α,γ,rfl,fl,h⟩:=h;refine ⟨Α,γ,rfl,fl.NN,λm kr ls M1 st hl x1 ca=> ?_⟩;have p1:=st.pos;have zw:=fl.NN.len;have n1:=fl.n1;have hc:=fV γ (m - 1);obtain ⟨li,la,rfl⟩:∃li la,ls=li++[la]:=⟨ls.dropLast,ls.getLast (λe=>by subst e;have hl:0=m:=hl;omega),(aa3 _).symm⟩;have P9:(li++[la])[m - 1]? =some la:=by rw [aai] at hl;have hl:li.length+1=m:=hl;rw [aaC (by omega),show m - 1 - li.length=0 by omega];rfl
  have Pr:i9 ((li++[la]).map Dt.loc) (-1)=some (.loc la):=by rw [aao];exact ll
  obtain ⟨lo1,_,aa⟩:=ca.each (m - 1) la P9;dsimp only [P8,dC,Bu];refine (υ (d:= .loc kr) (i:= -1) (eN ca.at') Pr ?_:cq (.loc kr) (.int (-1)) M1 _);walk_at "vc";have ec:c6 γ (m - 1)=(nj ((List.range γ.length).map (bM γ (m - 1)))).map Dt.int:=by rw [A6];exact HV
  have uX:∀t,t < γ.length->bM γ (m - 1) t∈fW γ m:=λt ht=>N51.aH.mpr ⟨by have:=hc.le t ht;omega,hc.fx t ht⟩;have l1:1<=(fW γ m).length:=abt (uX 0 (by omega));have Hn:(fW γ m).length<=12:=aax (N51.oI _ _) zw;refine ⟨.loc la,nj ((List.range γ.length).map (bM γ (m - 1))),rfl,by rw [bX aa,ec],λk hk=> ?_,by rw [aac,aac,aby];omega,DV hc zw n1,λns' pm so=> ?_⟩
  ·obtain ⟨x,hx,rfl⟩:=aaf.mp hk;obtain ⟨t,ht,rfl⟩:=aaf.mp hx;have ht:=aaP.mp ht;have:=hc.le t ht;omega
  have en:=yX hc pm so;subst en;rw [A6];refine iO (Fd _) ?_;dsimp only [iQ];refine aZ (i:=2) (d:= .lst (sU (fW γ m))) rfl rfl ⟨by rw [lC];exact aax Hn (by decide), ?_⟩;refine iz (f:=λk=>ak ((ξ γ m).getD k (.fin (0,1)))) trivial (λk x hx q' hq=> ?_) ?_
  ·have hk:k < (fW γ m).length:=by have:=(aad.mp hx).1;rwa [lC] at this
   rw [Av hk] at hx;cases hx;have hm:=N51.aH.mp (aap hk);have er:γ[(fW γ m)[k]]? =some γ[(fW γ m)[k]]:=aaa hm.1;have mr:=aaD er;have ej:(ξ γ m).getD k (.fin (0,1))=rO (fW γ m) (bM γ (m - 1)) γ[(fW γ m)[k]]:=by unfold ξ;rw [aan,aaj,aaa hk];show rO _ _ (γ.getD _ _)=_;rw [aan,er];rfl
   rw [ej] at hq;refine ⟨Α,γ,(fW γ m)[k],γ[(fW γ m)[k]],γ.length,bM γ (m - 1), .loc la,fW γ m,rfl,λE=>eN (bO aa),er,fl.NN.ok _ mr,fl.NN.to _ mr,fl.NN.sz _ mr,zw,uX,λE=>mz (.old (oR _)) hq⟩
  have Zt:(List.range (sU (fW γ m)).length).map (λk=>ak ((ξ γ m).getD k (.fin (0,1))))=(ξ γ m).map ak:=by
   refine abz λk=> ?_;have el:(ξ γ m).length=(fW γ m).length:=aac ..;rw [aaj,aaj,lC];rcases aa8 k (fW γ m).length with z | z
   ·rw [aa0 z,aaa (by omega:k < (ξ γ m).length)];show some (ak ((ξ γ m).getD k _))=_;rw [aan,aaa (by omega:k < (ξ γ m).length)];rfl
   ·rw [abm (by rw [aby];exact z),abm (by omega:(ξ γ m).length<=k)];rfl
  rw [aaR,Zt];have el:(ξ γ m).length=(fW γ m).length:=aac ..;have jf:∀r∈ξ γ m,zc (ξ γ m).length r:=λr hr=>by rw [el];obtain ⟨t,ht,rfl⟩:=aaf.mp hr;have hm:=N51.aH.mp ht;refine wH (n:=γ.length) (fl.fit _ ?_) uX;rw [aan,aaa hm.1];exact aap _
  refine ⟨⟨_,_, .inl rfl,rfl⟩,Α,γ,rfl,M1.length, .lst ((ξ γ m).map ak),Α,(ξ γ m).map ak,ξ γ m,λ_=>True,rfl,aF,rfl,k7 _,fl.shr,by omega,by omega,λr hr=>(jf r hr).good,rfl,qE ?_⟩;dsimp only [oC];refine aZ (i:=1) (d:= .loc la) rfl (IX aa) ⟨by unfold c6;rw [gO];exact Nat.le_trans zw (by decide), ?_⟩;refine iz (f:=λk=>Dt.int (((fW γ m).idxOf (bM γ (m - 1) k):Nat):Int)) aa (λk x hx q' hq=> ?_) ?_
  ·have hk:k < γ.length:=by have:=(List.getElem?_eq_some_iff.mp hx).1;unfold c6 at this;rwa [gO] at this
   unfold c6 cm at hx;rw [aaj,aa0 hk] at hx;cases hx;refine ⟨⟨_,rfl⟩, ?_⟩;obtain ⟨fx,x1,x2,x3,x4⟩:=wy M1 (uX _ hk);exact ⟨_,sU (fW γ m),fx,_,rfl,rfl,x1,x2,x3,x4,hq⟩
  have ew:[]++(List.range (c6 γ (m - 1)).length).map (λk=>Dt.int (((fW γ m).idxOf (bM γ (m - 1) k):Nat):Int))=sU (DW γ m):=by unfold c6 sU DW;rw [gO,aas];rfl
  rw [ew];exact ⟨kQ,h m M1.length _ st (x1.trans Xt.app) x1.len aF⟩
theorem fe{α:Type}{p:List α->Prop}(h0:p [])(hs:∀xs x,p xs->p (xs++[x]))(xs:List α):p xs:=by
 have key:∀ys:List α,p ys.reverse:=λys=>by
  induction ys with
  | nil=>exact h0
  | cons y ys ih=>rw [List.reverse_cons];exact hs _ _ ih
 have:=key xs.reverse;rwa [List.reverse_reverse] at this
def rep(c:Nat->Nat)(ds:List cb):List cb:=ds.foldl (λes d=>if N51.has (es.map (π c)) (π c d) then es else es++[d]) []
theorem lr(c:Nat->Nat)(ds:List cb)(d:cb):rep c (ds++[d])=if N51.has ((rep c ds).map (π c)) (π c d) then rep c ds else rep c ds++[d]:=by unfold rep;rw [List.foldl_append];rfl
theorem uz(c:Nat->Nat):∀(ds:List cb),(∀e∈rep c ds,e∈ds)/\(rep c ds).length<=ds.length:=λds=>by
 induction ds using fe with
 | h0=>exact ⟨λ_ z=>(nomatch z),aal _⟩
 | hs ds d ih=>
  rw [lr,aai];by_cases q:N51.has ((rep c ds).map (π c)) (π c d)=true
  ·rw [aaF q];exact ⟨λe he=>aaH _ (ih.1 e he),aax ih.2 (Nat.le_add_right _ _)⟩
  ·rw [aaA q,aai]
   exact ⟨λe he=>by
    rcases aaL.mp he with he | he
    ·exact aaH _ (ih.1 e he)
    ·exact aar _ he,Nat.add_le_add_right ih.2 _⟩
theorem qN(c:Nat->Nat)(k:Str):∀(ds:List cb),(Ι c (.ι k ds)).1=(rep c ds).map (π c):=λds=>by
 induction ds using fe with
 | h0=>rw [xb];rfl
 | hs ds d ih=>
  rw [lr,tL];show N51.putK _ _=_;unfold N51.putK;rw [ih];by_cases q:N51.has ((rep c ds).map (π c)) (π c d)=true
  ·rw [aaF q,aaF q]
  ·rw [aaA q,aaA q,aao];rfl
section
theorem Mq:∀(ds:List cb),(∀d∈ds,∀e∈ds,π c' d=π c' e↔π c d=π c e)->rep c' ds=rep c ds:=λds=>by
 induction ds using fe with
 | h0=>intro _;rfl
 | hs ds d ih=>
  intro h;rw [lr,lr,ih λd hd e he=>h d (aaH _ hd) e (aaH _ he)];have q:π c' d∈(rep c ds).map (π c')↔π c d∈(rep c ds).map (π c):=by
   rw [aaf,aaf];constructor
   ·rintro ⟨e,he,ee⟩;exact ⟨e,he,(h e (List.mem_append_left _ ((uz c ds).1 e he)) d (by simp)).mp ee⟩
   ·rintro ⟨e,he,ee⟩;exact ⟨e,he,(h e (List.mem_append_left _ ((uz c ds).1 e he)) d (by simp)).mpr ee⟩
  have q:=(N51.jg (ks:=(rep c ds).map (π c')) (k:=π c' d)).trans (q.trans N51.jg.symm);by_cases z:N51.has ((rep c ds).map (π c)) (π c d)=true
  ·rw [aaF z,aaF (q.mpr z)]
  ·rw [aaA z,aaA (λy=>z (q.mp y))]
theorem oZ{k:Str}{x':NK}:∀(ds:List cb),(∀d∈ds,π c' d=x'↔π c d=x)->Ω c' k ds x'=Ω c k ds x:=λds=>by
 induction ds using fe with
 | h0=>intro _;rfl
 | hs ds d ih=>
  intro h;rw [dz,dz,ih λd hd=>h d (aaH _ hd)];have q:=h d (by simp);by_cases z:π c d=x
  ·rw [aaF z,aaF (q.mpr z)]
  ·rw [aaA z,aaA (λy=>z (q.mp y))]
end
def sk(c:Nat->Nat)(k:Str)(ds:List cb)(e:cb):cb:=(((c e.1.toNat:Nat):Int),e.2.1,if k="chance" then [Ω c k ds (π c e)] else [])
def O6(c:Nat->Nat):Rw->Rw
 | .fin p=> .fin p
 | .ι k ds=> .ι k ((rep c ds).map (sk c k ds))
theorem HR{r:Rw}(NA:∀t,t < n->c t∈ls)(to:∀d∈cw r,0<=d.1/\d.1 < n):O6 (λi=>ls.idxOf (c i)) r=rO ls c r:=by
 cases r with
 | fin p=>rfl
 | ι k ds=>
  have inj:∀d∈ds,∀e∈ds,π (λi=>ls.idxOf (c i)) d=π (λi=>ls.idxOf (c i)) e↔π c d=π c e:=λd hd e he=>by have a:=to d hd;have b:=to e he;have l:π (λi=>ls.idxOf (c i)) e=aY e.2.1 (ls.idxOf (c e.1.toNat)):=rfl;have l2:π c e=aY e.2.1 (c e.1.toNat):=rfl;rw [l,l2,cG,cG];exact ⟨λz=>⟨z.1,vE (NA _ (by omega)) (NA _ (by omega)) z.2⟩,λz=>⟨z.1,by rw [z.2]⟩⟩
  show Rw.ι k _=Rw.ι k _;refine aa2 _ ?_;rw [Mq ds inj];have ez:CI c (.ι k ds)=(rep c ds).map λe=>(π c e,Ω c k ds (π c e)):=by
   unfold CI;rw [Ay,qN];generalize rep c ds=es
   induction es with
   | nil=>rfl
   | cons e es ih=>rw [aav,aav,aav,aaU,ih]
  rw [ez,aas];by_cases q:k="chance"
  ·rw [aaF q];refine aaS λe he=> ?_;have hm:=(uz c ds).1 e he;unfold sk;rw [aaF q,oZ (c:=c) (x:=π c e) ds λd hd=>inj d hd e hm];show _=jd ls (π c e,_);unfold jd;rw [qz,qe]
  ·rw [aaA q,aas];refine aaS λe he=> ?_;unfold sk;rw [aaA q];show _=O5 (jd ls (π c e,_));unfold O5 jd;rw [qz,qe]
theorem i_:∀{r s:Rw},br r s=true->br s r=true
 | .fin p, .fin q,h=>aam (aaq h:p=q).symm
 | .ι k _, .ι l _,h=>aam (aaq h:k=l).symm
 | .fin _, .ι _ _,h=>(nomatch h)
 | .ι _ _, .fin _,h=>(nomatch h)
theorem D3{γ:List Rw}(hi:i < γ.length)(hj:j < γ.length):bM γ 0 i=bM γ 0 j↔br γ[i] γ[j]=true:=by
 have h:=N51.wV (s:=yc γ) (n:=γ.length) (λi hi=>by rw [eU hi hi];exact j8 _) (λi j hi hj e=>by rw [eU hi hj] at e;rw [eU hj hi];exact i_ e) (λi j k hi hj hk h1 h2=>by
  rw [eU hi hj] at h1;rw [eU hj hk] at h2;rw [eU hi hk]
  exact aX h1 h2) hi hj
 rw [eU hi hj] at h;exact h
theorem zV{γ:List Rw}(hi:i < γ.length)(hj:j < γ.length):bM γ (k+1) i=bM γ (k+1) j↔bM γ k i=bM γ k j/\∀x,N51.get (Ι (bM γ k) γ[i]).1 (Ι (bM γ k) γ[i]).2 x=N51.get (Ι (bM γ k) γ[j]).1 (Ι (bM γ k) γ[j]).2 x:=by have h:=N51.wV (s:=yT γ (bM γ k)) (n:=γ.length) (λi hi=>(bq hi hi).mpr ⟨rfl,λ_=>rfl⟩) (λi j hi hj e=>(bq hj hi).mpr ⟨((bq hi hj).mp e).1.symm,λx=>(((bq hi hj).mp e).2 x).symm⟩) (λi j k' hi hj hk h1 h2=>(bq hi hk).mpr ⟨((bq hi hj).mp h1).1.trans ((bq hj hk).mp h2).1,λx=>(((bq hi hj).mp h1).2 x).trans (((bq hj hk).mp h2).2 x)⟩) hi hj;exact h.trans (bq hi hj)
theorem lK{γ:List Rw}:∀(k i j:Nat) (hi:i < γ.length) (hj:j < γ.length),bM γ k i=bM γ k j->br γ[i] γ[j]=true
 | 0,_,_,hi,hj,h=>(D3 hi hj).mp h
 | k+1,i,j,hi,hj,h=>lK k i j hi hj ((zV hi hj).mp h).1
def tt(c:Nat->Nat):Rw->NK->Fr
 | .fin _,_=>(0,1)
 | .ι k ds,x=>Ω c k ds x
theorem aP{k:Str}:∀{ds:List cb},(∀d∈ds,π c d≠x)->Ω c k ds x=(0,1):=λ{ds}=>by
 induction ds using fe with
 | h0=>intro _;rfl
 | hs ds d ih=>
  intro h;rw [dz,if_neg (h d (by simp)),ih λe he=>h e (List.mem_append_left _ he)]
theorem uG{r s:Rw}(hr:pP n r)(hs:pP n s)(c:Nat->Nat)(e:br r s=true):(∀x,N51.get (Ι c r).1 (Ι c r).2 x=N51.get (Ι c s).1 (Ι c s).2 x)↔∀x,tt c r x=tt c s x:=by
 match r,s,hr,hs,e with
 | .fin p, .fin q,_,_,_=>exact ⟨λ_ _=>rfl,λ_ _=>rfl⟩
 | .fin _, .ι _ _,_,_,e=>exact (nomatch e)
 | .ι _ _, .fin _,_,_,e=>exact (nomatch e)
 | .ι k ds, .ι l es,hr,hs,e=>
  have e:k=l:=aaq e;subst e;rw [<-jc (cK c _) (cK c _),eu.OF hr hs c];constructor
  ·intro h x;by_cases q:∃d∈ds++es,π c d=x
   ·obtain ⟨d,hd,rfl⟩:=q;exact h d hd
   ·show Ω c k ds x=Ω c k es x;rw [aP λd hd z=>q ⟨d,aaH _ hd,z⟩,aP λd hd z=>q ⟨d,aar _ hd,z⟩]
  ·intro h d _;exact h _
theorem Fz{r s:Rw}(hr:pP n r)(hs:pP n s)(e:br r s=true)(h:∀i j,i < n->j < n->(c i=c j↔c' i=c' j)):(∀x,tt c r x=tt c s x)->∀x,tt c' r x=tt c' s x:=by
 match r,s,hr,hs,e with
 | .fin p, .fin q,_,_,_=>exact λ_ _=>rfl
 | .fin _, .ι _ _,_,_,e=>exact (nomatch e)
 | .ι _ _, .fin _,_,_,e=>exact (nomatch e)
 | .ι k ds, .ι l es,hr,hs,e=>
  have e:k=l:=aaq e;subst e;have to:∀d∈ds++es,d.1.toNat < n:=λd hd=>by
   rcases aaL.mp hd with z | z
   ·have:=hr.to d z;omega
   ·have:=hs.to d z;omega
  have inj:∀d∈ds++es,∀e∈ds++es,π c' d=π c' e↔π c d=π c e:=λd hd e he=>by have l1:π c' e=aY e.2.1 (c' e.1.toNat):=rfl;have l2:π c e=aY e.2.1 (c e.1.toNat):=rfl;rw [l1,l2,cG,cG];exact and_congr_right λ_=>(h _ _ (to d hd) (to e he)).symm
  intro q x;show Ω c' k ds x=Ω c' k es x;by_cases z:∃d∈ds++es,π c' d=x
  ·obtain ⟨d,hd,rfl⟩:=z;rw [oZ (c:=c) (x:=π c d) ds λe he=>inj e (aaH _ he) d hd,oZ (c:=c) (x:=π c d) es λe he=>inj e (aar _ he) d hd];exact q _
  ·rw [aP λd hd y=>z ⟨d,aaH _ hd,y⟩,aP λd hd y=>z ⟨d,aar _ hd,y⟩]
structure CL(A B:List Rw)(f:Nat->Nat):Prop where
 lt:∀i,i < A.length->f i < B.length
 yR:∀j,j < B.length->∃i,i < A.length/\f i=j
 rel:∀i (hi:i < A.length) (hj:f i < B.length),br A[i] B[f i]=true/\∀(c:Nat->Nat) (x:NK),tt (λt=>c (f t)) A[i] x=tt c B[f i] x
theorem CL.bM{A B:List Rw}{f:Nat->Nat}(b:CL A B f)(fA:Fk A)(fB:Fk B):∀(k i j:Nat),i < A.length->j < A.length->(bM A k i=bM A k j↔bM B k (f i)=bM B k (f j))
 | 0,i,j,hi,hj=>by rw [D3 hi hj,D3 (b.lt i hi) (b.lt j hj)];have a1:=(b.rel i hi (b.lt i hi)).1;have a2:=(b.rel j hj (b.lt j hj)).1;exact ⟨λh=>aX (i_ a1) (aX h a2),λh=>aX a1 (aX h (i_ a2))⟩
 | k+1,i,j,hi,hj=>by
  have li:=b.lt i hi;have lj:=b.lt j hj;rw [zV hi hj,zV li lj,b.bM fA fB k i j hi hj];refine and_congr_right λh=> ?_;have hA:=(b.bM fA fB k i j hi hj).mpr h;have sA:=lK k i j hi hj hA;have sB:=lK k _ _ li lj h;rw [uG (fA.rk _ (aap hi)) (fA.rk _ (aap hj)) _ sA,uG (fB.rk _ (aap li)) (fB.rk _ (aap lj)) _ sB];have PJ:∀i j,i < A.length->j < A.length->(Pg.bM A k i=Pg.bM A k j↔(λt=>Pg.bM B k (f t)) i=(λt=>Pg.bM B k (f t)) j):=λi j hi hj=>b.bM fA fB k i j hi hj;have e1:=(b.rel i hi li).2 (Pg.bM B k);have e2:=(b.rel j hj lj).2 (Pg.bM B k);constructor
  ·intro q x;rw [<-e1,<-e2];exact Fz (fA.rk _ (aap hi)) (fA.rk _ (aap hj)) sA PJ q x
  ·intro q x;refine Fz (c:=λt=>Pg.bM B k (f t)) (fA.rk _ (aap hi)) (fA.rk _ (aap hj)) sA (λi j hi hj=>(PJ i j hi hj).symm) (λx=> ?_) x;rw [e1,e2];exact q x
theorem yC(h:N51.Cl n c)(h':N51.Cl n c')(e:∀i j,i < n->j < n->(c i=c j↔c' i=c' j)):∀i,i < n->c i=c' i:=λi hi=>by have a:=h.le i hi;have b:=h'.le i hi;have a1:=(e (c i) i (by omega) hi).mp (h.fx i hi);have b1:=(e (c' i) i (by omega) hi).mpr (h'.fx i hi);have a2:=h'.le (c i) (by omega);have b2:=h.le (c' i) (by omega);omega
theorem CL.stop{A B:List Rw}{f:Nat->Nat}(b:CL A B f)(fA:Fk A)(fB:Fk B)(h:kN A m):kN B m:=by
 have key:∀k l,c6 A k=c6 A l↔c6 B k=c6 B l:=λk l=>by
  unfold c6;rw [mU,mU];constructor
  ·intro q;refine yC (fV B k) (fV B l) λi j hi hj=> ?_;obtain ⟨i',GI,rfl⟩:=b.yR i hi;obtain ⟨j',ND,rfl⟩:=b.yR j hj;rw [<-b.bM fA fB k i' j' GI ND,<-b.bM fA fB l i' j' GI ND,q i' GI,q j' ND]
  ·intro q;refine yC (fV A k) (fV A l) λi j hi hj=> ?_;rw [b.bM fA fB k i j hi hj,b.bM fA fB l i j hi hj,q _ (b.lt i hi),q _ (b.lt j hj)]
 exact ⟨h.pos,h.JY,λk hk z=>h.ne k hk ((key _ _).mpr z),(key _ _).mp h.eq⟩
theorem eu.Qg{k:Str}{ds:List cb}(h:eu n k ds)(c:Nat->Nat)(x:NK):Ω c k ds x≠(0,1)↔∃d∈ds,π c d=x:=by
 constructor
 ·intro q;exact Classical.byContradiction λz=>q (aP λd hd e=>z ⟨d,hd,e⟩)
 ·rintro ⟨d,hd,rfl⟩;exact h.ne c _ (aaf.mpr ⟨_,aaf.mpr ⟨d,hd,rfl⟩,rfl⟩)
theorem xT:∀ks:List NK,(ks.map λ_=>(0:Int)).sum=0
 | []=>rfl
 | _::ks=>by rw [aav,abg,xT ks];rfl
theorem zS{c2:Nat->Nat}{B:Int}{ks:List NK}(nd:ks.Nodup)(G:NK->NK)(x:NK):∀(ds:List cb),(∀d∈ds,π c d∈ks/\π c2 d=G (π c d))->(ks.map λy=>if G y=x then cU c B ds y else 0).sum=cU c2 B ds x:=λds=>by
 induction ds using fe with
 | h0=>
  intro _;have:(λy=>if G y=x then cU c B [] y else 0)=λ_:NK=>(0:Int):=funext λy=>by show (if G y=x then (0:Int) else 0)=0;split <;> rfl
  rw [this,xT];rfl
 | hs ds d ih=>
  intro h;have ih:=ih λd hd=>h d (aaH _ hd);obtain ⟨m,e⟩:=h d (by simp);have ef:(λy=>if G y=x then cU c B (ds++[d]) y else 0)=λy=>(if G y=x then cU c B ds y else 0)+(if π c d=y then (if G (π c d)=x then xv B d else 0) else 0):=funext λy=>by
   rw [jk];by_cases q:G y=x
   ·rw [aaF q,aaF q];by_cases z:π c d=y
    ·rw [aaF z,aaF z,z,aaF q]
    ·rw [aaA z,aaA z]
   ·rw [aaA q,aaA q];by_cases z:π c d=y
    ·rw [aaF z,z,aaA q];rfl
    ·rw [aaA z];rfl
  rw [ef,vY,ih,xc nd m,jk,e]
def HI(g:Nat->Nat)(y:NK):NK:=aY (Kw y) (g (MU y))
theorem mJ(g c:Nat->Nat)(d:cb):π (λt=>g (c t)) d=HI g (π c d):=by unfold HI;rw [qe,qz];rfl
theorem FN{B:Int}(hB:0 < B)(e:ae a B=ae b B):a=b:=by
 have q:=aU (t:=a) (show B≠0 by omega);have x1:=bH (t:=a) (show B≠0 by omega);have x2:=bH (t:=b) (show B≠0 by omega);rw [<-e] at x2;generalize ae a B=p at *
 have:p.2 * a=p.2 * b:=by grind
 exact abb (by omega) this
theorem LQ{n':Nat}{k:Str}{ds es:List cb}(hd:eu n k ds)(he:eu n' k es)(h:∀x,Ω c k ds x=Ω c' k es x)(g:Nat->Nat)(x:NK):Ω (λt=>g (c t)) k ds x=Ω (λt=>g (c' t)) k es x:=by
 have keys:∀x,(∃d∈ds,π c d=x)↔∃e∈es,π c' e=x:=λx=>by rw [<-hd.Qg c x,<-he.Qg c' x,h x]
 by_cases hk:k="chance"
 ·subst hk;have pos:∀f∈(ds++es).map θ,0 < f.2:=λf hf=>by
   obtain ⟨d,m,rfl⟩:=aaf.mp hf;rcases aaL.mp m with m | m
   ·exact (hd.pos rfl d m).2
   ·exact (he.pos rfl d m).2
  obtain ⟨B0,Bd⟩:=qi pos;generalize gy ((ds++es).map θ)=B at *
  have a1:∀d∈ds,0 < (θ d).2/\(θ d).2∣B:=λd m=>⟨(hd.pos rfl d m).2,Bd _ (aaf.mpr ⟨d,aaH _ m,rfl⟩)⟩;have a2:∀d∈es,0 < (θ d).2/\(θ d).2∣B:=λd m=>⟨(he.pos rfl d m).2,Bd _ (aaf.mpr ⟨d,aar _ m,rfl⟩)⟩;have hs:∀y,cU c B ds y=cU c' B es y:=λy=>by have:=h y;rw [cN B0 _ ds rfl a1,cN B0 _ es rfl a2] at this;exact FN B0 this
  rw [cN B0 _ ds rfl a1,cN B0 _ es rfl a2];have nd:=(cK c (.ι "chance" ds)).2;have mem:∀y,y∈(Ι c (.ι "chance" ds)).1↔∃d∈ds,π c d=y:=λy=>by rw [e9];exact ⟨λ⟨d,h1,h2⟩=>⟨d,h1,h2.symm⟩,λ⟨d,h1,h2⟩=>⟨d,h1,h2.symm⟩⟩
  rw [<-zS (c:=c) nd (HI g) x ds λd m=>⟨(mem _).mpr ⟨d,m,rfl⟩,mJ g c d⟩,<-zS (c:=c') nd (HI g) x es λd m=>⟨(mem _).mpr ((keys _).mpr ⟨d,m,rfl⟩),mJ g c' d⟩];have:cU c B ds=cU c' B es:=funext hs;rw [this]
 ·have key:∀x,(∃d∈ds,π (λt=>g (c t)) d=x)↔∃e∈es,π (λt=>g (c' t)) e=x:=λx=>by
   constructor
   ·rintro ⟨d,m,rfl⟩;obtain ⟨e,m2,q⟩:=(keys _).mp ⟨d,m,rfl⟩;exact ⟨e,m2,by rw [mJ g c' e,mJ g c d,q]⟩
   ·rintro ⟨d,m,rfl⟩;obtain ⟨e,m2,q⟩:=(keys _).mpr ⟨d,m,rfl⟩;exact ⟨e,m2,by rw [mJ g c e,mJ g c' d,q]⟩
  by_cases q:∃d∈ds,π (λt=>g (c t)) d=x
  ·rw [dD hk q,dD hk ((key x).mp q)]
  ·rw [aP λd df e=>q ⟨d,df,e⟩,aP λd df e=>q ((key x).mpr ⟨d,df,e⟩)]
theorem sC{n':Nat}{r s:Rw}(hr:pP n r)(hs:pP n' s)(e:br r s=true)(h:∀x,tt c r x=tt c' s x)(g:Nat->Nat)(x:NK):tt (λt=>g (c t)) r x=tt (λt=>g (c' t)) s x:=by
 match r,s,hr,hs,e with
 | .fin p, .fin q,_,_,_=>rfl
 | .fin _, .ι _ _,_,_,e=>exact (nomatch e)
 | .ι _ _, .fin _,_,_,e=>exact (nomatch e)
 | .ι k ds, .ι l es,hr,hs,e=>
  have e:k=l:=aaq e;subst e;exact LQ hr hs h g x
theorem CL.of{A B:List Rw}{f:Nat->Nat}(fA:Fk A)(fB:Fk B)(lt:∀i,i < A.length->f i < B.length)(yR:∀j,j < B.length->∃i,i < A.length/\f i=j)(rel:∀i (hi:i < A.length) (hj:f i < B.length),br A[i] B[f i]=true/\∀x,tt f A[i] x=tt (λt=>t) B[f i] x):CL A B f:=
 ⟨lt,yR,λi hi hj=>⟨(rel i hi hj).1,λc x=>sC (fA.rk _ (aap hi)) (fB.rk _ (aap hj)) (rel i hi hj).1 (rel i hi hj).2 c x⟩⟩
theorem BW{k:Str}:∀(es:List cb),(es.map (π c)).Nodup->∀e∈es,Ω c k es (π c e)=v7 k (0,1) (θ e):=λes=>by
 induction es using fe with
 | h0=>exact λ_ _ z=>(nomatch z)
 | hs es d ih=>
  intro nd e he;rw [aao,ab1] at nd;obtain ⟨n1,_,n3⟩:=nd;rw [dz];rcases aaL.mp he with he | he
  ·rw [if_neg (λq=>n3 (π c e) (List.mem_map.mpr ⟨e,he,rfl⟩) (π c d) (by simp) q.symm)];exact ih n1 e he
  ·have he:e=d:=by simpa using he
   subst he;rw [if_pos rfl,aP λx hx q=>n3 _ (List.mem_map.mpr ⟨x,hx,rfl⟩) (π c e) (by simp) q]
theorem Lo{r:Rw}(h:pP n r)(c:Nat->Nat)(x:NK):tt c r x=tt (λt=>t) (O6 c r) x:=by
 cases r with
 | fin p=>rfl
 | ι k ds=>
  have h:eu n k ds:=h;show Ω c k ds x=Ω (λt=>t) k ((rep c ds).map (sk c k ds)) x;have dk:∀e,π (λt=>t) (sk c k ds e)=π c e:=λe=>by show (([.inl e.2.1.1, .inl e.2.1.2], .inl ((((c e.1.toNat:Nat):Int).toNat:Nat):Int)):NK)=_;rw [aa6];rfl
  have nd:(((rep c ds).map (sk c k ds)).map (π λt=>t)).Nodup:=by rw [aas];have:((π λt=>t) ∘ sk c k ds)=π c:=funext dk;rw [this,<-qN c k ds];exact (cK c (.ι k ds)).2
  have keys:(∃d∈ds,π c d=x)↔∃e∈rep c ds,π c e=x:=by
   have:x∈(Ι c (.ι k ds)).1↔x∈(rep c ds).map (π c):=by rw [qN]
   rw [e9,aaf] at this;exact ⟨λ⟨d,h1,h2⟩=>this.mp ⟨d,h1,h2.symm⟩,λq=>by obtain ⟨d,h1,h2⟩:=this.mpr q;exact ⟨d,h1,h2.symm⟩⟩
  by_cases q:∃d∈ds,π c d=x
  ·obtain ⟨e,he,rfl⟩:=keys.mp q;have o:=BW (k:=k) _ nd (sk c k ds e) (aaf.mpr ⟨e,he,rfl⟩);rw [dk] at o;rw [o];by_cases hk:k="chance"
   ·subst hk;have pos:∀f∈ds.map θ,0 < f.2:=λf hf=>by obtain ⟨d,m,rfl⟩:=aaf.mp hf;exact (h.pos rfl d m).2
    obtain ⟨B0,Bd⟩:=qi pos;have pf:=cN (c:=c) (x:=π c e) B0 _ ds rfl λd m=>⟨(h.pos rfl d m).2,Bd _ (aaf.mpr ⟨d,m,rfl⟩)⟩;have ch:θ (sk c "chance" ds e)=Ω c "chance" ds (π c e):=by unfold sk;rw [if_pos rfl];rfl
    rw [ch];show _=c7 (0,1) _;rw [pf];generalize cU c (gy (ds.map θ)) ds (π c e)=a;generalize gy (ds.map θ)=B at *
    have q:=aU (t:=a) (show B≠0 by omega);have lo:=lW (t:=a) (show B≠0 by omega);unfold c7;generalize ae a B=p at *
    exact (oK (p:=p.1) (q:=p.2) (show 1 * p.2≠0 by omega) q lo (by show (0 * p.2+p.1 * 1) * p.2=1 * p.2 * p.1;grind)).symm
   ·rw [dD hk q];unfold v7;rw [aaA hk]
  ·rw [aP λd hd e=>q ⟨d,hd,e⟩,aP λd hd e=> ?_];obtain ⟨e',JB,rfl⟩:=aaf.mp hd;rw [dk] at e;exact q (keys.mpr ⟨e',JB,e⟩)
theorem q_{γ:List Rw}(fA:Fk γ)(fB:Fk (ξ γ m))(st:kN γ m):CL γ (ξ γ m) (λi=>(fW γ m).idxOf (bM γ (m - 1) i)):=by
 have hc:=fV γ (m - 1);have p1:=st.pos;have uX:∀t,t < γ.length->bM γ (m - 1) t∈fW γ m:=λt ht=>N51.aH.mpr ⟨by have:=hc.le t ht;omega,hc.fx t ht⟩;have el:(ξ γ m).length=(fW γ m).length:=aac ..;refine CL.of fA fB (λi hi=>by rw [el];exact gM (uX i hi)) (λj hj=> ?_) λi hi hj=> ?_
 ·rw [el] at hj;have hm:=N51.aH.mp (aap hj);refine ⟨(fW γ m)[j],hm.1, ?_⟩;show (fW γ m).idxOf (bM γ (m - 1) (fW γ m)[j])=j;rw [hm.2];have nd:(fW γ m).Nodup:=(lU _ _).imp λh=>aaM h;exact List.Nodup.idxOf_getElem nd j hj
 ·have li:=hc.le i hi;have hl:bM γ (m - 1) i < γ.length:=by omega
  have ej:(ξ γ m)[(fW γ m).idxOf (bM γ (m - 1) i)]=rO (fW γ m) (bM γ (m - 1)) γ[bM γ (m - 1) i]:=by
   have:(ξ γ m)[(fW γ m).idxOf (bM γ (m - 1) i)]? =some (rO (fW γ m) (bM γ (m - 1)) γ[bM γ (m - 1) i]):=by unfold ξ;rw [aaj,aaa (gM (uX i hi)),oU (uX i hi)];show some (rO _ _ (γ.getD (bM γ (m - 1) i) _))=_;rw [aan,aaa hl];rfl
   exact (aad.mp this).2
  have fx:=hc.fx i hi;have sm:br γ[i] γ[bM γ (m - 1) i]=true:=lK (m - 1) _ _ hi hl fx.symm;have e:=mU.mp st.eq;have al:∀x,tt (bM γ (m - 1)) γ[i] x=tt (bM γ (m - 1)) γ[bM γ (m - 1) i] x:=by
   have:bM γ (m - 1+1) i=bM γ (m - 1+1) (bM γ (m - 1) i):=by rw [show m - 1+1=m by omega,e i hi,e _ hl,fx]
   exact (uG (fA.rk _ (aap hi)) (fA.rk _ (aap hl)) _ sm).mp ((zV hi hl).mp this).2
  have pe:=HR (r:=γ[bM γ (m - 1) i]) uX (fA.fl.to _ (aap hl));show br γ[i] (ξ γ m)[(fW γ m).idxOf (bM γ (m - 1) i)]=true/\_;rw [ej];constructor
  ·refine aX sm ?_;cases γ[bM γ (m - 1) i] with
   | fin p=>exact aam rfl
   | ι k ds=>exact aam rfl
  ·intro x;rw [<-pe,<-Lo (fA.rk _ (aap hl))];exact sC (fA.rk _ (aap hi)) (fA.rk _ (aap hl)) sm al (λt=>(fW γ m).idxOf t) x
theorem xZ{γ:List Rw}(fA:Fk γ)(fB:Fk (ξ γ m))(st:kN γ m):kN (ξ γ m) m/\∀j,j < (ξ γ m).length->bM (ξ γ m) (m - 1) j=j:=by have b:=q_ fA fB st;refine ⟨b.stop fA fB st, ?_⟩;have Xj:N51.Cl (ξ γ m).length (λt=>t):=⟨λ_ _=>aal _,λ_ _=>rfl⟩;have hc:=fV γ (m - 1);have uX:∀t,t < γ.length->bM γ (m - 1) t∈fW γ m:=λt ht=>N51.aH.mpr ⟨by have:=hc.le t ht;omega,hc.fx t ht⟩;refine yC (fV _ (m - 1)) Xj λi j hi hj=> ?_;obtain ⟨i',GI,rfl⟩:=b.yR i hi;obtain ⟨j',ND,rfl⟩:=b.yR j hj;rw [<-b.bM fA fB (m - 1) i' j' GI ND];exact ⟨λz=>by show List.idxOf _ _=List.idxOf _ _;rw [z],λz=>vE (uX _ GI) (uX _ ND) z⟩
def Gp(ns:List Int)(k:Int):Int:=ns.getD k.toNat 0
theorem zK{k:Int}(h0:0<=k)(h2:k < ns.length):i9 (ns.map Dt.int) k=some (.int (Gp ns k)):=by
 have e:(ns.map Dt.int)[k.toNat]? =some (.int (Gp ns k)):=by rw [aaj,aaa (show k.toNat < ns.length by omega)];unfold Gp;rw [aan,aaa (show k.toNat < ns.length by omega)];rfl
 have:=Ν e;rwa [show ((k.toNat:Nat):Int)=k by omega] at this
theorem IV{k:Int}(h:¬k < ns.length):Gp ns k=0:=by unfold Gp;rw [aan,abm (by omega)];rfl
def Ie(ns:List Int)(k:Int):Bool:=decide (k < ns.length)&&(decide (Gp ns k < 0) || decide (Gp ns k ≥ 10 ^ 18))
theorem Iv{k:Int}(h:Ie ns k=false):0<=Gp ns k/\Gp ns k < 10 ^ 18:=by
 unfold Ie at h;by_cases hk:k < ns.length
 ·rw [aam hk,Bool.true_and,Bool.or_eq_false_iff,decide_eq_false_iff_not,decide_eq_false_iff_not] at h;omega
 ·rw [IV hk];exact ⟨by decide,by decide⟩
theorem YZ:pR 10 18:=⟨by decide,by decide,by decide⟩
theorem VA:pR 10 64:=⟨by decide,by decide,by decide⟩
theorem p8:pR 10 8:=⟨by decide,by decide,by decide⟩
theorem p6:pR 10 6:=⟨by decide,by decide,by decide⟩
theorem W9:pR 10 22:=⟨by decide,by decide,by decide⟩
theorem UH:pR 10 30:=⟨by decide,by decide,by decide⟩
def Nm(n:Int):Prop:=0<=n/\n < 10 ^ 128
theorem DN{n:Int}(h:Nm n):gU n:=Eh (k:=440) h.1 (Int.lt_of_lt_of_le h.2 (by decide)) (by decide)
theorem qw{m:Int}(h0:0 < m)(h1:m<=10 ^ 128):Nm (a % m):=⟨aaT _ (by omega),Int.lt_of_lt_of_le (aaV _ h0) h1⟩
theorem qm{m:Int}(h:Nm a)(h0:0 < m):Nm (a / m):=⟨Int.ediv_nonneg h.1 (by omega),Int.lt_of_le_of_lt (Int.ediv_le_self _ h.1) h.2⟩
def HE:DF:=λas M q _=>∃(ns:List Int) (k:Int),as=[.dM ns, .int k]/\0<=k/\q (.bl (Ie ns k)) M
theorem Gu:Δ ["_law_script","_law_k"] ["_law_script","_law_k"] (χ vn):= .of rfl
theorem Ba(F:eD K "_law_far" "_law_far" vn f fd)(E:Ev K mg Cm):aC P w K mg base (dh P w) 1 f fd ["_law_script","_law_k"] (eh K HE):=by
 refine F.gH Gu (λds M q x h=> ?_) (λb8 A outer s H E' hr=>⟨_,(μ (Γ (ix (HA (jv 1) (dU E.cF (ar (jv 0) ε))) (kC (Pj (HA (Κ (jv 0) (jv 1)) ν) (kC (TR (Κ (jv 0) (jv 1)) (gD ν ν)))))))),λds M q x h=> ?_⟩)
 ·obtain ⟨ns,k,rfl,_⟩:=h;rfl
 ·obtain ⟨ns,k,rfl,hk,h⟩:=h;unfold Ie at h;walk_at "vc";refine (aL (d:= .dM ns) (xs:=ns.map .int) rfl ?_:iF [.dM ns] M _);rw [aac];refine ⟨λh1=> ?_,λh1=> ?_⟩
  ·have h1:decide (k < ns.length)=true:=h1;have l':k < ns.length:=aaq h1;rw [h1,Bool.true_and] at h;refine (υ (d:= .dM ns) rfl (zK hk l') ?_:cq (.dM ns) (.int k) M _);refine ⟨λh2=> ?_,λh2=> ?_⟩
   ·have h2:decide (Gp ns k < 0)=true:=h2;rw [h2,Bool.true_or] at h;exact h
   ·have h2:decide (Gp ns k < 0)=false:=h2;rw [h2,Bool.false_or] at h;refine (υ (d:= .dM ns) rfl (zK hk l') ?_:cq (.dM ns) (.int k) M _);exact ⟨YZ,h⟩
  ·have h1:decide (k < ns.length)=false:=h1;rw [h1,Bool.false_and] at h;exact h
def xE:DF:=λas M q _=>∃(ns:List Int) (k:Int),as=[.dM ns, .int k]/\0<=k/\k<=200/\∀n,Nm n->q (.int n) M
theorem Ec(x:Int)(h0:0<=x)(h1:x < 2147483647):gU x/\gU (x % 65521+30011):=⟨bg (k:=40) (by omega),bg (k:=40) (by omega)⟩
theorem LJ{k:Int}(h0:0<=k)(h1:k<=200):gU ((k+1) * (k+1)):=by have a:=Int.mul_le_mul (show k+1<=201 by omega) (show k+1<=201 by omega) (show 0<=k+1 by omega) (show (0:Int)<=201 by decide);have b:0<=(k+1) * (k+1):=Int.mul_nonneg (by omega) (by omega);exact bg (k:=40) (by omega)
theorem iB:Δ ["_law_script","_law_k","_law_cell","_law_number_here"] ["_law_script","_law_k"] (χ jW):= .of rfl
theorem vb(F:eD K "_law_number" "_law_number" jW f fd)(E:Ev K mg Cm)(c_:aR P w K mg base 1 "_law_far" ["_law_script","_law_k"] HE kT lx):aC P w K mg base (dh P w) 2 f fd ["_law_script","_law_k"] (eh K xE):=by
 refine F.gH iB (λds M q x h=> ?_) (λb8 A outer s H E' hr=>⟨_,(η (Β 2 iB.nd (J0 (tI (jv 1) (dU E.cF (ar (jv 0) ε))) (Κ (jv 0) (jv 1)) ν))
   (η (aE (jZ (au c_ hr ο (ar (jv 0) (ar (jv 1) ε)))) (μ (Γ (bf (jv 2) (gD ν ν)))) Ξ)
   (η (Β 3 iB.nd (bf (aK (bF (jv 2) ν) (bF (bF (aK (jv 1) ν) (aK (jv 1) ν)) ν)) ν))
   (μ (Γ (bf (aK (bF (jv 3) (aK (bf (jv 3) ν) ν)) (bF (aK (jv 1) ν) ν)) ν)))))),λds M q x h=> ?_⟩)
 ·obtain ⟨ns,k,rfl,_⟩:=h;rfl
 ·obtain ⟨ns,k,rfl,hk,k2,h⟩:=h;have bk:=LJ hk k2;have b1:gU (k+1):=bg (k:=40) (by omega);have b3:gU (k+3):=bg (k:=40) (by omega);have cc:∀n:Int,n.natAbs < 2 ^ 20->gU n:=λn hn=>bg hn;walk_at "vc";refine (aL (d:= .dM ns) (xs:=ns.map .int) rfl ?_:iF [.dM ns] M _);rw [aac];refine ⟨λh1=> ?_,λh1=> ?_⟩
  ·have l':k < ns.length:=aaq h1;refine (υ (d:= .dM ns) rfl (zK hk l') ?_:cq (.dM ns) (.int k) M _);refine ⟨ns,k,rfl,hk,λh2=> ?_,λh2=> ?_⟩
   ·exact ⟨VA,by decide,h _ (qw (by decide) (by decide))⟩
   ·obtain ⟨c0,c1⟩:=Iv h2;refine ⟨⟨bg (k:=64) (by omega),cc _ (by decide)⟩,⟨b1,b1⟩,⟨bk,cc _ (by decide)⟩,by decide, ?_⟩;exact ⟨by decide,Ec _ (aaT _ (by decide)) (aaV _ (by decide)),⟨b3,cc _ (by decide)⟩,by decide,h _ (qw (by decide) (by decide))⟩
  ·have l':¬k < ns.length:=abH h1;refine ⟨ns,k,rfl,hk,λh2=> ?_,λh2=> ?_⟩
   ·exact ⟨VA,by decide,h _ (qw (by decide) (by decide))⟩
   ·refine ⟨⟨cc _ (by decide),cc _ (by decide)⟩,⟨b1,b1⟩,⟨bk,cc _ (by decide)⟩,by decide, ?_⟩;exact ⟨by decide,Ec _ (aaT _ (by decide)) (aaV _ (by decide)),⟨b3,cc _ (by decide)⟩,by decide,h _ (qw (by decide) (by decide))⟩
theorem sS:Δ ["_law_script","_law_k","_law_number_here"] ["_law_script","_law_k"] (χ pY):= .of rfl
theorem zO(F:eD K "_law_rest" "_law_rest" pY f fd)(E:Ev K mg Cm)(Μ:aR P w K mg base 2 "_law_number" ["_law_script","_law_k"] xE bT b6)(c_:aR P w K mg base 1 "_law_far" ["_law_script","_law_k"] HE kT lx):aC P w K mg base (dh P w) 3 f fd ["_law_script","_law_k"] (eh K xE):=by
 refine F.gH sS (λds M q x h=> ?_) (λb8 A outer s H E' hr=>⟨_,(η (Β 2 sS.nd (au Μ hr ο (ar (jv 0) (ar (jv 1) ε))))
   (η (aE (jZ (au c_ hr ο (ar (jv 0) (ar (jv 1) ε)))) (μ (Γ (dj (jv 2) (gD ν ν)))) Ξ)
   (μ (Γ (bf (bF (jv 2) ν) ν))))),λds M q x h=> ?_⟩)
 ·obtain ⟨ns,k,rfl,_⟩:=h;rfl
 ·obtain ⟨ns,k,rfl,hk,k2,h⟩:=h;refine ⟨ns,k,rfl,hk,k2,λn hn=> ?_⟩;refine ⟨ns,k,rfl,hk,λh2=> ?_,λh2=> ?_⟩
  ·exact ⟨p8,⟨by decide,bg (k:=40) (by decide)⟩,h _ (qm hn (by decide))⟩
  ·exact ⟨⟨DN hn,bg (k:=20) (by decide)⟩,by decide,h _ (qw (by decide) (by decide))⟩
theorem O9(h1: -(10 ^ 30)<=a)(h2:a<=10 ^ 30)(h3:b<=1000000):b_ (a,b)=true:=by
 unfold b_;have:(if a < 0 then -a else a)<=10 ^ 30:=by split <;> omega
 show (decide ((if a < 0 then -a else a)<=10 ^ 30)&&decide (b<=1000000))=true;rw [aam this,aam h3];rfl
theorem zC(t0:0<=t)(t1:t < b)(SR:b<=1000):eJ (ae t b)=true:=by
 have Jz:0 < b:=by omega
 have l2:=l6 (t:=t) (show b≠0 by omega);have q0:=aU (t:=t) (show b≠0 by omega);have hc:=bH (t:=t) (show b≠0 by omega);generalize ae t b=f at *
 obtain ⟨x,y⟩:=f;have l2:y.natAbs<=b.natAbs:=l2;have q0:0 < y:=q0;have hc:t * y=b * x:=hc;have x0:0<=x:=by
  rcases Int.lt_or_le x 0 with z | z
  ·have:=Int.mul_neg_of_pos_of_neg Jz z;have:=Int.mul_nonneg t0 (aaX q0);omega
  ·exact z
 have x1:x < y:=by
  rcases Int.lt_or_le x y with z | z
  ·exact z
  ·have h3:b * y<=b * x:=Int.mul_le_mul_of_nonneg_left z (aaX Jz);have h4:t * y < b * y:=Int.mul_lt_mul_of_pos_right t1 q0;omega
 unfold eJ;show (decide (0<=x)&&(decide (x < y)&&decide (y<=1000)))=true;rw [aam x0,aam x1,aam (show y<=1000 by omega)];rfl
def B5:DF:=λas M q _=>∃t b:Int,as=[.int t, .int b]/\0 < b/\gU b/\q (Χ (ae t b)) M
theorem fj:Δ ["_law_top","_law_bottom","_law_one","_law_other"] ["_law_top","_law_bottom"] (χ j5):= .of rfl
theorem ux(F:eD K "_law_lowest" "_law_lowest" j5 f fd)(E:Ev K mg Cm):aC P w K mg base (dh P w) 1 f fd ["_law_top","_law_bottom"] (eh K B5):=by
 refine F.gH fj (λds M q x h=> ?_) (λb8 A outer s H E' hr=>⟨_,(η (Β 2 fj.nd (z_ E.qF (ar (jv 0) ε)))
   (η (Β 3 fj.nd (jv 1))
   (η (qZ (nB hr (jv 3) ν) (μ (L_ (i:=2) (j:=3) fj.nd rfl rfl (ar (jv 3) (ζ (bf (jv 2) (jv 3)) ε bJ)))))
   (μ (Γ (aD (ζ (dj (jv 0) (jv 2)) (ζ (dj (jv 1) (jv 2)) ε bJ) bJ))))))),λds M q x h=> ?_⟩)
 ·obtain ⟨t,b,rfl,_⟩:=h;rfl
 ·obtain ⟨t,b,rfl,h0,h1,h⟩:=h;have ga:g (if t < 0 then -t else t) b=g t b:=by have:=Jm t b;rwa [aaA (show¬b < 0 by omega)] at this
  refine ⟨λm ρ M'=>M'=M/\∃(x y:Int),ρ=[some (.int t),some (.int b),some (.int x),some (.int y)]/\0<=x/\0<=y/\g x y=g t b/\m=y.toNat,⟨_,rfl,_,_,rfl,by split <;> omega,by omega,ga,rfl⟩, ?_⟩;rintro m ρ M' ⟨rfl,x,y,rfl,hx,hy,e,rfl⟩;refine ⟨λhb=> ?_,λhb=> ?_⟩
  ·have HS:y≠0:=by simpa using hb
   refine ⟨_,λρ' M2 h2=>h2, ?_⟩;refine ⟨by omega,(x % y).toNat, ?_,rfl,y,x % y,rfl,hy,aaT _ HS, ?_,rfl⟩
   ·have:=aaV x (show 0 < y by omega);have:=aaT x HS;omega
   ·rw [<-abu x hy,Ez (by omega)];exact e
  ·have HS:y=0:=by simpa using hb
   subst HS;rw [Fg hx] at e;subst e;have hg:0 < g t b:=w6 (by omega);have hle:g t b<=b:=Int.le_of_dvd h0 (Int.gcd_dvd_right ..);have hb:gU (g t b):=aaN (show (g t b).natAbs<=b.natAbs by omega) h1;have e:ae t b=(t / g t b,b / g t b):=by rw [HN h0,abN _ (aaX hg),abN _ (aaX hg)]
   rw [e] at h;exact ⟨⟨hg,hb⟩,⟨hg,hb⟩,fI,h⟩
theorem p7:pR 10 7:=⟨by decide,by decide,by decide⟩
theorem p5:pR 10 5:=⟨by decide,by decide,by decide⟩
def ml(p:Fr):Prop:=p.1.natAbs<=10 ^ 30 - 10 ^ 7/\0 < p.2/\p.2<=1000000
theorem ml.fit{p:Fr}(h:ml p):b_ p=true:=O9 (by have:=h.1;omega) (by have:=h.1;omega) h.2.2
theorem Bp(h1:t.natAbs<=10 ^ 30 - 10 ^ 7)(h0:0 < b)(h3:b<=1000000):ml (ae t b):=by have l1:=pW (t:=t) (show b≠0 by omega);have l2:=l6 (t:=t) (show b≠0 by omega);have l3:=aU (t:=t) (show b≠0 by omega);exact ⟨aax l1 h1,l3,by omega⟩
def ye:DF:=λas M q _=>∃n:Int,as=[.int n]/\Nm n/\∀p,ml p->q (Χ p) M
theorem wC:Δ ["_law_number_here","_law_top"] ["_law_number_here"] (χ tT):= .of rfl
theorem BM(F:eD K "_law_pay" "_law_pay" tT f fd)(E:Ev K mg Cm)(aj:aR P w K mg base 1 "_law_lowest" ["_law_top","_law_bottom"] B5 bY bU):aC P w K mg base (dh P w) 2 f fd ["_law_number_here"] (eh K ye):=by
 refine F.gH wC (λds M q x h=> ?_) (λb8 A outer s H E' hr=>⟨_,(η (aE (da hr (bf (jv 0) ν) ν) (η (Β 1 wC.nd (p9 (bf (bF (jv 0) (gD ν ν)) (aK (p9 (bF ν (gD ν ν)) (bF ν (gD ν ν))) ν)) (p9 (gD ν ν) (gD ν ν))))
   (μ (Γ (au aj hr ο (ar (jv 1) (ζ (aK ν (bf (dj (jv 0) ν) (gD ν ν))) ε bJ)))))) Ξ)
   (μ (Γ (Κ (nD (ζ (aD (ζ ν (ζ ν ε bb) bb)) (ζ (aD (ζ ν (ζ ν ε bb) bb)) (ζ (aD (ζ (sD ν) (ζ ν ε bb) J7)) ε iM) iM) iM)) (bf (dj (jv 0) ν) ν))))),λds M q x h=> ?_⟩)
 ·obtain ⟨n,rfl,_⟩:=h;rfl
 ·obtain ⟨n,rfl,hn,h⟩:=h;refine ⟨by decide,λ_=> ?_,λ_=> ?_⟩
  ·have Qt:0 < 1+n / 6 % 10 ^ (6:Int).toNat/\1+n / 6 % 10 ^ (6:Int).toNat<=1000000:=by show 0 < 1+n / 6 % 1000000/\1+n / 6 % 1000000<=1000000;omega
   have WI:gU (1+n / 6 % 10 ^ (6:Int).toNat):=Eh (k:=20) (aaX Qt.1) (Int.lt_of_le_of_lt Qt.2 (by decide)) (by decide);have X5:gU ((10:Int) ^ (22:Int).toNat):=bg (k:=110) (by decide);have WR:gU ((10:Int) ^ (30:Int).toNat):=bg (k:=110) (by decide);have b7:gU ((10:Int) ^ (7:Int).toNat):=bg (k:=110) (by decide);have m0:(0:Int) < 2 * 10 ^ (30:Int).toNat - 2 * 10 ^ (7:Int).toNat+1:=by decide
   have PH:=aaT (n * 10 ^ (22:Int).toNat) (show (2 * 10 ^ (30:Int).toNat - 2 * 10 ^ (7:Int).toNat+1:Int)≠0 by decide);have YC:=aaV (n * 10 ^ (22:Int).toNat) m0;have b2:gU 2:=bg (k:=4) (by decide);refine ⟨W9,⟨DN hn,X5⟩,UH,⟨b2,WR⟩,p7,⟨b2,b7⟩,m0,UH,p7,⟨by decide,bg (k:=5) (by decide)⟩,p6,(by show (0:Int) < 1000000;decide),_,_,rfl,Qt.1,WI,h _ (Bp ?_ Qt.1 Qt.2)⟩;have e:(2 * 10 ^ (30:Int).toNat - 2 * 10 ^ (7:Int).toNat+1:Int)=2 * 10 ^ 30 - 2 * 10 ^ 7+1:=rfl;rw [e] at PH YC;show (n * 10 ^ (22:Int).toNat % (2 * 10 ^ 30 - 2 * 10 ^ 7+1) - (10 ^ 30 - 10 ^ 7)).natAbs<=_;omega
  ·refine ⟨by decide,by decide,by decide,by decide,⟨by decide,bg (k:=5) (by decide)⟩,by decide, ?_⟩;obtain ⟨p,ep,hp⟩:∃p:Fr,i9 [Χ (0,1),Χ (1,1),Χ (-1,2)] (n / 6 % 3)=some (Χ p)/\ml p:=by
    have:n / 6 % 3=0\/n / 6 % 3=1\/n / 6 % 3=2:=by omega
    rcases this with e | e | e <;> rw [e]
    ·exact ⟨_,Φ,by decide,by decide,by decide⟩
    ·exact ⟨_,Ν (j:=1) rfl,by decide,by decide,by decide⟩
    ·exact ⟨_,Ν (j:=2) rfl,by decide,by decide,by decide⟩
   exact υ (d:= .lst [Χ (0,1),Χ (1,1),Χ (-1,2)]) rfl ep (h p hp)
abbrev l_:=Int×Fr×Int
def bP(x:l_):Dt:= .tup [.int x.1,Χ x.2.1, .int x.2.2]
inductive Br
 | fin (p:Fr)
 | oO (k:Str) (xs:List l_)
def gI:Br->Dt
 | .fin p=> .tup [.str "end",Χ p]
 | .oO k xs=> .tup [.str k, .lst (xs.map bP)]
def T'(k:Str):Prop:=b9 k=true\/k="chance"
def J2(bp:Int)(x:l_):Prop:=(0<=x.1/\x.1 < bp)/\ml x.2.1/\1<=x.2.2/\x.2.2<=100000
def yM(bp:Int):Br->Prop
 | .fin p=>ml p
 | .oO k xs=>T' k/\1<=xs.length/\xs.length<=6/\∀x∈xs,J2 bp x
structure qx(bs:List Br):Prop where
 n1:1<=bs.length
 zw:bs.length<=12
 each:∀b∈bs,yM bs.length b
theorem t_{n:Nat}:∀(xs:List l_),Dt.bz n (xs.map bP)
 | []=>trivial
 | _::xs=>⟨⟨trivial,⟨trivial,trivial,trivial⟩,trivial,trivial⟩,t_ xs⟩
theorem yW{n:Nat}:∀(xs:List Br),Dt.bz n (xs.map gI)
 | []=>trivial
 | .fin _::xs=>⟨⟨trivial,⟨trivial,trivial,trivial⟩,trivial⟩,yW xs⟩
 | .oO _ ys::xs=>⟨⟨trivial,t_ ys,trivial⟩,yW xs⟩
theorem D_:ml (0,1):=⟨by decide,by decide,by decide⟩
theorem AX(lo:Int)(n:Nat):bL lo n=(List.range n).map λi:Nat=>Dt.int (lo+i):=rfl
def Gk:DF:=λas M q _=>∃n:Int,as=[.int n]/\Nm n/\∀bs,qx bs->q (.lst (bs.map gI)) M
theorem cu:Δ ["_law_number_here","_law_kind","_law_rows"] ["_law_number_here"] (χ d8):= .of rfl
theorem lZ(F:eD K "_law_row_of_places" "_law_row_of_places" d8 f fd)(E:Ev K mg Cm){uE:Addr}{uj:FuncData}(eS:aR P w K mg base 2 "_law_pay" ["_law_number_here"] ye uE uj):aC P w K mg base (dh P w) 4 f fd ["_law_number_here"] (eh K Gk):=by
 refine F.gH cu (λds M q x h=> ?_) (λb8 A outer s H E' hr=>⟨_,(η (Β 1 cu.nd (Κ (oY 3 (d:= .lst [.str "one", .str "chance", .str "other"]) (by rfl)) (bf (jv 0) ν)))
   (η (yq (i:=2) cu.nd rfl (Or.inl rfl) (ys:=["_law_kind"]) (Λ:=[1]) (.of cu rfl rfl rfl) (bN E.aQ (ζ (aK ν (bf (dj (jv 0) ν) ν)) ε bJ)) (λC s H fp=>(aD (ar (jv 1) (ζ (nD (ζ (aD (ζ (aK (jv 0) ν) (ζ (aD (ζ ν (ζ ν ε bb) bb)) (ζ ν ε bb) iM) bJ)) ε iM)) ε)))))
   (μ (Γ (aK (jv 2) (nD (ζ (aD (ζ fX (ζ (au eS hr ο (ζ (dj (jv 0) ν) ε bJ)) ε bc) bb)) ε iM))))))),λds M q x h=> ?_⟩)
 ·obtain ⟨n,rfl,_⟩:=h;rfl
 ·obtain ⟨n,rfl,hn,h⟩:=h;refine ⟨by decide, ?_⟩;obtain ⟨kd,ek,Rm⟩:∃kd:Str,i9 [Dt.str "one",Dt.str "chance",Dt.str "other"] (n % 3)=some (.str kd)/\T' kd:=by
   have:n % 3=0\/n % 3=1\/n % 3=2:=by omega
   rcases this with e | e | e <;> rw [e]
   ·exact ⟨_,Φ, .inl (by decide)⟩
   ·exact ⟨_,Ν (j:=1) rfl, .inr rfl⟩
   ·exact ⟨_,Ν (j:=2) rfl, .inl (by decide)⟩
  refine (υ (d:= .lst [Dt.str "one",Dt.str "chance",Dt.str "other"]) rfl ek ?_:cq (.lst [Dt.str "one",Dt.str "chance",Dt.str "other"]) (.int (n % 3)) M _);obtain ⟨m,hm,m1,m11⟩:∃m:Nat,1+n / 3 % 11=(m:Int)/\1<=m/\m<=11:=⟨(1+n / 3 % 11).toNat,by omega,by omega,by omega⟩;refine ⟨⟨by decide,bg (k:=5) (by decide)⟩,by decide, ?_⟩;dsimp only [wc];rw [hm];refine ⟨⟨by omega,by omega⟩,by rw [eW];exact aax (show _<=11 by omega) (by decide), ?_⟩;refine my (f:=λx=>match x with | .int j=>gI (.oO kd [(j+1,(0,1),1)]) | _=> .bV) _ _ (λx A_ q' hq=> ?_) ?_
  ·obtain ⟨k,hk,rfl⟩:=lM A_;exact ⟨kQ,OX,N',kQ,hq⟩
  ·have e:[]++(bL 0 ((m:Int)).toNat).map (λx=>match x with | .int j=>gI (.oO kd [(j+1,(0,1),1)]) | _=> .bV)=((List.range m).map λi:Nat=>Br.oO kd [((i:Int)+1,(0,1),1)]).map gI:=by rw [aaR,aa6,AX,aas,aas];exact aaS λi _=>by show gI (.oO kd [(0+(i:Int)+1,(0,1),1)])=_;rw [abK];rfl
   rw [e];refine ⟨⟨by decide,bg (k:=10) (by decide)⟩,_,rfl,qm hn (by decide),λp hp=>⟨kQ,N', ?_⟩⟩;refine ⟨by simp;exact Nat.le_trans (show m+1<=12 by omega) (by decide), ?_⟩;have e2:((List.range m).map λi:Nat=>Br.oO kd [((i:Int)+1,(0,1),1)]).map gI++[Dt.tup [.str "end",Χ p]]=(((List.range m).map λi:Nat=>Br.oO kd [((i:Int)+1,(0,1),1)])++[Br.fin p]).map gI:=by rw [aao];rfl
   rw [e2];have hl:(((List.range m).map λi:Nat=>Br.oO kd [((i:Int)+1,(0,1),1)])++[Br.fin p]).length=m+1:=by simp
   refine h _ ⟨by omega,by omega,λb hb=> ?_⟩;rw [hl];rcases aaL.mp hb with hb | hb
   ·obtain ⟨i,hi,rfl⟩:=aaf.mp hb;have hi:=aaP.mp hi;refine ⟨Rm,aal 1,(by decide:1<=6),λx hx=> ?_⟩;have:x=((i:Int)+1,(0,1),1):=by simpa using hx
    subst this;exact ⟨⟨by show 0<=(i:Int)+1;omega,by show (i:Int)+1 < ((m+1:Nat):Int);omega⟩,D_,(by decide:(1:Int)<=1),(by decide:(1:Int)<=100000)⟩
   ·have:b= .fin p:=by simpa using hb
    subst this;exact hp
def uP(M:Ms)(lo:Nat)(d:Dt):Br->Prop
 | .fin p=>d=gI (.fin p)
 | .oO k xs=>∃a,lo < a/\d= .tup [.str k, .loc a]/\M[a]? =some (.lst (xs.map bP))
theorem uP.keep{M1:Ms}{lo:Nat}{b:Br}(h:uP M lo d b)(k:∀a o,lo < a->M[a]? =some o->M1[a]? =some o):uP M1 lo d b:=by
 cases b with
 | fin p=>exact h
 | oO kd xs=>
  obtain ⟨a,h1,h2,h3⟩:=h;exact ⟨a,h1,h2,k a _ h1 h3⟩
theorem CW{M1:Ms}{lo:Nat}{bs:List Br}(h:Paired (λd b=>uP M lo d b) ds bs)(k:∀a o,lo < a->M[a]? =some o->M1[a]? =some o):Paired (λd b=>uP M1 lo d b) ds bs:=by
 induction h with
 | nil=>exact .nil
 | cons h t ih=>exact .cons (h.keep k) ih
theorem Fu{α β:Type}{R:α->β->Prop}{xs:List α}{ys:List β}{x:α}{y:β}(h:Paired R xs ys)(r:R x y):Paired R (xs++[x]) (ys++[y]):=by
 induction h with
 | nil=>exact .cons r .nil
 | cons h t ih=>exact .cons h ih
theorem IH{E:Ms}{bs:List Br}(h:Paired (λd b=>uP (M++E) M.length d b) ds bs):gA M.length E ds (bs.map gI):=by
 induction h with
 | nil=>exact .nil
 | @cons d b ds bs h t ih=>
  refine .cons ?_ ih;cases b with
  | fin p=>
   have h:d=gI (.fin p):=h;rw [h];exact .old ⟨trivial,⟨trivial,trivial,trivial⟩,trivial⟩
  | oO k xs=>
   obtain ⟨a,h1,rfl,h3⟩:=h;rw [aaC (by omega)] at h3;exact .tup (.cons (.old trivial) (.cons (.A8 (by omega) h3 (.old (t_ xs))) .nil))
theorem Kc{n:Int}:∃kd:Str,i9 [Dt.str "one",Dt.str "chance",Dt.str "other",Dt.str "end",Dt.str "chance"] (n % 5)=some (.str kd)/\(T' kd\/kd="end"):=by
 have:n % 5=0\/n % 5=1\/n % 5=2\/n % 5=3\/n % 5=4:=by omega
 rcases this with e | e | e | e | e <;> rw [e]
 ·exact ⟨_,Φ, .inl (.inl (by decide))⟩
 ·exact ⟨_,Ν (j:=1) rfl, .inl (.inr rfl)⟩
 ·exact ⟨_,Ν (j:=2) rfl, .inl (.inl (by decide))⟩
 ·exact ⟨_,Ν (j:=3) rfl, .inr rfl⟩
 ·exact ⟨_,Ν (j:=4) rfl, .inl (.inr rfl)⟩
def JG:DF:=λas M q _=>∃ns:List Int,as=[.dM ns]/\∀bs E d,qx bs->B3 M.length E d (.lst (bs.map gI))->q d (M++E)
theorem aN:Δ ["_law_script","_law_many","_law_rows","_law_place","_law_first_here","_law_kind","_law_most","_law_doors","_law_k","_law_at","_law_number_here","_law_pay_here"] ["_law_script"] (χ pd):= .of rfl
theorem yf(F:eD K "_law_base" "_law_base" pd f fd)(E:Ev K mg Cm)(Μ:aR P w K mg base 2 "_law_number" ["_law_script","_law_k"] xE bT b6){oj:Addr}{oh:FuncData}(dw:aR P w K mg base 4 "_law_row_of_places" ["_law_number_here"] Gk oj oh){uE:Addr}{uj:FuncData}(eS:aR P w K mg base 2 "_law_pay" ["_law_number_here"] ye uE uj){E7:Addr}{Eb:FuncData}(m_:aR P w K mg base 3 "_law_rest" ["_law_script","_law_k"] xE E7 Eb):aC P w K mg base (dh P w) 6 f fd ["_law_script"] (eh K JG):=by
 refine F.gH aN (λds M q x h=> ?_) (λb8 A outer s H E' hr=>⟨_,(η (aE (da hr (bf (au Μ hr ο (ar (jv 0) (ζ ν ε bb))) ν) ν) (μ (Γ (au dw hr ο (ζ (dj (au Μ hr ο (ar (jv 0) (ζ ν ε bb))) ν) ε bJ)))) Ξ)
   (η (Β 1 aN.nd (aK ν (bf (au Μ hr ο (ar (jv 0) (ζ ν ε bb))) ν)))
   (η (Β 2 aN.nd (m8 ε))
   (η (ku (bN E.aQ (ar (jv 1) ε)) (aw (i:=3) aN.nd rfl (Or.inl rfl)) aO (η (Β 4 aN.nd (au Μ hr ο (ar (jv 0) (ζ (aK ν (bF ν (jv 3))) ε bJ))))
   (η (Β 5 aN.nd (Κ (oY 3 (d:= .lst [.str "one", .str "chance", .str "other", .str "end", .str "chance"]) (by rfl)) (bf (jv 4) ν)))
   (η (Β 6 aN.nd (Κ (nD (ζ ν (ζ (gD ν ν) ε bJ) bb)) (dj (bf (dj (jv 4) ν) ν) ν)))
   (η (Β 7 aN.nd (m8 ε))
   (η (ku (bN E.aQ (ζ (aK ν (bf (dj (jv 4) ν) ν)) ε bJ)) (aw (i:=8) aN.nd rfl (Or.inl rfl)) aO (η (iX (Β 9 aN.nd (J0 (tI (jv 8) ν) (aK (aK ν (bF ν (jv 3))) (jv 8)) (aK (aK ν (bF ν (jv 3))) (jv 8)))))
   (η (Β 10 aN.nd (au Μ hr ο (ar (jv 0) (ar (jv 9) ε))))
   (η (Β 11 aN.nd (au eS hr ο (ζ (au m_ hr ο (ar (jv 0) (ar (jv 9) ε))) ε bc)))
   (η (iX (aE (da hr (bf (au Μ hr ο (ar (jv 0) (ζ ν ε bb))) ν) ν) (μ (Β 11 aN.nd (aD (ζ ν (ζ ν ε bb) bb)))) Ξ))
   (μ (kZ (iW (jv 7) (ζ (aD (ζ (bf (jv 10) (jv 1)) (ar (jv 11) (ζ (aK ν (bf (dj (jv 10) ν) (jv 6))) ε bJ)) bJ)) ε iM)))))))))
   (η (iX (aE (da hr (jv 5) fX) (μ (Β 7 aN.nd (au eS hr ο (ζ (dj (jv 4) ν) ε bJ)))) Ξ))
   (μ (kZ (iW (jv 2) (ζ (aD (ar (jv 5) (ar (jv 7) ε))) ε iM)))))))))))
   (μ (Γ (jv 2))))))),λds M q x h=> ?_⟩)
 ·obtain ⟨ns,rfl,_⟩:=h;rfl
 ·obtain ⟨ns,rfl,h⟩:=h;refine ⟨ns,46,rfl,by decide,by decide,λn0 Wj=>⟨by decide,λ_=> ?_,λ_=> ?_⟩⟩
  ·refine ⟨ns,46,rfl,by decide,by decide,λn1 Vo=>⟨⟨by decide,bg (k:=5) (by decide)⟩,_,rfl,qm Vo (by decide),λbs hb=> ?_⟩⟩;have:=h bs [] _ hb (.old (yW bs));rwa [aaW] at this
  refine ⟨ns,0,rfl,by decide,by decide,λn1 Vo=>⟨by decide, ?_⟩⟩;obtain ⟨sz,hz,z1,z4⟩:∃sz:Nat,1+n1 % 4=(sz:Int)/\1<=sz/\sz<=4:=⟨(1+n1 % 4).toNat,by omega,by omega,by omega⟩;dsimp only [wc];rw [hz];refine ⟨by decide,⟨by omega,by omega⟩, ?_⟩;refine d7 (λzs ρ M2=>∃(n k:Nat) (bs:List Br) (ds:List Dt) (E:Ms) (o3 o4 o5 o6 o7 o8 o9 zX vj:Option Dt),zs=bL k n/\k+n=sz/\bs.length=k/\(∀b∈bs,yM sz b)/\Paired (λd b=>uP (M++(.lst ds::E)) M.length d b) ds bs/\M2=M++(.lst ds::E)/\ρ=[some (.dM ns),some (.int sz),some (.loc M.length),o3,o4,o5,o6,o7,o8,o9,zX,vj]) (λx zs ρ M2 hj wJ=> ?_) (λρ M2 hj=> ?_) _ _ _ ⟨sz,0,[],[],[],none,none,none,none,none,none,none,none,none,by simp,by simp,rfl,λ_ z=>(nomatch z), .nil,rfl,rfl⟩
  ·obtain ⟨n,k,bs,ds,E,o3,o4,o5,o6,o7,o8,o9,zX,vj,ex,Lu,hl,hd,pr,rfl,rfl⟩:=hj;obtain ⟨m,rfl,rfl,rfl⟩:=eI ex;have k4:(k:Int) < 4:=by omega
   have ZP:∀F:Ms,(M++(MO.lst ds::E)++F)[M.length]? =some (.lst ds):=λF=>bO (by simp);have lt:ds.length < sizeLine:=by rw [show ds.length=bs.length from pr.length,hl];exact aaN (show k<=4 by omega) (by decide)
   have Z0:∀(F:Ms) (d:Dt) (b:Br) (a3 a4 a5 a6 a7 a8 a9 Kz Ot:Option Dt),yM sz b->uP (M++(.lst ds::E)++F) M.length d b->lF (gN 3) _ _ (bL ((k:Int)+1) m) [some (.dM ns),some (.int sz),some (.loc M.length),a3,a4,a5,a6,a7,a8,a9,Kz,Ot] ((M++(.lst ds::E)++F).set M.length (.lst (ds++[d]))):=λF d b a3 a4 a5 a6 a7 a8 a9 Kz Ot hb ha=>by
    have e:(M++(MO.lst ds::E)++F).set M.length (.lst (ds++[d]))=M++(.lst (ds++[d])::(E++F)):=by rw [abj,aaZ _ _ (aal _),aa9];rfl
    have kp:∀a o,M.length < a->(M++(MO.lst ds::E)++F)[a]? =some o->(M++(MO.lst (ds++[d])::(E++F)))[a]? =some o:=λa o Bl hy=>by rw [<-e,aa4 (by omega)];exact hy
    rw [e];refine wJ _ _ ⟨m,k+1,bs++[b],ds++[d],E++F,a3,a4,a5,a6,a7,a8,a9,Kz,Ot,by simp,by omega,by simp [hl],λb' HU=> ?_,Fu (CW pr λa o Bl hy=>kp a o Bl (bO hy)) (ha.keep kp),rfl,rfl⟩;rcases aaL.mp HU with HU | HU
    ·exact hd b' HU
    ·have:b'=b:=by simpa using HU
     rw [this];exact hb
   refine ⟨⟨bg (k:=4) (by decide),bg (k:=4) (by omega)⟩,ns,_,rfl,by omega,by omega,λf hf=>⟨by decide, ?_⟩⟩;obtain ⟨kd,ek,Rm⟩:=Kc (n:=f);refine υ rfl ek ?_;refine ⟨p5,kQ,⟨by decide,bg (k:=6) (by decide)⟩,by decide,⟨by decide,bg (k:=4) (by decide)⟩, ?_⟩;obtain ⟨most,em,m0,m1⟩:∃most:Int,i9 [Dt.int 5,Dt.int (10 ^ (5:Int).toNat)] (f / 30 % 4 / 3)=some (.int most)/\0 < most/\most<=100000:=by
    have:f / 30 % 4 / 3=0\/f / 30 % 4 / 3=1:=by omega
    rcases this with e | e <;> rw [e]
    ·exact ⟨5,Φ,by decide,by decide⟩
    ·exact ⟨_,Ν (j:=1) rfl,by decide,by decide⟩
   refine υ (d:= .lst [Dt.int 5,Dt.int (10 ^ (5:Int).toNat)]) rfl em ?_;refine ⟨by decide,⟨by decide,bg (k:=4) (by decide)⟩,by decide, ?_⟩;obtain ⟨mn,XB,mn1,Z5⟩:∃mn:Nat,1+f / 5 % 6=(mn:Int)/\1<=mn/\mn<=6:=⟨(1+f / 5 % 6).toNat,by omega,by omega,by omega⟩;dsimp only [wc];rw [XB];refine ⟨⟨by omega,by omega⟩, ?_⟩;refine d7 (λzs ρ M3=>∃(n' k':Nat) (xs:List l_) (o8 o9 zX vj:Option Dt),zs=bL k' n'/\k'+n'=mn/\xs.length=k'/\(∀x∈xs,J2 sz x)/\M3=M++(.lst ds::E)++[.lst (xs.map bP)]/\ρ=[some (.dM ns),some (.int sz),some (.loc M.length),some (.int (k:Int)),some (.int f),some (.str kd),some (.int most),some (.loc (M++(MO.lst ds::E)).length),o8,o9,zX,vj]) (λx zs ρ M3 hj Rx=> ?_) (λρ M3 hj=> ?_) _ _ _ ⟨mn,0,[],_,_,_,_,by simp,by simp,rfl,λ_ z=>(nomatch z),rfl,rfl⟩
   ·obtain ⟨n',k',xs,o8,o9,zX,vj,Iw,Sb,J3,hx,rfl,rfl⟩:=hj;obtain ⟨m',rfl,rfl,rfl⟩:=eI Iw;have k6:(k':Int) < 6:=by omega
    refine ⟨λρ M3=>M3=M++(.lst ds::E)++[.lst (xs.map bP)]/\∃at':Int,0<=at'/\at'<=200/\ρ=[some (.dM ns),some (.int sz),some (.loc M.length),some (.int (k:Int)),some (.int f),some (.str kd),some (.int most),some (.loc (M++(MO.lst ds::E)).length),some (.int (k':Int)),some (.int at'),zX,vj],⟨λ_=>⟨⟨bg (k:=4) (by decide),bg (k:=4) (by omega)⟩,rfl,_, ?_, ?_,rfl⟩,λ_=>⟨⟨bg (k:=4) (by decide),bg (k:=4) (by omega)⟩,rfl,_, ?_, ?_,rfl⟩⟩, ?_⟩
    ·omega
    ·omega
    ·omega
    ·omega
    rintro ρ3 M3 ⟨rfl,at',a0,a1,rfl⟩;refine ⟨ns,at',rfl,a0,a1,λn2 NJ=>⟨ns,at',rfl,a0,a1,λn3 Xl=>⟨_,rfl,Xl,λp hp=> ?_⟩⟩⟩;refine ⟨λρ M3=>M3=M++(.lst ds::E)++[.lst (xs.map bP)]/\∃p:Fr,ml p/\ρ=[some (.dM ns),some (.int sz),some (.loc M.length),some (.int (k:Int)),some (.int f),some (.str kd),some (.int most),some (.loc (M++(MO.lst ds::E)).length),some (.int (k':Int)),some (.int at'),some (.int n2),some (Χ p)],⟨ns,45,rfl,by decide,by decide,λn4 hn4=>⟨by decide,λ_=>⟨kQ,rfl,(0,1),D_,rfl⟩,λ_=>⟨rfl,p,hp,rfl⟩⟩⟩, ?_⟩;rintro ρ4 M4 ⟨rfl,p,hp,rfl⟩;have Ip:(M++(MO.lst ds::E)++[MO.lst (xs.map bP)])[(M++(MO.lst ds::E)).length]? =some (.lst (xs.map bP)):=aF;refine ⟨⟨_,_,rfl,Ip⟩,by omega,⟨by decide,bg (k:=4) (by decide)⟩,m0,OX,_,_,_,rfl,rfl,Ip,by rw [aac,J3];exact aaN (show k'<=6 by omega) (by decide), ?_⟩;refine Rx _ _ ⟨m',k'+1,xs++[(n2 % (sz:Int),p,1+n2 / 4 % most)],_,_,_,_,by simp,by omega,by simp [J3],λy hy=> ?_, ?_,rfl⟩
    ·rcases aaL.mp hy with hy | hy
     ·exact hx y hy
     ·have:y=(n2 % (sz:Int),p,1+n2 / 4 % most):=by simpa using hy
      subst this;have e0:=aaT (n2 / 4) (show most≠0 by omega);have e1:=aaV (n2 / 4) m0;exact ⟨⟨aaT _ (by omega),aaV _ (by omega)⟩,hp,by show 1<=1+n2 / 4 % most;omega,by show 1+n2 / 4 % most<=100000;omega⟩
    ·rw [aaZ _ _ (aal _),aa9,aao];rfl
   ·obtain ⟨n',k',xs,o8,o9,zX,vj,Iw,Sb,J3,hx,rfl,rfl⟩:=hj;have LV:n'=0:=by have:=aa2 List.length Iw;unfold bL at this;simpa using this.symm
    have a2:=ZP [.lst (xs.map bP)];refine ⟨λρ M3=>M3=M++(.lst ds::E)++[.lst (xs.map bP)]/\∃(b:Br) (dv:Dt),yM sz b/\uP (M++(.lst ds::E)++[.lst (xs.map bP)]) M.length (.tup [.str kd,dv]) b/\ρ=[some (.dM ns),some (.int sz),some (.loc M.length),some (.int (k:Int)),some (.int f),some (.str kd),some (.int most),some dv,o8,o9,zX,vj],⟨λhb=>⟨⟨by decide,bg (k:=4) (by decide)⟩,_,rfl,qm hf (by decide),λp hp=> ?_⟩,λhb=> ?_⟩, ?_⟩
    ·have hb:kd="end":=aaq hb;subst hb;exact ⟨rfl, .fin p,Χ p,hp,rfl,rfl⟩
    ·have hb:kd≠"end":=abH hb;refine ⟨rfl, .oO kd xs, .loc (M++(MO.lst ds::E)).length,⟨Rm.resolve_right hb,by omega,by omega,hx⟩,⟨_, ?_,rfl,aF⟩,rfl⟩;rw [aai,aaO];omega
    ·rintro ρ3 M3 ⟨rfl,b,dv,hb,ha,rfl⟩;exact ⟨⟨_,_,rfl,a2⟩,kQ,_,_,_,rfl,rfl,a2,lt,Z0 _ _ b _ _ _ _ _ _ _ _ _ hb ha⟩
  ·obtain ⟨n,k,bs,ds,E,o3,o4,o5,o6,o7,o8,o9,zX,vj,ex,Lu,hl,hd,pr,rfl,rfl⟩:=hj;have hn:n=0:=by have:=aa2 List.length ex;unfold bL at this;simpa using this.symm
   have e:bs.length=sz:=by omega
   exact h bs _ _ ⟨by omega,by omega,by rw [e];exact hd⟩ (.A8 (aal _) (by rw [aa9];rfl) (IH pr))
structure Et(bp:Int)(os:List Int):Prop where
 n1:1<=os.length
 zw:os.length<=12
 Jc:∀o∈os,0<=o/\o < bp
 all:∀t,0<=t->t < bp->t∈os
theorem xK:t∈bI n↔0<=t/\t < n:=by
 unfold bI;rw [aaf];constructor
 ·rintro ⟨i,hi,rfl⟩;have:=aaP.mp hi;omega
 ·intro h;exact ⟨t.toNat,aaP.mpr (by omega),by omega⟩
theorem xJ:(bI n).length=n:=by unfold bI;rw [List.length_map,List.length_range]
theorem pb{α:Type}{xs:List α}{x:α}:x∈xs.drop k++xs.take k↔x∈xs:=by
 conv=>rhs;rw [<-abJ k xs]
 rw [aaL,aaL,or_comm]
theorem z0{l:Nat}(h1:a.natAbs < 2 ^ k)(h2:b.natAbs < 2 ^ l):(a * b).natAbs < 2 ^ (k+l):=by rw [abQ];exact gZ h1 h2
def A4:DF:=λas M q _=>∃(ns:List Int) (bp:Nat),as=[.dM ns, .int (bp:Nat)]/\1<=bp/\bp<=12/\∀os,Et bp os->q (.lst (os.map Dt.int)) M
theorem dZ:Δ ["_law_script","_law_many","_law_size","_law_found","_law_at"] ["_law_script","_law_many"] (χ kl):= .of rfl
theorem ua(F:eD K "_law_origin" "_law_origin" kl f fd)(E:Ev K mg Cm)(Μ:aR P w K mg base 2 "_law_number" ["_law_script","_law_k"] xE bT b6):aC P w K mg base (dh P w) 4 f fd ["_law_script","_law_many"] (eh K A4):=by
 refine F.gH dZ (λds M q x h=> ?_) (λb8 A outer s H E' hr=>⟨_,(η (Β 2 dZ.nd (aK (jv 1) (bf (au Μ hr ο (ar (jv 0) (ζ ν ε bb))) (p9 ν (jv 1)))))
   (η (Β 3 dZ.nd (aK (dR (oS E.gX E.aQ (ar (jv 1) ε))) (tY (ys:=["_law_many","_law_script"]) (Λ:=[1,0]) (.of dZ rfl rfl rfl) (bN E.aQ (ζ (p9 (jv 2) (jv 1)) ε bJ)) (λC s H fp=>(bf (au Μ hr (dF (P:=P) (w:=w)) (ar (jv 2) (ζ (aK ν (jv 0)) ε bJ))) (jv 1))))))
   (η (Β 4 dZ.nd (bf (au Μ hr ο (ar (jv 0) (ζ ν ε bb))) (jv 2)))
   (μ (Γ (aK (dR (sE (jv 3) (jv 4))) (dR (zW (jv 3) (jv 4))))))))),λds M q x h=> ?_⟩)
 ·obtain ⟨ns,bp,rfl,_⟩:=h;rfl
 ·obtain ⟨ns,bp,rfl,h1,Vq,h⟩:=h;have m0:(0:Int) < 13 - bp:=by omega
  refine ⟨ns,1,rfl,by decide,by decide,λn0 Wj=>⟨m0, ?_⟩⟩;have e0:=aaT n0 (show (13:Int) - bp≠0 by omega);have e1:=aaV n0 m0;obtain ⟨ex,hx,x1⟩:∃ex:Nat,n0 % (13 - bp)=(ex:Int)/\bp+ex<=12:=⟨(n0 % (13 - bp)).toNat,by omega,by omega⟩;dsimp only [wc];rw [hx];refine ⟨bp,rfl,by omega,iO (oP _) ?_⟩;refine ⟨⟨by omega,by omega⟩, ?_⟩;have es:(bp:Int)+(ex:Int) - bp=(ex:Int):=by omega
  dsimp only [IE];rw [es];refine ⟨by rw [eW];exact aax (show _<=12 by omega) (by decide), ?_⟩;refine qI (f:=Dt.int) (λo:Int=>0<=o/\o < bp) _ [] (λ_ z=>(nomatch z)) (λx A_ q' hq=> ?_) λxs QW Zw=> ?_
  ·obtain ⟨k,hk,rfl⟩:=lM A_;have hk:k < ex:=by simpa using hk
   exact ⟨ns,_,rfl,by omega,by omega,λn hn=>⟨by omega,hq _ ⟨aaT _ (by omega),aaV _ (by omega)⟩⟩⟩
  have QW:xs.length=ex:=by rw [QW,eW];simp
  refine ⟨by rw [aac,aac,xJ,QW];exact aax x1 (by decide), ?_⟩;rw [<-aao];have hl:(bI bp++xs).length=bp+ex:=by rw [aai,xJ,QW]
  have Yc:∀o∈bI bp++xs,0<=o/\o < (bp:Int):=λo ho=>by
   rcases aaL.mp ho with ho | ho
   ·exact xK.mp ho
   ·exact Zw o ho
  have OQ:∀t:Int,0<=t->t < bp->t∈bI bp++xs:=λt h0 h1=>aaH _ (xK.mpr ⟨h0,h1⟩);generalize bI bp++xs=fs at *
  refine ⟨ns,2,rfl,by decide,by decide,λn2 NJ=>⟨by omega, ?_⟩⟩;have g0:=aaT n2 (show ((bp:Int)+ex)≠0 by omega);obtain ⟨k,ek⟩:∃k:Nat,n2 % ((bp:Int)+ex)=(k:Int):=⟨(n2 % ((bp:Int)+ex)).toNat,by omega⟩;rw [ek];refine ⟨fs.map Dt.int,k,rfl,rfl, ?_⟩;rw [<-List.map_drop];refine iO (oP _) ?_;refine ⟨fs.map Dt.int,k,rfl,rfl, ?_⟩;rw [<-List.map_take];refine iO (oP _) ?_;have La:(fs.drop k++fs.take k).length=fs.length:=by rw [aai,abR,abF];omega
  refine ⟨by rw [aac,aac,<-aai,La,hl];exact aax x1 (by decide), ?_⟩;rw [<-aao];exact h _ ⟨by rw [La];omega,by rw [La];omega,λo ho=>Yc o (pb.mp ho),λt h0 h1=>pb.mpr (OQ t h0 h1)⟩
def Ge:DF:=λas M q _=>∃(ns:List Int) (pl k:Nat),as=[.dM ns, .int (pl:Nat), .int (k:Nat)]/\pl<=12/\k<=7/\∀r:Int,0<=r->r < 10 ^ 8->q (.int r) M
theorem g_:Δ ["_law_script","_law_place","_law_k","_law_number_here","_law_turn"] ["_law_script","_law_place","_law_k"] (χ mY):= .of rfl
theorem xX(F:eD K "_law_piece" "_law_piece" mY f fd)(E:Ev K mg Cm)(Μ:aR P w K mg base 2 "_law_number" ["_law_script","_law_k"] xE bT b6)(c_:aR P w K mg base 1 "_law_far" ["_law_script","_law_k"] HE kT lx):aC P w K mg base (dh P w) 4 f fd ["_law_script","_law_place","_law_k"] (eh K Ge):=by
 refine F.gH g_ (λds M q x h=> ?_) (λb8 A outer s H E' hr=>⟨_,(η (Β 3 g_.nd (au Μ hr ο (ar (jv 0) (ζ (aK ν (jv 1)) ε bJ))))
   (η (aE (jZ (au c_ hr ο (ar (jv 0) (ζ (aK ν (jv 1)) ε bJ)))) (η (ku (bN E.aQ (ar (jv 2) ε)) (aw (i:=4) g_.nd rfl (Or.inl rfl)) aO (μ (Β 3 g_.nd (dj (jv 3) (gD ν ν)))))
   (μ (Γ (bf (jv 3) (gD ν ν))))) Ξ)
   (μ (Γ (bf (bF (bF (bF (jv 3) (aK (jv 2) ν)) (aK (jv 2) ν)) ν) ν))))),λds M q x h=> ?_⟩)
 ·obtain ⟨ns,pl,k,rfl,_⟩:=h;rfl
 ·obtain ⟨ns,pl,k,rfl,hp,hk,h⟩:=h;refine ⟨ns,_,rfl,by omega,by omega,λn hn=>⟨ns,_,rfl,by omega,λhb=> ?_,λhb=> ?_⟩⟩
  ·refine ⟨⟨by omega,by omega⟩, ?_⟩;refine d7 (λzs ρ M2=>∃(n:Int) (o:Option Dt),Nm n/\M2=M/\ρ=[some (.dM ns),some (.int (pl:Nat)),some (.int (k:Nat)),some (.int n),o]) (λx zs ρ M2 hj wJ=> ?_) (λρ M2 hj=> ?_) _ _ _ ⟨n,none,hn,rfl,rfl⟩
   ·obtain ⟨n,o,hn,rfl,rfl⟩:=hj;exact ⟨p8,⟨by decide,bg (k:=40) (by decide)⟩,wJ _ _ ⟨_,_,qm hn (by decide),rfl,rfl⟩⟩
   ·obtain ⟨n,o,hn,rfl,rfl⟩:=hj;exact ⟨p8,by decide,h _ (aaT _ (by decide)) (aaV _ (by decide))⟩
  ·have b0:n.natAbs < 2 ^ 430:=by
    have:=hn.2;have t:(10:Int) ^ 128 < 2 ^ 430:=by decide
    have:=hn.1;omega
   have b1:((k:Int)+2).natAbs < 2 ^ 5:=by omega
   have b2:((k:Int)+5).natAbs < 2 ^ 5:=by omega
   have c1:=z0 b0 b1;have c2:=z0 c1 b2;exact ⟨⟨bg b0,bg b1⟩,⟨bg c1,bg b2⟩,⟨bg c2,bg (k:=20) (by decide)⟩,by decide,h _ (aaT _ (by decide)) (Int.lt_of_lt_of_le (aaV _ (by decide)) (by decide))⟩
theorem wO(h:0 < b):ae (2 * a) (2 * b)=ae a b:=by
 have q0:=aU (t:=a) (show b≠0 by omega);have q1:=lW (t:=a) (show b≠0 by omega);have q2:=bH (t:=a) (show b≠0 by omega);generalize ae a b=f at *
 obtain ⟨p,q⟩:=f;exact oK (by omega) q0 q1 (by rw [abL,abL];exact aa2 (2 * ·) q2)
def TL:Rw->Prop
 | .fin p=>ml p
 | .ι _ ds=>∀d∈ds,ml d.2.1
structure KH(size:Int)(r:Rw):Prop where
 fit:zc size r
 pay:TL r
abbrev fG(ys:List l_):List Int:=ys.map λy=>y.2.2
def kO(S:Int)(y:l_):cb:=(y.1,y.2.1,[ae y.2.2 S])
def wI(y:l_):cb:=(y.1,y.2.1,[])
structure Se(size:Int)(y:l_):Prop where
 to:0<=y.1/\y.1 < size
 pay:ml y.2.1
 pos:0 < y.2.2
structure gG(size S:Int)(ys:List l_):Prop where
 n1:1<=ys.length
 n6:ys.length<=6
 each:∀y∈ys,Se size y
 sum:(fG ys).sum=S
 JY:S<=1000000\/(S<=2000000/\∀y∈ys,∃v,y.2.2=2 * v)
theorem AG:∀(vs:List Int),(vs.map λv=>2 * v).sum=2 * vs.sum
 | []=>rfl
 | v::vs=>by rw [aav,abg,abg,AG vs];omega
theorem ES:∀(ys:List l_),(∀y∈ys,∃v,y.2.2=2 * v)->∃vs:List Int,fG ys=vs.map λv=>2 * v
 | [],_=>⟨[],rfl⟩
 | y::ys,h=>by obtain ⟨v,hv⟩:=h y aak;obtain ⟨vs,QV⟩:=ES ys λz hz=>h z (aag _ hz);exact ⟨v::vs,by show y.2.2::fG ys=_;rw [hv,QV];rfl⟩
theorem gG.fits{ys:List l_}(h:gG size S ys):Ο ((fG ys).map λw=>ae w S)=true/\Pc ((fG ys).map λw=>ae w S):=by
 have ln:(fG ys).length=ys.length:=aac ..;have n1:=h.n1;have n6:=h.n6;have pos:∀w∈fG ys,0 < w:=λw hw=>by obtain ⟨y,hy,rfl⟩:=aaf.mp hw;exact (h.each y hy).pos
 rcases h.JY with fw | ⟨fw,ev⟩
 ·exact kq h.sum pos (λe=>by rw [e] at ln;simp at ln;omega) fw (by omega)
 ·obtain ⟨vs,hv⟩:=ES ys ev;have hs:=h.sum;rw [hv,AG] at hs;have lv:vs.length=ys.length:=by rw [<-ln,hv,aac]
  have pv:∀v∈vs,0 < v:=λv AV=>by have:=pos (2 * v) (by rw [hv];exact aaf.mpr ⟨v,AV,rfl⟩);omega
  have ne:vs≠[]:=λe=>by rw [e] at lv;simp at lv;omega
  have sp:=oN pv ne;have key:=kq (ws:=vs) (S:=vs.sum) rfl pv ne (by omega) (by omega);have e:(fG ys).map (λw=>ae w S)=vs.map λv=>ae v vs.sum:=by rw [hv,aas];exact aaS λv _=>by show ae (2 * v) S=_;rw [<-hs,wO sp]
  rw [e];exact key
theorem gG.YV{ys:List l_}(h:gG size S ys)(k:Nat):gG size S (ys.drop k++ys.take k):=by
 have hl:(ys.drop k++ys.take k).length=ys.length:=by rw [aai,abR,abF];omega
 refine ⟨by rw [hl];exact h.n1,by rw [hl];exact h.n6,λy hy=>h.each y (pb.mp hy), ?_, ?_⟩
 ·have:(fG ys).sum=(fG (ys.take k++ys.drop k)).sum:=by rw [abJ]
  rw [<-h.sum,this];unfold fG;rw [aao,aao,abZ,abZ,Int.add_comm]
 ·rcases h.JY with f | ⟨f,e⟩
  ·exact .inl f
  ·exact .inr ⟨f,λy hy=>e y (pb.mp hy)⟩
theorem gG.C1{ys:List l_}(h:gG size S ys):KH size (.ι "chance" (ys.map (kO S))):=by
 obtain ⟨f1,f2⟩:=h.fits;have e:(ys.map (kO S)).map θ=(fG ys).map λw=>ae w S:=by rw [aas,aas];rfl
 refine ⟨⟨tq (by rw [aac];exact h.n1) (by rw [aac];exact h.n6) (λd hd=> ?_) (λd hd=> ?_) (by rw [e];exact f1) (by rw [e];exact f2) (λd hd=> ?_),λk ds e hk=> ?_⟩,λd hd=> ?_⟩
 ·obtain ⟨y,hy,rfl⟩:=aaf.mp hd;exact vS (h.each y hy).to.1 (h.each y hy).to.2 (h.each y hy).pay.fit
 ·obtain ⟨y,hy,rfl⟩:=aaf.mp hd;rfl
 ·obtain ⟨y,hy,rfl⟩:=aaf.mp hd;exact (h.each y hy).pay.2.1
 ·cases e;exact aaI hk (by decide)
 ·obtain ⟨y,hy,rfl⟩:=aaf.mp hd;exact (h.each y hy).pay
theorem gG.hand{ys:List l_}{k:Str}(h:gG size S ys)(hk:b9 k=true):KH size (.ι k (ys.map wI)):=by
 refine ⟨⟨Aw hk (by rw [aac];exact h.n1) (by rw [aac];exact h.n6) (λd hd=> ?_) (λd hd=> ?_),λk ds e hk d hd=> ?_⟩,λd hd=> ?_⟩
 ·obtain ⟨y,hy,rfl⟩:=aaf.mp hd;exact vS (h.each y hy).to.1 (h.each y hy).to.2 (h.each y hy).pay.fit
 ·obtain ⟨y,hy,rfl⟩:=aaf.mp hd;exact ⟨rfl,(h.each y hy).pay.2.1⟩
 ·cases e;obtain ⟨y,hy,rfl⟩:=aaf.mp hd;rfl
 ·obtain ⟨y,hy,rfl⟩:=aaf.mp hd;exact (h.each y hy).pay
theorem Ko{xs:List Int}{j:Int}(h0:0<=j)(h1:j < xs.length):∃x∈xs,i9 (xs.map Dt.int) j=some (.int x):=by
 have hj:j.toNat < xs.length:=by omega
 have:=kM hj;rw [show ((j.toNat:Nat):Int)=j by omega] at this;exact ⟨_,aap hj,this⟩
theorem nK{p:Fr}{n:Int}(h:b_ p=true):fk (.fin p) n=true:=h
def f_(o:Nat->Nat)(p:Fr)(t:Nat)(ys:List l_):Int:=(ys.map λy=>if y.2.1=p/\o y.1.toNat=t then y.2.2 else 0).sum
theorem lH(o:Nat->Nat)(p:Fr)(t:Nat)(ys zs:List l_):f_ o p t (ys++zs)=f_ o p t ys+f_ o p t zs:=by unfold f_;rw [List.map_append,List.sum_append]
theorem j7{o:Nat->Nat}{pay:Fr}{T:Nat}(p:Fr)(t:Nat):∀{vs:List l_},(∀y∈vs,y.2.1=pay/\o y.1.toNat=T)->f_ o p t vs=if pay=p/\T=t then (fG vs).sum else 0
 | [],_=>by show (0:Int)=_;split <;> rfl
 | y::vs,h=>by
  have ih:=j7 (o:=o) (pay:=pay) (T:=T) p t (vs:=vs) λz hz=>h z (aag _ hz);obtain ⟨e1,e2⟩:=h y aak;show (if y.2.1=p/\o y.1.toNat=t then y.2.2 else 0)+f_ o p t vs=if pay=p/\T=t then y.2.2+(fG vs).sum else 0
  rw [ih,e1,e2];by_cases q:pay=p/\T=t
  ·rw [aaF q,aaF q,aaF q]
  ·rw [aaA q,aaA q,aaA q];rfl
abbrev oF(os:List Int)(t:Nat):Nat:=(os.getD t 0).toNat
def rm(os:List Int):Br->Rw->Prop
 | .fin p,r=>r= .fin p
 | .oO k xs,r=>∃(zs:List l_) (S:Int),2 * (fG xs).sum=S/\r= .ι k (if k="chance" then zs.map (kO S) else zs.map wI)/\gG os.length S zs/\∀(p:Fr) (t:Nat),f_ (oF os) p t zs=2 * f_ (λt=>t) p t xs
def JZ:DF:=λas M q _=>∃(ns:List Int) (bs:List Br) (os:List Int) (pl:Nat),as=[.dM ns, .lst (bs.map gI), .lst (os.map Dt.int), .int (pl:Nat)]/\qx bs/\Et bs.length os/\pl < os.length/\∀r E b,bs[oF os pl]? =some b->KH os.length r->rm os b r->q (ak r) (M++E)
theorem Ψ:Δ ["_law_script","_law_base_here","_law_origin_here","_law_place","_law_kind","_law_doors","_law_whole","_law_found","_law_k","_law_to","_law_pay_here","_law_weight","_law_mixed","_law_some","_law_parts","_law_less","_law_j","_law_chance","_law_at"] ["_law_script","_law_base_here","_law_origin_here","_law_place"] (χ qt):= .of rfl
theorem zD(F:eD K "_law_copy" "_law_copy" qt f fd)(E:Ev K mg Cm){Cz:Addr}{Bc:FuncData}(g6:aR P w K mg base 4 "_law_piece" ["_law_script","_law_place","_law_k"] Ge Cz Bc)(aj:aR P w K mg base 1 "_law_lowest" ["_law_top","_law_bottom"] B5 bY bU):aC P w K mg base (dh P w) 6 f fd ["_law_script","_law_base_here","_law_origin_here","_law_place"] (eh K JZ):=by
 refine F.gH Ψ (λds M q x h=> ?_) (λb8 A outer s H E' hr=>⟨_,(η (Ar (Κ (jv 1) (Κ (jv 2) (jv 3))) (qP rfl (cf (aw (i:=4) Ψ.nd rfl (Or.inl rfl)) (cf (aw (i:=5) Ψ.nd rfl (Or.inl rfl)) lV))))
   (η (aE (da hr (jv 4) fX) (μ (Γ (aD (ar (jv 4) (ar (jv 5) ε))))) Ξ)
   (η (Β 6 Ψ.nd (bF ν (EO E.s_ (ζ (c5 (ys:=[]) (Λ:=[]) (.of Ψ rfl rfl rfl) (bu (jv 5)) (λC s H fp=>(Κ (jv 0) ν))) ε))))
   (η (Β 7 Ψ.nd (m8 ε))
   (η (ku (bN E.aQ (ζ (dU E.cF (ar (jv 5) ε)) ε bc)) (aw (i:=8) Ψ.nd rfl (Or.inl rfl)) aO (η (HH (Κ (jv 5) (jv 8)) (qP rfl (cf (aw (i:=9) Ψ.nd rfl (Or.inr rfl)) (cf (aw (i:=10) Ψ.nd rfl (Or.inl rfl)) (cf (aw (i:=11) Ψ.nd rfl (Or.inl rfl)) lV)))))
   (η (Β 12 Ψ.nd (au g6 hr ο (ar (jv 0) (ar (jv 3) (ar (jv 8) ε)))))
   (η (vJ (i:=13) Ψ.nd rfl (Or.inl rfl) (ys:=["_law_to","_law_origin_here"]) (Λ:=[9,2]) (.of Ψ rfl rfl rfl) (DB (bN E.aQ (ζ (dU E.cF (ar (jv 2) ε)) ε bc))) (λC s H fp=>(da hr (Κ (jv 2) (jv 0)) (jv 1))) (λC s H fp=>(jv 0)))
   (η (Β 14 Ψ.nd (nD (ζ (bF ν (jv 11)) ε bJ)))
   (η (iX (aE (JW.jt (Nf (da hr (bf (jv 12) ν) ν) (HM (tI (dU E.cF (ar (jv 5) ε)) ν)))) (η (Β 15 Ψ.nd (aK ν (bf (dj (jv 12) ν) (p9 (bF ν (jv 11)) ν))))
   (μ (Β 14 Ψ.nd (nD (ar (jv 15) (ζ (p9 (bF ν (jv 11)) (jv 15)) ε bJ)))))) Ξ))
   (μ (ku (bN E.aQ (ζ (dU E.cF (ar (jv 14) ε)) ε bc)) (aw (i:=16) Ψ.nd rfl (Or.inl rfl)) aO (η (Β 17 Ψ.nd (au aj hr ο (ζ (Κ (jv 14) (jv 16)) (ar (jv 6) ε) aT)))
   (μ (kZ (iW (jv 7) (ζ (aD (ζ (Κ (jv 13) (bf (dj (jv 12) (bF ν (aK (bF ν (jv 16)) ν))) (dU E.cF (ar (jv 13) ε)))) (ar (jv 10) (ar (jv 17) ε)) aT)) ε iM)))))))))))))
   (η (Β 18 Ψ.nd (bf (au g6 hr ο (ar (jv 0) (ar (jv 3) (ζ ν ε bb)))) (dU E.cF (ar (jv 7) ε))))
   (η (Β 7 Ψ.nd (aK (dR (sE (jv 7) (jv 18))) (dR (zW (jv 7) (jv 18)))))
   (η (iX (aE (nB hr (jv 4) fX) (μ (nQ (i:=7) Ψ.nd rfl (Or.inl rfl) (ys:=[]) (Λ:=[]) (.of Ψ rfl rfl rfl) (bu (jv 7)) (λC s H fp=>(oB (jv 0) ν)))) Ξ))
   (μ (Γ (aD (ar (jv 4) (ar (jv 7) ε))))))))))))),λds M q x h=> ?_⟩)
 ·obtain ⟨ns,bs,os,pl,rfl,_⟩:=h;rfl
 ·obtain ⟨ns,bs,os,pl,rfl,hb,ho,hp,h⟩:=h;have zw:=ho.zw;have eo:i9 (os.map Dt.int) ((pl:Nat):Int)=some (.int os[pl]):=kM hp;have om:os[pl]∈os:=aap hp;have YL:os.getD pl 0=os[pl]:=by rw [aan,aaa hp];rfl
  generalize os[pl]=o at *
  obtain ⟨o0,o1⟩:=ho.Jc o om;have ol:o.toNat < bs.length:=by omega
  have eb:i9 (bs.map gI) ((o.toNat:Nat):Int)=some (gI bs[o.toNat]):=Ν (by rw [aaj,aaa ol];rfl);rw [Int.toNat_of_nonneg o0] at eb;have Vn:bs[oF os pl]? =some bs[o.toNat]:=by unfold oF;rw [YL];exact List.getElem?_eq_getElem ol
  have bm:=aap ol;generalize bs[o.toNat]=b at *
  have KQ:=hb.each b bm;walk_at "vc";dsimp only [E2];walk_at "vc";refine (υ (d:= .lst (os.map Dt.int)) rfl eo ?_:cq (.lst (os.map Dt.int)) (.int (pl:Nat)) M _);refine (υ (d:= .lst (bs.map gI)) rfl eb ?_:cq (.lst (bs.map gI)) (.int o) M _);cases b with
  | fin p=>
   refine ⟨λ_=>⟨kQ, ?_⟩,λz=>(nomatch z)⟩;have:=h (.fin p) [] (.fin p) Vn ⟨⟨⟨KQ.2.1,nK KQ.fit⟩,λ_ _ z=>(nomatch z)⟩,KQ⟩ rfl;rwa [aaW] at this
  | oO kd xs=>
  obtain ⟨hk,x1,x6,hx⟩:=KQ;have KW:kd≠"end":=λz=>by subst z;rcases hk with hk | hk <;> exact aaI hk (by decide)
  refine ⟨λz=>aaI (aaq z) KW,λ_=> ?_⟩;have wb:∀v∈fG xs,0 < v/\v<=100000:=λv hv=>by obtain ⟨y,hy,rfl⟩:=aaf.mp hv;exact ⟨(hx y hy).2.2.1,(hx y hy).2.2.2⟩
  have wl:(fG xs).length=xs.length:=aac ..;have sp:0 < (fG xs).sum:=oN (λv hv=>(wb v hv).1) (λe=>by rw [e] at wl;simp at wl;omega);have sm:=yG (l:=fG xs) λv hv=>(wb v hv).2;rw [wl] at sm;have Zg:(fG xs).sum.natAbs < 2 ^ 22:=by omega
  show cX _ _ _ _ _;refine aZ (i:=5) (d:= .lst (xs.map bP)) rfl rfl ⟨by rw [aac];exact aax x6 (by decide), ?_⟩;refine cM (f:=λd=>match d with | .tup [_,_,v]=>v | _=> .bV) trivial (λx A_ q' hq=> ?_) ?_
  ·obtain ⟨y,hy,rfl⟩:=aaf.mp A_;exact υ (d:=bP y) (xs:=[.int y.1,Χ y.2.1, .int y.2.2]) rfl (Ν (j:=2) rfl) hq
  have ew:[]++(xs.map bP).map (λd=>match d with | .tup [_,_,v]=>v | _=> .bV)=(fG xs).map Dt.int:=by rw [aaR,aas,aas];rfl
  rw [ew];refine ⟨fG xs,rfl,⟨_,_,rfl⟩,⟨bg (k:=4) (by decide),bg Zg⟩,by decide, ?_⟩;generalize hS:2 * (fG xs).sum=S;have S0:0 < S:=by omega
  have bS:gU S:=bg (k:=24) (by omega);refine (aL (d:= .lst (xs.map bP)) (xs:=xs.map bP) rfl ?_:iF [.lst (xs.map bP)] _ _);rw [aac];refine ⟨⟨by omega,by omega⟩, ?_⟩;have go:∀ys:List l_,ys.map (λy=>ba (kO S y))=(ys.map (kO S)).map ba:=λys=>by rw [aas];rfl
  refine d7 (λzs ρ M2=>∃(n k:Nat) (ys:List l_) (o8 o9 zX vj Qh RA Q_ GN CF CM K6:Option Dt),zs=bL k n/\k+n=xs.length/\k<=ys.length/\(xs.length < 4->ys.length<=2 * k)/\(¬xs.length < 4->ys.length=k/\∀y∈ys,∃v,y.2.2=2 * v)/\(∀y∈ys,Se os.length y)/\(fG ys).sum=2 * (fG (xs.take k)).sum/\(∀p t,f_ (oF os) p t ys=2 * f_ (λt=>t) p t (xs.take k))/\M2=M++[.lst ((ys.map (kO S)).map ba)]/\ρ=[some (.dM ns),some (.lst (bs.map gI)),some (.lst (os.map Dt.int)),some (.int (pl:Nat)),some (.str kd),some (.lst (xs.map bP)),some (.int S),some (.loc M.length),o8,o9,zX,vj,Qh,RA,Q_,GN,CF,CM,K6]) (λx zs ρ M2 hj wJ=> ?_) (λρ M2 hj=> ?_) _ _ _ ⟨xs.length,0,[],none,none,none,none,none,none,none,none,none,none,none,by simp,by simp,Nat.zero_le _,λ_=>Nat.zero_le _,λ_=>⟨rfl,λ_ z=>(nomatch z)⟩,λ_ z=>(nomatch z),rfl,λ_ _=>rfl,rfl,rfl⟩
  ·obtain ⟨n,k,ys,o8,o9,zX,vj,Qh,RA,Q_,GN,CF,CM,K6,ex,Lu,YB,QZ,NF,T9,Q7,Ua,rfl,rfl⟩:=hj;obtain ⟨m,rfl,rfl,rfl⟩:=eI ex;have kx:k < xs.length:=by omega
   have ek:i9 (xs.map bP) ((k:Nat):Int)=some (bP xs[k]):=Ν (by rw [aaj,aaa kx];rfl);obtain ⟨⟨t0,t1⟩,SV,w1,w5⟩:=hx xs[k] (aap kx);have Rq:xs.take (k+1)=xs.take k++[xs[k]]:=by rw [List.take_succ,aaa kx];rfl
   generalize xs[k]=tr at *
   obtain ⟨to,pay,wt⟩:=tr;have w1:1<=wt:=w1;have w5:wt<=100000:=w5;generalize Kd:(lF (gN 8) _ _ (bL ((k:Int)+1) m):En->Ms->Prop)=Nx at wJ⊢;walk_at "vc";dsimp only [JO];walk_at "vc";refine (υ (d:= .lst (xs.map bP)) rfl ek ?_:cq (.lst (xs.map bP)) (.int ((k:Nat):Int)) _ _);refine ⟨ns,pl,k,rfl,by omega,by omega,λmx mx0 mx1=> ?_⟩;dsimp only [Fx,VB,Ca];walk_at "vc";refine (aL (d:= .lst (os.map Dt.int)) (xs:=os.map Dt.int) rfl ?_:iF [.lst (os.map Dt.int)] _ _);rw [aac];refine ⟨⟨by omega,by omega⟩,by rw [eW];exact aax (show _<=12 by omega) (by decide), ?_⟩;refine h7 trivial (λx=>match x with | .int j=>decide (os.getD j.toNat 0=to) | _=>false) (λx=>x) _ _ (λx A_ q' p' h1 h2=> ?_) ?_
   ·obtain ⟨j,hj,rfl⟩:=lM A_;have hj:j < os.length:=by simpa using hj
    rw [abK] at h1 h2⊢;have e:os.getD ((j:Int).toNat) 0=os[j]:=by rw [aa6,aan,aaa hj];rfl
    walk_at "vc";refine (υ (d:= .lst (os.map Dt.int)) rfl (kM hj) ?_:cq (.lst (os.map Dt.int)) (.int ((j:Nat):Int)) _ _);show match decide (os[j]=to) with | true=>_ | false=>_
    have e2:decide (os.getD ((j:Int).toNat) 0=to)=decide (os[j]=to):=by rw [e]
    cases c:decide (os[j]=to) with
    | true=>exact h1 (e2.trans c)
    | false=>exact h2 (e2.trans c)
   obtain ⟨ss,Y3,sr,s1⟩:∃ss:List Int,[]++(List.filter (λx=>match x with | .int j=>decide (os.getD j.toNat 0=to) | _=>false) (bL 0 ((os.length:Int)).toNat)).map (λx=>x)=ss.map Dt.int/\(∀s∈ss,(0<=s/\s < (os.length:Int))/\oF os s.toNat=to.toNat)/\1<=ss.length:=by
    refine ⟨((List.range os.length).filter λj=>decide (os.getD j 0=to)).map λj:Nat=>(j:Int), ?_,λs hs=> ?_, ?_⟩
    ·rw [aaR,List.map_id',aa6,AX,List.filter_map,aas];have:((λx=>match x with | Dt.int j=>decide (os.getD j.toNat 0=to) | _=>false) ∘ λi:Nat=>Dt.int (0+i))=λj:Nat=>decide (os.getD j 0=to):=by
      funext i
      show decide (os.getD (0+(i:Int)).toNat 0=to)=_;rw [abK,aa6]
     rw [this];exact aaS λi _=>by show Dt.int (0+(i:Int))=Dt.int (i:Int);rw [abK]
    ·obtain ⟨j,hj,rfl⟩:=aaf.mp hs;have r1:=aaP.mp (abW.mp hj).1;have r2:os.getD j 0=to:=aaq (abW.mp hj).2;refine ⟨by omega, ?_⟩;show (os.getD ((j:Int).toNat) 0).toNat=_;rw [aa6,r2]
    ·obtain ⟨j,hj⟩:=abd.mp (ho.all to t0 t1);have J6:=(aad.mp hj).1;have:((j:Nat):Int)∈((List.range os.length).filter λj=>decide (os.getD j 0=to)).map λj:Nat=>(j:Int):=aaf.mpr ⟨j,abW.mpr ⟨aaP.mpr J6,aam (by rw [aan,hj];rfl)⟩,rfl⟩;exact abt this
   rw [Y3];refine ⟨⟨bg (k:=4) (by decide),bg (k:=20) (by omega)⟩,N', ?_⟩;refine ⟨λρ M3=>M3=M++[.lst ((ys.map (kO S)).map ba)]/\∃(ps:List Int) (GN:Option Dt),(1<=ps.length/\ps.length<=2/\(∀p∈ps,0 < p)/\ps.sum=2 * wt/\(xs.length < 4\/ps=[2 * wt]))/\ρ=[some (.dM ns),some (.lst (bs.map gI)),some (.lst (os.map Dt.int)),some (.int (pl:Nat)),some (.str kd),some (.lst (xs.map bP)),some (.int S),some (.loc M.length),some (.int (k:Int)),some (.int to),some (Χ pay),some (.int wt),some (.int mx),some (.lst (ss.map Dt.int)),some (.lst (ps.map Dt.int)),GN,CF,CM,K6], ?_, ?_⟩
   ·have same:∃(ps:List Int) (Tw:Option Dt),(1<=ps.length/\ps.length<=2/\(∀p∈ps,0 < p)/\ps.sum=2 * wt/\(xs.length < 4\/ps=[2 * wt]))/\[some (Dt.dM ns),some (.lst (bs.map gI)),some (.lst (os.map Dt.int)),some (.int (pl:Nat)),some (.str kd),some (.lst (xs.map bP)),some (.int S),some (.loc M.length),some (.int (k:Int)),some (.int to),some (Χ pay),some (.int wt),some (.int mx),some (.lst (ss.map Dt.int)),some (.lst [.int (2 * wt)]),GN,CF,CM,K6]=[some (.dM ns),some (.lst (bs.map gI)),some (.lst (os.map Dt.int)),some (.int (pl:Nat)),some (.str kd),some (.lst (xs.map bP)),some (.int S),some (.loc M.length),some (.int (k:Int)),some (.int to),some (Χ pay),some (.int wt),some (.int mx),some (.lst (ss.map Dt.int)),some (.lst (ps.map Dt.int)),Tw,CF,CM,K6]:=⟨[2 * wt],GN,⟨Nat.le_refl 1,by show 1<=2;decide,λp hp=>by rw [List.mem_singleton.mp hp];omega,by simp, .inr rfl⟩,rfl⟩;refine ⟨by decide,λ_=> ?_,λ_=>⟨λz=>(nomatch z),λ_=>⟨rfl,same⟩⟩⟩;walk_at "vc";refine (aL (d:= .lst (xs.map bP)) (xs:=xs.map bP) rfl ?_:iF [.lst (xs.map bP)] _ _);rw [aac];refine ⟨λhb=> ?_,λ_=>⟨rfl,same⟩⟩;have hb:((xs.length:Nat):Int) < 4:=aaq hb;have bw:gU wt:=bg (k:=20) (by omega);have g0:=aaT (mx / 3) (show 2 * wt - 1≠0 by omega);have g1:=aaV (mx / 3) (show 0 < 2 * wt - 1 by omega);refine ⟨⟨by decide,bg (k:=4) (by decide)⟩,⟨bg (k:=4) (by decide),bw⟩,by omega,⟨bg (k:=4) (by decide),bw⟩,kQ,rfl,[1+mx / 3 % (2 * wt - 1),2 * wt - (1+mx / 3 % (2 * wt - 1))],_,⟨by show 1<=2;decide,aal 2,λp hp=> ?_, ?_, .inl (by omega)⟩,rfl⟩
    ·rcases aaB.mp hp with rfl | hp
     ·omega
     ·have:p=2 * wt - (1+mx / 3 % (2 * wt - 1)):=by simpa using hp
      omega
    ·simp;omega
   rintro ρ3 M3 ⟨rfl,ps,GN,⟨q1,q2,qp,qs,q4⟩,rfl⟩;walk_at "vc";refine (aL (d:= .lst (ps.map Dt.int)) (xs:=ps.map Dt.int) rfl ?_:iF [.lst (ps.map Dt.int)] _ _);rw [aac];refine ⟨⟨by omega,by omega⟩, ?_⟩;refine d7 (λzs ρ M3=>∃(n' j:Nat) (vs:List l_) (CF CM:Option Dt),zs=bL j n'/\j+n'=ps.length/\vs.length=j/\fG vs=ps.take j/\(∀y∈vs,Se os.length y)/\(∀y∈vs,y.2.1=pay/\oF os y.1.toNat=to.toNat)/\M3=M++[.lst (((ys++vs).map (kO S)).map ba)]/\ρ=[some (.dM ns),some (.lst (bs.map gI)),some (.lst (os.map Dt.int)),some (.int (pl:Nat)),some (.str kd),some (.lst (xs.map bP)),some (.int S),some (.loc M.length),some (.int (k:Int)),some (.int to),some (Χ pay),some (.int wt),some (.int mx),some (.lst (ss.map Dt.int)),some (.lst (ps.map Dt.int)),GN,CF,CM,K6]) (λx zs ρ M3 hj Rx=> ?_) (λρ M3 hj=> ?_) _ _ _ ⟨ps.length,0,[],CF,CM,by simp,by simp,rfl,rfl,λ_ z=>(nomatch z),λ_ z=>(nomatch z),by rw [List.append_nil],rfl⟩
   ·obtain ⟨n',j,vs,CF,CM,Iw,Ys,LK,MZ,Ur,T6,rfl,rfl⟩:=hj;obtain ⟨m',rfl,rfl,rfl⟩:=eI Iw;have J6:j < ps.length:=by omega
    have Ip:(M++[MO.lst (((ys++vs).map (kO S)).map ba)])[M.length]? =some (.lst (((ys++vs).map (kO S)).map ba)):=aF;generalize hNy:(lF (gN 16) _ _ (bL ((j:Int)+1) m'):En->Ms->Prop)=Ny at Rx⊢;walk_at "vc";dsimp only [Mf];walk_at "vc";refine (υ (d:= .lst (ps.map Dt.int)) rfl (kM J6) ?_:cq (.lst (ps.map Dt.int)) (.int ((j:Nat):Int)) _ _);have jb:(j:Int) < 2:=by omega
    have db:0 < 600000 * (11 * (j:Int)+1):=by omega
    refine ⟨_,_,rfl,S0,bS,⟨_,_,rfl,Ip⟩,⟨bg (k:=5) (by decide),bg (k:=4) (by omega)⟩,⟨bg (k:=21) (by decide),bg (k:=6) (by omega)⟩,⟨db,bg (k:=30) (by omega)⟩, ?_⟩;refine (aL (d:= .lst (ss.map Dt.int)) (xs:=ss.map Dt.int) rfl ?_:iF [.lst (ss.map Dt.int)] _ _);rw [aac];have s0:(0:Int) < (ss.length:Nat):=by omega
    obtain ⟨sv,Vb,WZ⟩:=Ko (xs:=ss) (j:=mx / (600000 * (11 * (j:Int)+1)) % ((ss.length:Nat):Int)) (aaT _ (by omega)) (aaV _ s0);refine ⟨s0, ?_⟩;refine (υ (d:= .lst (ss.map Dt.int)) rfl WZ ?_:cq (.lst (ss.map Dt.int)) (.int (mx / (600000 * (11 * (j:Int)+1)) % ((ss.length:Nat):Int))) _ _);have ZA:(ys++vs).length<=20:=by
     rw [aai,LK];by_cases c:xs.length < 4
     ·have:=QZ c;omega
     ·have:=(NF c).1;omega
    refine ⟨OX,_,_,_,rfl,rfl,Ip,by rw [aac,aac];exact aaN ZA (by decide), ?_⟩;refine Rx _ _ ⟨m',j+1,vs++[(sv,pay,ps[j])],_,_,by simp,by omega,by simp [LK], ?_,λy hy=> ?_,λy hy=> ?_, ?_,rfl⟩
    ·unfold fG at MZ⊢;rw [aao,MZ,List.take_succ,aaa J6];rfl
    ·rcases aaL.mp hy with hy | hy
     ·exact Ur y hy
     ·have:y=(sv,pay,ps[j]):=by simpa using hy
      subst this;exact ⟨(sr sv Vb).1,SV,qp _ (aap J6)⟩
    ·rcases aaL.mp hy with hy | hy
     ·exact T6 y hy
     ·have:y=(sv,pay,ps[j]):=by simpa using hy
      subst this;exact ⟨rfl,(sr sv Vb).2⟩
    ·rw [aaZ _ _ (aal _),aa9,<-abj,aao (l₁:=ys++vs),aao (l₁:=(ys++vs).map (kO S))];rfl
   ·obtain ⟨n',j,vs,CF,CM,Iw,Ys,LK,MZ,Ur,T6,rfl,rfl⟩:=hj;have LV:n'=0:=by have:=aa2 List.length Iw;unfold bL at this;simpa using this.symm
    have UI:j=ps.length:=by omega
    rw [UI,List.take_length] at MZ;refine wJ _ _ ⟨m,k+1,ys++vs,_,_,_,_,_,_,_,_,_,_,_,by simp,by omega,by rw [List.length_append];omega,λc=>by rw [List.length_append];have:=QZ c;omega,λc=> ?_,λy hy=> ?_, ?_,λp t=> ?_,rfl,rfl⟩
    ·have e:=q4.resolve_left c;refine ⟨by rw [aai,(NF c).1,LK,UI,e];rfl,λy hy=> ?_⟩;rcases aaL.mp hy with hy | hy
     ·exact (NF c).2 y hy
     ·have hm:y.2.2∈fG vs:=aaf.mpr ⟨y,hy,rfl⟩;rw [MZ,e] at hm;exact ⟨wt,by simpa using hm⟩
    ·rcases aaL.mp hy with hy | hy
     ·exact T9 y hy
     ·exact Ur y hy
    ·rw [Rq];unfold fG at *
     rw [aao,abZ,Q7,MZ,qs,aao,abZ];show _=2 * (_+[wt].sum);simp;omega
    ·have e1:=j7 (o:=λt=>t) (pay:=pay) (T:=to.toNat) p t (vs:=[(to,pay,wt)]) λy hy=>by
      have:y=(to,pay,wt):=by simpa using hy
      subst this;exact ⟨rfl,rfl⟩
     rw [Rq,lH,lH,Ua,e1,j7 p t T6,MZ,qs];show _=2 * (_+if pay=p/\to.toNat=t then [wt].sum else 0);split
     ·simp;omega
     ·omega
  ·obtain ⟨n,k,ys,o8,o9,zX,vj,Qh,RA,Q_,GN,CF,CM,K6,ex,Lu,YB,QZ,NF,T9,Q7,Ua,rfl,rfl⟩:=hj;have hn:n=0:=by have:=aa2 List.length ex;unfold bL at this;simpa using this.symm
   have Y9:k=xs.length:=by omega
   subst Y9;rw [List.take_length,hS] at Q7;have Q0:∀p t,f_ (oF os) p t ys=2 * f_ (λt=>t) p t xs:=λp t=>by rw [Ua p t,List.take_length]
   have pt:gG os.length S ys:=by
    refine ⟨by omega, ?_,T9,Q7, ?_⟩
    ·by_cases c:xs.length < 4
     ·have:=QZ c;omega
     ·have:=(NF c).1;omega
    ·by_cases c:xs.length < 4
     ·exact .inl (by omega)
     ·exact .inr ⟨by omega,(NF c).2⟩
   have Ip:(M++[MO.lst ((ys.map (kO S)).map ba)])[M.length]? =some (.lst ((ys.map (kO S)).map ba)):=aF;refine ⟨ns,pl,7,rfl,by omega,by decide,λr r0 r1=> ?_⟩;walk_at "vc";refine (aL (d:= .loc M.length) (eN Ip) ?_:iF [.loc M.length] _ _);rw [aac,aac];have y0:(0:Int) < (ys.length:Nat):=by have:=pt.n1;omega
   refine ⟨y0, ?_⟩;have g0:=aaT r (show ((ys.length:Nat):Int)≠0 by omega);obtain ⟨a,ea⟩:∃a:Nat,r % ((ys.length:Nat):Int)=(a:Int):=⟨(r % ((ys.length:Nat):Int)).toNat,by omega⟩;rw [ea];refine ⟨_,a,bX Ip,rfl, ?_⟩;rw [<-List.map_drop,<-List.map_drop];refine iO (gT _) ?_;refine ⟨_,a,bX Ip,rfl, ?_⟩;rw [<-List.map_take,<-List.map_take];refine iO (gT _) ?_;have pr:=pt.YV a;have Q0:∀p t,f_ (oF os) p t (ys.drop a++ys.take a)=2 * f_ (λt=>t) p t xs:=λp t=>by rw [<-Q0 p t,lH,Int.add_comm,<-lH,abJ]
   refine ⟨by rw [aac,aac,aac,aac,<-aai];exact aax pr.n6 (by decide), ?_⟩;rw [<-aao,<-aao];generalize ys.drop a++ys.take a=zs at *
   refine ⟨λρ M3=>M3=M++[.lst ((ys.map (kO S)).map ba)]/\∃ds:List cb,KH os.length (.ι kd ds)/\rm os (.oO kd xs) (.ι kd ds)/\ρ=[some (.dM ns),some (.lst (bs.map gI)),some (.lst (os.map Dt.int)),some (.int (pl:Nat)),some (.str kd),some (.lst (xs.map bP)),some (.int S),some (.lst (ds.map ba)),o8,o9,zX,vj,Qh,RA,Q_,GN,CF,CM,some (.int a)],⟨λhb=> ?_,λhb=> ?_⟩, ?_⟩
   ·have hb:kd≠"chance":=by intro z;subst z;exact aaI hb (by decide)
    show cX _ _ _ _ _;refine aZ (i:=7) (d:= .lst ((zs.map (kO S)).map ba)) rfl rfl ⟨by rw [aac,aac];exact aax pr.n6 (by decide), ?_⟩;refine cM (f:=λd=>match d with | .tup [a,b,_]=> .tup [a,b] | _=> .bV) trivial (λx A_ q' hq=> ?_) ?_
    ·obtain ⟨d,hd,rfl⟩:=aaf.mp A_;obtain ⟨y,hy,rfl⟩:=aaf.mp hd;exact ⟨_,2,rfl,rfl,by show 2 < 3;decide,hq⟩
    ·have e:[]++((zs.map (kO S)).map ba).map (λd=>match d with | .tup [a,b,_]=> .tup [a,b] | _=> .bV)=(zs.map wI).map ba:=by rw [aaR,aas,aas,aas];rfl
     rw [e];exact ⟨rfl,zs.map wI,pr.hand (hk.resolve_right hb),⟨zs,S,hS,by rw [aaA hb],pr,Q0⟩,rfl⟩
   ·have hb:kd="chance":=by
     by_cases z:kd="chance"
     ·exact z
     ·exact aaI hb (by rw [aaK z];decide)
    subst hb;exact ⟨rfl,zs.map (kO S),pr.C1,⟨zs,S,hS,by rw [aaF rfl],pr,Q0⟩,rfl⟩
   ·rintro ρ3 M3 ⟨rfl,ds,Nn,Xu,rfl⟩;exact ⟨kQ,h (.ι kd ds) _ _ Vn Nn Xu⟩
def ψ:Br->Rw
 | .fin p=> .fin p
 | .oO k xs=> .ι k (if k="chance" then xs.map (kO (fG xs).sum) else xs.map wI)
theorem jY{n:Int}{k:Str}{xs:List l_}(h:yM n (.oO k xs)):gG n (fG xs).sum xs:=by
 obtain ⟨_,x1,x6,hx⟩:=h;have wb:∀v∈fG xs,v<=100000:=λv hv=>by obtain ⟨y,hy,rfl⟩:=aaf.mp hv;exact (hx y hy).2.2.2
 have sm:=yG (l:=fG xs) wb;have wl:(fG xs).length=xs.length:=aac ..;rw [wl] at sm;exact ⟨x1,x6,λy hy=>⟨(hx y hy).1,(hx y hy).2.1,by have:=(hx y hy).2.2.1;omega⟩,rfl, .inl (by omega)⟩
theorem FZ{n:Int}{b:Br}(h:yM n b):KH n (ψ b):=by
 cases b with
 | fin p=>
  have h:ml p:=h;exact ⟨⟨⟨h.2.1,nK h.fit⟩,λ_ _ z=>(nomatch z)⟩,h⟩
 | oO k xs=>
  have pt:=jY h;show KH n (.ι k (if k="chance" then xs.map (kO (fG xs).sum) else xs.map wI));by_cases hk:k="chance"
  ·subst hk;rw [aaF rfl];exact pt.C1
  ·rw [aaA hk];exact pt.hand (h.1.resolve_right hk)
theorem gB(c:Nat->Nat)(d:cb):π c d=aY d.2.1 (c d.1.toNat):=rfl
theorem HX(h:0 < S)(y:l_):xv S (kO S y)=y.2.2:=by
 unfold xv;have e:θ (kO S y)=ae y.2.2 S:=rfl;rw [e];have dv:=pS (t:=y.2.2) h;have x:=bH (t:=y.2.2) (show S≠0 by omega);have q:=aU (t:=y.2.2) (show S≠0 by omega);generalize ae y.2.2 S=f at *
 obtain ⟨z,rfl⟩:=dv;rw [abn _ (by omega)];have:f.2 * (f.1 * z)=f.2 * y.2.2:=by grind
 exact abb (by omega) this
theorem Lh{o:Nat->Nat}(h:0 < S)(p:Fr)(t:Nat)(ys:List l_):cU o S (ys.map (kO S)) (aY p t)=f_ o p t ys:=by
 unfold cU f_;rw [aas]
 congr 1
 refine aaS λy _=> ?_;show (if π o (kO S y)=aY p t then xv S (kO S y) else 0)=_;rw [HX h];by_cases q:y.2.1=p/\o y.1.toNat=t
 ·rw [aaF q,aaF (cG.mpr q)]
 ·rw [aaA q,aaA λz=>q (cG.mp z)]
theorem pZ{o:Nat->Nat}{p:Fr}{t:Nat}:∀{ys:List l_},(∀y∈ys,0 < y.2.2)->(0<=f_ o p t ys/\(0 < f_ o p t ys↔∃y∈ys,y.2.1=p/\o y.1.toNat=t))
 | [],_=>⟨Int.le_refl _,⟨λz=>by have z:(0:Int) < 0:=z;omega,λ⟨_,z,_⟩=>(nomatch z)⟩⟩
 | y::ys,h=>by
  obtain ⟨i1,i2⟩:=pZ (o:=o) (p:=p) (t:=t) (ys:=ys) λz hz=>h z (aag _ hz);have w:=h y aak;have e:f_ o p t (y::ys)=(if y.2.1=p/\o y.1.toNat=t then y.2.2 else 0)+f_ o p t ys:=rfl;rw [e];by_cases q:y.2.1=p/\o y.1.toNat=t
  ·rw [aaF q];exact ⟨by omega,⟨λ_=>⟨y,aak,q⟩,λ_=>by omega⟩⟩
  ·rw [aaA q,abK];refine ⟨i1,i2.trans ⟨λ⟨z,hz,e⟩=>⟨z,aag _ hz,e⟩,λ⟨z,hz,ez⟩=> ?_⟩⟩;rcases aaB.mp hz with rfl | hz
   ·exact aaI ez q
   ·exact ⟨z,hz,ez⟩
theorem za{o:Nat->Nat}{n:Int}{ys:List l_}(h:gG n S ys)(p:Fr)(t:Nat):0 < S/\Ω o "chance" (ys.map (kO S)) (aY p t)=ae (f_ o p t ys) S:=by
 have S0:0 < S:=by
  rw [<-h.sum];refine oN (λv hv=> ?_) λe=> ?_
  ·obtain ⟨y,hy,rfl⟩:=aaf.mp hv;exact (h.each y hy).pos
  ·have n1:=h.n1;have:(fG ys).length=ys.length:=aac ..;rw [e] at this;simp at this;omega
 refine ⟨S0, ?_⟩;rw [cN S0 _ _ rfl λd hd=> ?_,Lh S0];obtain ⟨y,_,rfl⟩:=aaf.mp hd;exact ⟨aU (t:=y.2.2) (show S≠0 by omega),pS (t:=y.2.2) S0⟩
theorem Iy{os:List Int}{n:Int}{b:Br}{r:Rw}(hb:yM n b)(h:rm os b r):br r (ψ b)=true/\∀x,tt (oF os) r x=tt (λt=>t) (ψ b) x:=by
 cases b with
 | fin p=>
  have h:r= .fin p:=h;subst h;exact ⟨aam rfl,λ_=>rfl⟩
 | oO k xs=>
  obtain ⟨zs,S,hS,rfl,pz,hw⟩:=h;have px:=jY hb;refine ⟨aam rfl,λx=> ?_⟩;show Ω (oF os) k (if k="chance" then zs.map (kO S) else zs.map wI) x=Ω (λt=>t) k (if k="chance" then xs.map (kO (fG xs).sum) else xs.map wI) x;by_cases q:∃p t,x=aY p t
  ·obtain ⟨p,t,rfl⟩:=q;by_cases hk:k="chance"
   ·subst hk;rw [aaF rfl,aaF rfl];obtain ⟨_,e1⟩:=za (o:=oF os) pz p t;obtain ⟨s2,e2⟩:=za (o:=λt=>t) px p t;rw [e1,e2,hw,<-hS,wO s2]
   ·rw [aaA hk,aaA hk];have w1:=(pZ (o:=oF os) (p:=p) (t:=t) (ys:=zs) λy hy=>(pz.each y hy).pos).2;have w2:=(pZ (o:=λt=>t) (p:=p) (t:=t) (ys:=xs) λy hy=>(px.each y hy).pos).2;have ex:∀(o:Nat->Nat) (ys:List l_),(∃d∈ys.map wI,π o d=aY p t)↔∃y∈ys,y.2.1=p/\o y.1.toNat=t:=λo ys=>by
     constructor
     ·rintro ⟨d,hd,e⟩;obtain ⟨y,hy,rfl⟩:=aaf.mp hd;exact ⟨y,hy,cG.mp e⟩
     ·rintro ⟨y,hy,e⟩;exact ⟨wI y,aaf.mpr ⟨y,hy,rfl⟩,cG.mpr e⟩
    have iff:(∃d∈zs.map wI,π (oF os) d=aY p t)↔∃d∈xs.map wI,π (λt=>t) d=aY p t:=by rw [ex,ex,<-w1,<-w2,hw p t];omega
    by_cases z:∃d∈zs.map wI,π (oF os) d=aY p t
    ·rw [dD hk z,dD hk (iff.mp z)]
    ·rw [aP λd hd e=>z ⟨d,hd,e⟩,aP λd hd e=>z (iff.mpr ⟨d,hd,e⟩)]
  ·rw [aP λd _ e=>q ⟨_,_,e.symm.trans (gB _ d)⟩,aP λd _ e=>q ⟨_,_,e.symm.trans (gB _ d)⟩]
structure FK(bs:List Br)(os:List Int)(γ:List Rw):Prop where
 len:γ.length=os.length
 each:∀i (hi:i < γ.length),∃b,bs[oF os i]? =some b/\rm os b γ[i]
theorem C8{bs:List Br}{os:List Int}{γ:List Rw}(hb:qx bs)(ho:Et bs.length os)(hc:FK bs os γ)(fA:Fk γ)(fB:Fk (bs.map ψ)):CL γ (bs.map ψ) (oF os):=by
 refine CL.of fA fB (λi hi=> ?_) (λj hj=> ?_) λi hi hj=> ?_
 ·obtain ⟨b,e,_⟩:=hc.each i hi;rw [aac];exact (aad.mp e).1
 ·rw [aac] at hj;obtain ⟨i,hi⟩:=abd.mp (ho.all (j:Int) (by omega) (by omega));refine ⟨i,by rw [hc.len];exact (aad.mp hi).1, ?_⟩;show (os.getD i 0).toNat=j;rw [aan,hi];show (j:Int).toNat=j;omega
 ·obtain ⟨b,e,cp⟩:=hc.each i hi;have eb:(bs.map ψ)[oF os i]=ψ b:=by
   have:(bs.map ψ)[oF os i]? =some (ψ b):=by rw [aaj,e];rfl
   exact (aad.mp this).2
  rw [eb];exact Iy (hb.each b (aaD e)) cp
def JX:DF:=λas M q _=>∃(k:Str) (ds:List cb) (n:Nat) (c:Nat->Nat) (dc:Dt) (p:Fr) (y:Nat),as=[ak (.ι k ds),dc, .tup [Χ p, .int (y:Nat)]]/\gJ M dc=some (cm n c)/\eu n k ds/\q (Χ (Ω c k ds (aY p y))) M
theorem cT:Δ ["_law_row","_law_classes","_law_pair","_law_top","_law_bottom","_law_door"] ["_law_row","_law_classes","_law_pair"] (χ kL):= .of rfl
theorem tW(F:eD K "_law_part_of" "_law_part_of" kL f fd)(E:Ev K mg Cm)(aj:aR P w K mg base 1 "_law_lowest" ["_law_top","_law_bottom"] B5 bY bU):aC P w K mg base (dh P w) 4 f fd ["_law_row","_law_classes","_law_pair"] (eh K JX):=by
 refine F.gH cT (λds M q x h=> ?_) (λb8 A outer s H E' hr=>⟨_,(η (Β 3 cT.nd ν)
   (η (Β 4 cT.nd ν)
   (η (gW (bu (Κ (jv 0) ν)) (aw (i:=5) cT.nd rfl (Or.inl rfl)) aO (μ (aE (Mb 2 hr (aD (ζ (Κ (jv 5) ν) (ζ (Κ (jv 1) (Κ (jv 5) ν)) ε aT) aT)) (jv 2)) (η (aE (nB hr (Κ (jv 0) ν) fX) (μ (Γ (aD (ζ ν (ζ ν ε bb) bb)))) Ξ)
   (μ (Ar (au aj hr ο (ζ (aK (bF (jv 3) (Κ (Κ (jv 5) ν) ν)) (bF (Κ (Κ (jv 5) ν) ν) (jv 4))) (ζ (bF (jv 4) (Κ (Κ (jv 5) ν) ν)) ε bJ) bJ)) (qP rfl (cf (aw (i:=3) cT.nd rfl (Or.inl rfl)) (cf (aw (i:=4) cT.nd rfl (Or.inl rfl)) lV)))))) Ξ)))
   (μ (Γ (aD (ar (jv 3) (ar (jv 4) ε)))))))),λds M q x h=> ?_⟩)
 ·obtain ⟨k,ds,n,c,dc,p,y,rfl,_⟩:=h;rfl
 ·obtain ⟨k,ds,n,c,dc,p,y,rfl,hc,rk,h⟩:=h;walk_at "vc";dsimp only [xI,cX];walk_at "vc";refine (tM (k:=k) (e:= .lst (ds.map ba)) ?_:cq (.tup [.str k, .lst (ds.map ba)]) (.int 1) M _);have Hn:ds.length<=12:=rk.ok.2.1;show ia _ _ _ (λ_=>True) (ds.map ba) [some (ak (.ι k ds)),some dc,some (.tup [Χ p, .int (y:Nat)]),some (.int 0),some (.int 1),none] M;refine dH (λxs ρ M'=>∃(done Η:List cb) (o5:Option Dt),ds=done++Η/\xs=Η.map ba/\(k≠"chance"->∀d∈done,π c d≠aY p y)/\M'=M/\ρ=[some (ak (.ι k ds)),some dc,some (.tup [Χ p, .int (y:Nat)]),some (.int (Ω c k done (aY p y)).1),some (.int (Ω c k done (aY p y)).2),o5]) (λ_ _ _ _=>trivial) (λx xs ρ M' hJ ih=> ?_) (λρ M' hJ=> ?_) _ _ _ ⟨[],ds,none,rfl,rfl,λ_ _ z=>(nomatch z),rfl,rfl⟩
  ·obtain ⟨done,Η,o5,e1,e2,hn,rfl,rfl⟩:=hJ;cases Η with
   | nil=>cases e2
   | cons d Η=>
    cases e2;have md:d∈ds:=by rw [e1];simp
    obtain ⟨t0,tn⟩:=rk.to d md;obtain ⟨t,et⟩:=abE t0;have tl:t < n:=by omega
    have Mv:i9 (cm n c) d.1=some (.int (c t:Nat)):=by rw [et];exact Ν (lQ tl)
    have VF:c d.1.toNat=c t:=by rw [et];rfl
    generalize Kd:(ia (gN 5) _ _ _ (Η.map ba):En->Ms->Prop)=Nx at ih⊢;walk_at "vc";refine Ji ?_;refine Di ?_;refine (υ (d:=dc) hc Mv ?_:cq dc (.int d.1) _ _);refine ⟨kQ,_, .inl ⟨_,rfl⟩, .inl ⟨_,rfl⟩,EV,λhb=> ?_,λhb=> ?_⟩
    ·have hk:π c d=aY p y:=by rw [aaz,decide_eq_true_eq,decide_eq_true_eq] at hb;exact cG.mpr ⟨hb.1,by rw [VF];exact hb.2⟩
     refine (υ (d:= .tup [.str k, .lst (ds.map ba)]) (xs:=[.str k, .lst (ds.map ba)]) rfl Φ ?_:cq (.tup [.str k, .lst (ds.map ba)]) (.int 0) _ _);refine ⟨λz=>⟨kQ, ?_⟩,λz=> ?_⟩
     ·have z:k≠"chance":=by intro e;subst e;exact aaI z (by decide)
      rw [dD z ⟨d,md,hk⟩] at h;exact h
     ·have z:k="chance":=by
       by_cases e:k="chance"
       ·exact e
       ·exact aaI z (by rw [aaK e];decide)
      have Au:=(rk.ok.2.2.1 z).1 d md;have ed:ba d= .tup [.int d.1,Χ d.2.1,Χ (θ d)]:=by unfold ba;rw [Au];rfl
      have d2:∀(M':Ms) (qq:DQ),qq (Χ (θ d)) M'->cq (ba d) (.int 2) M' qq:=λM' qq hq=>υ (d:=ba d) (xs:=[.int d.1,Χ d.2.1,Χ (θ d)]) (by rw [ed];rfl) (Ν (j:=2) rfl) hq;have rd:eu n k done:=eu.sub (by rw [<-e1];exact rk);obtain ⟨l,M_,Gy⟩:=Jb rd z c (aY p y);have Z6:done.length<=12:=rd.ok.2.1;have sc:=rk.sz d md;have st:v7 k (Ω c k done (aY p y)) (θ d)=c7 (Ω c k done (aY p y)) (θ d):=by unfold v7;rw [if_pos z]
      have sn:=dz c k done d (aY p y);rw [aaF hk,st] at sn;obtain ⟨b1,b2,b3⟩:=mq Gy sc;dsimp only [E2];walk_at "vc";refine d2 _ _ ?_;refine JR ?_;refine ⟨⟨oH Gy (by omega),fH sc (by omega)⟩, ?_⟩;refine d2 _ _ ?_;refine N8 ?_;refine ⟨⟨oH sc (by omega),fH Gy (by omega)⟩, ?_⟩;dsimp only [wc];refine d2 _ _ ?_;refine JR ?_;refine ⟨⟨fH Gy (by omega),fH sc (by omega)⟩, ?_⟩;refine ⟨_,_,rfl,b3,bg b2 (by omega), ?_⟩;refine ih _ _ ⟨done++[d],Η,some (ba d),by rw [e1];simp,rfl,λq=>absurd z q,rfl, ?_⟩;rw [sn];rfl
    ·have hk:π c d≠aY p y:=λe=>by obtain ⟨a,b⟩:=cG.mp e;rw [aam a,aam (show c t=y by rw [<-VF];exact b)] at hb;cases hb
     have sn:=dz c k done d (aY p y);rw [aaA hk] at sn;refine ih _ _ ⟨done++[d],Η,some (ba d),by rw [e1];simp,rfl,λq d' df=> ?_,rfl, ?_⟩
     ·rcases aaL.mp df with df | df
      ·exact hn q d' df
      ·have:d'=d:=by simpa using df
       rw [this];exact hk
     ·rw [sn]
  ·obtain ⟨done,Η,o5,e1,e2,hn,rfl,rfl⟩:=hJ;cases Η with
   | cons d Η=>cases e2
   | nil=>
    rw [aaW] at e1;subst e1;exact ⟨kQ,h⟩
def J8:DF:=λas M q _=>∃(r r':Rw) (n:Nat) (c:Nat->Nat) (dc:Dt),as=[ak r,ak r',dc]/\gJ M dc=some (cm n c)/\pP n r/\pP n r'/\kindOf r=kindOf r'/\q (.bl (eT (Ι c r) (Ι c r'))) M
theorem mw:Δ ["_law_one","_law_other","_law_classes","_law_door","_law_pair"] ["_law_one","_law_other","_law_classes"] (χ qU):= .of rfl
theorem yZ(F:eD K "_law_same" "_law_same" qU f fd)(E:Ev K mg Cm){yL:Addr}{y_:FuncData}(fD:aR P w K mg base 4 "_law_part_of" ["_law_row","_law_classes","_law_pair"] JX yL y_):aC P w K mg base (dh P w) 5 f fd ["_law_one","_law_other","_law_classes"] (eh K J8):=by
 refine F.gH mw (λds M q x h=> ?_) (λb8 A outer s H E' hr=>⟨_,(η (aE (da hr (Κ (jv 0) ν) fX) (μ (Γ CQ)) Ξ)
   (η (gW (bu (aK (Κ (jv 0) ν) (Κ (jv 1) ν))) (aw (i:=3) mw.nd rfl (Or.inl rfl)) aO (η (Β 4 mw.nd (aD (ζ (Κ (jv 3) ν) (ζ (Κ (jv 2) (Κ (jv 3) ν)) ε aT) aT)))
   (μ (aE (pC 1 hr (au fD hr ο (ar (jv 0) (ar (jv 2) (ar (jv 4) ε)))) (au fD hr ο (ar (jv 1) (ar (jv 2) (ar (jv 4) ε))))) (μ (Γ CQ)) Ξ))))
   (μ (Γ CQ)))),λds M q x h=> ?_⟩)
 ·obtain ⟨r,r',n,c,dc,rfl,_⟩:=h;rfl
 ·obtain ⟨r,r',n,c,dc,rfl,hc,h1,h2,hk,h⟩:=h;walk_at "vc"
  match r,r',h1,h2,hk,h with
  | .fin p, .ι k es,_,h2,hk,_=>exact aaI hk.symm h2.ok.1
  | .ι k ds, .fin p,h1,_,hk,_=>exact aaI hk h1.ok.1
  | .fin p, .fin p',_,_,_,h=>
   refine (υ (d:= .tup [.str "end",Χ p]) (xs:=[.str "end",Χ p]) rfl Φ ?_:cq (.tup [.str "end",Χ p]) (.int 0) _ _);exact ⟨λ_=>h,λz=>(nomatch z)⟩
  | .ι k ds, .ι k' es,h1,h2,hk,h=>
  have hk:k=k':=hk;subst hk;refine (υ (d:= .tup [.str k, .lst (ds.map ba)]) (xs:=[.str k, .lst (ds.map ba)]) rfl Φ ?_:cq (.tup [.str k, .lst (ds.map ba)]) (.int 0) _ _);refine ⟨λz=>aaI (aaq z) h1.ok.1,λ_=> ?_⟩;have lk:=h1.OF h2 c;have l1:ds.length<=12:=h1.ok.2.1;have l2:es.length<=12:=h2.ok.2.1;dsimp only [xI,cX];walk_at "vc";refine (tM (k:=k) (e:= .lst (ds.map ba)) ?_:cq (.tup [.str k, .lst (ds.map ba)]) (.int 1) M _);refine (tM (k:=k) (e:= .lst (es.map ba)) ?_:cq (.tup [.str k, .lst (es.map ba)]) (.int 1) M _);refine ⟨by rw [aac,aac];exact aax (show _<=24 by omega) (by decide), ?_⟩;rw [<-aao];show ia _ _ _ (λ_=>True) ((ds++es).map ba) [some (ak (.ι k ds)),some (ak (.ι k es)),some dc,none,none] M;have XN:∀d∈ds++es,0<=d.1/\d.1 < n:=λd hd=>by
   rcases aaL.mp hd with hd | hd
   ·exact h1.to d hd
   ·exact h2.to d hd
  generalize GL:ds++es=ab at *
  refine dH (λxs ρ M'=>∃(done Η:List cb) (o3 o4:Option Dt),ab=done++Η/\xs=Η.map ba/\(∀d∈done,Ω c k ds (π c d)=Ω c k es (π c d))/\M'=M/\ρ=[some (ak (.ι k ds)),some (ak (.ι k es)),some dc,o3,o4]) (λ_ _ _ _=>trivial) (λx xs ρ M' hJ ih=> ?_) (λρ M' hJ=> ?_) _ _ _ ⟨[],ab,none,none,rfl,rfl,λ_ z=>(nomatch z),rfl,rfl⟩
  ·obtain ⟨done,Η,o3,o4,e1,e2,hn,rfl,rfl⟩:=hJ;cases Η with
   | nil=>cases e2
   | cons d Η=>
    cases e2;have md:d∈ab:=by rw [e1];simp
    obtain ⟨t0,tn⟩:=XN d md;obtain ⟨t,et⟩:=abE t0;have tl:t < n:=by omega
    have Mv:i9 (cm n c) d.1=some (.int (c t:Nat)):=by rw [et];exact Ν (lQ tl)
    have ek:π c d=aY d.2.1 (c t):=by unfold π aY;rw [et];rfl
    generalize Kd:(ia (gN 3) _ _ _ (Η.map ba):En->Ms->Prop)=Nx at ih⊢;walk_at "vc";refine Ji ?_;refine Di ?_;refine (υ (d:=dc) hc Mv ?_:cq dc (.int d.1) _ _);refine ⟨kQ,k,ds,n,c,dc,_,_,rfl,hc,h1,k,es,n,c,dc,_,_,rfl,hc,h2,_, .inl ⟨_,rfl⟩, .inl ⟨_,rfl⟩,qC _ _,λhb=> ?_,λhb=> ?_⟩
    ·have ne:Ω c k ds (π c d)≠Ω c k es (π c d):=λe=>by rw [ek] at e;rw [aam e] at hb;cases hb
     have:eT (Ι c (.ι k ds)) (Ι c (.ι k es))=false:=by
      cases q:eT (Ι c (.ι k ds)) (Ι c (.ι k es)) with
      | false=>rfl
      | true=>exact aaI (lk.mp q d md) ne
     rw [this] at h;exact h
    ·have eq:Ω c k ds (π c d)=Ω c k es (π c d):=by
      rw [ek];by_cases e:Ω c k ds (aY d.2.1 (c t))=Ω c k es (aY d.2.1 (c t))
      ·exact e
      ·rw [aaK e] at hb;cases hb
     refine ih _ _ ⟨done++[d],Η,_,_,by rw [e1];simp,rfl,λd' df=> ?_,rfl,rfl⟩;rcases aaL.mp df with df | df
     ·exact hn d' df
     ·have:d'=d:=by simpa using df
      rw [this];exact eq
  ·obtain ⟨done,Η,o3,o4,e1,e2,hn,rfl,rfl⟩:=hJ;cases Η with
   | cons d Η=>cases e2
   | nil=>
    rw [aaW] at e1;subst e1;rw [lk.mpr hn] at h;exact h
theorem gj{α:Type}{te:DE}{cs:En}{ok:Ms->Prop}{M:Ms}{k:List Dt->Ms->Prop}{g f:α->Dt}(ho:ok M):∀(es:List α) (af:List Dt),(∀e∈es,∀q:DQ,q (f e) M->te (some (g e)::cs) M q jw)->k (af++es.map f) M->gr te cs ok (es.map g) af M k
 | [],af,_,h=>⟨ho,by simpa using h⟩
 | e::es,af,hf,h=>⟨ho,hf e aak _ (gj ho es _ (λx hx=>hf x (aag _ hx)) (by
   rw [aav] at h
   simpa using h))⟩
def z6:DF:=λas M q _=>∃bs:List Br,as=[.lst (bs.map gI)]/\qx bs/\q (.loc M.length) (M++[.lst ((bs.map ψ).map ak)])
theorem bj:Δ ["_law_base_here","_law_rows","_law_kind","_law_doors","_law_row","_law_whole"] ["_law_base_here"] (χ mH):= .of rfl
theorem wK(F:eD K "_law_first" "_law_first" mH f fd)(E:Ev K mg Cm)(aj:aR P w K mg base 1 "_law_lowest" ["_law_top","_law_bottom"] B5 bY bU):aC P w K mg base (dh P w) 3 f fd ["_law_base_here"] (eh K z6):=by
 refine F.gH bj (λds M q x h=> ?_) (λb8 A outer s H E' hr=>⟨_,(η (Β 1 bj.nd (m8 ε))
   (η (gW (bu (jv 0)) (qP rfl (cf (aw (i:=2) bj.nd rfl (Or.inl rfl)) (cf (aw (i:=3) bj.nd rfl (Or.inl rfl)) lV))) D4 (η (Β 4 bj.nd (aD (ar (jv 2) (ar (jv 3) ε))))
   (η (iX (aE (nB hr (jv 2) fX) (μ (Β 4 bj.nd (aD (ar (jv 2) (ζ (c5 (ys:=[]) (Λ:=[]) (.of bj rfl rfl rfl) (bu (jv 3)) (λC s H fp=>(oB (jv 0) ν))) ε))))) Ξ))
   (η (iX (aE (da hr (jv 2) fX) (η (Β 5 bj.nd (EO E.s_ (ζ (c5 (ys:=[]) (Λ:=[]) (.of bj rfl rfl rfl) (bu (jv 3)) (λC s H fp=>(Κ (jv 0) ν))) ε)))
   (μ (Β 4 bj.nd (aD (ar (jv 2) (ζ (c5 (ys:=["_law_whole"]) (Λ:=[5]) (.of bj rfl rfl rfl) (bu (jv 3)) (λC s H fp=>(aK (oB (jv 0) ν) (aD (ζ (au aj hr (dF (P:=P) (w:=w)) (ζ (Κ (jv 0) ν) (ar (jv 1) ε) aT)) ε bc))))) ε)))))) Ξ))
   (μ (kZ (iW (jv 1) (ar (jv 4) ε))))))))
   (μ (Γ (jv 1))))),λds M q x h=> ?_⟩)
 ·obtain ⟨bs,rfl,_⟩:=h;rfl
 ·obtain ⟨bs,rfl,hb,h⟩:=h;refine ⟨by decide, ?_⟩;dsimp only [xI,cX];walk_at "vc";show ia _ _ _ (λ_=>True) (bs.map gI) [some (.lst (bs.map gI)),some (.loc M.length),none,none,none,none] (M++[.lst []]);refine dH (λxs ρ M'=>∃(done Η:List Br) (o2 o3 o4 o5:Option Dt),bs=done++Η/\xs=Η.map gI/\M'=M++[.lst ((done.map ψ).map ak)]/\ρ=[some (.lst (bs.map gI)),some (.loc M.length),o2,o3,o4,o5]) (λ_ _ _ _=>trivial) (λx xs ρ M' hJ ih=> ?_) (λρ M' hJ=> ?_) _ _ _ ⟨[],bs,none,none,none,none,rfl,rfl,rfl,rfl⟩
  ·obtain ⟨done,Η,o2,o3,o4,o5,e1,e2,rfl,rfl⟩:=hJ;cases Η with
   | nil=>cases e2
   | cons b Η=>
    cases e2;have mb:b∈bs:=by rw [e1];simp
    have KQ:=hb.each b mb;have zw:=hb.zw;have dl:done.length<=12:=by
     have:bs.length=done.length+(b::Η).length:=by rw [e1,aai]
     omega
    generalize Kd:(ia _ _ _ _ (Η.map gI):En->Ms->Prop)=Nx at ih⊢;have ga:(M++[MO.lst ((done.map ψ).map ak)])[M.length]? =some (.lst ((done.map ψ).map ak)):=aF;walk_at "vc";cases b with
    | fin p=>
     refine ⟨kQ,λρ M3=>M3=M++[.lst ((done.map ψ).map ak)]/\ρ=[some (.lst (bs.map gI)),some (.loc M.length),some (.str "end"),some (Χ p),some (ak (.fin p)),o5],⟨λz=>aaI z (by decide),λ_=>⟨rfl,rfl⟩⟩, ?_⟩;rintro ρ3 M3 ⟨rfl,rfl⟩;refine ⟨λρ M3=>M3=M++[.lst ((done.map ψ).map ak)]/\ρ=[some (.lst (bs.map gI)),some (.loc M.length),some (.str "end"),some (Χ p),some (ak (.fin p)),o5],⟨λz=>aaI z (by decide),λ_=>⟨rfl,rfl⟩⟩, ?_⟩;rintro ρ3 M3 ⟨rfl,rfl⟩;refine ⟨⟨_,_,rfl,ga⟩,M.length,_,_,rfl,rfl,ga,by rw [aac,aac];exact aaN dl (by decide), ?_⟩;refine ih _ _ ⟨done++[.fin p],Η,_,_,_,_,by rw [e1];simp,rfl, ?_,rfl⟩;rw [aaZ _ _ (aal _),aa9,aao,aao];rfl
    | oO k xs=>
     obtain ⟨hk,x1,x6,hx⟩:=id KQ;have KW:k≠"end":=λz=>by subst z;rcases hk with hk | hk <;> exact aaI hk (by decide)
     have pt:=jY KQ;obtain ⟨S0,_⟩:=za (o:=λt=>t) pt (0,1) 0;have S1:(fG xs).sum<=2000000:=by rcases pt.JY with z | z <;> omega
     refine ⟨kQ,λρ M3=>M3=M++[.lst ((done.map ψ).map ak)]/\ρ=[some (.lst (bs.map gI)),some (.loc M.length),some (.str k),some (.lst (xs.map bP)),some (.tup [.str k, .lst ((xs.map wI).map ba)]),o5],⟨λz=> ?_,λz=>aaI z (by rw [aaK KW];decide)⟩, ?_⟩
     ·walk_at "vc";dsimp only [iQ];refine aZ (i:=3) (d:= .lst (xs.map bP)) rfl rfl ⟨by rw [aac];exact aax x6 (by decide), ?_⟩;refine gj (f:=λy=>ba (wI y)) (g:=bP) trivial xs [] (λy hy q' hq=> ?_) ?_
      ·exact ⟨_,2,rfl,rfl,by show 2 < 3;decide,hq⟩
      ·refine ⟨kQ,rfl, ?_⟩;rw [aaR,aas];rfl
     rintro ρ3 M3 ⟨rfl,rfl⟩;refine ⟨λρ M3=>M3=M++[.lst ((done.map ψ).map ak)]/\∃o5:Option Dt,ρ=[some (.lst (bs.map gI)),some (.loc M.length),some (.str k),some (.lst (xs.map bP)),some (ak (ψ (.oO k xs))),o5],⟨λz=> ?_,λz=>⟨rfl,o5, ?_⟩⟩, ?_⟩
     ·have z:k="chance":=aaq z;subst z;show cX _ _ _ _ _;refine aZ (i:=3) (d:= .lst (xs.map bP)) rfl rfl ⟨by rw [aac];exact aax x6 (by decide), ?_⟩;refine gj (f:=λy=>Dt.int y.2.2) (g:=bP) trivial xs [] (λy hy q' hq=> ?_) ?_
      ·exact υ (d:=bP y) (xs:=[.int y.1,Χ y.2.1, .int y.2.2]) rfl (Ν (j:=2) rfl) hq
      have ew:[]++xs.map (λy=>Dt.int y.2.2)=(fG xs).map Dt.int:=by rw [aaR,aas];rfl
      rw [ew];refine ⟨fG xs,rfl,⟨_,_,rfl⟩, ?_⟩;walk_at "vc";dsimp only [iQ];refine aZ (i:=3) (d:= .lst (xs.map bP)) rfl rfl ⟨by rw [aac];exact aax x6 (by decide), ?_⟩;refine gj (f:=λy=>ba (kO (fG xs).sum y)) (g:=bP) trivial xs [] (λy hy q' hq=> ?_) ?_
      ·refine ⟨_,2,rfl,rfl,by show 2 < 3;decide, ?_⟩;walk_at "vc";refine (υ (d:=bP y) (xs:=[.int y.1,Χ y.2.1, .int y.2.2]) rfl (Ν (j:=2) rfl) ?_:cq (bP y) (.int 2) _ _);refine ⟨_,_,rfl,S0,bg (k:=24) (by omega),N',⟨by simp,OX⟩,hq⟩
      ·refine ⟨kQ,rfl,some (.int (fG xs).sum), ?_⟩;rw [aaR];show _=[_,_,_,_,some (Dt.tup [.str "chance", .lst ((if Str.ofString "chance"="chance" then xs.map (kO (fG xs).sum) else xs.map wI).map ba)]),_];rw [aaF rfl,aas];rfl
     ·have z:k≠"chance":=λe=>by rw [aam e] at z;cases z
      show _=[_,_,_,_,some (Dt.tup [.str k, .lst ((if k="chance" then xs.map (kO (fG xs).sum) else xs.map wI).map ba)]),_];rw [aaA z]
     rintro ρ3 M3 ⟨rfl,o5,rfl⟩;refine ⟨⟨_,_,rfl,ga⟩,M.length,_,_,rfl,rfl,ga,by rw [aac,aac];exact aaN dl (by decide), ?_⟩;refine ih _ _ ⟨done++[.oO k xs],Η,_,_,_,_,by rw [e1];simp,rfl, ?_,rfl⟩;rw [aaZ _ _ (aal _),aa9,aao,aao];rfl
  ·obtain ⟨done,Η,o2,o3,o4,o5,e1,e2,rfl,rfl⟩:=hJ;cases Η with
   | cons d Η=>cases e2
   | nil=>
    rw [aaW] at e1;subst e1;exact h
def nY(τ:Nat->Nat)(d:cb):cb:=(((τ d.1.toNat:Nat):Int),d.2.1,d.2.2)
def zp(τ:Nat->Nat):Rw->Rw
 | .fin p=> .fin p
 | .ι k ds=> .ι k (ds.map (nY τ))
def EL:DF:=λas M q _=>∃(r s:Rw) (kd n:Nat) (τ:Nat->Nat) (ks:List Key) (vs:List Dt),as=[ak r,ak s, .loc kd]/\M[kd]? =some (.jF ks vs)/\(∀t:Nat,t < n->aI ks vs (.inl (t:Int))=some (.int (τ t:Nat)))/\br r s=true/\pP n r/\pP 12 (zp τ r)/\pP 12 s/\∀E,q (.bl (eT (Ι (λt=>t) (zp τ r)) (Ι (λt=>t) s))) (M++E)
theorem qT:Δ ["_law_one","_law_other","_law_classes"] ["_law_one","_law_other","_law_classes"] (χ nc):= .of rfl
theorem xG(F:eD K "_law_alike" "_law_alike" nc f fd)(E:Ev K mg Cm){DY:Addr}{DM:FuncData}(mI:aR P w K mg base 5 "_law_same" ["_law_one","_law_other","_law_classes"] J8 DY DM):aC P w K mg base (dh P w) 6 f fd ["_law_one","_law_other","_law_classes"] (eh K EL):=by
 refine F.gH qT (λds M q x h=> ?_) (λb8 A outer s H E' hr=>⟨_,(η (aE (nB hr (Κ (jv 0) ν) (Κ (jv 1) ν)) (μ (Γ CQ)) Ξ)
   (η (aE (da hr (Κ (jv 0) ν) fX) (μ (Γ (Pq 1 hr (Κ (jv 0) ν) (Κ (jv 1) ν)))) Ξ)
   (μ (Γ (au mI hr ο (ζ (aD (ζ (Κ (jv 0) ν) (ζ (c5 (ys:=["_law_classes"]) (Λ:=[2]) (.of qT rfl rfl rfl) (bu (Κ (jv 0) ν)) (λC s H fp=>(aK (aD (ζ (Dr hr (jv 1) (Κ (jv 0) ν)) ε aT)) (B2 (jv 0) ν)))) ε) aT)) (ar (jv 1) (ζ (oS E.gX E.aQ (ζ ν ε bb)) ε bc)) iM)))))),λds M q x h=> ?_⟩)
 ·obtain ⟨r,s,kd,n,τ,ks,vs,rfl,_⟩:=h;rfl
 ·obtain ⟨r,s,kd,n,τ,ks,vs,rfl,gd,hg,e,h1,h2,h3,h⟩:=h
  match r,s,e,h1,h2,h3,h with
  | .fin p, .fin p',e,_,_,_,h=>
   have e:p=p':=aaq e;subst e;have h:=h [];rw [aaW] at h;walk_at "vc";refine (υ (d:= .tup [.str "end",Χ p]) (xs:=[.str "end",Χ p]) rfl Φ ?_:cq (.tup [.str "end",Χ p]) (.int 0) _ _);refine (υ (d:= .tup [.str "end",Χ p]) (xs:=[.str "end",Χ p]) rfl Φ ?_:cq (.tup [.str "end",Χ p]) (.int 0) _ _);refine ⟨λz=>aaI z (by decide),λ_=> ?_⟩;refine (υ (d:= .tup [.str "end",Χ p]) (xs:=[.str "end",Χ p]) rfl Φ ?_:cq (.tup [.str "end",Χ p]) (.int 0) _ _);refine ⟨λ_=> ?_,λz=>aaI z (by decide)⟩;refine (tM (k:="end") (e:=Χ p) ?_:cq (.tup [.str "end",Χ p]) (.int 1) M _);refine (tM (k:="end") (e:=Χ p) ?_:cq (.tup [.str "end",Χ p]) (.int 1) M _);exact ⟨_, .inl ⟨_,rfl⟩, .inl ⟨_,rfl⟩,qC _ _,by rw [aam rfl];exact h⟩
  | .ι k ds, .ι l es,e,h1,h2,h3,h=>
   have e:k=l:=aaq e;subst e;have KW:k≠"end":=h1.ok.1;have Hn:ds.length<=12:=h1.ok.2.1;walk_at "vc";refine (υ (d:= .tup [.str k, .lst (ds.map ba)]) (xs:=[.str k, .lst (ds.map ba)]) rfl Φ ?_:cq (.tup [.str k, .lst (ds.map ba)]) (.int 0) _ _);refine (υ (d:= .tup [.str k, .lst (es.map ba)]) (xs:=[.str k, .lst (es.map ba)]) rfl Φ ?_:cq (.tup [.str k, .lst (es.map ba)]) (.int 0) _ _);refine ⟨λz=>aaI z (by rw [aam rfl];decide),λ_=> ?_⟩;refine (υ (d:= .tup [.str k, .lst (ds.map ba)]) (xs:=[.str k, .lst (ds.map ba)]) rfl Φ ?_:cq (.tup [.str k, .lst (ds.map ba)]) (.int 0) _ _);refine ⟨λz=>aaI (aaq z) KW,λ_=> ?_⟩;refine (υ (d:= .tup [.str k, .lst (ds.map ba)]) (xs:=[.str k, .lst (ds.map ba)]) rfl Φ ?_:cq (.tup [.str k, .lst (ds.map ba)]) (.int 0) _ _);dsimp only [iQ,cX];walk_at "vc";refine (tM (k:=k) (e:= .lst (ds.map ba)) ?_:cq (.tup [.str k, .lst (ds.map ba)]) (.int 1) M _);show (_<=sizeLine/\_);refine ⟨by rw [aac];exact aax Hn (by decide), ?_⟩;refine gj (f:=λd=>ba (nY τ d)) (g:=ba) trivial ds [] (λd hd q' hq=> ?_) ?_
   ·obtain ⟨t0,tn⟩:=h1.to d hd;obtain ⟨t,et⟩:=abE t0;have tl:t < n:=by omega
    have Xh:aI ks vs (.inl d.1)=some (.int (τ d.1.toNat:Nat)):=by rw [et];exact hg t tl
    walk_at "vc"
    try dsimp only [AY,OA]
    try walk_at "vc"
    refine Di ?_;refine ⟨kd,ks,vs, .inl d.1,_,rfl,gd,rfl,Xh,N', .int d.1::Χ d.2.1::d.2.2.map Χ,1,rfl,rfl,aal _,Nat.succ_le_succ (abA _), ?_⟩;have l1:=h1.ok.2.2.2 d hd;exact ⟨⟨by simp,by simp only [List.drop_succ_cons,List.drop_zero,List.length_cons,List.length_nil,List.length_map];exact Nat.le_trans (show _<=14 by omega) (by decide)⟩,hq⟩
   ·refine ⟨kQ,12,rfl,by decide, ?_⟩;have ga:∀E,gJ (M++[MO.lst ((bI 12).map Dt.int)]++E) (.loc M.length)=some (cm 12 (λt=>t)):=λE=>by rw [eN (bO aF)];unfold bI cm;rw [aas];rfl
    have ga:=ga [];rw [aaW] at ga;refine ⟨zp τ (.ι k ds), .ι k es,12,λt=>t, .loc M.length, ?_,ga,h2,h3,rfl,h [.lst ((bI 12).map Dt.int)]⟩;rw [aaR];show _=[Dt.tup [.str k, .lst ((ds.map (nY τ)).map ba)],_,_];rw [aas];rfl
  | .fin _, .ι _ _,e,_,_,_,_=>exact (nomatch e)
  | .ι _ _, .fin _,e,_,_,_,_=>exact (nomatch e)
abbrev a_(γ:List Rw)(m i:Nat):Nat:=(fW γ m).idxOf (bM γ (m - 1) i)
theorem v_(γ:List Rw)(m:Nat):∀t,t < γ.length->bM γ (m - 1) t∈fW γ m:=λt ht=>by have hc:=fV γ (m - 1);exact N51.aH.mpr ⟨by have:=hc.le t ht;omega,hc.fx t ht⟩
theorem AZ{γ:List Rw}(hi:i < γ.length)(hj:j < γ.length):a_ γ m i=a_ γ m j↔bM γ (m - 1) i=bM γ (m - 1) j:=
 ⟨λz=>vE (v_ γ m i hi) (v_ γ m j hj) z,λz=>by unfold a_;rw [z]⟩
theorem lT(γ:List Rw)(m:Nat):(ξ γ m).length=(fW γ m).length:=aac ..
theorem AK{sh:Fr}{γ:List Rw}(fl:Rb sh γ):Fk (ξ γ m)/\(∀r∈ξ γ m,zc (ξ γ m).length r)/\1<=(ξ γ m).length:=by
 have el:=lT γ m;have Hn:(fW γ m).length<=12:=aax (N51.oI _ _) fl.NN.len;have jf:∀r∈ξ γ m,zc (ξ γ m).length r:=λr hr=>by rw [el];obtain ⟨t,ht,rfl⟩:=aaf.mp hr;have hm:=N51.aH.mp ht;refine wH (n:=γ.length) (fl.fit _ ?_) (v_ γ m);rw [aan,aaa hm.1];exact aap _
 exact ⟨Dc (by omega) jf,jf,by rw [el];exact abt (v_ γ m 0 fl.n1)⟩
theorem zd{A B:List Rw}{f:Nat->Nat}(b:CL A B f)(fA:Fk A)(fB:Fk B)(hi:i < A.length)(hj:j < A.length):a_ A m i=a_ A m j↔a_ B m (f i)=a_ B m (f j):=by rw [AZ hi hj,AZ (b.lt i hi) (b.lt j hj),b.bM fA fB _ i j hi hj]
theorem mD{γ:List Rw}(hi:i < γ.length):a_ γ m i < (ξ γ m).length:=by rw [lT];exact gM (v_ γ m i hi)
theorem iy{γ:List Rw}(j:Nat)(hj:j < (ξ γ m).length):∃i,i < γ.length/\a_ γ m i=j:=by rw [lT] at hj;have hm:=N51.aH.mp (aap hj);refine ⟨(fW γ m)[j],hm.1, ?_⟩;show (fW γ m).idxOf (bM γ (m - 1) (fW γ m)[j])=j;rw [hm.2];exact List.Nodup.idxOf_getElem ((lU _ _).imp λh=>aaM h) j hj
theorem wq(nd:l.Nodup)(lt:∀x∈l,x < n)(all:∀x,x < n->x∈l):l.Perm (List.range n):=
 (List.perm_ext_iff_of_nodup nd List.nodup_range).mpr λx=>by rw [aaP];exact ⟨lt x,all x⟩
theorem zq(p:l.Perm (List.range n))(q:ns.Perm (l.map λx:Nat=>(x:Int)))(s:ns.Pairwise (· <= ·)):ns=bI n:=by
 have p2:ns.Perm (bI n):=q.trans (p.map _);have nd:(bI n).Nodup:=by unfold bI;exact List.pairwise_map.mpr (List.pairwise_lt_range.imp λh=>by omega)
 refine zQ ?_ ?_ λx=>p2.mem_iff
 ·refine List.Pairwise.imp (λh=> ?_) (List.Pairwise.and s (p2.nodup_iff.mpr nd));obtain ⟨h1,h2⟩:=h;omega
 ·unfold bI;exact List.pairwise_map.mpr (List.pairwise_lt_range.imp λh=>by omega)
theorem tH{f:Nat->Bool}(h:∀j,f j=true):l.all f=true:=aa5.mpr λj _=>h j
theorem qo(i:Int):jz M n (.int i) (.int i) true:=by have:=jz.flat (M:=M) (n:=n) (d:= .int i) (e:= .int i) rfl rfl;rwa [show gb (V.int i) (V.int i)=true by unfold gb;simp] at this
theorem Ey(h:∀d∈ds,jz M n d d true):jz M (n+1) (.tup ds) (.tup ds) true:=by
 have:=jz.tup (M:=M) (n:=n) (ds:=ds) (es:=ds) (f:=λ_=>true) λj d e h1 h2=>by rw [h1] at h2;cases h2;exact h d (aaD h1)
 rwa [tH λ_=>rfl,beq_self_eq_true] at this
theorem wA(h1:fU M d=some ds)(h2:fU M e=some ds)(h:∀d∈ds,jz M n d d true):jz M (n+1) d e true:=by
 have:=jz.lst (M:=M) (n:=n) (d:=d) (e:=e) (f:=λ_=>true) h1 h2 rfl λj d e h1 h2=>by rw [h1] at h2;cases h2;exact h d (aaD h1)
 rwa [tH λ_=>rfl] at this
theorem G_(p:Fr):jz M (n+1) (Χ p) (Χ p) true:=Ey λd hd=>by have hd:d∈[Dt.int p.1,Dt.int p.2]:=hd;simp only [List.mem_cons,List.not_mem_nil,or_false] at hd;rcases hd with rfl | rfl <;> exact qo _
theorem mW{E:Ms}{n:Nat}:∀(γ:List Rw) (j:Nat),(∀i m,(ig γ)[i]? =some m->E[j+i]? =some m)->gA n E (jM (n+j) γ) (γ.map ak)
 | [],_,_=> .nil
 | .fin p::r,j,h=> .cons (.old (oR (.fin p))) (mW r j h)
 | .ι k ds::r,j,h=> .cons (.tup (.cons (.old trivial) (.cons (.A8 (Nat.le_add_right _ _) (by rw [abD];exact h 0 _ rfl) (gA.old (gT ds))) .nil))) (mW r (j+1) λi m e=>by rw [show j+1+i=j+(i+1) by omega];exact h (i+1) m e)
theorem D9(γ:List Rw)(M:Ms)(x:MO):gA M.length (ig γ++[x]) (jM M.length γ) (γ.map ak):=
 mW γ 0 λi m e=>by rw [Nat.zero_add,aaJ (aad.mp e).1];exact e
theorem we{q:DQ}{γ:List Rw}(h:q (.lst (γ.map ak)) M):uu M q (.loc (M.length+(ig γ).length)) (M++ig γ++[.lst (jM M.length γ)]):=by rw [abj];exact mz (d':= .lst (γ.map ak)) (.A8 (Nat.le_add_right _ _) (by simp) (D9 γ M _)) h
theorem DR{r:Rw}(hr:pP n r)(h:∀t,t < n->c t=c' t)(x:NK):tt c r x=tt c' r x:=by
 cases r with
 | fin p=>rfl
 | ι k ds=>
  have hr:eu n k ds:=hr;refine oZ ds λd hd=> ?_;have:=hr.to d hd;have e:π c d=π c' d:=by rw [gB,gB,h _ (by omega)]
  rw [e]
theorem Hx(τ:Nat->Nat)(r:Rw)(x:NK):tt (λt=>t) (zp τ r) x=tt τ r x:=by
 cases r with
 | fin p=>rfl
 | ι k ds=>
  show Ω (λt=>t) k (ds.map (nY τ)) x=Ω τ k ds x;unfold Ω;have:vZ (λt=>t) (ds.map (nY τ))=vZ τ ds:=by
   unfold vZ;rw [aas];refine aaS λd _=> ?_;show (π (λt=>t) (nY τ d),θ (nY τ d))=(π τ d,θ d);have e:π (λt=>t) (nY τ d)=π τ d:=by rw [gB,gB];show aY d.2.1 (((τ d.1.toNat:Nat):Int).toNat)=_;rw [aa6]
   rw [e];rfl
  rw [this]
theorem pP.mono{n':Nat}{r:Rw}(h:pP n r)(l:n<=n'):pP n' r:=by
 cases r with
 | fin p=>exact h
 | ι k ds=>
  have h:eu n k ds:=h;exact (⟨h.ok,λd hd=>by have:=h.to d hd;omega,h.sz,h.pos⟩:eu n' k ds)
theorem pP.PJ{n':Nat}{r:Rw}{τ:Nat->Nat}(h:pP n r)(l:∀t,t < n->τ t < n'):pP n' (zp τ r):=by
 cases r with
 | fin p=>exact h
 | ι k ds=>
  have h:eu n k ds:=h;have ec:(ds.map (nY τ)).map θ=ds.map θ:=by rw [aas];rfl
  have mem:∀d∈ds.map (nY τ),∃e∈ds,d=nY τ e:=λd hd=>by obtain ⟨e,he,rfl⟩:=aaf.mp hd;exact ⟨e,he,rfl⟩
  refine (⟨⟨h.ok.1,by rw [aac];exact h.ok.2.1,λhk=>⟨λd hd=> ?_,by rw [ec];exact (h.ok.2.2.1 hk).2⟩,λd hd=> ?_⟩,λd hd=> ?_,λd hd=> ?_,λhk d hd=> ?_⟩:eu n' k (ds.map (nY τ)))
  all_goals obtain ⟨e,he,rfl⟩:=mem d hd
  ·exact (h.ok.2.2.1 hk).1 e he
  ·exact h.ok.2.2.2 e he
  ·have a:=h.to e he;have b:=l e.1.toNat (by omega);show (0:Int)<=((τ e.1.toNat:Nat):Int)/\((τ e.1.toNat:Nat):Int) < n';omega
  ·exact h.sz e he
  ·exact h.pos hk e he
theorem BX(τ:Nat->Nat)(r:Rw):br (zp τ r) r=true:=by
 cases r with
 | fin p=>exact aam rfl
 | ι k ds=>exact aam rfl
theorem vP{A B:List Rw}{f:Nat->Nat}(b:CL A B f)(fA:Fk A)(fB:Fk B)(II:Fk (ξ A m))(F_:Fk (ξ B m))(sA:kN A m)(sB:kN B m){τ:Nat->Nat}(hτ:∀t,t < A.length->τ (a_ A m t)=a_ B m (f t))(lτ:∀t,t < (ξ A m).length->τ t < 12)(hi:i < A.length)(h1:a_ A m i < (ξ A m).length)(h2:a_ B m (f i) < (ξ B m).length):br (ξ A m)[a_ A m i] (ξ B m)[a_ B m (f i)]=true/\eT (Ι (λt=>t) (zp τ (ξ A m)[a_ A m i])) (Ι (λt=>t) (ξ B m)[a_ B m (f i)])=true:=by have bA:=q_ fA II sA;have bB:=q_ fB F_ sB;have VI:=b.lt i hi;obtain ⟨a1,a2⟩:=bA.rel i hi h1;obtain ⟨b1,b2⟩:=b.rel i hi VI;obtain ⟨c1,c2⟩:=bB.rel (f i) VI h2;have s:br (ξ A m)[a_ A m i] (ξ B m)[a_ B m (f i)]=true:=aX (i_ a1) (aX b1 c1);refine ⟨s, ?_⟩;have kA:pP (ξ A m).length (ξ A m)[a_ A m i]:=II.rk _ (aap h1);have kB:pP 12 (ξ B m)[a_ B m (f i)]:=(F_.rk _ (aap h2)).mono F_.fl.len;rw [jc (cK _ _) (cK _ _),uG (n:=12) (kA.PJ lτ) kB _ (aX (BX τ _) s)];intro x;have e1:=a2 τ x;have e2:=b2 (a_ B m) x;have e3:=c2 (λt=>t) x;rw [Hx];refine (e1.symm.trans ?_).trans (e2.trans e3);exact DR (fA.rk _ (aap hi)) hτ x
theorem pT{α:Type}{te:DE}{cs:En}{M:Ms}{f:α->Dt}(Q:Nat->α->Prop){k:List Dt->Ms->Prop}:∀(n lo:Nat) (af:List α),af.length=lo->(∀i (h:i < af.length),Q i af[i])->(∀i,lo<=i->i < lo+n->∀q:DQ,(∀a,Q i a->q (f a) M)->te (some (.int (i:Nat))::cs) M q jw)->(∀ys:List α,ys.length=lo+n->(∀i (h:i < ys.length),Q i ys[i])->k (ys.map f) M)->jG te cs (bL (lo:Int) n) (af.map f) M k
 | 0,lo,af,hl,ha,_,h=>h af (by omega) ha
 | n+1,lo,af,hl,ha,ht,h=>by
  have e:bL (lo:Int) (n+1)= .int (lo:Nat)::bL ((lo+1:Nat):Int) n:=by
   unfold bL;rw [abh,aav,aas];refine congr (aa2 List.cons (aa2 Dt.int (by omega))) (aaS λk _=> ?_);show Dt.int ((lo:Int)+((k+1:Nat):Int))=Dt.int (((lo+1:Nat):Int)+(k:Int))
   congr 1;omega
  rw [e];refine ht lo (aal _) (by omega) _ λa hq=> ?_;have e2:af.map f++[f a]=(af++[a]).map f:=by simp
  rw [e2];refine pT Q n (lo+1) (af++[a]) (by simp [hl]) (λi hi=> ?_) (λi h1 h2=>ht i (by omega) (by omega)) λys hy=>h ys (by omega);rcases aa8 i af.length with z | z
  ·rw [List.getElem_append_left z];exact ha i z
  ·have:i=af.length:=by simp at hi;omega
   subst this;rw [List.getElem_append_right (aal _)];simp only [Nat.sub_self,List.getElem_cons_zero];rw [hl];exact hq
theorem lY{f g:Nat->Nat}:∀(idx:List Nat) (i:Nat),(∀j∈idx,f j=f i->g j=g i)->(f i∈idx.map f->aI (idx.map λj=>(.inl ((f j:Nat):Int):Key)) ((idx.map λj=>((g j:Nat):Int)).map Dt.int) (.inl ((f i:Nat):Int))=some (.int (g i:Nat)))/\(f i∉idx.map f->aI (idx.map λj=>(.inl ((f j:Nat):Int):Key)) ((idx.map λj=>((g j:Nat):Int)).map Dt.int) (.inl ((f i:Nat):Int))=none)
 | [],i,_=>⟨λz=>(nomatch z),λ_=>rfl⟩
 | j::idx,i,h=>by
  obtain ⟨a,b⟩:=lY idx i λx hx=>h x (aag _ hx);have e:aI ((j::idx).map λj=>(.inl ((f j:Nat):Int):Key)) (((j::idx).map λj=>((g j:Nat):Int)).map Dt.int) (.inl ((f i:Nat):Int))=if (.inl ((f j:Nat):Int):Key)= .inl ((f i:Nat):Int) then some (.int (g j:Nat)) else aI (idx.map λj=>(.inl ((f j:Nat):Int):Key)) ((idx.map λj=>((g j:Nat):Int)).map Dt.int) (.inl ((f i:Nat):Int)):=by
   unfold aI;rw [aav,aav,aav,aaU,List.find?_cons];by_cases q:(.inl ((f j:Nat):Int):Key)= .inl ((f i:Nat):Int)
   ·rw [aaF q,aam q];rfl
   ·rw [aaA q,aaK q]
  rw [e];have ki:((.inl ((f j:Nat):Int):Key)= .inl ((f i:Nat):Int))↔f j=f i:=⟨λz=>by have:=Sum.inl.inj z;omega,λz=>by rw [z]⟩;by_cases q:f j=f i
  ·rw [aaF (ki.mpr q),h j aak q];exact ⟨λ_=>rfl,λz=>aaI (by rw [aav,q];exact aak) z⟩
  ·rw [aaA λz=>q (ki.mp z)];refine ⟨λz=>a ?_,λz=>b λy=>z ?_⟩
   ·rw [aav] at z;rcases aaB.mp z with z | z
    ·exact aaI z.symm q
    ·exact z
   ·rw [aav];exact aag _ y
theorem uV{a:Dt}{q:DQ}(h:q e M):cq (.tup [a,e]) (.int 1) M q:=υ (xs:=[a,e]) rfl (Ν (j:=1) rfl) h
theorem fb:Δ ["_law_script","_law_base_here","_law_origin_here","_law_some","_law_copies","_law_first_here","_law_second","_law_turned_to","_law_place","_law_one","_law_size","_law_made"] ["_law_script"] (χ LW):= .of rfl
theorem MK(F:eD K "law" "law" LW f fd)(E:Ev K mg Cm){Dz:Addr}{Gg:FuncData}(ma:aR P w K mg base 6 "_law_base" ["_law_script"] JG Dz Gg){yj:Addr}{zb:FuncData}(iu:aR P w K mg base 4 "_law_origin" ["_law_script","_law_many"] A4 yj zb)(aj:aR P w K mg base 1 "_law_lowest" ["_law_top","_law_bottom"] B5 bY bU)(Μ:aR P w K mg base 2 "_law_number" ["_law_script","_law_k"] xE bT b6){j3:Addr}{kg:FuncData}(ck:HJ P w K mg base 5 "Floor" Cm ["self","share","rows"] (EN Cm) j3 kg){Ek:Addr}{EZ:FuncData}(ng:aR P w K mg base 6 "_law_copy" ["_law_script","_law_base_here","_law_origin_here","_law_place"] JZ Ek EZ){BR:Addr}{Cg:FuncData}(h_:aR P w K mg base 11 "together" ["floor"] (sN Cm) BR Cg){Bm:Addr}{Cw:FuncData}(kh:aR P w K mg base 3 "_law_first" ["_law_base_here"] z6 Bm Cw)(aW:fh P w K mg base 1 Cm "size" ["self"] (z7 Cm) eV eY){iw:Addr}{iK:FuncData}(cx:fh P w K mg base 1 Cm "share" ["self"] (zN Cm) iw iK){uK:Addr}{vL:FuncData}(gh:aR P w K mg base 9 "parted" ["floor"] (vk Cm) uK vL){Cb:Addr}{BF:FuncData}(kn:aR P w K mg base 6 "_law_alike" ["_law_one","_law_other","_law_classes"] EL Cb BF){yA:Addr}{yg:FuncData}(fo:fh P w K mg base 2 Cm "rows" ["self"] (Ju Cm) yA yg):aC P w K mg base (dh P w) 12 f fd ["_law_script"] (eh K Mh):=by
 refine F.gH fb (λds M q x h=> ?_) (λb8 A outer s H E' hr=>⟨_,(η (Β 1 fb.nd (dR (au ma hr ο (ar (jv 0) ε))))
   (η (Β 2 fb.nd (au iu hr ο (ar (jv 0) (ζ (dU E.cF (ar (jv 1) ε)) ε bc))))
   (η (Β 3 fb.nd (au aj hr ο (ζ (bf (au Μ hr ο (ar (jv 0) (ζ ν ε bb))) ν) (ζ ν ε bb) bJ)))
   (η (Β 4 fb.nd (dR (zo ck hr ο (ar (jv 3) (ζ (tY (ys:=["_law_script","_law_base_here","_law_origin_here"]) (Λ:=[0,1,2]) (.of fb rfl rfl rfl) (bN E.aQ (ζ (dU E.cF (ar (jv 2) ε)) ε bc)) (λC s H fp=>(dR (au ng hr (dF (P:=P) (w:=w)) (ar (jv 1) (ar (jv 2) (ar (jv 3) (ar (jv 0) ε)))))))) ε)))))
   (η (Β 5 fb.nd (au h_ hr ο (ζ (dR (zo ck hr ο (ar (jv 3) (ζ (dR (au kh hr ο (ar (jv 1) ε))) ε bc)))) ε bc)))
   (η (Β 6 fb.nd (au h_ hr ο (ar (jv 4) ε)))
   (η (Β 7 fb.nd Dm)
   (η (ku (bN E.aQ (ζ (dU E.cF (ar (jv 2) ε)) ε bc)) (aw (i:=8) fb.nd rfl (Or.inl rfl)) aO (η (Β 9 fb.nd (Κ (Κ (jv 6) ν) (jv 8)))
   (μ (aE (nB hr (GW (jv 7) (jv 9) (Κ (Κ (jv 5) ν) (Κ (jv 2) (jv 8)))) (Κ (Κ (jv 5) ν) (Κ (jv 2) (jv 8)))) (μ (Γ CQ)) Ξ))))
   (η (Β 10 fb.nd (fK aW hr ο (Κ (jv 5) ν)))
   (η (aE (JW.jt (Ag (nB hr (fK aW hr ο (Κ (jv 6) ν)) (jv 10)) (vR (pC 1 hr (EK E.iR (ζ (IQ (ys:=["_law_turned_to"]) (Λ:=[7]) (.of fb rfl rfl rfl) (jv 7) (λC s H fp=>(Dg (P:=P) (w:=w) (jv 1) (jv 0)))) ε)) (oS E.gX E.aQ (ar (jv 10) ε)))))) (μ (Γ CQ)) Ξ)
   (η (gW (bu (nD (ζ (Κ (jv 5) ν) (ζ (Κ (jv 6) ν) ε aT) aT))) (aw (i:=11) fb.nd rfl (Or.inl rfl)) aO (μ (aE (JW.jt (Ag (pC 1 hr (Κ (au gh hr ο (ar (jv 11) ε)) (sD ν)) (oS E.gX E.aQ (ar (jv 10) ε))) (vR (pC 1 hr (fK cx hr ο (jv 11)) (jv 3))))) (μ (Γ CQ)) Ξ)))
   (η (ku (bN E.aQ (ar (jv 10) ε)) (aw (i:=9) fb.nd rfl (Or.inl rfl)) aO (μ (aE (zr (jZ (au kn hr ο (ζ (Κ (dR (fK fo hr ο (Κ (jv 6) ν))) (jv 9)) (ζ (Κ (dR (fK fo hr ο (Κ (jv 5) ν))) (Dr hr (jv 7) (jv 9))) (ar (jv 7) ε) aT) aT)))) (μ (Γ CQ)) Ξ)))
   (μ (Γ (Pm hr (Kj E.cF (ar (jv 7) ε)) (jv 10)))))))))))))))),λds M q x h=> ?_⟩)
 ·obtain ⟨ns,rfl,_⟩:=h;rfl
 ·obtain ⟨ns,rfl,h⟩:=h;refine ⟨ns,rfl,λbs E0 d hb fz=>⟨E0,_,rfl,fz, ?_⟩⟩;have zw:=hb.zw;have n1:=hb.n1;walk_at "vc";refine (aL (d:= .lst (bs.map gI)) (xs:=bs.map gI) rfl ?_:iF [.lst (bs.map gI)] _ _);rw [aac];refine ⟨ns,bs.length,rfl,n1,zw,λos ho=> ?_⟩;have o1:=ho.n1;have Qh:=ho.zw;refine ⟨ns,3,rfl,by decide,by decide,λn hn=>⟨by decide,_,_,rfl,by decide,bg (k:=12) (by decide), ?_⟩⟩;have NH:=zC (t:=n % 7) (b:=7) (aaT _ (by decide)) (aaV _ (by decide)) (by decide);generalize ae (n % 7) 7=sh at *
  dsimp only [JL];walk_at "vc";dsimp only [qd,Ca];refine RB (d:= .lst (os.map Dt.int)) (xs:=os.map Dt.int) rfl rfl ?_;rw [aac];refine ⟨⟨by omega,by omega⟩,by rw [eW];exact aax (show _<=12 by omega) (by decide), ?_⟩;have cv:bL 0 ((os.length:Int)).toNat=bL ((0:Nat):Int) os.length:=by rw [aa6];rfl
  show jG _ _ (bL 0 ((os.length:Int)).toNat) ([].map ak) _ _;rw [cv];refine pT (f:=ak) (λi r=>KH os.length r/\∃b,bs[oF os i]? =some b/\rm os b r) os.length 0 [] rfl (λ_ z=>absurd z (by simp)) (λi _ hi q' hq=> ?_) λγ La UO=> ?_
  ·exact ⟨ns,bs,os,i,rfl,hb,ho,by omega,λr E b eb hr cp=>mz (.old (oR r)) (hq r ⟨hr,b,eb,cp⟩)⟩
  rw [Nat.zero_add] at La;have ZH:FK bs os γ:=⟨La,λi hi=>(UO i hi).2⟩;have TM:∀r∈γ,zc γ.length r:=λr hr=>by obtain ⟨i,hi,rfl⟩:=List.mem_iff_getElem.mp hr;rw [La];exact (UO i hi).1.fit
  have KR:Fk γ:=Dc (by omega) TM;have UN:Rb sh γ:=⟨KR.fl,TM,by omega,NH⟩;have lB:(bs.map ψ).length=bs.length:=aac ..;have R5:∀r∈bs.map ψ,zc (bs.map ψ).length r:=λr hr=>by obtain ⟨b,ZW,rfl⟩:=aaf.mp hr;rw [lB];exact (FZ (hb.each b ZW)).fit
  have NO:Fk (bs.map ψ):=Dc (by omega) R5;have VU:Rb sh (bs.map ψ):=⟨NO.fl,R5,by omega,NH⟩;have Jo:=C8 hb ho ZH KR NO;refine ⟨M.length, .lst (γ.map ak),sh,γ.map ak,γ,λ_=>True,rfl,aF,rfl,k7 γ,NH,by omega,by omega,λr hr=>(TM r hr).good,rfl,qE ?_⟩;refine ⟨bs,rfl,hb,iO (tX _) ?_⟩;refine ⟨M.length, .lst ((bs.map ψ).map ak),sh,(bs.map ψ).map ak,bs.map ψ,λ_=>True,rfl,aF,rfl,k7 _,NH,by omega,by omega,λr hr=>(R5 r hr).good,rfl,qE ?_⟩;refine ⟨sh,bs.map ψ,rfl,VU,λm v8 M1 Sk x1 lw1 Ri=> ?_⟩;refine ⟨sh,γ,rfl,UN,λm2 x9 M2 O4 x2 lw2 UR=> ?_⟩;have em:=Sk.uniq (Jo.stop KR NO O4);subst em;have Ri:=x2 _ _ Ri;have wg:∀(rs:List Rw) (j:Nat),j < rs.length->(sU (DW rs m))[j]? =some (.int ((a_ rs m j:Nat):Int)):=λrs j hj=>by unfold sU DW;rw [aaj,aaj,aa0 hj];rfl
  have kb1:=(aad.mp Ri).1;have kb2:=(aad.mp UR).1;have one:∀i j,i < γ.length->j < γ.length->(a_ γ m i=a_ γ m j↔a_ (bs.map ψ) m (oF os i)=a_ (bs.map ψ) m (oF os j)):=λi j hi hj=>zd Jo KR NO hi hj;walk_at "vc";refine (aL (d:= .lst (os.map Dt.int)) (xs:=os.map Dt.int) rfl ?_:iF [.lst (os.map Dt.int)] _ _);rw [aac];refine ⟨⟨by omega,by omega⟩, ?_⟩;refine d7 (λzs ρ M3=>∃(n k:Nat) (idx:List Nat) (o8 o9:Option Dt),zs=bL k n/\k+n=os.length/\(idx.map (a_ γ m)).Nodup/\(∀i∈idx,i < k)/\(∀i,i < k->a_ γ m i∈idx.map (a_ γ m))/\M3=M2++[.jF (idx.map λj=>(.inl ((a_ γ m j:Nat):Int):Key)) ((idx.map λj=>((a_ (bs.map ψ) m (oF os j):Nat):Int)).map Dt.int)]/\ρ=[some (.dM ns),some (.lst (bs.map gI)),some (.lst (os.map Dt.int)),some (Χ sh),some (Ε Cm sh γ),some (.tup [Ε Cm sh (ξ (bs.map ψ) m), .loc v8]),some (.tup [Ε Cm sh (ξ γ m), .loc x9]),some (.loc M2.length),o8,o9,none,none]) (λx zs ρ M3 hj wJ=> ?_) (λρ M3 hj=> ?_) _ _ _ ⟨os.length,0,[],none,none,by simp,by simp,List.nodup_nil,λ_ z=>(nomatch z),λi z=>absurd z (by omega),rfl,rfl⟩
  ·obtain ⟨n,k,idx,o8,o9,ex,Lu,nd,yQ,BP,rfl,rfl⟩:=hj;obtain ⟨j,rfl,rfl,rfl⟩:=eI ex;have kx:k < γ.length:=by omega
   have ko:k < os.length:=by omega
   have Z9:=ho.Jc os[k] (aap ko);have eok:oF os k=os[k].toNat:=by show (os.getD k 0).toNat=_;rw [aan,aaa ko];rfl
   have Za:os[k]=((oF os k:Nat):Int):=by omega
   have ol:oF os k < (bs.map ψ).length:=Jo.lt k kx;have RP:∀(E:Ms) (qq:DQ),qq (.int ((a_ (bs.map ψ) m (oF os k):Nat):Int)) (M2++E)->cq (.loc v8) (.int os[k]) (M2++E) qq:=λE qq hq=>υ (d:= .loc v8) (eN (bO Ri)) (by rw [Za];exact Ν (wg _ _ ol)) hq;have Uj:=lY (f:=a_ γ m) (g:=λj=>a_ (bs.map ψ) m (oF os j)) idx k λi hi e=>(one i k (by have:=yQ i hi;omega) kx).mp e;have ga:(M2++[MO.jF (idx.map λj=>(.inl ((a_ γ m j:Nat):Int):Key)) ((idx.map λj=>((a_ (bs.map ψ) m (oF os j):Nat):Int)).map Dt.int)])[M2.length]? =some (.jF (idx.map λj=>(.inl ((a_ γ m j:Nat):Int):Key)) ((idx.map λj=>((a_ (bs.map ψ) m (oF os j):Nat):Int)).map Dt.int)):=aF;generalize Kd:(lF (gN 8) _ _ (bL ((k:Int)+1) j):En->Ms->Prop)=Nx at wJ⊢;walk_at "vc";refine (uV ?_:cq (.tup [Ε Cm sh (ξ γ m), .loc x9]) (.int 1) _ _);refine (υ (d:= .loc x9) (eN (bO UR)) (Ν (wg γ k kx)) ?_:cq (.loc x9) (.int ((k:Nat):Int)) _ _)
   try dsimp only [FH]
   try walk_at "vc"
   refine ⟨⟨_,_,_,rfl,ga⟩, ?_⟩;refine (uV ?_:cq (.tup [Ε Cm sh (ξ (bs.map ψ) m), .loc v8]) (.int 1) _ _);refine (υ (d:= .lst (os.map Dt.int)) rfl (kM ko) ?_:cq (.lst (os.map Dt.int)) (.int ((k:Nat):Int)) _ _);refine RP _ _ ?_;have il:idx.length<=12:=by
    have:=List.Nodup.length_le_of_subset (l₂:=List.range 12) nd λy hy=>by
     obtain ⟨i,hi,rfl⟩:=aaf.mp hy;have:=mD (m:=m) (i:=i) (show i < γ.length by have:=yQ i hi;omega);have Hn:(ξ γ m).length<=12:=by rw [lT];exact aax (N51.oI _ _) KR.fl.len
     exact aaP.mpr (by omega)
    simpa using this
   refine ⟨M2.length,_,_,_,rfl,ga,rfl,by rw [aac];omega,λv hv=> ?_,λhn=> ?_⟩
   ·have mem:a_ γ m k∈idx.map (a_ γ m):=Classical.byContradiction λz=>by rw [Uj.2 z] at hv;cases hv
    rw [Uj.1 mem] at hv;cases hv;refine (uV ?_:cq (.tup [Ε Cm sh (ξ (bs.map ψ) m), .loc v8]) (.int 1) _ _);refine (υ (d:= .lst (os.map Dt.int)) rfl (kM ko) ?_:cq (.lst (os.map Dt.int)) (.int ((k:Nat):Int)) _ _);refine RP _ _ ?_;refine ⟨λz=>absurd z (by rw [decide_eq_true rfl];decide),λ_=>wJ _ _ ⟨j,k+1,idx,_,_,by simp,by omega,nd,λi hi=>by have:=yQ i hi;omega,λi hi=> ?_,rfl,rfl⟩⟩;rcases aa8 i k with z | z
    ·exact BP i z
    ·rw [show i=k by omega];exact mem
   ·have mem:a_ γ m k∉idx.map (a_ γ m):=λz=>by rw [Uj.1 z] at hn;cases hn
    have ni:¬Lk (idx.map λj=>(.inl ((a_ γ m j:Nat):Int):Key)) (.inl ((a_ γ m k:Nat):Int))=true:=λz=>by unfold Lk at z;obtain ⟨y,hy,e⟩:=List.any_eq_true.mp z;obtain ⟨i,hi,rfl⟩:=aaf.mp hy;have e:=Sum.inl.inj (aaq e);exact mem (aaf.mpr ⟨i,hi,by omega⟩)
    have es:(M2++[MO.jF (idx.map λj=>(.inl ((a_ γ m j:Nat):Int):Key)) ((idx.map λj=>((a_ (bs.map ψ) m (oF os j):Nat):Int)).map Dt.int)]).set M2.length (.jF (qQ (idx.map λj=>(.inl ((a_ γ m j:Nat):Int):Key)) (.inl ((a_ γ m k:Nat):Int))) (lD (idx.map λj=>(.inl ((a_ γ m j:Nat):Int):Key)) (.inl ((a_ γ m k:Nat):Int)) ((idx.map λj=>((a_ (bs.map ψ) m (oF os j):Nat):Int)).map Dt.int) (.int ((a_ (bs.map ψ) m (oF os k):Nat):Int))))=M2++[.jF ((idx++[k]).map λj=>(.inl ((a_ γ m j:Nat):Int):Key)) (((idx++[k]).map λj=>((a_ (bs.map ψ) m (oF os j):Nat):Int)).map Dt.int)]:=by unfold qQ lD;rw [aaA ni,aaA ni,aaZ _ _ (aal _),aa9,aao,aao,aao];rfl
    rw [es];refine (uV ?_:cq (.tup [Ε Cm sh (ξ (bs.map ψ) m), .loc v8]) (.int 1) _ _);refine (υ (d:= .lst (os.map Dt.int)) rfl (kM ko) ?_:cq (.lst (os.map Dt.int)) (.int ((k:Nat):Int)) _ _);refine RP _ _ ?_;refine ⟨λz=>absurd z (by rw [decide_eq_true rfl];decide),λ_=>wJ _ _ ⟨j,k+1,idx++[k],_,_,by simp,by omega, ?_,λi hi=> ?_,λi hi=> ?_,rfl,rfl⟩⟩
    ·rw [aao]
     exact List.nodup_append.mpr ⟨nd,by simp,λa ha b hb=>by
      have:b=a_ γ m k:=by simpa using hb
      subst this;rintro rfl
      exact mem ha⟩
    ·rcases aaL.mp hi with z | z
     ·have:=yQ i z;omega
     ·have:i=k:=by simpa using z
      omega
    ·rw [aao];rcases aa8 i k with z | z
     ·exact aaH _ (BP i z)
     ·rw [show i=k by omega];exact List.mem_append_right _ (by simp)
  ·obtain ⟨n,k,idx,o8,o9,ex,Lu,nd,yQ,BP,rfl,rfl⟩:=hj;have hn:n=0:=by have:=aa2 List.length ex;unfold bL at this;simpa using this.symm
   have ek:k=γ.length:=by omega
   subst ek;have II:=AK (m:=m) UN;have F_:=AK (m:=m) VU;have ZL:(idx.map λj=>a_ (bs.map ψ) m (oF os j)).Nodup:=by show List.Pairwise (· ≠ ·) _;have nd:List.Pairwise (· ≠ ·) (idx.map (a_ γ m)):=nd;rw [List.pairwise_map] at nd⊢;exact List.Pairwise.imp_of_mem (λha hb h e=>h ((one _ _ (yQ _ ha) (yQ _ hb)).mpr e)) nd
   have p1:(idx.map (a_ γ m)).Perm (List.range (ξ γ m).length):=wq nd (λx hx=>by
    obtain ⟨i,hi,rfl⟩:=aaf.mp hx
    exact mD (yQ i hi)) λx hx=>by
    obtain ⟨i,hi,rfl⟩:=iy x hx;exact BP i hi
   have p2:(idx.map λj=>a_ (bs.map ψ) m (oF os j)).Perm (List.range (ξ (bs.map ψ) m).length):=wq ZL (λx hx=>by
    obtain ⟨i,hi,rfl⟩:=aaf.mp hx
    exact mD (Jo.lt i (yQ i hi))) λx hx=>by
    obtain ⟨t,ht,rfl⟩:=iy x hx;obtain ⟨i,hi,rfl⟩:=Jo.yR t ht;obtain ⟨j,hj,e⟩:=aaf.mp (BP i hi);exact aaf.mpr ⟨j,hj,(one j i (yQ j hj) hi).mp e⟩
   have l1:idx.length=(ξ γ m).length:=by have:=p1.length_eq;rwa [aac,aby] at this
   have l2:idx.length=(ξ (bs.map ψ) m).length:=by have:=p2.length_eq;rwa [aac,aby] at this
   have UY:=F_.1.fl.len;have ga:(M2++[MO.jF (idx.map λj=>(.inl ((a_ γ m j:Nat):Int):Key)) ((idx.map λj=>((a_ (bs.map ψ) m (oF os j):Nat):Int)).map Dt.int)])[M2.length]? =some (.jF (idx.map λj=>(.inl ((a_ γ m j:Nat):Int):Key)) ((idx.map λj=>((a_ (bs.map ψ) m (oF os j):Nat):Int)).map Dt.int)):=aF;dsimp only [MA,y6,lG];walk_at "vc";refine (υ (d:= .tup [Ε Cm sh (ξ (bs.map ψ) m), .loc v8]) (xs:=[Ε Cm sh (ξ (bs.map ψ) m), .loc v8]) rfl Φ ?_:cq (.tup [Ε Cm sh (ξ (bs.map ψ) m), .loc v8]) (.int 0) _ _);refine ⟨⟨_,_, .inl rfl,rfl⟩,sh,ξ (bs.map ψ) m,rfl, ?_⟩;dsimp only [lG];walk_at "vc";refine (υ (d:= .tup [Ε Cm sh (ξ γ m), .loc x9]) (xs:=[Ε Cm sh (ξ γ m), .loc x9]) rfl Φ ?_:cq (.tup [Ε Cm sh (ξ γ m), .loc x9]) (.int 0) _ _);refine ⟨⟨_,_, .inl rfl,rfl⟩,sh,ξ γ m,rfl, ?_⟩;refine ⟨λz=>aaI z (by rw [aam (show (((ξ γ m).length:Nat):Int)=(((ξ (bs.map ψ) m).length:Nat):Int) by omega)];decide),λ_=> ?_⟩;dsimp only [CO];walk_at "vc";have er:∀u:MO,(M2++[MO.jF (idx.map λj=>(.inl ((a_ γ m j:Nat):Int):Key)) ((idx.map λj=>((a_ (bs.map ψ) m (oF os j):Nat):Int)).map Dt.int)]).set M2.length u=M2++[u]:=λu=>by rw [aaZ _ _ (aal _),aa9];rfl
   refine ⟨M2.length,idx.map λj=>(.inl ((a_ γ m j:Nat):Int):Key),idx.map λj=>((a_ (bs.map ψ) m (oF os j):Nat):Int),rfl,ga,by rw [aac,l2];exact aax UY (by decide),λep=> ?_⟩;rw [er,aas];refine gj (f:=λj=>Dt.int ((a_ (bs.map ψ) m (oF os j):Nat):Int)) (g:=λj=>Dt.int ((a_ γ m j:Nat):Int)) aF idx [] (λj hj q' hq=> ?_) ?_
   ·dsimp only [yp];walk_at "vc";exact ⟨M2.length,_,_,ep,_,_,rfl,aF,rfl,(lY (f:=a_ γ m) (g:=λj=>a_ (bs.map ψ) m (oF os j)) idx j λi hi e=>(one i j (yQ i hi) (yQ j hj)).mp e).1 (aaf.mpr ⟨j,hj,rfl⟩),hq⟩
   refine ⟨aF, ?_⟩;have W7:∀u v:MO,(M2++[u]).set M2.length v=M2++[v]:=λu v=>by rw [aaZ _ _ (aal _),aa9];rfl
   rw [W7];refine ⟨_,idx.map λj=>((a_ (bs.map ψ) m (oF os j):Nat):Int),rfl,by rw [aaR];show some _=some _;rw [aas];rfl,by rw [aac];omega,λns' pm so=> ?_⟩;have en:=zq p2 (ns:=ns') (by rw [aas];exact pm) so;subst en;refine ⟨(ξ (bs.map ψ) m).length,rfl,by omega, ?_⟩;refine ⟨true, .inr ⟨_,bX (bO aF)⟩, .inr ⟨_,bX aF⟩,wA (bX (bO aF)) (bX aF) (λd hd=>by obtain ⟨z,_,rfl⟩:=aaf.mp hd;exact qo _),λz=>(nomatch z),λ_=> ?_⟩;have gd:(M2++[MO.jF (idx.map λj=>(.inl ((a_ γ m j:Nat):Int):Key)) ((idx.map λj=>((a_ (bs.map ψ) m (oF os j):Nat):Int)).map Dt.int)]++[MO.lst ((bI (ξ (bs.map ψ) m).length).map Dt.int)]++[MO.lst ((bI (ξ (bs.map ψ) m).length).map Dt.int)])[M2.length]? =some (.jF (idx.map λj=>(.inl ((a_ γ m j:Nat):Int):Key)) ((idx.map λj=>((a_ (bs.map ψ) m (oF os j):Nat):Int)).map Dt.int)):=bO (bO ga);generalize M2++[MO.jF (idx.map λj=>(.inl ((a_ γ m j:Nat):Int):Key)) ((idx.map λj=>((a_ (bs.map ψ) m (oF os j):Nat):Int)).map Dt.int)]++[MO.lst ((bI (ξ (bs.map ψ) m).length).map Dt.int)]++[MO.lst ((bI (ξ (bs.map ψ) m).length).map Dt.int)]=M4 at gd⊢;have jA:=xZ KR II.1 O4;have jB:=xZ NO F_.1 Sk;dsimp only [xI,cX];walk_at "vc";refine (υ (d:= .tup [Ε Cm sh (ξ (bs.map ψ) m), .loc v8]) (xs:=[Ε Cm sh (ξ (bs.map ψ) m), .loc v8]) rfl Φ ?_:cq (.tup [Ε Cm sh (ξ (bs.map ψ) m), .loc v8]) (.int 0) _ _);refine (υ (d:= .tup [Ε Cm sh (ξ γ m), .loc x9]) (xs:=[Ε Cm sh (ξ γ m), .loc x9]) rfl Φ ?_:cq (.tup [Ε Cm sh (ξ γ m), .loc x9]) (.int 0) _ _);refine ⟨kQ, ?_⟩;show ia _ _ _ (λ_=>True) ([ξ (bs.map ψ) m,ξ γ m].map (Ε Cm sh)) [some (.dM ns),some (.lst (bs.map gI)),some (.lst (os.map Dt.int)),some (Χ sh),some (Ε Cm sh γ),some (.tup [Ε Cm sh (ξ (bs.map ψ) m), .loc v8]),some (.tup [Ε Cm sh (ξ γ m), .loc x9]),some (.loc M2.length),o8,o9,some (.int ((ξ (bs.map ψ) m).length:Nat)),none] M4;refine dH (λxs ρ M'=>∃(Η:List (List Rw)) (vj:Option Dt),xs=Η.map (Ε Cm sh)/\(∀R∈Η,Fk R/\kN R m/\(∀j,j < R.length->bM R (m - 1) j=j)/\R.length=(ξ (bs.map ψ) m).length)/\Xt M4 M'/\ρ=[some (.dM ns),some (.lst (bs.map gI)),some (.lst (os.map Dt.int)),some (Χ sh),some (Ε Cm sh γ),some (.tup [Ε Cm sh (ξ (bs.map ψ) m), .loc v8]),some (.tup [Ε Cm sh (ξ γ m), .loc x9]),some (.loc M2.length),o8,o9,some (.int ((ξ (bs.map ψ) m).length:Nat)),vj]) (λ_ _ _ _=>trivial) (λx xs ρ M' hJ ih=> ?_) (λρ M' hJ=> ?_) _ _ _ ⟨_,none,rfl,λR hR=> ?_,Xt.refl,rfl⟩
   ·obtain ⟨Η,vj,e2,hR,x4,rfl⟩:=hJ;cases Η with
    | nil=>cases e2
    | cons R Η=>
     cases e2;obtain ⟨fR,sR,rR,lR⟩:=hR R aak;have hR:=λT hT=>hR T (aag _ hT);generalize Kd:(ia (gN 11) _ _ _ (Η.map (Ε Cm sh)):En->Ms->Prop)=Nx at ih⊢;walk_at "vc";refine ⟨sh,R,rfl,fR.fl,λm5 kr ls M5 NV hl x5 ca=> ?_⟩;have em:=sR.uniq NV;subst em;have p1:=sR.pos;obtain ⟨li,la,rfl⟩:∃li la,ls=li++[la]:=⟨ls.dropLast,ls.getLast (λe=>by subst e;have hl:0=m:=hl;omega),(aa3 _).symm⟩;have P9:(li++[la])[m - 1]? =some la:=by rw [aai] at hl;have hl:li.length+1=m:=hl;rw [aaC (by omega),show m - 1 - li.length=0 by omega];rfl
     have Pr:i9 ((li++[la]).map Dt.loc) (-1)=some (.loc la):=by rw [aao];exact ll
     obtain ⟨lo1,_,aa⟩:=ca.each (m - 1) la P9;have el:c6 R (m - 1)=(bI (ξ (bs.map ψ) m).length).map Dt.int:=by unfold c6;rw [mU.mpr rR,lR];unfold cm bI;rw [aas];rfl
     rw [el] at aa
     try dsimp only [Bu]
     refine (υ (d:= .loc kr) (i:= -1) (eN ca.at') Pr ?_:cq (.loc kr) (.int (-1)) M5 _);refine ⟨(ξ (bs.map ψ) m).length,rfl,by omega, ?_⟩;refine ⟨true, .inr ⟨_,bX (bO aa)⟩, .inr ⟨_,bX aF⟩,wA (bX (bO aa)) (bX aF) (λd hd=>by obtain ⟨z,_,rfl⟩:=aaf.mp hd;exact qo _),λz=>(nomatch z),λ_=> ?_⟩;refine ⟨⟨_,_, .inl rfl,rfl⟩,sh,R,rfl, ?_⟩;refine ⟨true, .inl ⟨_,rfl⟩, .inl ⟨_,rfl⟩,G_ _,λz=>(nomatch z),λ_=>ih _ _ ⟨Η,_,rfl,hR,(x4.trans x5).trans Xt.app,rfl⟩⟩
   ·obtain ⟨Η,vj,e2,_,x4,rfl⟩:=hJ;obtain ⟨τ,hτ⟩:∃τ:Nat->Nat,∀t,t < γ.length->τ (a_ γ m t)=a_ (bs.map ψ) m (oF os t):=by
     classical
     refine ⟨λy=>if h:∃t,t < γ.length/\a_ γ m t=y then a_ (bs.map ψ) m (oF os h.choose) else 0,λt ht=> ?_⟩;have h:∃t',t' < γ.length/\a_ γ m t'=a_ γ m t:=⟨t,ht,rfl⟩;show (if h:∃t',t' < γ.length/\a_ γ m t'=a_ γ m t then a_ (bs.map ψ) m (oF os h.choose) else 0)=_;rw [dif_pos h];exact (one _ _ h.choose_spec.1 ht).mp h.choose_spec.2
    have lτ:∀y,y < (ξ γ m).length->τ y < (ξ (bs.map ψ) m).length:=λy hy=>by obtain ⟨t,ht,rfl⟩:=iy y hy;rw [hτ t ht];exact mD (Jo.lt t ht)
    have gτ:∀y:Nat,y < (ξ γ m).length->aI (idx.map λj=>(.inl ((a_ γ m j:Nat):Int):Key)) ((idx.map λj=>((a_ (bs.map ψ) m (oF os j):Nat):Int)).map Dt.int) (.inl (y:Int))=some (.int (τ y:Nat)):=λy hy=>by obtain ⟨t,ht,rfl⟩:=iy y hy;rw [hτ t ht];exact (lY (f:=a_ γ m) (g:=λj=>a_ (bs.map ψ) m (oF os j)) idx t λi hi e=>(one i t (yQ i hi) ht).mp e).1 (BP t ht)
    walk_at "vc";refine ⟨⟨by omega,by omega⟩, ?_⟩;refine d7 (λzs ρ M3=>∃(n k:Nat) (o9:Option Dt),zs=bL k n/\k+n=(ξ (bs.map ψ) m).length/\Xt M4 M3/\ρ=[some (.dM ns),some (.lst (bs.map gI)),some (.lst (os.map Dt.int)),some (Χ sh),some (Ε Cm sh γ),some (.tup [Ε Cm sh (ξ (bs.map ψ) m), .loc v8]),some (.tup [Ε Cm sh (ξ γ m), .loc x9]),some (.loc M2.length),o8,o9,some (.int ((ξ (bs.map ψ) m).length:Nat)),vj]) (λx zs ρ M3 hj wJ=> ?_) (λρ M3 hj=> ?_) _ _ _ ⟨(ξ (bs.map ψ) m).length,0,o9,by simp,by simp,x4,rfl⟩
    ·obtain ⟨n,k,o9,ex,Lu,x4,rfl⟩:=hj;obtain ⟨j,rfl,rfl,rfl⟩:=eI ex;have gd:=x4 _ _ gd;have hk:k < (ξ γ m).length:=by omega
     obtain ⟨t,ht,et⟩:=iy k hk;have w1:=mD (m:=m) ht;have w2:=mD (m:=m) (Jo.lt t ht);obtain ⟨s1,lk⟩:=vP Jo KR NO II.1 F_.1 O4 Sk hτ (λy hy=>by have:=lτ y hy;omega) ht w1 w2;have eA:((ξ γ m).map ak)[k]? =some (ak (ξ γ m)[a_ γ m t]):=by rw [<-et,aaj,aaa w1];rfl
     have eB:((ξ (bs.map ψ) m).map ak)[τ k]? =some (ak (ξ (bs.map ψ) m)[a_ (bs.map ψ) m (oF os t)]):=by rw [<-et,hτ t ht,aaj,aaa w2];rfl
     have kA:=II.1.rk _ (aap w1);have kB:=F_.1.rk _ (aap w2);generalize (ξ γ m)[a_ γ m t]=r at *
     generalize (ξ (bs.map ψ) m)[a_ (bs.map ψ) m (oF os t)]=r' at *
     generalize Kd:(lF (gN 9) _ _ (bL ((k:Int)+1) j):En->Ms->Prop)=Nx at wJ⊢;walk_at "vc";dsimp only [lG,AY];walk_at "vc";refine (υ (d:= .tup [Ε Cm sh (ξ γ m), .loc x9]) (xs:=[Ε Cm sh (ξ γ m), .loc x9]) rfl Φ ?_:cq (.tup [Ε Cm sh (ξ γ m), .loc x9]) (.int 0) _ _);refine ⟨⟨_,_, .inl rfl,rfl⟩,sh,ξ γ m,rfl,II.1.fl.len,II.1.fl.ok,we ?_⟩;refine (υ (d:= .lst ((ξ γ m).map ak)) rfl (Ν eA) ?_:cq (.lst ((ξ γ m).map ak)) (.int ((k:Nat):Int)) _ _)
     try dsimp only [lG,AY]
     try walk_at "vc"
     refine (υ (d:= .tup [Ε Cm sh (ξ (bs.map ψ) m), .loc v8]) (xs:=[Ε Cm sh (ξ (bs.map ψ) m), .loc v8]) rfl Φ ?_:cq (.tup [Ε Cm sh (ξ (bs.map ψ) m), .loc v8]) (.int 0) _ _);refine ⟨⟨_,_, .inl rfl,rfl⟩,sh,ξ (bs.map ψ) m,rfl,F_.1.fl.len,F_.1.fl.ok,we ?_⟩;refine ⟨M2.length,_,_,_,_,rfl,gd,rfl,gτ k hk, ?_⟩;refine (υ (d:= .lst ((ξ (bs.map ψ) m).map ak)) rfl (Ν eB) ?_:cq (.lst ((ξ (bs.map ψ) m).map ak)) (.int ((τ k:Nat):Int)) _ _);refine ⟨r,r',M2.length,(ξ γ m).length,τ,_,_,rfl,gd,gτ,s1,kA,kA.PJ λy hy=>by have:=lτ y hy;omega,kB.mono UY,λE=> ?_⟩;rw [lk];exact ⟨λz=>(nomatch z),λ_=>wJ _ _ ⟨j,k+1,_,by simp,by omega,x4.trans Xt.app,rfl⟩⟩
    ·obtain ⟨n,k,o9,ex,Lu,x4,rfl⟩:=hj;have gd:=x4 _ _ gd;walk_at "vc";refine ⟨M2.length,_,_,rfl,gd, ?_⟩;rw [aac,l2];show q (.bl (decide ((((ξ (bs.map ψ) m).length:Nat):Int)=(((ξ (bs.map ψ) m).length:Nat):Int)))) M3;rw [aam rfl];exact h.2 M3
   ·rcases aaB.mp hR with e | hR
    ·rw [e];exact ⟨F_.1,jB.1,jB.2,rfl⟩
    ·have e:R=ξ γ m:=by simpa using hR
     rw [e];exact ⟨II.1,jA.1,jA.2,by omega⟩
structure FT(K:fv)(f:Addr)(x:Str)(st:Stmt):Prop where
 a:PySem.W.nsIn K mainGlobals x=some (some (.ref f))
 e:∃fd,eD K x x st f fd
structure FM(K:fv)(C f:Addr)(m x:Str)(st:Stmt):Prop where
 a:PySem.W.findIn K (.ref C) m=some (some (.ref f))
 i:PySem.W.isFn K (.ref f)=true
 e:∃fd,eD K m x st f fd
section
variable{K:fv}{C:Addr}{m x:Str}{st:Stmt}{oc:Value}{od an:Option Addr}{DL:Array (Option Value)}{kV doc pm b8 ct:Value}
theorem FT.of(a:PySem.W.nsIn K mainGlobals x=some (some (.ref f)))(l:K.lookup f=some ⟨oc,od, .func (PySem.W.fnOf x x (je st) (fF st) (χ st) .none kV doc pm an b8 ct),DL⟩)(c:PySem.W.codeIn K b8 x=true)(k:PySem.W.keepIn K (.ref f)=true):FT K f x st:=⟨a,_,F0 l c k⟩
theorem FM.of(a:PySem.W.findIn K (.ref C) m=some (some (.ref f)))(i:PySem.W.isFn K (.ref f)=true)(l:K.lookup f=some ⟨oc,od, .func (PySem.W.fnOf m x (je st) (fF st) (χ st) .none kV doc pm an b8 ct),DL⟩)(c:PySem.W.codeIn K b8 x=true)(k:PySem.W.keepIn K (.ref f)=true):FM K C f m x st:=⟨a,i,_,F0 l c k⟩
end
section
variable{P:List Value->Prop}
theorem PR(h:P []):∀us:List Value,us.length=0->P us
 | [],_=>h
 | _::_,e=>nomatch e
theorem dN(h:∀a0:Value,P [a0]):∀us:List Value,us.length=1->P us
 | [],e=>nomatch e
 | a::us,e=>PR (P:=λus=>P (a::us)) (h a) us (Nat.succ.inj e)
theorem d_(h:∀a0 a1:Value,P [a0,a1]):∀us:List Value,us.length=2->P us
 | [],e=>nomatch e
 | a::us,e=>dN (P:=λus=>P (a::us)) (h a) us (Nat.succ.inj e)
theorem qk(h:∀a0 a1 a2:Value,P [a0,a1,a2]):∀us:List Value,us.length=3->P us
 | [],e=>nomatch e
 | a::us,e=>d_ (P:=λus=>P (a::us)) (h a) us (Nat.succ.inj e)
theorem J_(h:∀a0 a1 a2 a3:Value,P [a0,a1,a2,a3]):∀us:List Value,us.length=4->P us
 | [],e=>nomatch e
 | a::us,e=>qk (P:=λus=>P (a::us)) (h a) us (Nat.succ.inj e)
end
theorem ub{K:fv}(h:PySem.W.subIn K (.type "int") (.type "bool")=some false):PySem.W.kitOne K (.type "int") (.type "bool")=some false:=by unfold PySem.W.kitOne PySem.W.kitCls;rw [aaA (by decide+kernel)];show (if PySem.W.kitMeta "bool"=true then _ else _)=_;rw [aaF (by decide+kernel)];exact h
theorem wR{K:fv}(h:PySem.W.subIn K (.type "int") (.type "str")=some false):PySem.W.kitOne K (.type "int") (.type "str")=some false:=by unfold PySem.W.kitOne PySem.W.kitCls;rw [aaA (by decide+kernel)];show (if PySem.W.kitMeta "str"=true then _ else _)=_;rw [aaF (by decide+kernel)];exact h
theorem rC{K:fv}(h:PySem.W.subIn K (.type "tuple") (.type "str")=some false):PySem.W.kitOne K (.type "tuple") (.type "str")=some false:=by unfold PySem.W.kitOne PySem.W.kitCls;rw [aaA (by decide+kernel)];show (if PySem.W.kitMeta "str"=true then _ else _)=_;rw [aaF (by decide+kernel)];exact h
theorem rJ{K:fv}(h:PySem.W.subIn K (.type "tuple") (.type "int")=some false):PySem.W.kitOne K (.type "tuple") (.type "int")=some false:=by unfold PySem.W.kitOne PySem.W.kitCls;rw [aaA (by decide+kernel)];show (if PySem.W.kitMeta "int"=true then _ else _)=_;rw [aaF (by decide+kernel)];exact h
theorem uC{K:fv}(h:PySem.W.subIn K (.type "list") (.type "str")=some false):PySem.W.kitOne K (.type "list") (.type "str")=some false:=by unfold PySem.W.kitOne PySem.W.kitCls;rw [aaA (by decide+kernel)];show (if PySem.W.kitMeta "str"=true then _ else _)=_;rw [aaF (by decide+kernel)];exact h
theorem vd{K:fv}(h:PySem.W.subIn K (.type "list") (.type "int")=some false):PySem.W.kitOne K (.type "list") (.type "int")=some false:=by unfold PySem.W.kitOne PySem.W.kitCls;rw [aaA (by decide+kernel)];show (if PySem.W.kitMeta "int"=true then _ else _)=_;rw [aaF (by decide+kernel)];exact h
theorem qu{K:fv}(h:PySem.W.subIn K (.type "tuple") (.type "list")=some false):PySem.W.kitOne K (.type "tuple") (.type "list")=some false:=by unfold PySem.W.kitOne PySem.W.kitCls;rw [aaA (by decide+kernel)];show (if PySem.W.kitMeta "list"=true then _ else _)=_;rw [aaF (by decide+kernel)];exact h
theorem qy{K:fv}(h:PySem.W.subIn K (.type "list") (.type "tuple")=some false):PySem.W.kitOne K (.type "list") (.type "tuple")=some false:=by unfold PySem.W.kitOne PySem.W.kitCls;rw [aaA (by decide+kernel)];show (if PySem.W.kitMeta "tuple"=true then _ else _)=_;rw [aaF (by decide+kernel)];exact h
open PySem.W in
theorem all_mk{l:OpenLaw}{K:Frag}{h:Heap}{fa Cm AO f1 f2 f3 f4 f5 f6 f7 f8 f9 ZQ Xn UM Ym YU Z1 WC YK XS ZO Yb XR XD Wi ZF Wu Zb WE YD Xa V1 XU XA ZC Y6 YA W2 VW W4 Y_ Wn:Addr}(X:K.In h)(G:h.Ns mainGlobals mg)(We:mg "law"=some (.ref fa))
  {u6 rK rP jr:Tok}
  (vt:nsIn K mainGlobals "MOST_DOORS"=some (some (.int (6) u6)))
  (r_:nsIn K mainGlobals "MOST_BOTTOM"=some (some (.int (1000000) rK)))
  (rp:nsIn K mainGlobals "MOST_PLACES"=some (some (.int (12) rP)))
  (js:nsIn K mainGlobals "MOST_SHARE_BOTTOM"=some (some (.int (1000) jr)))
  (GV:nsIn K mainGlobals "Floor"=some (some (.ref Cm))) (hU:plainGet K Cm Str.empty=true) (g8:hasDictIn K Cm=true) (gK:plainOver K Cm=true) (hV:findIn K (.ref Cm) "__setattr__"=some (some (.builtin "object.__setattr__"))) (Hf:makesIn K Cm=true) (Hq:keepIn K (.ref Cm)=true)
  (tU:findIn K (.ref Cm) "kept_rows"=some none)
  (rM:findIn K (.ref Cm) "kept_share"=some none)
  {DJ EC:Tok} {C6:Option Addr} {Fl:Array (Option Value)} {FI:Nat} (C4:nsIn K mainGlobals "HANDS"=some (some (.ref AO))) (Fe:K.lookup AO=some ⟨.type "tuple",C6, .seq #[(.str "one" DJ),(.str "other" EC)] FI,Fl⟩)
  (xD:subIn K (.type "int") (.type "bool")=some false)
  (yV:subIn K (.type "int") (.type "str")=some false)
  (uo:subIn K (.type "tuple") (.type "str")=some false)
  (uM:subIn K (.type "tuple") (.type "int")=some false)
  (xk:subIn K (.type "list") (.type "str")=some false)
  (wZ:subIn K (.type "list") (.type "int")=some false)
  (rV:subIn K (.type "tuple") (.type "list")=some false)
  (rF:subIn K (.type "list") (.type "tuple")=some false)
  (t1:FT K f1 "_law_far" vn)
  (t2:FT K f2 "_law_number" jW)
  (t3:FT K f3 "_law_lowest" j5)
  (t4:FT K f4 "_law_pay" tT)
  (t5:FT K f5 "_law_row_of_places" d8)
  (t6:FT K f6 "_law_rest" pY)
  (t7:FT K f7 "_law_base" pd)
  (t8:FT K f8 "_law_origin" kl)
  (t9:FT K f9 "fits_share" kG)
  (X7:FT K ZQ "fits_pay" rj)
  (Zk:FT K Xn "fits_door" mK)
  (Y1:FT K UM "fits_doors" kI)
  (V3:FT K Ym "common_divisor" eR)
  (Yz:FT K YU "common_bottom" fL)
  (YM:FT K Z1 "fits_chances" hX)
  (Zc:FT K WC "fits_row" ph)
  (Wc:FT K YK "copied_row" j0)
  (Yk:FM K Cm XS "__init__" "Floor.__init__" kF)
  (WA:FT K ZO "_law_piece" mY)
  (U':FT K Yb "_law_copy" qt)
  (XW:FT K XR "classes_by" jT)
  (WX:FM K Cm XD "size" "Floor.size" kj)
  (V':FM K Cm Wi "kind" "Floor.kind" kf)
  (Ze:FM K Cm ZF "pay" "Floor.pay" mF)
  (Xy:FT K Wu "first_classes" fS)
  (WB:FM K Cm Zb "doors" "Floor.doors" iD)
  (Zy:FT K WE "fraction" mV)
  (Yx:FT K YD "plus" EA)
  (Wm:FT K Xa "pairs_of" pU)
  (WY:FT K V1 "next_classes" hG)
  (Yj:FT K XU "parted" u3)
  (Yw:FT K XA "joined_row" ke)
  (XQ:FM K Cm ZC "share" "Floor.share" iG)
  (Xk:FT K Y6 "together" mS)
  (YX:FT K YA "_law_first" mH)
  (Xb:FT K W2 "_law_part_of" kL)
  (Zd:FT K VW "_law_same" qU)
  (ZG:FT K W4 "_law_alike" nc)
  (XC:FM K Cm Y_ "rows" "Floor.rows" jQ)
  (X2:FT K Wn "law" LW)
  (Oh:nsIn K mainGlobals "len"=some none)
  (PC:nsIn K mainGlobals "abs"=some none)
  (vB:nsIn K mainGlobals "isinstance"=some none)
  (OT:nsIn K mainGlobals "int"=some none)
  (MJ:nsIn K mainGlobals "bool"=some none)
  (OB:nsIn K mainGlobals "str"=some none)
  (IL:nsIn K mainGlobals "tuple"=some none)
  (Ks:nsIn K mainGlobals "list"=some none)
  (HQ:nsIn K mainGlobals "range"=some none)
  (xR:nsIn K mainGlobals "enumerate"=some none)
  (OE:nsIn K mainGlobals "any"=some none)
  (Oi:nsIn K mainGlobals "all"=some none)
  (QE:nsIn K mainGlobals "sum"=some none)
  (PV:nsIn K mainGlobals "zip"=some none)
  (CY:nsIn K mainGlobals "sorted"=some none)
  (Ov:nsIn K mainGlobals "set"=some none)
  :∃fd:FuncData,(∀(s:Shared) (v:Value),BindsTo s fd ⟨[v],[]⟩ [("_law_script",v)])/\∀base:Heap,K.In base->base.Ns mainGlobals mg->aC l.prog w K mg base Rf 12 fa fd ["_law_script"] (w8 K):=by
 obtain ⟨a1,_,F1⟩:=t1;obtain ⟨a2,_,F2⟩:=t2;obtain ⟨a3,_,F3⟩:=t3;obtain ⟨a4,_,F4⟩:=t4;obtain ⟨a5,_,F5⟩:=t5;obtain ⟨a6,_,F6⟩:=t6;obtain ⟨a7,_,F7⟩:=t7;obtain ⟨a8,_,F8⟩:=t8;obtain ⟨a9,_,F9⟩:=t9;obtain ⟨Kz,_,Ts⟩:=X7;obtain ⟨Ot,_,T_⟩:=Zk;obtain ⟨ZJ,_,TK⟩:=Y1;obtain ⟨YG,_,S3⟩:=V3;obtain ⟨W8,_,Sr⟩:=Yz;obtain ⟨YH,_,R7⟩:=YM;obtain ⟨Y4,_,RW⟩:=Zc;obtain ⟨Wr,_,RT⟩:=Wc;obtain ⟨Xf,Xc,_,U9⟩:=Yk;obtain ⟨ZM,_,Up⟩:=WA;obtain ⟨XZ,_,Si⟩:=U';obtain ⟨VX,_,S7⟩:=XW;obtain ⟨Yu,Xs,_,TN⟩:=WX;obtain ⟨VZ,WJ,_,RV⟩:=V';obtain ⟨V8,Zf,_,R6⟩:=Ze;obtain ⟨Zr,_,RQ⟩:=Xy;obtain ⟨Yo,X3,_,Us⟩:=WB;obtain ⟨XT,_,Sn⟩:=Zy;obtain ⟨WW,_,SK⟩:=Yx;obtain ⟨Yq,_,SS⟩:=Wm;obtain ⟨Yp,_,Ti⟩:=WY;obtain ⟨VY,_,RX⟩:=Yj;obtain ⟨ZE,_,Uy⟩:=Yw;obtain ⟨X6,XH,_,Uh⟩:=XQ;obtain ⟨YF,_,Tc⟩:=Xk;obtain ⟨YT,_,Tg⟩:=YX;obtain ⟨Xg,_,Sg⟩:=Xb;obtain ⟨YI,_,SW⟩:=Zd;obtain ⟨Yt,_,Uq⟩:=ZG;obtain ⟨WS,XJ,_,SM⟩:=XC;obtain ⟨Wt,dL,UU⟩:=X2;have e:=We.symm.trans (mg_of X G Wt);cases e;have uI:=mg_of X G vt;have rG:=mg_of X G r_;have rD:=mg_of X G rp;have jy:=mg_of X G js;have cF:=mg_none_of X G Oh;have qF:=mg_none_of X G PC;have gR:=mg_none_of X G vB;have D1:=mg_none_of X G OT;have yJ:=mg_none_of X G MJ;have EH:=mg_none_of X G OB;have ve:=mg_none_of X G IL;have gX:=mg_none_of X G Ks;have aQ:=mg_none_of X G HQ;have fq:=mg_none_of X G xR;have A1:=mg_none_of X G OE;have zU:=mg_none_of X G Oi;have s_:=mg_none_of X G QE;have Ff:=mg_none_of X G PV;have iR:=mg_none_of X G CY;have A3:=mg_none_of X G Ov;have E:Ev K mg Cm:={cF:=cF,qF:=qF,gR:=gR,D1:=D1,yJ:=yJ,EH:=EH,ve:=ve,gX:=gX,aQ:=aQ,fq:=fq,A1:=A1,zU:=zU,s_:=s_,Ff:=Ff,iR:=iR,A3:=A3,ib:=ub xD,Xp:=wR yV,ZT:=rC uo,Wl:=rJ uM,Wv:=uC xk,WV:=vd wZ,YQ:=qu rV,klt:=qy rF,c9:=⟨hU,g8,gK,hV⟩,bW:=tU,fP:=rM,Gs:=⟨_,_,_,_,mg_of X G C4,Fe,rfl,rfl,fI, .cons ⟨_,rfl⟩ (.cons ⟨_,rfl⟩ .nil)⟩,nO:=⟨_,uI⟩,hW:=⟨_,rG⟩,lE:=⟨_,rD⟩,eQ:=⟨_,jy⟩};refine ⟨dL,λs v=>by obtain ⟨_,_,_,_,_,_,_,_,_,rfl,_⟩:=UU.ex;exact .of_eq rfl,λbase _ _=> ?_⟩;have mc:= @aR.mk l.prog w K mg base;have c_:=mc (Ba F1 E) (F1.binds λ_ _ _ _ _ _=>d_ λ_ _=>rfl) (mg_of X G a1) F1.kp;have Μ:=mc (vb F2 E c_) (F2.binds λ_ _ _ _ _ _=>d_ λ_ _=>rfl) (mg_of X G a2) F2.kp;have aj:=mc (ux F3 E) (F3.binds λ_ _ _ _ _ _=>d_ λ_ _=>rfl) (mg_of X G a3) F3.kp;have eS:=mc (BM F4 E aj) (F4.binds λ_ _ _ _ _ _=>dN λ_=>rfl) (mg_of X G a4) F4.kp;have dw:=mc (lZ F5 E eS) (F5.binds λ_ _ _ _ _ _=>dN λ_=>rfl) (mg_of X G a5) F5.kp;have m_:=mc (zO F6 E Μ c_) (F6.binds λ_ _ _ _ _ _=>d_ λ_ _=>rfl) (mg_of X G a6) F6.kp;have ma:=mc (yf F7 E Μ dw eS m_) (F7.binds λ_ _ _ _ _ _=>dN λ_=>rfl) (mg_of X G a7) F7.kp;have iu:=mc (ua F8 E Μ) (F8.binds λ_ _ _ _ _ _=>d_ λ_ _=>rfl) (mg_of X G a8) F8.kp;have iI:=mc (uO F9 E) (F9.binds λ_ _ _ _ _ _=>dN λ_=>rfl) (mg_of X G a9) F9.kp;have eK:=mc (zP Ts E) (Ts.binds λ_ _ _ _ _ _=>dN λ_=>rfl) (mg_of X G Kz) Ts.kp;have jS:=mc (xP T_ E eK) (T_.binds λ_ _ _ _ _ _=>d_ λ_ _=>rfl) (mg_of X G Ot) T_.kp;have fC:=mc (vo TK E jS) (TK.binds λ_ _ _ _ _ _=>d_ λ_ _=>rfl) (mg_of X G ZJ) TK.kp;have bD:=mc (mQ S3 E) (S3.binds λ_ _ _ _ _ _=>d_ λ_ _=>rfl) (mg_of X G YG) S3.kp;have eX:=mc (n9 Sr E bD) (Sr.binds λ_ _ _ _ _ _=>dN λ_=>rfl) (mg_of X G W8) Sr.kp;have fM:=mc (qb R7 E eX) (R7.binds λ_ _ _ _ _ _=>dN λ_=>rfl) (mg_of X G YH) R7.kp;have mj:=mc (zG RW E eK fC fM) (RW.binds λ_ _ _ _ _ _=>d_ λ_ _=>rfl) (mg_of X G Y4) RW.kp;have cP:=mc (u0 RT E) (RT.binds λ_ _ _ _ _ _=>dN λ_=>rfl) (mg_of X G Wr) RT.kp;have ck:HJ l.prog w K mg base _ "Floor" Cm _ _ _ _:=⟨vC U9 E iI mj cP,(U9.binds λ_ _ _ _ _ _=>qk λ_ _ _=>rfl),⟨Hf,Xf,Xc,Hq⟩,mg_of X G GV⟩;have g6:=mc (xX Up E Μ c_) (Up.binds λ_ _ _ _ _ _=>qk λ_ _ _=>rfl) (mg_of X G ZM) Up.kp;have ng:=mc (zD Si E g6 aj) (Si.binds λ_ _ _ _ _ _=>J_ λ_ _ _ _=>rfl) (mg_of X G XZ) Si.kp;have cR:=mc (vm S7 E) (S7.binds λ_ _ _ _ _ _=>dN λ_=>rfl) (mg_of X G VX) S7.kp;have aW:fh l.prog w K mg base _ Cm "size" _ _ _ _:=⟨uS TN E,(TN.binds λ_ _ _ _ _ _=>dN λ_=>rfl),⟨hU,g8,gK,hV⟩,⟨Yu,Xs,TN.kp⟩⟩;have Υ:fh l.prog w K mg base _ Cm "kind" _ _ _ _:=⟨ug RV E,(RV.binds λ_ _ _ _ _ _=>d_ λ_ _=>rfl),⟨hU,g8,gK,hV⟩,⟨VZ,WJ,RV.kp⟩⟩;have dE:fh l.prog w K mg base _ Cm "pay" _ _ _ _:=⟨xj R6 E Υ,(R6.binds λ_ _ _ _ _ _=>d_ λ_ _=>rfl),⟨hU,g8,gK,hV⟩,⟨V8,Zf,R6.kp⟩⟩;have eZ:=mc (n_ RQ E cR aW dE Υ) (RQ.binds λ_ _ _ _ _ _=>dN λ_=>rfl) (mg_of X G Zr) RQ.kp;have h8:fh l.prog w K mg base _ Cm "doors" _ _ _ _:=⟨r8 Us E Υ,(Us.binds λ_ _ _ _ _ _=>d_ λ_ _=>rfl),⟨hU,g8,gK,hV⟩,⟨Yo,X3,Us.kp⟩⟩;have j_:=mc (wQ Sn E bD) (Sn.binds λ_ _ _ _ _ _=>d_ λ_ _=>rfl) (mg_of X G XT) Sn.kp;have y3:=mc (Hh SK E j_) (SK.binds λ_ _ _ _ _ _=>d_ λ_ _=>rfl) (mg_of X G WW) SK.kp;have eL:=mc (yv SS E h8 Υ y3) (SS.binds λ_ _ _ _ _ _=>qk λ_ _ _=>rfl) (mg_of X G Yq) SS.kp;have dG:=mc (qf Ti E cR aW eL) (Ti.binds λ_ _ _ _ _ _=>d_ λ_ _=>rfl) (mg_of X G Yp) Ti.kp;have gh:=mc (Bq RX E eZ dG) (RX.binds λ_ _ _ _ _ _=>dN λ_=>rfl) (mg_of X G VY) RX.kp;have i0:=mc (vz Uy E Υ dE eL) (Uy.binds λ_ _ _ _ _ _=>J_ λ_ _ _ _=>rfl) (mg_of X G ZE) Uy.kp;have cx:fh l.prog w K mg base _ Cm "share" _ _ _ _:=⟨rQ Uh E,(Uh.binds λ_ _ _ _ _ _=>dN λ_=>rfl),⟨hU,g8,gK,hV⟩,⟨X6,XH,Uh.kp⟩⟩;have h_:=mc (xt Tc E gh i0 ck cx) (Tc.binds λ_ _ _ _ _ _=>dN λ_=>rfl) (mg_of X G YF) Tc.kp;have kh:=mc (wK Tg E aj) (Tg.binds λ_ _ _ _ _ _=>dN λ_=>rfl) (mg_of X G YT) Tg.kp;have fD:=mc (tW Sg E aj) (Sg.binds λ_ _ _ _ _ _=>qk λ_ _ _=>rfl) (mg_of X G Xg) Sg.kp;have mI:=mc (yZ SW E fD) (SW.binds λ_ _ _ _ _ _=>qk λ_ _ _=>rfl) (mg_of X G YI) SW.kp;have kn:=mc (xG Uq E mI) (Uq.binds λ_ _ _ _ _ _=>qk λ_ _ _=>rfl) (mg_of X G Yt) Uq.kp;have fo:fh l.prog w K mg base _ Cm "rows" _ _ _ _:=⟨uB SM E cP,(SM.binds λ_ _ _ _ _ _=>dN λ_=>rfl),⟨hU,g8,gK,hV⟩,⟨WS,XJ,SM.kp⟩⟩;exact Kv (MK UU E ma iu aj Μ ck ng h_ kh aW cx gh kn fo)
theorem walk{l:PySem.W.OpenLaw}{q:Program}{loose:List Str}{XP:(Str->Option Value)->Heap->Prop}{YP:World->Heap->Prop}{d:DefRec}{K:Params->fv}(hn:l.most=some 63)(Pn:d.params.defaults=[])
  (hY:∀(w:World) (h:Heap),YP w h->(K w.params).In h)
  (F:∀(w:World) (mg:Str->Option Value) (fa:Addr) (h:Heap),(K w.params).In h->h.Ns mainGlobals mg->mg d.name=some (.ref fa)->
   ∃fd:FuncData,(∀(s:Shared) (u:Value),BindsTo s fd ⟨[u],[]⟩ [("_law_script",u)])/\∀base:Heap,(K w.params).In base->base.Ns mainGlobals mg->aC l.prog w (K w.params) mg base Rf 12 fa fd ["_law_script"] (w8 (K w.params))):
  PySem.W.WalkO q loose XP YP l.row.toRowW d [] (λf vs=>PySem.call f vs):=
 L2.vF (n:=63) (k:=12) (x:="_law_script") (CX:=λ_=>Rf) (sp:=λw=>w8 (K w.params)) hn (by decide) Pn ⟨rfl,by decide,by decide⟩ hY F (λ_ _ a ns hl _ hS=>⟨a,ns,rfl,hS,hl,λ_=>rfl⟩) λ_ _ _ _ _ z=>z
end
end Pg
open PySem PySem.W PyProof.Rows
set_option maxRecDepth 100000 in
set_option maxHeartbeats 0 in
theorem PySem.Challenge.cw_chanceduel_k54_whole_copies_come_togethe_holds : PySem.Challenge.rw_chanceduel_k54_whole_copies_come_togethe.Holds := by
 w_on;o_law
 refine holds_open (q:=Hd.q) (loose:=[]) (Xt:=Hd.Xt) (XP:=XL Hd.q [])
  (Yf:=Hd.H.obs) (Ya:=Hd.H.val) (YP:=Hd.H.says) Hd.left Hd.H.of Hd.H.keeps
  (λs e=>xl_of s (Bool.and_eq_true_iff.mp e).1) XL.keeps (by rfl) (by rfl) (by rfl)
  (λs e=>recFacts_of (Bool.and_eq_true_iff.mp e).2) (by rfl) (by assumption) (by decide+kernel)
  ⟨rfl,rfl,rfl,rfl,rfl,by decide+kernel⟩ ?hw ?hc
 (case hw=>w_witness2)
 refine Pg.walk (l:=PySem.Challenge.rw_chanceduel_k54_whole_copies_come_togethe) rfl rfl (fun w h Y=>PySem.W.kIn_of Y) ?F
 case F=>
  k_fill
  intro w mg fa h KX G IM
  refine' Pg.all_mk KX G IM ?_ ?_ ?_ ?_ ?_ ?_ ?_ ?_ ?_ ?_ ?_ ?_ ?_ ?_ ?_ ?_ ?_ ?_ ?_ ?_ ?_ ?_ ?_ ?_ ?_ ?_ ?_ ?_ ?_ ?_ ?_ ?_ ?_ ?_ ?_ ?_ ?_ ?_ ?_ ?_ ?_ ?_ ?_ ?_ ?_ ?_ ?_ ?_ ?_ ?_ ?_ ?_ ?_ ?_ ?_ ?_ ?_ ?_ ?_ ?_ ?_ ?_ ?_ ?_ ?_ ?_ ?_ ?_ ?_ ?_ ?_ ?_ ?_ ?_ ?_ ?_ ?_ ?_ ?_
  all_goals try first | (refine' Pg.FT.of ?_ ?_ ?_ ?_ <;> try k_is) | (refine' Pg.FM.of ?_ ?_ ?_ ?_ ?_ <;> try k_is) | k_is | k_exc | kernel_rfl
