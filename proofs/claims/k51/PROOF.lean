import PyProof.Rows.All
import Wide.All
import OpenK.AllK
import Wide.FinOn
import Lean
import PyProof.EqAt
import PyProof.EqKinds
import PyProof.TupleCall
import PyProof.NeKinds
import PyProof.ZipIter
import PyProof.DictUpdate
import PyProof.FactsAll.dict_1
import PyProof.DictIter
import PyProof.DictWalks
import PyProof.TupleKey
import PyProof.ListRange
import PySem.Challenge.RW_chanceduel_k51_places_parted
set_option Elab.async false
set_option linter.all false
set_option maxRecDepth 100000
set_option maxHeartbeats 4000000
set_option compiler.extract_closed false
def aaa:=@List.getElem?_eq_getElem
def aab:=@List.length_map
def aac:=@PySem.wpAny_bind
def aad:=@List.getElem?_eq_some_iff
def aae:=@List.length_append
def aaf:=@List.getElem?_map
def aag:=@PySem.Heap.get?_push_of_some
def aah:=@List.mem_cons_of_mem
def aai:=@PySem.wpAny_pure
def aaj:=@List.size_toArray
def aak:=@Nat.le_trans
def aal:=@Nat.le_refl
def aam:=@List.mem_cons_self
def aan:=@List.mem_map
def aao:=@List.map_append
def aap:=@Bool.false_ne_true
def aaq:=@decide_eq_true
def aar:=@of_decide_eq_true
def aas:=@PySem.Heap.lt_size
def aat:=@Option.some.inj
def aau:=@List.mem_append_right
def aav:=@List.getElem?_append_right
def aaw:=@List.mem_of_getElem?
def aax:=@Bool.and_eq_true
def aay:=@List.getElem?_append_left
def aaz:=@Nat.lt_of_lt_of_le
def aaA:=@Int.emod_lt_of_pos
def aaB:=@Int.emod_nonneg
def aaC:=@List.mem_range
def aaD:=@List.length_cons
def aaE:=@absurd
def aaF:=@decide_eq_false
def aaG:=@PySem.Heap.get?_push_size
def aaH:=@Nat.lt_of_le_of_lt
def aaI:=@List.mem_append
def aaJ:=@if_neg
def aaK:=@List.map_map
def aaL:=@Option.map_eq_some_iff
def aaM:=@Nat.ne_of_lt
def aaN:=@Int.le_of_lt
def aaO:=@List.mem_cons
def aaP:=@if_pos
def aaQ:=@List.map_cons
def aaR:=@List.getElem?_set_ne
def aaS:=@List.getD_eq_getElem?_getD
def aaT:=@List.length_replicate
def aaU:=@List.nil_append
def aaV:=@List.getElem_mem
def aaW:=@Int.toNat_natCast
def aaX:=@congrArg
def aaY:=@List.append_nil
def aaZ:=@List.getElem?_range
def aa0:=@List.map_congr_left
def aa1:=@List.mem_append_left
def aa2:=@List.zip_cons_cons
def aa3:=@List.getElem?_set_self
def aa4:=@List.all_eq_true
def aa5:=@List.mem_iff_getElem?
def aa6:=@List.length_set
def aa7:=@List.replicate_succ
def aa8:=@List.getElem?_zip_eq_some
def aa9:=@Int.zero_add
def aba:=@List.set_append_right
def abb:=@Nat.add_le_add_right
def abc:=@List.append_assoc
def abd:=@Bool.eq_iff_iff
def abe:=@List.range_succ_eq_map
def abf:=@Int.fmod_eq_emod_of_nonneg
def abg:=@List.length_take
def abh:=@List.length_drop
def abi:=@List.lookup_cons
def abj:=@List.length_filter_le
def abk:=@Nat.sub_self
def abl:=@List.drop_eq_getElem_cons
def abm:=@List.flatten_cons
def abn:=@List.length_range
def abo:=@Nat.lt_or_ge
def abp:=@Nat.lt_irrefl
def abq:=@Array.length_toList
def abr:=@List.all_cons
def abt:=@of_decide_eq_false
def abu:=@List.mem_filter
def abv:=@List.nodup_cons
def abw:=@List.range_succ
def abx:=@Bool.true_and
def aby:=@List.filter_congr
def abz:=@Array.getElem?_eq_some_iff
def abA:=@Int.fdiv_eq_ediv_of_nonneg
def abB:=@Int.natAbs_of_nonneg
def abC:=@Int.eq_of_mul_eq_mul_left
def abD:=@Int.natAbs_mul
def abE:=@Nat.zero_le
def abF:=@Option.isSome_iff_exists
def abG:=@Int.mul_comm
def abH:=@Int.mul_ediv_cancel_left
def abI:=@List.mem_filterMap
def abJ:=@Int.mul_assoc
def abK:=@PySem.wpAny_mono
namespace Hd
open PySem PySem.W PyProof.Rows
def at_(i:Nat):Stmt:=PySem.Challenge.pw_chanceduel_k51_places_parted.main.body.getD i (.Pass ⟨0,0,0,0⟩)
def II:Stmt->Nat->Stmt
  | .ClassDef _ _ _ b _ _ _ _ _ _ _,j=>b.getD j (.Pass ⟨0,0,0,0⟩)
  | s,_=>s
def dA:Stmt->Arguments
  | .FunctionDef _ a _ _ _ _ _ _ _ _=>a
  | _=>⟨[],[],none,[],[],none,[]⟩
def dB:Stmt->List Stmt
  | .FunctionDef _ _ b _ _ _ _ _ _ _=>b
  | _=>[]
def dS:Stmt->Scope
  | .FunctionDef _ _ _ _ _ _ c _ _ _=>c
  | _=>{kind:= .function,names:=[],isGenerator:=false,isCoroutine:=false}
abbrev row:=PySem.Challenge.rw_chanceduel_k51_places_parted.row
abbrev en(P:Params)(x:Str)(t:Tok)(v:Value):DictEntry:=⟨PyData.keyHash P x, .str x t,v⟩
def q:Program:={PySem.Challenge.pw_chanceduel_k51_places_parted with main:={PySem.Challenge.pw_chanceduel_k51_places_parted.main with body:=[at_ 0,at_ 2,at_ 3,at_ 4,at_ 5,at_ 7,at_ 8,at_ 9,at_ 11,at_ 12,at_ 13,at_ 14,at_ 15,at_ 16,at_ 17,at_ 18,at_ 19,at_ 20,at_ 22,at_ 23,at_ 24,at_ 25,at_ 27,at_ 28,at_ 29,at_ 30,at_ 31,at_ 33,at_ 34,at_ 35,at_ 36,at_ 37,at_ 38,at_ 39,at_ 40,at_ 41,at_ 42,at_ 43,at_ 44,at_ 45,at_ 46,at_ 47,at_ 48,at_ 49,at_ 50]}}
abbrev cO(x q:Str)(t l n f a m:Nat):Obj:=⟨.type "code",none, .fields #[.str x t, .str q (t+1), .str "/claim/cut.py" (t+2), .int l 0, .int n 0, .int 0 0, .int 0 0, .int f 0, .ref a, .bool true, .int 181 0, .ref (a+1), .none, .ref (a+2), .ref (a+3), .ref (a+4), .int m 0, .int l 0, .str "/claim/cut.py" (m+1)], #[]⟩
abbrev dO(x q:Str)(t l n f a m:Nat):Obj:=⟨.type "code",none, .fields #[.str x t, .str q (t+1), .str "/claim/cut.py" (t+2), .int l 0, .int n 0, .int 0 0, .int 0 0, .int f 0, .ref a, .bool true, .int 181 0, .ref (a+1), .none, .none, .none, .ref (a+2), .int m 0, .int l 0, .str "/claim/cut.py" (m+1)], #[]⟩
abbrev eO(x:Str)(a d b t u:Nat):Obj:=⟨.type "type",none, .cls ⟨x,[.ref 31],[.ref a, .ref 31, .type "ValueError", .type "Exception", .type "BaseException", .type "object"],d,x,true,[],[],false,none,false⟩, #[some (.ref b),none,some (.str x t),some (.str x u),some (.builtin "ValueError.__new__"),some (.bool true)]⟩
abbrev fO(x q:Str)(s:Stmt)(m:Value)(c:Nat):Obj:=⟨.type "function",none, .func ⟨x,q,(dA s), .stmts (dB s),(dS s),3,[], .none, .none, .none,m,none, .ref c, .none,0⟩, #[]⟩
abbrev m0:Value:= .str "chanceduel.parts" 271
abbrev m1:Value:= .str "chanceduel.places" 301
abbrev m2:Value:= .str "chanceduel.floors" 359
abbrev m3:Value:= .str "chanceduel.alikes" 481
abbrev m4:Value:= .str "law_chanceduel_k51_places_parted" 522
noncomputable def K:Params->Frag:=λP=>
(nat_lit 2,⟨.none,none,(.dict #[] 0), #[]⟩)::
(nat_lit 3,⟨(.type "dict"),none,(.dict #[(en P "__name__" 165 m4),(en P "__doc__" 166 .none),(en P "__package__" 167 .none),(en P "__loader__" 168 (.builtin "__main__.__loader__#opaque")),(en P "__spec__" 169 .none),(en P "__annotations__" 170 (.ref 6)),(en P "__builtins__" 171 (.ref 4)),(en P "__file__" 173 (.str "/claim/cut.py" 172)),(en P "__cached__" 174 .none),(en P "_wall" 193 (.ref 21)),(en P "DuelError" 213 (.ref 31)),(en P "NoNumber" 229 (.ref 44)),(en P "NoFloor" 245 (.ref 56)),(en P "NoPlace" 270 (.ref 75)),(en P "common_divisor" 283 (.ref 84)),(en P "fraction" 292 (.ref 91)),(en P "plus" 300 (.ref 98)),(en P "HANDS" 305 (.ref 99)),(en P "MOST_DOORS" 307 (.int 6 306)),(en P "MOST_BOTTOM" 309 (.int 1000000 308)),(en P "fits_pay" 316 (.ref 106)),(en P "fits_door" 324 (.ref 113)),(en P "common_bottom" 333 (.ref 120)),(en P "fits_chances" 339 (.ref 125)),(en P "fits_doors" 345 (.ref 130)),(en P "fits_row" 351 (.ref 135)),(en P "copied_row" 358 (.ref 142)),(en P "MOST_PLACES" 362 (.int 12 361)),(en P "MOST_SHARE_BOTTOM" 364 (.int 1000 363)),(en P "fits_share" 371 (.ref 149)),(en P "Floor" 480 (.ref 232)),(en P "classes_by" 488 (.ref 241)),(en P "first_classes" 494 (.ref 246)),(en P "pairs_of" 506 (.ref 253)),(en P "next_classes" 512 (.ref 258)),(en P "parted" 521 (.ref 265)),(en P "_law_far" 531 (.ref 272)),(en P "_law_number" 541 (.ref 279)),(en P "_law_rest" 550 (.ref 286)),(en P "_law_lowest" 560 (.ref 293)),(en P "_law_pay" 568 (.ref 300)),(en P "_law_row_of_places" 574 (.ref 305)),(en P "_law_base" 592 (.ref 312)),(en P "_law_origin" 598 (.ref 317)),(en P "_law_piece" 609 (.ref 324)),(en P "_law_copy" 615 (.ref 329)),(en P "_law_spoilt" 631 (.ref 336)),(en P "_law_part_of" 643 (.ref 343)),(en P "_law_same" 654 (.ref 350)),(en P "_law_first" 660 (.ref 355)),(en P "_law_next" 666 (.ref 360)),(en P "_law_is_int" 673 (.ref 367)),(en P "_law_holds" 679 (.ref 372)),(en P "law" 685 (.ref 377))] 54), #[]⟩)::
(nat_lit 30,⟨(.type "dict"),none,(.dict #[(en P "__module__" 203 (.str "chanceduel.errors" 194)),(en P "__firstlineno__" 207 (.int 5 206)),(en P "__static_attributes__" 208 (.ref 29)),(en P "__weakref__" 210 (.ref 32)),(en P "__doc__" 211 .none)] 3), #[]⟩)::
(nat_lit 31,⟨(.type "type"),none,(.cls ⟨"DuelError",[(.type "ValueError")],[(.ref 31),(.type "ValueError"),(.type "Exception"),(.type "BaseException"),(.type "object")],30,"DuelError",true,[],[(.ref 44),(.ref 56),(.ref 75)],false,none,false⟩), #[(some (.ref 22)),none,(some (.str "DuelError" 196)),(some (.str "DuelError" 204)),(some (.builtin "ValueError.__new__")),(some (.bool true))]⟩)::
(nat_lit 44,eO "NoNumber" 44 43 35 214 222)::
(nat_lit 56,eO "NoFloor" 56 55 47 230 238)::
(nat_lit 75,eO "NoPlace" 75 74 59 246 254)::
(nat_lit 83,cO "common_divisor" "common_divisor" 273 17 2 3 78 281)::
(nat_lit 84,fO "common_divisor" "common_divisor" (at_ 7) m0 83)::
(nat_lit 90,cO "fraction" "fraction" 284 25 2 3 85 290)::
(nat_lit 91,fO "fraction" "fraction" (at_ 8) m0 90)::
(nat_lit 97,cO "plus" "plus" 293 32 2 3 92 298)::
(nat_lit 98,fO "plus" "plus" (at_ 9) m0 97)::
(nat_lit 99,⟨(.type "tuple"),none,(.seq #[(.str "one" 303),(.str "other" 304)] 0), #[]⟩)::
(nat_lit 105,cO "fits_pay" "fits_pay" 310 38 1 3 100 314)::
(nat_lit 106,fO "fits_pay" "fits_pay" (at_ 14) m1 105)::
(nat_lit 112,cO "fits_door" "fits_door" 317 40 2 3 107 322)::
(nat_lit 113,fO "fits_door" "fits_door" (at_ 15) m1 112)::
(nat_lit 119,cO "common_bottom" "common_bottom" 325 42 1 3 114 331)::
(nat_lit 120,fO "common_bottom" "common_bottom" (at_ 16) m1 119)::
(nat_lit 124,dO "fits_chances" "fits_chances" 334 47 1 3 121 337)::
(nat_lit 125,fO "fits_chances" "fits_chances" (at_ 17) m1 124)::
(nat_lit 129,dO "fits_doors" "fits_doors" 340 53 2 3 126 343)::
(nat_lit 130,fO "fits_doors" "fits_doors" (at_ 18) m1 129)::
(nat_lit 134,dO "fits_row" "fits_row" 346 57 2 3 131 349)::
(nat_lit 135,fO "fits_row" "fits_row" (at_ 19) m1 134)::
(nat_lit 141,cO "copied_row" "copied_row" 352 66 1 3 136 356)::
(nat_lit 142,fO "copied_row" "copied_row" (at_ 20) m1 141)::
(nat_lit 148,cO "fits_share" "fits_share" 365 73 1 3 143 369)::
(nat_lit 149,fO "fits_share" "fits_share" (at_ 24) m2 148)::
(nat_lit 160,dO "__init__" "Floor.__init__" 384 77 3 3 157 387)::
(nat_lit 161,fO "__init__" "Floor.__init__" (II (at_ 25) 0) m2 160)::
(nat_lit 167,cO "size" "Floor.size" 390 88 1 3 162 394)::
(nat_lit 168,fO "size" "Floor.size" (II (at_ 25) 1) m2 167)::
(nat_lit 181,cO "kind" "Floor.kind" 404 94 2 3 176 409)::
(nat_lit 182,fO "kind" "Floor.kind" (II (at_ 25) 3) m2 181)::
(nat_lit 188,cO "doors" "Floor.doors" 412 97 2 3 183 417)::
(nat_lit 189,fO "doors" "Floor.doors" (II (at_ 25) 4) m2 188)::
(nat_lit 195,cO "pay" "Floor.pay" 420 102 2 3 190 425)::
(nat_lit 196,fO "pay" "Floor.pay" (II (at_ 25) 5) m2 195)::
(nat_lit 231,⟨(.type "dict"),none,(.dict #[(en P "__module__" 379 m2),(en P "__firstlineno__" 383 (.int 75 382)),(en P "__init__" 389 (.ref 161)),(en P "size" 396 (.ref 168)),(en P "share" 403 (.ref 175)),(en P "kind" 411 (.ref 182)),(en P "doors" 419 (.ref 189)),(en P "pay" 427 (.ref 196)),(en P "rows" 433 (.ref 201)),(en P "shown" 443 (.ref 208)),(en P "all_shown" 452 (.ref 215)),(en P "look" 461 (.ref 222)),(en P "best" 470 (.ref 229)),(en P "__static_attributes__" 473 (.ref 230)),(en P "__dict__" 475 (.ref 233)),(en P "__weakref__" 477 (.ref 234)),(en P "__doc__" 478 .none)] 4), #[]⟩)::
(nat_lit 232,⟨(.type "type"),none,(.cls ⟨"Floor",[(.type "object")],[(.ref 232),(.type "object")],231,"Floor",true,[],[],false,none,false⟩), #[none,none,(some (.str "Floor" 372)),(some (.str "Floor" 380)),(some (.builtin "object.__new__")),(some (.bool true))]⟩)::
(nat_lit 240,dO "classes_by" "classes_by" 483 122 1 3 237 486)::
(nat_lit 241,fO "classes_by" "classes_by" (at_ 27) m3 240)::
(nat_lit 245,dO "first_classes" "first_classes" 489 124 1 3 242 492)::
(nat_lit 246,fO "first_classes" "first_classes" (at_ 28) m3 245)::
(nat_lit 252,cO "pairs_of" "pairs_of" 495 126 3 3 247 504)::
(nat_lit 253,fO "pairs_of" "pairs_of" (at_ 29) m3 252)::
(nat_lit 257,dO "next_classes" "next_classes" 507 135 2 3 254 510)::
(nat_lit 258,fO "next_classes" "next_classes" (at_ 30) m3 257)::
(nat_lit 264,cO "parted" "parted" 513 137 1 3 259 519)::
(nat_lit 265,fO "parted" "parted" (at_ 31) m3 264)::
(nat_lit 271,cO "_law_far" "_law_far" 524 145 2 3 266 529)::
(nat_lit 272,fO "_law_far" "_law_far" (at_ 33) m4 271)::
(nat_lit 278,cO "_law_number" "_law_number" 532 147 2 3 273 539)::
(nat_lit 279,fO "_law_number" "_law_number" (at_ 34) m4 278)::
(nat_lit 285,cO "_law_rest" "_law_rest" 542 153 2 3 280 548)::
(nat_lit 286,fO "_law_rest" "_law_rest" (at_ 35) m4 285)::
(nat_lit 292,cO "_law_lowest" "_law_lowest" 551 158 2 3 287 558)::
(nat_lit 293,fO "_law_lowest" "_law_lowest" (at_ 36) m4 292)::
(nat_lit 299,cO "_law_pay" "_law_pay" 561 164 1 3 294 566)::
(nat_lit 300,fO "_law_pay" "_law_pay" (at_ 37) m4 299)::
(nat_lit 304,dO "_law_row_of_places" "_law_row_of_places" 569 169 1 3 301 572)::
(nat_lit 305,fO "_law_row_of_places" "_law_row_of_places" (at_ 38) m4 304)::
(nat_lit 311,cO "_law_base" "_law_base" 575 173 1 3 306 590)::
(nat_lit 312,fO "_law_base" "_law_base" (at_ 39) m4 311)::
(nat_lit 316,dO "_law_origin" "_law_origin" 593 194 2 3 313 596)::
(nat_lit 317,fO "_law_origin" "_law_origin" (at_ 40) m4 316)::
(nat_lit 323,cO "_law_piece" "_law_piece" 599 199 3 3 318 607)::
(nat_lit 324,fO "_law_piece" "_law_piece" (at_ 41) m4 323)::
(nat_lit 328,dO "_law_copy" "_law_copy" 610 206 4 3 325 613)::
(nat_lit 329,fO "_law_copy" "_law_copy" (at_ 42) m4 328)::
(nat_lit 335,cO "_law_spoilt" "_law_spoilt" 616 228 2 3 330 629)::
(nat_lit 336,fO "_law_spoilt" "_law_spoilt" (at_ 43) m4 335)::
(nat_lit 342,cO "_law_part_of" "_law_part_of" 632 244 3 3 337 641)::
(nat_lit 343,fO "_law_part_of" "_law_part_of" (at_ 44) m4 342)::
(nat_lit 349,cO "_law_same" "_law_same" 644 253 3 3 344 652)::
(nat_lit 350,fO "_law_same" "_law_same" (at_ 45) m4 349)::
(nat_lit 354,dO "_law_first" "_law_first" 655 261 1 3 351 658)::
(nat_lit 355,fO "_law_first" "_law_first" (at_ 46) m4 354)::
(nat_lit 359,dO "_law_next" "_law_next" 661 269 2 3 356 664)::
(nat_lit 360,fO "_law_next" "_law_next" (at_ 47) m4 359)::
(nat_lit 366,cO "_law_is_int" "_law_is_int" 667 276 1 3 361 671)::
(nat_lit 367,fO "_law_is_int" "_law_is_int" (at_ 48) m4 366)::
(nat_lit 371,dO "_law_holds" "_law_holds" 674 278 2 3 368 677)::
(nat_lit 372,fO "_law_holds" "_law_holds" (at_ 49) m4 371)::
(nat_lit 376,dO "law" "law" 680 292 1 3 373 683)::
(nat_lit 377,fO "law" "law" (at_ 50) m4 376)::[]
noncomputable abbrev H:Hook:=kHook K [2,3,30,31,44,56,75,83,84,90,91,97,98,99,105,106,112,113,119,120,124,125,129,130,134,135,141,142,148,149,160,161,167,168,181,182,188,189,195,196,231,232,240,241,245,246,252,253,257,258,264,265,271,272,278,279,285,286,292,293,299,300,304,305,311,312,316,317,323,324,328,329,335,336,342,343,349,350,354,355,359,360,366,367,371,372,376,377] (λ_=>by kernel_rfl)
abbrev Xt:Shared->Bool:=λs=>xlAt q [] s&&recOk (RowW.records row.toRowW) s
theorem N6{A B C:Type}{o:Option C}{f:C->A}{g:C->B}{a:A}{b:B}(h:o.map f=some a)(k:o.map g=some b):o.map (λs=>(f s,g s))=some (a,b):=by
  cases o with
  | none=>exact nomatch h
  | some c=>injection h with h;injection k with k;subst h;subst k;rfl
section
variable{A B C D E F G X:Type}{o:Option X}{f:X->A×B×C×D×E×F×G}{t:A×B×C×D×E×F×G}
def p1:A×B×C×D×E×F×G->A
  | (a,_,_,_,_,_,_)=>a
def p2:A×B×C×D×E×F×G->B×C
  | (_,b,c,_,_,_,_)=>(b,c)
def p3:A×B×C×D×E×F×G->D
  | (_,_,_,d,_,_,_)=>d
def p5:A×B×C×D×E×F×G->E
  | (_,_,_,_,e,_,_)=>e
def p6:A×B×C×D×E×F×G->F
  | (_,_,_,_,_,f,_)=>f
def p4:A×B×C×D×E×F×G->G
  | (_,_,_,_,_,_,g)=>g
theorem pr(h:o.map (λx=>p1 (f x))=some t.1)(g:o.map (λx=>p2 (f x))=some (t.2.1,t.2.2.1))(k:o.map (λx=>p3 (f x))=some t.2.2.2.1)(k1:o.map (λx=>p5 (f x))=some t.2.2.2.2.1)(k2:o.map (λx=>p6 (f x))=some t.2.2.2.2.2.1)(l:o.map (λx=>p4 (f x))=some t.2.2.2.2.2.2):o.map f=some t:=by
  cases o with
  | none=>exact nomatch h
  | some x=>
    replace h:p1 (f x)=t.1:=aat h;replace g:p2 (f x)=(t.2.1,t.2.2.1):=aat g;replace k:p3 (f x)=t.2.2.2.1:=aat k;replace k1:p5 (f x)=t.2.2.2.2.1:=aat k1;replace k2:p6 (f x)=t.2.2.2.2.2.1:=aat k2;replace l:p4 (f x)=t.2.2.2.2.2.2:=aat l;show some (f x)=some t;revert h g k k1 k2 l;generalize f x=u;obtain ⟨a,b,c,d,e,f',y⟩:=u;obtain ⟨a',b',c',d',e',RE,y'⟩:=t;intro h g k k1 k2 l;cases (h:a=a');cases (g:(b,c)=(b',c'));cases (k:d=d');cases (k1:e=e');cases (k2:f'=RE);cases (l:y=y');rfl
end
def Kg{A B:Type}(o:Option A)(c:A->Bool)(T:A->Option B):Option (A×B):=o.bind λa=>match c a with
  | true=>(T a).map λb=>(a,b)
  | false=>none
def Ky {A B:Type} (o:Option A) (c:A->Bool) (T:A->Option B) (k:A->B->Bool):Option B:=o.bind λa=>match c a with
  | true=>(T a).bind λb=>match k a b with
    | true=>some b
    | false=>none
  | false=>none
theorem OZ {A B C:Type} {o:Option A} {c:A->Bool} {T:A->Option B} {k:A->B->Bool} {g:B->C} {v:C} (h:(Kg o c T).map (λx=>k x.1 x.2)=some true) (l:(Kg o c T).map (λx=>g x.2)=some v):(Ky o c T k).map g=some v:=by
  unfold Kg at h l;unfold Ky;cases o with
  | none=>exact nomatch h
  | some a=>
    dsimp only [Option.bind] at h l⊢;cases hc:c a with
    | false=>rw [hc] at h;exact nomatch h
    | true=>
      rw [hc] at h l;dsimp only at h l⊢;cases hT:T a with
      | none=>rw [hT] at h;exact nomatch h
      | some b=>
        rw [hT] at h l;injection h with h;injection l with l
        dsimp only [Option.bind];rw [show k a b=true from h];exact aaX some l
noncomputable abbrev oA(p:Program)(w:World)(N:Nat):Option Shared:=(Fast.tw10274390034422433532 Fast.tw14364793385576792824 (opening p) w N (Fast.tw1435165496053646825 (opening p)).1 (Fast.tw1435165496053646825 (opening p)).2).bind (fenceModules? p)
abbrev cA(s:Shared):Bool:=s.heap.isNs mainGlobals&&s.gens.size==0
noncomputable abbrev tA(p:Program)(w:World)(N:Nat)(s₀:Shared):Option Shared:=Fast.tw14082659384304107361 Fast.tw14364793385576792824 p w s₀.heap.objs.size (s₀.heap.nsMap mainGlobals "__annotations__") N s₀ (topStub p)
abbrev kA(p:Program)(s₀ s₁:Shared):Bool:=staticsOk (importedModules p.main.body) s₀.heap s₁.heap&&namesBound p s₁.heap&&gensDone s₁&&laidKept s₀.heap s₁.heap
theorem oe(p:Program)(w:World)(N:Nat):openEnds treeTable p w N=Ky (oA p w N) cA (tA p w N) (kA p):=by unfold openEnds fencedOpening topFrom Ky oA tA;rewrite [Fast.te14082659384304107361,Fast.te14364793385576792824,Fast.te10274390034422433532,Fast.te1435165496053646825];rfl
noncomputable abbrev go(w:World):=Kg (oA row.prog w 5192) cA (tA row.prog w 5192)
abbrev gd:=openGood q []
noncomputable abbrev sn(x:Shared×Shared):=Fast.tw4187177175401517315 q [] (importedModules row.prog.main.body) Xt true x.2
theorem la(w:World):(go w).map (λx=>p1 (sn x))=some gd.1:=by kernel_rfl
theorem lb(w:World):(go w).map (λx=>p2 (sn x))=some (gd.2.1,gd.2.2.1):=by kernel_rfl
theorem lc(w:World):(go w).map (λx=>p3 (sn x))=some gd.2.2.2.1:=by kernel_rfl
theorem le(w:World):(go w).map (λx=>p5 (sn x))=some gd.2.2.2.2.1:=by kernel_rfl
theorem lg(w:World):(go w).map (λx=>p6 (sn x))=some gd.2.2.2.2.2.1:=by kernel_rfl
theorem ld(w:World):(go w).map (λx=>p4 (sn x))=some gd.2.2.2.2.2.2:=by kernel_rfl
theorem lk(w:World):(go w).map (λx=>kA row.prog x.1 x.2)=some true:=by kernel_rfl
theorem lo(w:World):(go w).map (λx=>H.obs x.2)=some (H.val w):=by kernel_rfl
theorem Ig(w:World):(openEnds treeTable row.prog w 5192).map (openSeen q [] (importedModules row.prog.main.body) Xt true)=some gd:=by rewrite [oe,Fast.te4187177175401517315];exact OZ (lk w) (pr (la w) (lb w) (lc w) (le w) (lg w) (ld w))
theorem IC(w:World):(openEnds treeTable row.prog w 5192).map H.obs=some (H.val w):=by rewrite [oe];exact OZ (lk w) (lo w)
theorem left:LeftO row.prog q [] Xt H.obs H.val 5192:=λw=>N6 (Ig w) (IC w)
end Hd
theorem fI:2<=PySem.sizeLine:=by decide
abbrev fv:=PySem.W.Frag
namespace L2
open PySem PySem.Spec PyProof.Rows
variable{us:List Value}{a b dx C:Addr}{P prog:Program}{w:World}{h h' base:Heap}{δ:List (Addr×Obj)}{s:Shared}{g':Array GenState}{ch fp:List Addr}{i k:Nat}{x:Str}{M:Model}{A:Around}{E Q:Value->Shared->Prop}{u:Value}{pos:Pos}{e c tg:Expr}{es:List Expr}{body:List Stmt}{f:Value->Value->Sem Value}{op:CmpOp}{mA mg:Str->Option Value}{kw:List (Str×Value)}{outer:List Env}{ps:List Str}
abbrev Key:=Sum Int Str
def n_:Key->Value->Bool
 | .inl k,v=>Value.isInt k v
 | .inr x,v=>Value.isStrOf x v
def LF(w:World):Key->Int
 | .inl k=>hashInt k
 | .inr x=>hashStr w x
theorem aS:∀{k:Key} {v:Value},n_ k v=true->(∃i t,k=Sum.inl i/\v=Value.int i t)\/(∃x t,k=Sum.inr x/\v=Value.str x t)
 | .inl i,v,h=>by obtain ⟨t,e⟩:=Value.isInt_shape (k:=i) (v:=v) h;exact .inl ⟨i,t,rfl,e⟩
 | .inr x,v,h=>by obtain ⟨t,e⟩:=Value.isStrOf_shape (x:=x) (v:=v) h;exact .inr ⟨x,t,rfl,e⟩
theorem wO(i:Int)(t:Tok):n_ (.inl i) (.int i t)=true:=by simp [n_,Value.isInt]
theorem xn(x:Str)(t:Tok):n_ (.inr x) (.str x t)=true:=by simp [n_,Value.isStrOf]
theorem FK(a b:Int):decide ((Sum.inl a:Key)=Sum.inl b)=(a==b):=by
 by_cases e:a=b
 ·subst e;simp
 ·have h:¬(Sum.inl a:Key)=Sum.inl b:=λq=>e (Sum.inl.inj q);rw [aaF h];exact (beq_eq_false_iff_ne.mpr e).symm
theorem Fg(a b:Str):decide ((Sum.inr a:Key)=Sum.inr b)=decide (a=b):=by
 by_cases e:a=b
 ·subst e;simp
 ·have h:¬(Sum.inr a:Key)=Sum.inr b:=λq=>e (Sum.inr.inj q);rw [aaF h,aaF e]
theorem FZ(a:Int)(b:Str):decide ((Sum.inl a:Key)=Sum.inr b)=false:=aaF (λq=>nomatch q)
theorem FV(a:Str)(b:Int):decide ((Sum.inr a:Key)=Sum.inl b)=false:=aaF (λq=>nomatch q)
def bh(prog:Program)(w:World):PySem.KeyKind prog w Key where
 is:=n_
 hash:=LF w
 inj:=λv a b ha hb=>by
  rcases aS ha with ⟨i,t,rfl,rfl⟩ | ⟨x,t,rfl,rfl⟩
  ·rcases aS hb with ⟨j,u,rfl,e⟩ | ⟨y,u,rfl,e⟩
   ·injection e with e1 _;rw [e1]
   ·exact nomatch e
  ·rcases aS hb with ⟨j,u,rfl,e⟩ | ⟨y,u,rfl,e⟩
   ·exact nomatch e
   ·injection e with e1 _;rw [e1]
 byValue:=λk v h=>by rcases aS h with ⟨i,t,rfl,rfl⟩ | ⟨x,t,rfl,rfl⟩ <;> rfl
 pyHash:=λhv h=>by
  rcases aS hv with ⟨i,t,rfl,rfl⟩ | ⟨x,t,rfl,rfl⟩
  ·exact wpAny_pyHash_int h
  ·exact wpAny_pyHash_str h
 eqBool:=λhu hv h=>by
  rcases aS hu with ⟨i,t,rfl,rfl⟩ | ⟨x,t,rfl,rfl⟩
  ·rcases aS hv with ⟨j,u,rfl,rfl⟩ | ⟨y,u,rfl,rfl⟩
   ·rw [FK] at h;exact wpAny_eqBool_int h
   ·rw [FZ] at h;exact SeqAt.EqAt.int_str i t y u _ _ _ _ h
  ·rcases aS hv with ⟨j,u,rfl,rfl⟩ | ⟨y,u,rfl,rfl⟩
   ·rw [FV] at h;exact SeqAt.EqAt.str_int x t j u _ _ _ _ h
   ·rw [Fg] at h;exact wpAny_eqBool_str h
 «strs»:=λk x t v h=>by
  rcases aS h with ⟨i,u,rfl,e⟩ | ⟨y,u,rfl,e⟩
  ·exact nomatch e
  ·injection e with e1 _
   subst e1;cases v <;> rfl
theorem q_(prog:Program)(w:World)(i:Int)(t:Tok):(bh prog w).is (.inl i) (.int i t)=true:=wO i t
theorem sP(prog:Program)(w:World)(x:Str)(t:Tok):(bh prog w).is (.inr x) (.str x t)=true:=xn x t
inductive V where
 | aW | bl (b:Bool) | int (i:Int) | str (x:Str) | yb (b:Array UInt8) | D5 (b:UInt64) | ref (a:Addr) | ty (n:String)
 deriving DecidableEq
variable{v:V}
def Τ:V->Value->Prop
 | .aW,u=>u=Value.none
 | .bl b,u=>u=Value.bool b
 | .int i,u=>∃t,u=Value.int i t
 | .str x,u=>∃t,u=Value.str x t
 | .yb b,u=>∃t,u=Value.bytes b t
 | .D5 b,u=>∃t,u=Value.float b t
 | .ref a,u=>u=Value.ref a
 | .ty n,u=>u=Value.type n
abbrev Μ:List V->List Value->Prop:=Paired Τ
theorem Μ.length{xs:List V}(r:Μ xs us):xs.length=us.length:=Paired.length r
theorem Μ.get:∀{xs:List V} {us:List Value} {i:Nat} {x:V},Μ xs us->xs[i]? =some x->∃u,us[i]? =some u/\Τ x u
 | _,_,_,_, .nil,e=>by simp at e
 | _,_,0,_, .cons r _,e=>by simp at e;subst e;exact ⟨_,rfl,r⟩
 | _,_,i+1,x, .cons _ t,e=>by obtain ⟨u,h1,h2⟩:=Μ.get (i:=i) (x:=x) t (by simpa using e);exact ⟨u,by simpa using h1,h2⟩
theorem Μ.set{x:V}{u:Value}(r:Τ x u):∀{xs:List V} {us:List Value} (i:Nat),Μ xs us->Μ (xs.set i x) (us.set i u)
 | _,_,_, .nil=> .nil
 | _,_,0, .cons _ t=> .cons r t
 | _,_,i+1, .cons q t=> .cons q (Μ.set r i t)
theorem Μ.append:∀{xs ys:List V} {us ws:List Value},Μ xs us->Μ ys ws->Μ (xs++ys) (us++ws)
 | _,_,_,_, .nil,s=>s
 | _,_,_,_, .cons r t,s=> .cons r (Μ.append t s)
theorem Μ.take:∀{xs:List V} {us:List Value} (n:Nat),Μ xs us->Μ (xs.take n) (us.take n)
 | _,_,0,_=> .nil
 | _,_,_+1, .nil=> .nil
 | _,_,n+1, .cons r t=> .cons r (Μ.take n t)
theorem Μ.drop:∀{xs:List V} {us:List Value} (n:Nat),Μ xs us->Μ (xs.drop n) (us.drop n)
 | _,_,0,r=>r
 | _,_,_+1, .nil=> .nil
 | _,_,n+1, .cons _ t=>Μ.drop n t
def iy:Option V->Option Value->Prop
 | some v,some u=>Τ v u
 | none,none=>True
 | _,_=>False
def KV{κ:Type}:List (κ×V)->List (κ×Value)->Prop:=Paired λ(p:κ×V) (q:κ×Value)=>p.1=q.1/\Τ p.2 q.2
def kV:Key->V
 | .inl i=> .int i
 | .inr x=> .str x
inductive HO where
 | lst (xs:List V)
 | tup (xs:List V)
 | dK (af:List (Key×V)) | dT (af:List (List Key×V))
 | set (S:Int->Bool) (n:Nat)
 | ins (C dx:Addr) (fs:List (Str×V))
 | own (x:Addr)
 | xd (fs:List (Str×V))
 | met (f x:Addr)
 | C3 (lo hi:Int)
 | qS (o:Obj) (u:HO)
 | CM (ps:Array Value)
 | ext (φ:Heap->Prop)
variable{o:HO}
abbrev Hp:=Addr->Option HO
def upd(H:Hp)(a:Addr)(o:HO):Hp:=λb=>if b=a then some o else H b
theorem Ξ{H:Hp}:upd H a o a=some o:=by unfold upd;rw [if_pos rfl]
theorem Α{H:Hp}(h:b≠a):upd H a o b=H b:=by unfold upd;rw [if_neg h]
theorem aV{H:Hp}(h:H a=some o)(h':H b=none):a≠b:=by intro e;subst e;rw [h] at h';cases h'
section
variable(P:Program)(w:World)
def aT(H:Hp)(h:Heap)(a:Addr):HO->Prop
 | .lst xs=>xs.length<=sizeLine/\∃(its:List Value) (n:Nat),Μ xs its/\h.get? a=some {cls:= .type "list",data:= .seq its.toArray n}
 | .tup xs=>xs.length<=sizeLine/\∃its:List Value,Μ xs its/\IsTup h a its.toArray
 | .dK af=>af.length<=sizeLine/\(a==sysModules)=false/\∃vs,KV af vs/\h.DictOf (bh P w) a vs
 | .dT af=>af.length<=sizeLine/\(a==sysModules)=false/\∃xs:List (List Key×Addr×Value),
   Paired (λ(p:List Key×V) (q:List Key×Addr×Value)=>p.1=q.1/\H q.2.1=some (.tup (p.1.map kV))/\Τ p.2 q.2.2) af xs/\
   ∃o es ep,h.get? a=some o/\o.ExactDict/\o.data= .dict es ep/\es.toList=xs.map (entryOfKey (tupleKind (bh P w)))/\(xs.map (·.1)).Nodup
 | .set S n=>h.SetOf (intKind P w) a S n
 | .ins C dx fs=>H dx=some (.own a)/\fs.length<=1000/\dx≠a/\h.get? a=some (PySem.W.instObj C dx)/\
   ∃mA,h.Ns1 dx mA/\(∀f,iy (fs.lookup f) (mA f))/\PySem.Within mA (fs.map (·.1))
 | .own _=>∃o,h.get? a=some o
 | .xd fs=>∃mA,h.Ns1 a mA/\∀f,iy (fs.lookup f) (mA f)
 | .C3 lo hi=>∃t u v,h.get? a=some {cls:= .type "range",data:= .fields #[.int lo t, .int hi u, .int 1 v]}
 | .qS o u=>h.get? a=some o/\aT H h a u
 | .CM ps=>h.get? a=some {cls:= .none,data:= .fields ps}
 | .met f x=>h.get? a=some (PySem.W.methodObj (.ref f) (.ref x))
 | .ext φ=>φ h/\(∃o,h.get? a=some o)/\∀h1 h2:Heap,φ h1->(∀o,h1.get? a=some o->h2.get? a=some o)->φ h2
def gI(H:Hp)(h:Heap):Prop:=∀a o,H a=some o->aT P w H h a o
end
section
variable{H H':Hp}
theorem aT.lt(x:aT P w H h a o):a < h.objs.size:=by
 cases o with
 | lst xs=>obtain ⟨_,_,_,_,e⟩:=x;exact aas e
 | tup xs=>obtain ⟨_,_,_,p⟩:=x;exact p.lt
 | dK af=>obtain ⟨_,_,_,_,o,_,_,e,_⟩:=x;exact aas e
 | dT af=>obtain ⟨_,_,_,_,o,_,_,e,_⟩:=x;exact aas e
 | set S n=>obtain ⟨o,_,_,_,e,_⟩:=x;exact aas e
 | ins C dx fs=>obtain ⟨_,_,_,e,_⟩:=x;exact aas e
 | own y=>obtain ⟨_,e⟩:=x;exact aas e
 | xd fs=>obtain ⟨_,⟨_,_,_,e,_⟩,_⟩:=x;exact aas e
 | C3 lo hi=>obtain ⟨_,_,_,e⟩:=x;exact aas e
 | qS ob u=>obtain ⟨e,_⟩:=x;exact aas e
 | CM ps=>exact aas (show h.get? a=some _ from x)
 | met f y=>exact aas (show h.get? a=some _ from x)
 | ext φ=>obtain ⟨_,⟨_,e⟩,_⟩:=x;exact aas e
theorem Paired.Iv{α β:Type}{F G:α->β->Prop}:∀{l₁:List α} {l₂:List β},Paired F l₁ l₂->(∀a b,F a b->G a b)->Paired G l₁ l₂
 | _,_, .nil,_=> .nil
 | _,_, .cons r t,f=> .cons (f _ _ r) (Paired.Iv t f)
theorem aT.w8(x:aT P w H h a o)(k:∀b u,(b=a\/H b=some (.own a))->h.get? b=some u->h'.get? b=some u)
  (ho:∀b,H b=some (.own a)->H' b=some (.own a)) (ht:∀b xs,H b=some (.tup xs)->H' b=some (.tup xs)):aT P w H' h' a o:=by
 induction o with
 | lst xs=>obtain ⟨z,its,n,r,e⟩:=x;exact ⟨z,its,n,r,k _ _ (.inl rfl) e⟩
 | tup xs=>obtain ⟨z,its,r,ob,e,c⟩:=x;exact ⟨z,its,r,ob,k _ _ (.inl rfl) e,c⟩
 | dK af=>obtain ⟨z,y,vs,r,ob,es,ep,e,c⟩:=x;exact ⟨z,y,vs,r,ob,es,ep,k _ _ (.inl rfl) e,c⟩
 | dT af=>
  obtain ⟨z,y,xs,r,ob,es,ep,e,c⟩:=x;exact ⟨z,y,xs,Paired.Iv r λp q z=>⟨z.1,ht _ _ z.2.1,z.2.2⟩,ob,es,ep,k _ _ (.inl rfl) e,c⟩
 | set S n=>obtain ⟨ob,es,ep,t,e,c⟩:=x;exact ⟨ob,es,ep,t,k _ _ (.inl rfl) e,c⟩
 | ins C dx fs=>
  obtain ⟨d,z,ne,e,mA,⟨od,es,ep,e2,c⟩,r⟩:=x;exact ⟨ho _ d,z,ne,k _ _ (.inl rfl) e,mA,⟨od,es,ep,k _ _ (.inr d) e2,c⟩,r⟩
 | own y=>obtain ⟨ob,e⟩:=x;exact ⟨ob,k _ _ (.inl rfl) e⟩
 | xd fs=>obtain ⟨mA,⟨od,es,ep,e,c⟩,r⟩:=x;exact ⟨mA,⟨od,es,ep,k _ _ (.inl rfl) e,c⟩,r⟩
 | C3 lo hi=>obtain ⟨t,u,v,e⟩:=x;exact ⟨t,u,v,k _ _ (.inl rfl) e⟩
 | qS ob u ih=>obtain ⟨e,q⟩:=x;exact ⟨k _ _ (.inl rfl) e,ih q⟩
 | CM ps=>
  have e:h.get? a=some {cls:= .none,data:= .fields ps}:=x;show h'.get? a=some {cls:= .none,data:= .fields ps};exact k a _ (.inl rfl) e
 | met f y=>
  have e:h.get? a=some (PySem.W.methodObj (.ref f) (.ref y)):=x;show h'.get? a=some (PySem.W.methodObj (.ref f) (.ref y));exact k a _ (.inl rfl) e
 | ext φ=>obtain ⟨p,⟨o,e⟩,st⟩:=x;exact ⟨st _ _ p λo q=>k _ _ (.inl rfl) q,⟨o,k _ _ (.inl rfl) e⟩,st⟩
theorem gI.lt(x:gI P w H h)(e:H a=some o):a < h.objs.size:=(x a o e).lt
theorem gI.fresh(x:gI P w H h)(e:h.objs.size<=a):H a=none:=by
 cases q:H a with
 | none=>rfl
 | some u=>exact aaE (aaz (x.lt q) e) (abp _)
theorem gI.kept(x:gI P w H h)(k:∀b u,h.get? b=some u->h'.get? b=some u):gI P w H h':=λa o e=>
 (x a o e).w8 (λb u _ q=>k b u q) (λ_ q=>q) λ_ _ q=>q
theorem gI.laid(x:gI P w H h)(k:∀b u,h.get? b=some u->h'.get? b=some u)(hp:h.objs.size<=a)(new:aT P w (upd H a o) h' a o):gI P w (upd H a o) h':=λb u e=>by
 have hn:=x.fresh hp;by_cases hb:b=a
 ·subst hb;rw [Ξ] at e;cases e;exact new
 ·rw [Α hb] at e;exact (x b u e).w8 (λc v _ q=>k c v q) (λc q=>by rw [Α (aV q hn)];exact q) λc xs q=>by rw [Α (aV q hn)];exact q
end
def Rd(H:Hp)(a:Addr)(u:HO):Prop:=H a=some u\/∃o,H a=some (.qS o u)
theorem Rd.of{H:Hp}{u:HO}(h:H a=some u):Rd H a u:= .inl h
theorem Rd.ok{H:Hp}{u:HO}(r:Rd H a u)(x:gI P w H h):aT P w H h a u:=by
 rcases r with r | ⟨o,r⟩
 ·exact x a u r
 ·obtain ⟨_,q⟩:=x a _ r;exact q
def JR:Option HO->Prop
 | some (.lst _)=>True
 | some (.dK _)=>True
 | some (.dT _)=>True
 | some (.set _ _)=>True
 | some (.ins _ _ _)=>True
 | some (.ext _)=>True
 | _=>False
section
variable{H:Hp}{x e:Addr}{o':HO}
theorem gI.write(ok:gI P w H h)(mu:JR (H x))(he:e=x\/H e=some (.own x))(k:∀b u,b≠e->h.get? b=some u->h'.get? b=some u)(GQ:∃u,h'.get? e=some u)
  (new:aT P w (upd H x o') h' x o'):gI P w (upd H x o') h':=λb u q=>by
 have Ii:∀c y,H c=some (.own y)->c≠x:=λc y r z=>by subst z;rw [r] at mu;exact mu
 have ML:∀c xs,H c=some (.tup xs)->c≠x:=λc xs r z=>by subst z;rw [r] at mu;exact mu
 by_cases hb:b=x
 ·subst hb;rw [Ξ] at q;cases q;exact new
 ·rw [Α hb] at q;by_cases Gh:b=e
  ·have q':H b=some (.own x):=by
    rcases he with z | z
    ·exact aaE (Gh.trans z) hb
    ·rw [Gh];exact z
   rw [q] at q';cases q';obtain ⟨v,hv⟩:=GQ;exact ⟨v,by rw [Gh];exact hv⟩
  ·refine (ok b u q).w8 (λc v hc r=>k c v ?_ r) (λc r=>by rw [Α (Ii c b r)];exact r) λc xs r=>by rw [Α (ML c xs r)];exact r
   rcases hc with rfl | hc
   ·exact Gh
   ·rintro rfl;rcases he with z | z
    ·exact Ii c b hc z
    ·rw [hc] at z;cases z;exact hb rfl
end
structure Un(fs ex:List Addr)(H H':Hp)(h h':Heap):Prop where
 keep:∀b o,h.get? b=some o->H b=none->b∉fs->b∉ex->h'.get? b=some o
 slot:∀b o,h.get? b=some o->H b=none->b∈fs->b∉ex->∃sl,h'.get? b=some {o with slots:=sl}
 free:∀b o,h.get? b=some o->H b=none->b∉ex->H' b=none
 there:∀b o,h.get? b=some o->b∉ex->∃o',h'.get? b=some o'
 kF:∀b xs,H b=some (.tup xs)->H' b=some (.tup xs)
 jw:∀b o u,H b=some (.qS o u)->H' b=some (.qS o u)
 kE:∀b ps,H b=some (.CM ps)->∃more,H' b=some (.CM (ps++more))
section
variable{fs Np ex BH:List Addr}{H H1 H2:Hp}{h1 h2:Heap}{x e:Addr}
theorem Un.any(u:Un fs ex H H1 h h1){ob:Obj}(q:h.get? b=some ob)(n:H b=none)(hx:b∉ex):∃sl,h1.get? b=some {ob with slots:=sl}:=by
 by_cases hb:b∈fs
 ·exact u.slot b ob q n hb hx
 ·exact ⟨ob.slots,u.keep b ob q n hb hx⟩
theorem Un.kept(k:∀b u,h.get? b=some u->h'.get? b=some u):Un fs ex H H h h':=
 ⟨λb ob q _ _ _=>k b ob q,λb ob q _ _ _=>⟨ob.slots,k b ob q⟩,λ_ _ _ n _=>n,λb ob q _=>⟨ob,k b ob q⟩,λ_ _ q=>q,λ_ _ _ q=>q,λ_ ps q=>⟨#[],by rw [q];simp⟩⟩
theorem Un.refl:Un fs ex H H h h:=Un.kept λ_ _ q=>q
theorem Un.laid(k:∀b u,h.get? b=some u->h'.get? b=some u)(hp:h.objs.size<=a)(hn:H a=none):Un fs ex H (upd H a o) h h' where
 keep:=λb u q _ _ _=>k b u q
 slot:=λb u q _ _ _=>⟨u.slots,k b u q⟩
 free:=λb u q n _=>by rw [Α (aaM (aaz (aas q) hp))];exact n
 there:=λb u q _=>⟨u,k b u q⟩
 kF:=λb xs q=>by rw [Α (aV q hn)];exact q
 jw:=λb u xs q=>by rw [Α (aV q hn)];exact q
 kE:=λb ps q=>⟨#[],by rw [Α (aV q hn),q];simp⟩
theorem Un.write(mu:JR (H x))(he:e=x\/H e=some (.own x))(k:∀b u,b≠e->h.get? b=some u->h'.get? b=some u)(GQ:∃u,h'.get? e=some u):Un fs ex H (upd H x o) h h':=by
 have hx:∀b,H b=none->b≠x:=λb n z=>by subst z;rw [n] at mu;exact mu
 have hb:∀b,H b=none->b≠e:=λb n z=>by
  subst z;rcases he with r | r
  ·exact hx b n r
  ·rw [n] at r;cases r
 have hm:∀b u,H b=some u->¬JR (some u)->b≠x:=λb u q nm z=>by subst z;rw [q] at mu;exact nm mu
 refine ⟨λb u q n _ _=>k b u (hb b n) q,λb u q n _ _=>⟨u.slots,k b u (hb b n) q⟩,λb u q n _=>by rw [Α (hx b n)];exact n,λb u q _=> ?_,
  λb xs q=>by rw [Α (hm b _ q λz=>z)];exact q,λb u xs q=>by rw [Α (hm b _ q λz=>z)];exact q,λb ps q=>⟨#[],by rw [Α (hm b _ q λz=>z),q];simp⟩⟩
 by_cases Gh:b=e
 ·subst Gh;exact GQ
 ·exact ⟨u,k b u Gh q⟩
end
def Kj(h:Heap)(H:Hp):List Addr:=(List.range h.objs.size).filter λa=>(H a).isSome
def pL(h:Heap)(H:Hp):Heap:=PySem.W.hideAll h (Kj h H)
theorem xT(h:Heap)(H:Hp):(pL h H).objs.size=h.objs.size:=PySem.W.hideAll_size _ _
theorem zP{H:Hp}{o:Obj}(e:h.get? b=some o)(n:H b=none):(pL h H).get? b=some o:=
 PySem.W.hideAll_get _ e λhm=>by have q:(H b).isSome=true:=(abu.mp hm).2;rw [n] at q;simp at q
theorem Ct{H:Hp}{o:Obj}(e:(pL h H).get? b=some o):h.get? b=some o/\H b=none:=by
 have e':h.get? b=some o:=PySem.W.of_hideAll (Kj h H) e;refine ⟨e', ?_⟩;cases q:H b with
 | none=>rfl
 | some x=>
  have hm:b∈Kj h H:=List.mem_filter.mpr ⟨List.mem_range.mpr (Heap.lt_size e'),by simp [q]⟩;have z:(pL h H).get? b=none:=PySem.W.hideAll_none (Kj h H) hm;rw [z] at e;cases e
structure Mod(K:fv)(mg:Str->Option Value)(base:Heap):Prop where
 Ia:K.In base
 glob:base.Ns mainGlobals mg
 blt:∃mb,base.Ns builtinsNs mb/\∀x:Str,x≠"__name__"->mb x=bootBuiltins x
 nolimit:base.NoLimit
structure Cx where
 prog:Program
 w:World
 K:fv
 mg:Str->Option Value
 base:Heap
 A:Around
 N:List Str
 s₀:Shared
 H₀:Hp
 env:Env
 outer:List Env
 stack:List Env
 ex:List Addr
 fn:Str->Bool
 calm:Bool
 pn:List (Addr×Obj)
 xe:Value->Shared->Prop
variable{X:Cx}
def kK(l:List Env):List Addr:=l.filterMap (·.frame)
abbrev Cx.fs(X:Cx):List Addr:=kK X.outer
def Ng(sc:Scope)(x:Str):Prop:=sc.names.lookup x=some .local\/sc.names.lookup x=some .cell\/sc.names.lookup x=some .free
def Loc(sc:Scope)(x:Str):Prop:=sc.names.lookup x=some .local\/sc.names.lookup x=some .cell
def N7(env:Env)(h:Heap)(m:Str->Option Value)(x:Str)(u:Value):Prop:=
 (env.kindOf x=some .local/\m x=some u)\/((env.kindOf x=some .cell\/env.kindOf x=some .free)/\∃c,env.cells.lookup x=some c/\h.IsCell c (some u))
structure Cx.Ok(X:Cx):Prop where
 mod:Mod X.K X.mg X.base
 kind:X.env.scope.kind= .function
 glob:X.env.globals=mainGlobals
 blt:X.env.builtins=builtinsNs
 above:X.s₀.heap.objs.size<=X.env.locals
 inj:∀x y c,X.env.cells.lookup x=some c->X.env.cells.lookup y=some c->x=y
 has:∀x,(X.env.kindOf x=some .cell\/X.env.kindOf x=some .free)->∃c,X.env.cells.lookup x=some c
 ME:∀x c,X.fn x=true->X.env.cells.lookup x=some c->X.s₀.heap.objs.size<=c
 hd:X.calm=true->X.A.handled=none
 frames:X.A.frames=some X.stack
 OJ:X.stack=X.outer\/(X.stack=X.env::X.outer/\X.env.frame=some X.env.locals)
 Od:∀b∈X.ex,b≠X.env.locals/\∀x c,X.env.cells.lookup x=some c->c≠b
 bs:∀b o,X.base.get? b=some o->X.s₀.heap.get? b=some o/\X.H₀ b=none
 G8:X.base.objs.size<=X.s₀.heap.objs.size
 Gr:∀b o,X.base.get? b=some o->b∉X.ex
 EO:∀b∈X.ex,b∉X.fs
 nN:X.s₀.heap.FunFrames X.base X.outer
 HX:∀b∈X.fs,X.H₀ b=none
structure Inv(X:Cx)(δ:List (Addr×Obj))(σ:List (Option V))(H:Hp)(s:Shared):Prop where
 ok:X.Ok
 os:s.os=X.s₀.os
 bare:AllBare s.gens
 base:Un X.fs X.ex X.H₀ H X.s₀.heap s.heap
 loc:∃m,s.heap.Ns X.env.locals m/\∀(i:Nat) (x:Str) (v:V),X.N[i]? =some x->σ[i]? =some (some v)->Ng X.env.scope x->∃u,Τ v u/\N7 X.env s.heap m x u
 cell:∀x c,X.env.cells.lookup x=some c->∃v,s.heap.IsCell c v
 free:H X.env.locals=none
 j7:∀x c,X.env.cells.lookup x=some c->H c=none
 pin:∀p∈X.pn++δ,s.heap.get? p.1=some p.2/\H p.1=none/\p.1≠X.env.locals/\p.1∉X.fs/\∀v,p.2.data≠ .cell v
 aR:gI X.prog X.w H s.heap
 len:σ.length=X.N.length
section
variable{σ:List (Option V)}{H H':Hp}
theorem Cx.Ok.LX(ok:X.Ok){o:Obj}(e:X.base.get? b=some o):b∉X.fs:=λhb=>by have:=(ok.nN.mem hb).1;rw [e] at this;cases this
theorem Inv.bs(I:Inv X δ σ H s):∀b o,X.base.get? b=some o->s.heap.get? b=some o/\H b=none:=λb o e=>
 ⟨I.base.keep b o (I.ok.bs b o e).1 (I.ok.bs b o e).2 (I.ok.LX e) (I.ok.Gr b o e),I.base.free b o (I.ok.bs b o e).1 (I.ok.bs b o e).2 (I.ok.Gr b o e)⟩
theorem Inv.bk(I:Inv X δ σ H s):∀b o,X.base.get? b=some o->s.heap.get? b=some o:=λb o e=>(I.bs b o e).1
theorem Inv.mod(I:Inv X δ σ H s):Mod X.K X.mg X.base:=I.ok.mod
theorem Inv.kJ(I:Inv X δ σ H s):X.K.In s.heap:=I.ok.mod.Ia.keeps I.bk
theorem Inv.lt(I:Inv X δ σ H s):X.env.locals < s.heap.objs.size:=let ⟨_,hn,_⟩:=I.loc;hn.lt
theorem Inv.sz(I:Inv X δ σ H s):X.s₀.heap.objs.size<=s.heap.objs.size:=aak I.ok.above (Nat.le_of_lt I.lt)
theorem Inv.L6(I:Inv X δ σ H s)(h:s.heap.objs.size<=a):a∉X.fs:=λhb=>by obtain ⟨_,o,ho,_⟩:=I.ok.nN.mem hb;exact aaE (aaz (aas ho) (aak I.sz h)) (abp _)
theorem Inv.BJ(I:Inv X δ σ H s):∀x c,X.env.cells.lookup x=some c->c≠X.env.locals:=λx c e z=>by obtain ⟨v,o,ho,hd⟩:=I.cell x c e;obtain ⟨m,⟨o',es,ep,qT,f_,_⟩,_⟩:=I.loc;rw [z,qT] at ho;cases ho;rw [f_] at hd;cases hd
theorem Inv.nN(I:Inv X δ σ H s):s.heap.FunFrames X.base X.outer:=by
 have all:∀(l:List Env),(∀b∈kK l,b∈X.fs)->X.s₀.heap.FunFrames X.base l->s.heap.FunFrames X.base l:=by
  intro l
  induction l with
  | nil=>intro _ _;trivial
  | cons env r ih=>
   intro hs hl;obtain ⟨hk,⟨L,o,hf,hn,ho,hd⟩,hr⟩:=hl;have hL:L∈X.fs:=hs L (by unfold kK;rw [List.filterMap_cons,hf];exact List.mem_cons_self);obtain ⟨sl,e⟩:=I.base.slot L o ho (I.ok.HX L hL) hL λz=>I.ok.EO L z hL;exact ⟨hk,⟨L,_,hf,hn,e,hd⟩,ih (λb hb=>hs b (by unfold kK;rw [List.filterMap_cons,hf];exact List.mem_cons_of_mem _ hb)) hr⟩
 exact all X.outer (λ_ hb=>hb) I.ok.nN
theorem Inv.stack(I:Inv X δ σ H s):s.heap.FunFrames X.base X.stack:=by
 rcases I.ok.OJ with e | ⟨e,hf⟩
 ·rw [e];exact I.nN
 ·rw [e];obtain ⟨m,hn,_⟩:=I.loc;refine .cons (by rw [I.ok.kind];decide) hf hn ?_ I.nN;exact Heap.get?_none_of_le (aak I.ok.G8 I.ok.above)
theorem Inv.qI(I:Inv X δ σ H s):∀b∈kK X.stack,b∈X.env.locals::X.fs:=λb hb=>by
 rcases I.ok.OJ with e | ⟨e,hf⟩
 ·rw [e] at hb;exact aah _ hb
 ·rw [e] at hb;unfold kK at hb;rw [List.filterMap_cons,hf] at hb;exact hb
theorem Inv.pB(I:Inv X δ σ H s):∀b∈kK X.stack,H b=none:=λb hb=>by
 rcases aaO.mp (I.qI b hb) with e | hb
 ·rw [e];exact I.free
 ·obtain ⟨_,o,ho,_⟩:=I.ok.nN.mem hb;exact I.base.free b o ho (I.ok.HX b hb) λz=>I.ok.EO b z hb
theorem Inv.step{t':Nat}{d':Drawn}(I:Inv X δ σ H s)
  (vv:∀b∈ch,(b∈X.ex\/X.s₀.heap.objs.size<=b)/\b≠X.env.locals/\(∀x c,X.env.cells.lookup x=some c->c≠b)/\∀p∈X.pn++δ,p.1≠b)
  (keep:∀b o,b≠X.env.locals->b∉X.fs->b∉ch->s.heap.get? b=some o->H b=none->h'.get? b=some o)
  (slot:∀b o,b≠X.env.locals->b∈X.fs->b∉ch->s.heap.get? b=some o->H b=none->∃sl,h'.get? b=some {o with slots:=sl}) (free:∀b o,b∉ch->s.heap.get? b=some o->H b=none->H' b=none)
  (there:∀b o,b∉ch->s.heap.get? b=some o->∃o',h'.get? b=some o')
  (kF:∀b xs,H b=some (.tup xs)->H' b=some (.tup xs)) (jw:∀b o u,H b=some (.qS o u)->H' b=some (.qS o u)) (kE:∀b ps,H b=some (.CM ps)->∃more,H' b=some (.CM (ps++more)))
  (ns:∀m,s.heap.Ns X.env.locals m->h'.Ns X.env.locals m) (aR:gI X.prog X.w H' h') (hg:AllBare g'):
  Inv X δ σ H' {s with heap:=h',gens:=g',drawn:=d',toks:=t'}:=by
 have OG:∀b o,X.s₀.heap.get? b=some o->b≠X.env.locals:=λb o e=>aaM (aaz (aas e) I.ok.above);have KZ:∀b o,X.s₀.heap.get? b=some o->b∉X.ex->b∉ch:=λb o e hx hb=>by
  rcases (vv b hb).1 with z | z
  ·exact hx z
  ·exact aaE (aaz (aas e) z) (abp _)
 have cellK:∀x c,X.env.cells.lookup x=some c->∀v,s.heap.IsCell c v->h'.IsCell c v:=λx c e v ⟨o,ho,hd⟩=>by
  have IX:c∉ch:=λz=>(vv c z).2.2.1 x c e rfl;by_cases hc:c∈X.fs
  ·obtain ⟨sl,q⟩:=slot c o (I.BJ x c e) hc IX ho (I.j7 x c e);exact ⟨_,q,hd⟩
  ·exact ⟨o,keep c o (I.BJ x c e) hc IX ho (I.j7 x c e),hd⟩
 refine ⟨I.ok,I.os,hg,⟨λb o e n hb hx=> ?_,λb o e n hb hx=> ?_,λb o e n hx=> ?_,λb o e hx=> ?_,λb xs e=>kF b xs (I.base.kF b xs e),λb o xs e=>jw b o xs (I.base.jw b o xs e),λb ps e=> ?_⟩, ?_,λx c e=> ?_, ?_,λx c e=> ?_,λp hp=> ?_,aR,I.len⟩
 ·exact keep b o (OG b o e) hb (KZ b o e hx) (I.base.keep b o e n hb hx) (I.base.free b o e n hx)
 ·obtain ⟨sl,e1⟩:=I.base.slot b o e n hb hx;obtain ⟨QO,e2⟩:=slot b _ (OG b o e) hb (KZ b o e hx) e1 (I.base.free b o e n hx);exact ⟨QO,e2⟩
 ·obtain ⟨o',e1⟩:=I.base.there b o e hx;exact free b o' (KZ b o e hx) e1 (I.base.free b o e n hx)
 ·obtain ⟨o',e1⟩:=I.base.there b o e hx;exact there b o' (KZ b o e hx) e1
 ·obtain ⟨m1,e1⟩:=I.base.kE b ps e;obtain ⟨m2,e2⟩:=kE b _ e1;exact ⟨m1++m2,by rw [e2,Array.append_assoc]⟩
 ·obtain ⟨m,hn,hl⟩:=I.loc;refine ⟨m,ns m hn,λi x v e1 e2 e3=> ?_⟩;obtain ⟨u,r,l⟩:=hl i x v e1 e2 e3;refine ⟨u,r, ?_⟩;rcases l with l | ⟨k,c,e,z⟩
  ·exact .inl l
  ·exact .inr ⟨k,c,e,cellK x c e _ z⟩
 ·obtain ⟨v,z⟩:=I.cell x c e;exact ⟨v,cellK x c e v z⟩
 ·obtain ⟨m,⟨o,_,_,ho,_⟩,_⟩:=I.loc;exact free _ o (λz=>(vv _ z).2.1 rfl) ho I.free
 ·obtain ⟨v,o,ho,hd⟩:=I.cell x c e;exact free c o (λz=>(vv c z).2.2.1 x c e rfl) ho (I.j7 x c e)
 ·obtain ⟨e,n,ne,nf,d⟩:=I.pin p hp;have IX:p.1∉ch:=λz=>(vv p.1 z).2.2.2 p hp rfl;exact ⟨keep p.1 p.2 ne nf IX e n,free p.1 p.2 IX e n,ne,nf,d⟩
theorem Inv.un{t':Nat}(I:Inv X δ σ H s)(u:Un X.fs [] H H' s.heap h')(aR:gI X.prog X.w H' h'):Inv X δ σ H' {s with heap:=h',toks:=t'}:=by
 obtain ⟨m,⟨o,es,ep,ho,r⟩,_⟩:=id I.loc;obtain ⟨sl,hL⟩:=u.any ho I.free (by simp)
 exact I.step (g':=s.gens) (d':=s.drawn) (ch:=[]) (λ_ z=>nomatch z) (λb o _ hb _ e n=>u.keep b o e n hb (by simp)) (λb o _ hb _ e n=>u.slot b o e n hb (by simp)) (λb o _ e n=>u.free b o e n (by simp)) (λb o _ e=>u.there b o e (by simp)) u.kF u.jw u.kE (λm' hm=>by
  obtain ⟨o',LA,N1,qT,r'⟩:=hm;rw [ho] at qT;cases qT
  exact ⟨_,LA,N1,hL,r'⟩) aR I.bare
theorem Inv.call{t':Nat}{d':Drawn}(I:Inv X δ σ H s)(u:Un (kK X.stack) ch H H' s.heap h')(aR:gI X.prog X.w H' h')(hg:AllBare g')
  (vv:∀b∈ch,(b∈X.ex\/X.s₀.heap.objs.size<=b)/\b≠X.env.locals/\(∀x c,X.env.cells.lookup x=some c->c≠b)/\∀p∈X.pn++δ,p.1≠b):
  Inv X δ σ H' {s with heap:=h',gens:=g',drawn:=d',toks:=t'}:=by
 obtain ⟨m,⟨o,es,ep,ho,r⟩,_⟩:=id I.loc;obtain ⟨sl,hL⟩:=u.any ho I.free λz=>(vv _ z).2.1 rfl
 exact I.step (ch:=ch) vv (λb o hL hb hc e n=>u.keep b o e n (λz=>(aaO.mp (I.qI b z)).elim hL hb) hc) (λb o _ _ hc e n=>u.any e n hc) (λb o hc e n=>u.free b o e n hc) (λb o hc e=>u.there b o e hc) u.kF u.jw u.kE (λm' hm=>by
  obtain ⟨o',LA,N1,qT,r'⟩:=hm;rw [ho] at qT;cases qT
  exact ⟨_,LA,N1,hL,r'⟩) aR hg
theorem Inv.turned{t':Nat}{it:Addr}(I:Inv X δ σ H s)(k:∀b o,b≠it->s.heap.get? b=some o->h'.get? b=some o)(hn:H it=none)(hL:it≠X.env.locals)
  (h1:it∈X.ex\/X.s₀.heap.objs.size<=it) (h2:∀x c,X.env.cells.lookup x=some c->c≠it) (h3:∀p∈X.pn++δ,p.1≠it):Inv X δ σ H {s with heap:=h',toks:=t'}:=by
 have OS:∀b u,H b=some u->b≠it:=λb u e z=>by rw [z,hn] at e;cases e
 refine I.step (g':=s.gens) (d':=s.drawn) (ch:=[it]) (λb hb=> ?_) (λb o _ _ hc e _=>k b o (λz=>hc (by simp [z])) e) (λb o _ _ hc e _=>⟨o.slots,k b o (λz=>hc (by simp [z])) e⟩) (λ_ _ _ _ n=>n)
  (λb o hc e=>⟨o,k b o (λz=>hc (by simp [z])) e⟩) (λ_ _ e=>e) (λ_ _ _ e=>e) (λb ps e=>⟨#[],by rw [e];simp⟩) (λm hm=> ?_) (λb u e=> ?_) I.bare
 ·have e:b=it:=by simpa using hb
  subst e;exact ⟨h1,hL,h2,h3⟩
 ·obtain ⟨o,es,ep,ho,r⟩:=hm;exact ⟨o,es,ep,k _ o (Ne.symm hL) ho,r⟩
 ·refine (I.aR b u e).w8 (λc v hc q=>k c v ?_ q) (λ_ q=>q) λ_ _ q=>q;rcases hc with z | z
  ·rw [z];exact OS b u e
  ·exact OS c _ z
theorem Inv.tok(I:Inv X δ σ H s)(t:Nat):Inv X δ σ H {s with toks:=t}:=I.un (h':=s.heap) (t':=t) Un.refl I.aR
theorem Inv.kept{t':Nat}(I:Inv X δ σ H s)(k:∀b u,s.heap.get? b=some u->h'.get? b=some u):Inv X δ σ H {s with heap:=h',toks:=t'}:=I.un (Un.kept k) (I.aR.kept k)
theorem Inv.laid{t':Nat}(I:Inv X δ σ H s)(k:∀b u,s.heap.get? b=some u->h'.get? b=some u)(hp:s.heap.objs.size<=a)(new:aT X.prog X.w (upd H a o) h' a o):
  Inv X δ σ (upd H a o) {s with heap:=h',toks:=t'}:=I.un (Un.laid k hp (I.aR.fresh hp)) (I.aR.laid k hp new)
theorem Inv.write{x e:Addr}{t':Nat}(I:Inv X δ σ H s)(mu:JR (H x))(he:e=x\/H e=some (.own x))(k:∀b u,b≠e->s.heap.get? b=some u->h'.get? b=some u)(GQ:∃u,h'.get? e=some u)
  (new:aT X.prog X.w (upd H x o) h' x o):Inv X δ σ (upd H x o) {s with heap:=h',toks:=t'}:=I.un (Un.write mu he k GQ) (I.aR.write mu he k GQ new)
theorem Inv.vU{C4:List (Addr×Obj)}(I:Inv X δ σ H s)(h:∀p∈C4,s.heap.get? p.1=some p.2/\H p.1=none/\p.1≠X.env.locals/\p.1∉X.fs/\∀v,p.2.data≠ .cell v):Inv X C4 σ H s:=
 ⟨I.ok,I.os,I.bare,I.base,I.loc,I.cell,I.free,I.j7,λp hp=>(aaI.mp hp).elim (λz=>I.pin p (aa1 _ z)) (h p),I.aR,I.len⟩
theorem sA{N:List Str}(hN:N.Nodup){j:Nat}(a:N[i]? =some x)(b:N[j]? =some x):i=j:=by obtain ⟨h1,e1⟩:=aad.mp a;obtain ⟨h2,e2⟩:=aad.mp b;exact (List.getElem_inj hN).mp (e1.trans e2.symm)
theorem oO{Q:Unit->Shared->Prop}(I:Inv X δ σ H s)(hN:X.N.Nodup)(hi:X.N[i]? =some x)(hx:Loc X.env.scope x)(r:Τ v u)
  (h:∀s',Inv X δ (σ.set i (some v)) H s'->(∃a,Heap.SameBut a s.heap s'.heap/\(a=X.env.locals\/X.env.cells.lookup x=some a))->Q () s') (hf:X.fn x=true\/X.env.scope.names.lookup x=some .local:=by first | exact .inl rfl | exact .inr rfl | assumption):wpAny M A (storeName X.env x u) Q E s:=by
 obtain ⟨m,hn,hl⟩:=id I.loc;have LS:(X.env.scope.kind== .class || (X.env.scope.kind== .module&&X.env.locals != X.env.globals))=false:=by rw [I.ok.kind];rfl
 have Jt:i < σ.length:=by rw [I.len];exact (aad.mp hi).1
 have BJ:=I.BJ;have tracked:∀{a:Addr} {h':Heap},(∃o,s.heap.get? a=some o/\H a=none)->Heap.SameBut a s.heap h'->gI X.prog X.w H h':=λ{a h'} ha hs b ob e=>by
  obtain ⟨_,_,Dp⟩:=ha;refine (I.aR b ob e).w8 (λc w' hc q=>(hs.2 c ?_).trans q) (λ_ q=>q) λ_ _ q=>q;rintro rfl;rcases hc with rfl | hc
  ·rw [Dp] at e;cases e
  ·rw [Dp] at hc;cases hc
 rcases hx with hk | hk
 ·refine wpAny_storeName_local hk hn (λh' E6 hs=> ?_) LS;obtain ⟨oL,_,_,Rx,_⟩:=id hn;refine h _ ⟨I.ok,I.os,I.bare,⟨λb o e n hb hx=> ?_,λb o e n hb hx=> ?_,I.base.free,λb o e hx=> ?_,I.base.kF,I.base.jw,I.base.kE⟩,⟨_,E6,λj y v' e1 e2 e3=> ?_⟩,λy c e=> ?_,I.free,I.j7,λp hp=> ?_,tracked ⟨oL,Rx,I.free⟩ hs,by simpa using I.len⟩ ⟨_,hs, .inl rfl⟩
  ·exact (hs.2 b (aaM (aaz (aas e) I.ok.above))).trans (I.base.keep b o e n hb hx)
  ·obtain ⟨sl,e1⟩:=I.base.slot b o e n hb hx;exact ⟨sl,(hs.2 b (aaM (aaz (aas e) I.ok.above))).trans e1⟩
  ·obtain ⟨o',e1⟩:=I.base.there b o e hx;exact ⟨o',(hs.2 b (aaM (aaz (aas e) I.ok.above))).trans e1⟩
  ·by_cases hj:j=i
   ·subst hj;rw [hi] at e1;cases e1;rw [aa3 Jt] at e2;cases e2;exact ⟨u,r, .inl ⟨hk,by simp⟩⟩
   ·rw [aaR (Ne.symm hj)] at e2;obtain ⟨u',r',q⟩:=hl j y v' e1 e2 e3;refine ⟨u',r', ?_⟩;rcases q with ⟨k,e⟩ | ⟨k,c,e,z⟩
    ·refine .inl ⟨k, ?_⟩;have:y≠x:=λe=>hj (sA hN e1 (e▸hi));simp [this,e]
    ·exact .inr ⟨k,c,e,z.sameBut hs (BJ y c e)⟩
  ·obtain ⟨w',z⟩:=I.cell y c e;exact ⟨w',z.sameBut hs (BJ y c e)⟩
  ·obtain ⟨e,n,ne,nf,d⟩:=I.pin p hp;exact ⟨(hs.2 p.1 ne).trans e,n,ne,nf,d⟩
 ·have Lx:X.fn x=true:=by
   rcases hf with z | z
   ·exact z
   ·rw [z] at hk;cases hk
  obtain ⟨c,hc⟩:=I.ok.has x (.inl hk);obtain ⟨w',z⟩:=I.cell x c hc;refine wpAny_storeName_cell I.ok.kind hk hc z (λh' KU hs=> ?_);obtain ⟨oc,OO,LH⟩:=id z;refine h {s with heap:=h'} ⟨I.ok,I.os,I.bare,⟨λb o e n hb hx=> ?_,λb o e n hb hx=> ?_,I.base.free,λb o e hx=> ?_,I.base.kF,I.base.jw,I.base.kE⟩,⟨m,hn.sameBut hs (Ne.symm (BJ x c hc)),λj y v' e1 e2 e3=> ?_⟩,λy c' e=> ?_,I.free,I.j7,λp hp=> ?_,tracked ⟨oc,OO,I.j7 x c hc⟩ hs,by simpa using I.len⟩ ⟨c,hs, .inr hc⟩
  ·exact (hs.2 b (aaM (aaz (aas e) (I.ok.ME x c Lx hc)))).trans (I.base.keep b o e n hb hx)
  ·obtain ⟨sl,e1⟩:=I.base.slot b o e n hb hx;exact ⟨sl,(hs.2 b (aaM (aaz (aas e) (I.ok.ME x c Lx hc)))).trans e1⟩
  ·obtain ⟨o',e1⟩:=I.base.there b o e hx;exact ⟨o',(hs.2 b (aaM (aaz (aas e) (I.ok.ME x c Lx hc)))).trans e1⟩
  ·by_cases hj:j=i
   ·subst hj;rw [hi] at e1;cases e1;rw [aa3 Jt] at e2;cases e2;exact ⟨u,r, .inr ⟨.inl hk,c,hc,KU⟩⟩
   ·rw [aaR (Ne.symm hj)] at e2;obtain ⟨u',r',q⟩:=hl j y v' e1 e2 e3;refine ⟨u',r', ?_⟩;rcases q with q | ⟨k,c',e,z'⟩
    ·exact .inl q
    ·refine .inr ⟨k,c',e,z'.sameBut hs ?_⟩;rintro rfl;exact hj (sA hN e1 (I.ok.inj _ _ _ e hc▸hi))
  ·by_cases GF:c'=c
   ·subst GF;exact ⟨_,KU⟩
   ·obtain ⟨w2,z2⟩:=I.cell y c' e;exact ⟨w2,z2.sameBut hs GF⟩
  ·obtain ⟨e,n,ne,nf,d⟩:=I.pin p hp;refine ⟨(hs.2 p.1 ?_).trans e,n,ne,nf,d⟩;intro q;rw [q,OO] at e;have q':oc=p.2:=aat e;exact d w' (by rw [<-q'];exact LH)
theorem jn{Q:Unit->Shared->Prop}(I:Inv X δ σ H s)(hN:X.N.Nodup)(hi:X.N[i]? =some x)(hx:Loc X.env.scope x)(r:Τ v u)
  (h:∀s',Inv X δ (σ.set i (some v)) H s'->Q () s') (hf:X.fn x=true\/X.env.scope.names.lookup x=some .local:=by first | exact .inl rfl | exact .inr rfl | assumption):wpAny M A (storeName X.env x u) Q E s:=
 oO I hN hi hx r (λs' I' _=>h s' I') hf
theorem Inv.J1{s':Shared}(I:Inv X δ σ H s)(ho:s'.os=s.os)(u:Un (kK X.stack) ch H H' s.heap s'.heap)(aR:gI X.prog X.w H' s'.heap)(hg:AllBare s'.gens)
  (vv:∀b∈ch,(b∈X.ex\/X.s₀.heap.objs.size<=b)/\b≠X.env.locals/\(∀x c,X.env.cells.lookup x=some c->c≠b)/\∀p∈X.pn++δ,p.1≠b):Inv X δ σ H' s':=by
 obtain ⟨h',g',d',t',o'⟩:=s';have e:o'=s.os:=ho;subst e;exact I.call (g':=g') (t':=t') (d':=d') u aR hg vv
end
abbrev XK:=Value->Option Addr->Hp->Prop
abbrev St:=List (Option V)
variable{σ:St}
abbrev VK:=V->Hp->Prop
abbrev TE:=St->Hp->VK->Prop
variable{ta te:TE}
abbrev TT:=St->Hp->(Bool->Hp->Prop)->Prop
abbrev TA:=St->Hp->(List V->Hp->Prop)->Prop
structure tj where
 nx:St->Hp->Prop
 rt:VK
 bk:St->Hp->Prop:=λ_ _=>False
 ct:St->Hp->Prop:=λ_ _=>False
abbrev TS:=tj->St->Hp->Prop
def EP(X:Cx)(δ:List (Addr×Obj))(σ:St)(Q:VK)(u:Value)(s':Shared):Prop:=∃v H',Inv X δ σ H' s'/\Τ v u/\Q v H'
def TP(X:Cx)(δ:List (Addr×Obj))(σ:St)(Q:Bool->Hp->Prop)(b:Bool)(s':Shared):Prop:=∃H',Inv X δ σ H' s'/\Q b H'
def AP(X:Cx)(δ:List (Addr×Obj))(σ:St)(Q:List V->Hp->Prop)(us:List Value)(s':Shared):Prop:=∃vs H',Inv X δ σ H' s'/\Μ vs us/\Q vs H'
def SP(X:Cx)(δ:List (Addr×Obj))(D:tj)(f:Flow)(s':Shared):Prop:=
 match f with
 | .next=>∃σ' H',Inv X δ σ' H' s'/\D.nx σ' H'
 | .brk=>∃σ' H',Inv X δ σ' H' s'/\D.bk σ' H'
 | .cont=>∃σ' H',Inv X δ σ' H' s'/\D.ct σ' H'
 | .ret u=>∃v σ' H',Inv X δ σ' H' s'/\Τ v u/\D.rt v H'
def PE(X:Cx)(e:Expr)(t:TE):Prop:=
 ∀(δ:List (Addr×Obj)) (s:Shared) (σ:St) (H:Hp) (Q:VK),Inv X δ σ H s->t σ H Q->wpAny (model X.prog X.w) X.A (eval e X.env) (EP X δ σ Q) X.xe s
def PT(X:Cx)(e:Expr)(t:TT):Prop:=
 ∀(δ:List (Addr×Obj)) (s:Shared) (σ:St) (H:Hp) (Q:Bool->Hp->Prop),Inv X δ σ H s->t σ H Q->wpAny (model X.prog X.w) X.A (isTrue e X.env (eval e X.env)) (TP X δ σ Q) X.xe s
def PW(X:Cx)(e:Expr)(t:TT):Prop:=
 ∀(whole:Sem Value) (δ:List (Addr×Obj)) (s:Shared) (σ:St) (H:Hp) (Q:Bool->Hp->Prop),Inv X δ σ H s->t σ H Q->wpAny (model X.prog X.w) X.A (isTrue e X.env whole) (TP X δ σ Q) X.xe s
def PA(X:Cx)(es:List Expr)(t:TA):Prop:=
 ∀(pos:Pos) (δ:List (Addr×Obj)) (s:Shared) (σ:St) (H:Hp) (Q:List V->Hp->Prop),Inv X δ σ H s->t σ H Q->wpAny (model X.prog X.w) X.A (spliced (backTo pos (starEach es X.env))) (AP X δ σ Q) X.xe s
def PS(X:Cx)(st:Stmt)(t:TS):Prop:=
 ∀(δ:List (Addr×Obj)) (s:Shared) (σ:St) (H:Hp) (D:tj),Inv X δ σ H s->t D σ H->wpAny (model X.prog X.w) X.A (exec st X.env) (SP X δ D) X.xe s
def yc(X:Cx)(st:List Stmt)(t:TS):Prop:=
 ∀(δ:List (Addr×Obj)) (s:Shared) (σ:St) (H:Hp) (D:tj),Inv X δ σ H s->t D σ H->wpAny (model X.prog X.w) X.A (execs st X.env) (SP X δ D) X.xe s
theorem a_{α:Type}{t:Sem α}{Q Q':α->Shared->Prop}(h:wpAny M A t Q E s)(hQ:∀a s,Q a s->Q' a s):wpAny M A t Q' E s:=abK h hQ λ_ _ x=>x
section
def Mg(i:Nat):TE:=λσ H Q=>∃v,σ[i]? =some (some v)/\Q v H
def tC(v:V):TE:=λ_ H Q=>Q v H
theorem Ed(hN:X.N[i]? =some x)(hv:Ng X.env.scope x)(hd:(x==("__debug__":Str))=false:=by decide)(y4:(x==("__classdict__":Str))=false:=by decide):PE X (.Name x pos) (Mg i):=by
 intro δ s σ H Q I h;obtain ⟨v,e,h⟩:=h;obtain ⟨m,hn,hl⟩:=I.loc;obtain ⟨u,r,l⟩:=hl i x v hN e hv;have fin:EP X δ σ Q u s:=⟨v,H,I,r,h⟩;rcases l with ⟨hk,hm⟩ | ⟨hk,c,hc,C5⟩
 ·exact wpAny_Name (wpAny_loadName_local I.ok.kind hk hn hm fin) hd
 ·rcases hk with hk | hk
  ·exact wpAny_Name (wpAny_loadName_cell I.ok.kind hk hc C5 fin) hd
  ·exact wpAny_Name (wpAny_loadName_free I.ok.kind hk hc C5 fin y4) hd
theorem Eh{i j pos}:PE X (.Constant (.int i) j pos) (tC (.int i)):=λ_ _ _ H _ I h=>wpAny_Constant_int ⟨.int i,H,I.tok _,⟨_,rfl⟩,h⟩
theorem IV{b j pos}:PE X (.Constant (.bool b) j pos) (tC (.bl b)):=λ_ _ _ H _ I h=>Constant_bool ⟨.bl b,H,I,rfl,h⟩
theorem E_{j pos}:PE X (.Constant .none j pos) (tC .aW):=λ_ _ _ H _ I h=>Constant_none ⟨.aW,H,I,rfl,h⟩
theorem Fs{x j pos}:PE X (.Constant (.str x) j pos) (tC (.str x)):=λ_ _ _ H _ I h=>Calls.Constant_str ⟨.str x,H,I.tok _,⟨_,rfl⟩,h⟩
def Gl(X:Cx)(x:Str):Prop:=X.env.kindOf x=some .globalImplicit
theorem pX{H:Hp}(I:Inv X δ σ H s)(hg:Gl X x)(hm:X.mg x=some u)(h:Q u s)
  (hd:(x==("__debug__":Str))=false:=by decide):wpAny (model X.prog X.w) X.A (eval (.Name x pos) X.env) Q E s:=
 Calls.Name_function_global I.ok.kind hg (Calls.loadGlobal_global (by rw [I.ok.glob];exact I.mod.glob.keeps I.bk) hm h) hd
theorem mU{H:Hp}(I:Inv X δ σ H s)(hg:Gl X x)(hm:X.mg x=none)(hv:bootBuiltins x=some u)(h:Q u s)
  (hn:x≠"__name__":=by decide) (hd:(x==("__debug__":Str))=false:=by decide):wpAny (model X.prog X.w) X.A (eval (.Name x pos) X.env) Q E s:=by
 obtain ⟨mb,h1,h2⟩:=I.mod.blt;exact Calls.Name_function_global I.ok.kind hg (Calls.loadGlobal_builtin (by rw [I.ok.glob];exact I.mod.glob.keeps I.bk) hm (by rw [I.ok.blt];exact h1.keeps I.bk) ((h2 x hn).trans hv) h) hd
theorem vh(hg:Gl X x)(hm:X.mg x=some u)(r:Τ v u)(hd:(x==("__debug__":Str))=false:=by decide):PE X (.Name x pos) (tC v):=
 λ_ _ _ H _ I h=>pX I hg hm ⟨v,H,I,r,h⟩ hd
theorem Bj(hg:Gl X x)(hm:X.mg x=none)(hv:bootBuiltins x=some u)(r:Τ v u)(hn:x≠"__name__":=by decide)(hd:(x==("__debug__":Str))=false:=by decide):PE X (.Name x pos) (tC v):=
 λ_ _ _ H _ I h=>mU I hg hm hv ⟨v,H,I,r,h⟩ hn hd
variable{a b:Expr}{tb:TE}
def tB(t:TE):TT:=λσ H Q=>t σ H λx H1=>∃c,x= .bl c/\Q c H1
theorem D6{t:TE}(h:PE X e t)(he:∀whole,isTrue e X.env whole=(do let v<-whole;standAt e.pos;holding [v] (truthy v)):=by intro _;rfl):PT X e (tB t):=by intro δ s σ H Q I hw;refine isTrue_plain (a_ (h δ s σ H _ I hw) λv s1 ⟨x,H1,I1,r1,q1⟩=> ?_) (he _);obtain ⟨d,rfl,q⟩:=q1;cases r1;exact wpAny_truthy_bool ⟨H1,I1,q⟩
variable{tA HW:TT}{Δ:List Expr}
def Nb(t u:TT):TT:=λσ H Q=>t σ H λc H1=>if c=true then u σ H1 Q else Q false H1
def Sf(t u:TT):TT:=λσ H Q=>t σ H λc H1=>if c=true then Q true H1 else u σ H1 Q
def MR(t:TT):TT:=λσ H Q=>t σ H λc H1=>Q (!c) H1
theorem pw_and1(ha:PT X a tA):PW X (.BoolOp .And [a] pos) tA:=by
 intro wh δ s σ H Q I h;refine isTrue_and (a_ (ha δ s σ H Q I h) λc s1 e=> ?_);cases c with
 | true=>exact isTrue_and_nil e
 | false=>exact e
theorem pw_or1(ha:PT X a tA):PW X (.BoolOp .Or [a] pos) tA:=by
 intro wh δ s σ H Q I h;refine isTrue_or (a_ (ha δ s σ H Q I h) λc s1 e=> ?_);cases c with
 | false=>exact isTrue_or_nil e
 | true=>exact e
theorem pw_and(ha:PT X a tA)(hb:PW X (.BoolOp .And (b::Δ) pos) HW):PW X (.BoolOp .And (a::b::Δ) pos) (Nb tA HW):=by
 intro wh δ s σ H Q I h;refine isTrue_and (a_ (ha δ s σ H _ I h) λc s1 ⟨H1,I1,q1⟩=> ?_);cases c with
 | true=>exact hb wh δ s1 σ H1 Q I1 q1
 | false=>exact ⟨H1,I1,q1⟩
theorem pw_or(ha:PT X a tA)(hb:PW X (.BoolOp .Or (b::Δ) pos) HW):PW X (.BoolOp .Or (a::b::Δ) pos) (Sf tA HW):=by
 intro wh δ s σ H Q I h;refine isTrue_or (a_ (ha δ s σ H _ I h) λc s1 ⟨H1,I1,q1⟩=> ?_);cases c with
 | true=>exact ⟨H1,I1,q1⟩
 | false=>exact hb wh δ s1 σ H1 Q I1 q1
theorem Fo(ha:PT X a tA):PT X (.UnaryOp .Not a pos) (MR tA):=by intro δ s σ H Q I h;exact isTrue_not (ha δ s σ H (λc H1=>Q (!c) H1) I h)
def Hm(ta tb:TE):TE:=λσ H Q=>ta σ H λx H1=>∃c,x= .bl c/\if c=true then tb σ H1 Q else Q (.bl false) H1
def LP(ta tb:TE):TE:=λσ H Q=>ta σ H λx H1=>∃c,x= .bl c/\if c=true then Q (.bl true) H1 else tb σ H1 Q
def Jr(ta:TE):TE:=λσ H Q=>ta σ H λx H1=>∃c,x= .bl c/\Q (.bl (!c)) H1
theorem F_{op}{t:TE}(h:PE X a t):PE X (.BoolOp op [a] pos) t:=λδ s σ H Q I hw=>BoolOp_one (h δ s σ H Q I hw)
theorem Fh(ha:PE X a ta)(hb:PE X (.BoolOp .And (b::Δ) pos) tb):PE X (.BoolOp .And (a::b::Δ) pos) (Hm ta tb):=by
 intro δ s σ H Q I h;refine BoolOp_and (a_ (ha δ s σ H _ I h) λv s1 ⟨x,H1,I1,r1,q1⟩=> ?_);obtain ⟨c,rfl,q1⟩:=q1;cases r1;refine wpAny_truthy_bool ?_;cases c with
 | true=>exact hb δ s1 σ H1 Q I1 q1
 | false=>exact ⟨.bl false,H1,I1,rfl,q1⟩
theorem J0(ha:PE X a ta)(hb:PE X (.BoolOp .Or (b::Δ) pos) tb):PE X (.BoolOp .Or (a::b::Δ) pos) (LP ta tb):=by
 intro δ s σ H Q I h;refine BoolOp_or (a_ (ha δ s σ H _ I h) λv s1 ⟨x,H1,I1,r1,q1⟩=> ?_);obtain ⟨c,rfl,q1⟩:=q1;cases r1;refine wpAny_truthy_bool ?_;cases c with
 | false=>exact hb δ s1 σ H1 Q I1 q1
 | true=>exact ⟨.bl true,H1,I1,rfl,q1⟩
theorem EZ(ha:PE X a ta):PE X (.UnaryOp .Not a pos) (Jr ta):=by intro δ s σ H Q I h;refine UnaryOp_ (a_ (ha δ s σ H _ I h) λv s1 ⟨x,H1,I1,r1,q1⟩=> ?_);obtain ⟨c,rfl,q1⟩:=q1;cases r1;exact not_of (wpAny_truthy_bool ⟨.bl (!c),H1,I1,rfl,q1⟩)
def RD(t:TT)(ta tb:TE):TE:=λσ H Q=>t σ H λc H1=>if c=true then ta σ H1 Q else tb σ H1 Q
theorem A1(hc:PT X c tA)(ha:PE X a ta)(hb:PE X b tb):PE X (.IfExp c a b pos) (RD tA ta tb):=by
 intro δ s σ H Q I h;refine wpAny_IfExp (a_ (hc δ s σ H _ I h) λd s1 ⟨H1,I1,q1⟩=> ?_);cases d with
 | true=>exact ha δ s1 σ H1 Q I1 q1
 | false=>exact hb δ s1 σ H1 Q I1 q1
end
def eN(K:fv)(H:Hp)(a:Addr)(xs:List V):Prop:=
 Rd H a (.lst xs)\/
  ∃(o:Obj) (its:Array Value) (n:Nat),K.lookup a=some o/\o.cls= .type "list"/\o.dict=none/\o.data= .seq its n/\its.size<=sizeLine/\Μ xs its.toList
def gP(K:fv)(H:Hp)(a:Addr)(xs:List V):Prop:=
 Rd H a (.tup xs)\/
  ∃(o:Obj) (its:Array Value) (n:Nat),K.lookup a=some o/\o.cls= .type "tuple"/\o.data= .seq its n/\its.size<=sizeLine/\Μ xs its.toList
def MH:Value->Option V
 | .none=>some .aW
 | .bool b=>some (.bl b)
 | .int i _=>some (.int i)
 | .str x _=>some (.str x)
 | .bytes b _=>some (.yb b)
 | .float b _=>some (.D5 b)
 | .ref a=>some (.ref a)
 | .type n=>some (.ty n)
 | _=>none
theorem Τ.abs{x:V}(r:Τ x u):MH u=some x:=by
 cases x with
 | aW=>cases r;rfl
 | bl _=>cases r;rfl
 | int _=>obtain ⟨t,rfl⟩:=r;rfl
 | str _=>obtain ⟨t,rfl⟩:=r;rfl
 | yb _=>obtain ⟨t,rfl⟩:=r;rfl
 | D5 _=>obtain ⟨t,rfl⟩:=r;rfl
 | ref _=>cases r;rfl
 | ty _=>cases r;rfl
theorem Τ.inj{x y:V}{u:Value}(r:Τ x u)(q:Τ y u):x=y:=aat (r.abs.symm.trans q.abs)
theorem Μ.inj:∀{xs ys:List V} {us:List Value},Μ xs us->Μ ys us->xs=ys
 | _,_,_, .nil, .nil=>rfl
 | _,_,_, .cons r t, .cons r' t'=>by rw [r.inj r',Μ.inj t t']
section
variable{H:Hp}{xs ys:List V}
theorem eN.of{K:fv}(h:H a=some (.lst xs)):eN K H a xs:= .inl (.inl h)
theorem gP.of{K:fv}(h:H a=some (.tup xs)):gP K H a xs:= .inl (.inl h)
theorem Inv.list(I:Inv X δ σ H s)(h:eN X.K H a xs):∃its:List Value,Μ xs its/\PlainL s.heap a its.toArray/\xs.length<=sizeLine:=by
 rcases h with h | ⟨o,its,n,hk,hc,hd,hs,hz,r⟩
 ·obtain ⟨z,its,n,r,e⟩:=h.ok I.aR;exact ⟨its,r,⟨_,n,e,rfl,rfl,rfl⟩,z⟩
 ·refine ⟨its.toList,r,⟨o,n,I.kJ a o hk,hc,hd,by simpa using hs⟩, ?_⟩;have e:=r.length;simp only [Array.length_toList] at e;omega
theorem Inv.tuple(I:Inv X δ σ H s)(h:gP X.K H a xs):∃its:List Value,Μ xs its/\IsTup s.heap a its.toArray/\xs.length<=sizeLine:=by
 rcases h with h | ⟨o,its,n,hk,hc,hs,hz,r⟩
 ·obtain ⟨z,its,r,p⟩:=h.ok I.aR;exact ⟨its,r,p,z⟩
 ·refine ⟨its.toList,r,⟨o,I.kJ a o hk,hc,n,by simpa using hs⟩, ?_⟩;have e:=r.length;simp only [Array.length_toList] at e;omega
theorem Inv.fJ(I:Inv X δ σ H s)(h:eN X.K H a xs)(h':eN X.K H a ys):xs=ys:=by
 obtain ⟨its,r,⟨o,n,e,_,_,d⟩,_⟩:=I.list h;obtain ⟨its',r',⟨o',n',e',_,_,d'⟩,_⟩:=I.list h';rw [e] at e';cases e';rw [d] at d';injection d' with d1 _
 have:its=its':=by simpa using congrArg Array.toList d1
 subst this;exact r.inj r'
theorem Inv.j3(I:Inv X δ σ H s)(h:gP X.K H a xs)(h':gP X.K H a ys):xs=ys:=by
 obtain ⟨its,r,⟨o,e,_,n,d⟩,_⟩:=I.tuple h;obtain ⟨its',r',⟨o',e',_,n',d'⟩,_⟩:=I.tuple h';rw [e] at e';cases e';rw [d] at d';injection d' with d1 _
 have:its=its':=by simpa using congrArg Array.toList d1
 subst this;exact r.inj r'
end
section
variable{st:Stmt}{Δ:List Stmt}{t u:TS}
def IM:TS:=λD σ H=>D.nx σ H
def Mc(t u:TS):TS:=λD σ H=>t {D with nx:=u D} σ H
theorem Cr:yc X [] IM:=λ_ _ σ H _ I h=>wpAny_execs_nil ⟨σ,H,I,h⟩
theorem yO(h1:PS X st t)(h2:yc X Δ u):yc X (st::Δ) (Mc t u):=by
 intro δ s σ H D I h;refine wpAny_execs_cons (a_ (h1 δ s σ H {D with nx:=u D} I h) λf s1 q=> ?_);cases f with
 | next=>
  obtain ⟨σ',H',I',q⟩:=q;exact h2 δ s1 σ' H' D I' q
 | ret v=>exact q
 | brk=>exact q
 | cont=>exact q
theorem B3(h1:PS X st t):yc X [st] t:=by
 intro δ s σ H D I h;refine wpAny_execs_cons (a_ (h1 δ s σ H D I h) λf s1 q=> ?_);cases f with
 | next=>exact wpAny_execs_nil q
 | ret v=>exact q
 | brk=>exact q
 | cont=>exact q
theorem Inv.quiet{H:Hp}(I:Inv X δ σ H s):interactive X.env=false:=by simp [interactive,I.ok.kind]
def Jm(te:TE):TS:=λD σ H=>te σ H λ_ H1=>D.nx σ H1
theorem BA(he:PE X e te)(hs:swapsWith e none pos.line X.env=pure false:=by rfl):PS X (.Expr e pos) (Jm te):=by intro δ s σ H D I h;exact wpAny_Expr_any (a_ (he δ s σ H _ I h) λv s1 ⟨x,H1,I1,r1,q1⟩=>⟨σ,H1,I1,q1⟩) I.quiet hs
def MK(te:TE):TS:=λD σ H=>te σ H D.rt
theorem GI(he:PE X e te):PS X (.Return (some e) pos) (MK te):=by intro δ s σ H D I h;exact wpAny_Return_some (a_ (he δ s σ H _ I h) λv s1 ⟨x,H1,I1,r1,q1⟩=>⟨x,σ,H1,I1,r1,q1⟩)
def Lw(c:TT)(t u:TS):TS:=λD σ H=>c σ H λb H1=>if b=true then t D σ H1 else u D σ H1
theorem HJ{a b:List Stmt}{tc:TT}(hc:PT X c tc)(ha:yc X a t)(hb:yc X b u):PS X (.If c a b pos) (Lw tc t u):=by
 intro δ s σ H D I h;refine wpAny_If (a_ (hc δ s σ H _ I h) λd s1 ⟨H1,I1,q1⟩=> ?_);cases d with
 | true=>exact ha δ s1 σ H1 D I1 q1
 | false=>exact hb δ s1 σ H1 D I1 q1
end
abbrev TG:=V->St->Hp->(St->Hp->Prop)->Prop
abbrev Ee:=List V->St->Hp->(St->Hp->Prop)->Prop
def PG(X:Cx)(target:Expr)(t:TG):Prop:=
 ∀(δ:List (Addr×Obj)) (s:Shared) (σ:St) (H:Hp) (v:V) (u:Value) (Q:St->Hp->Prop),Inv X δ σ H s->Τ v u->t v σ H Q->
  wpAny (model X.prog X.w) X.A (assign target X.env u) (λ_ s'=>∃σ' H',Inv X δ σ' H' s'/\Q σ' H') X.xe s
def Kr(X:Cx)(ts:List Expr)(t:Ee):Prop:=
 ∀(δ:List (Addr×Obj)) (s:Shared) (σ:St) (H:Hp) (vs:List V) (us:List Value) (Q:St->Hp->Prop),Inv X δ σ H s->Μ vs us->t vs σ H Q->
  wpAny (model X.prog X.w) X.A (assignInOrder ((assignEach ts X.env).map (·.2)) us) (λ_ s'=>∃σ' H',Inv X δ σ' H' s'/\Q σ' H') X.xe s
abbrev Fi:=V->V->V->Hp->(Hp->Prop)->Prop
def Hu(X:Cx)(t:Fi):Prop:=
 ∀(δ:List (Addr×Obj)) (s:Shared) (σ:St) (H:Hp) (o i v:V) (ov iv u:Value) (Q:Hp->Prop),Inv X δ σ H s->Τ o ov->Τ i iv->Τ v u->t o i v H Q->
  wpAny (model X.prog X.w) X.A (setItem ov iv u) (λ_ s'=>∃H',Inv X δ σ H' s'/\Q H') X.xe s
section
def fm(i:Nat):TG:=λv σ H Q=>Q (σ.set i (some v)) H
theorem Χ(hN:X.N.Nodup)(hi:X.N[i]? =some x)(hx:Loc X.env.scope x)(hf:X.fn x=true\/X.env.scope.names.lookup x=some .local:=by first | exact .inl rfl | exact .inr rfl | assumption):PG X (.Name x pos) (fm i):=by intro δ s σ H v u Q I r h;exact wpAny_assign_Name (jn I hN hi hx r (λs' I'=>⟨_,H,I',h⟩) hf)
def BI:Ee:=λvs σ H Q=>vs=[]/\Q σ H
def kn(t:TG)(u:Ee):Ee:=λvs σ H Q=>∃v r,vs=v::r/\t v σ H λσ' H'=>u r σ' H' Q
theorem iY:Kr X [] BI:=by intro δ s σ H vs us Q I r h;obtain ⟨e,h⟩:=h;subst e;cases r;exact assignInOrder_nil ⟨σ,H,I,h⟩
theorem bx{t:TG}{u:Ee}(h1:PG X e t)(h2:Kr X es u)
  (hs:(assignEach (e::es) X.env).map (·.2)=assign e X.env::(assignEach es X.env).map (·.2):=by rfl):Kr X (e::es) (kn t u):=by
 intro δ s σ H vs us Q I r h;obtain ⟨v,vr,e1,h⟩:=h;subst e1;cases r with
 | cons r rr=>
  rw [hs];refine assignInOrder_cons (a_ (h1 δ s σ H _ _ _ I r h) λ_ s1 ⟨σ1,H1,I1,q1⟩=> ?_);exact h2 δ s1 σ1 H1 _ _ Q I1 rr q1
def CF(K:fv)(n:Nat)(t:Ee):TG:=λv σ H Q=>∃a xs,v= .ref a/\gP K H a xs/\xs.length=n/\t xs σ H Q
theorem l9{t:Ee}{n:Nat}(hc:X.calm=true)(h:Kr X es t)
  (hn:(assignEach es X.env).length=n:=by rfl) (BD:(assignEach es X.env).findIdx? (·.1)=none:=by rfl):PG X (.Tuple es k pos) (CF X.K n t):=by
 intro δ s σ H v u Q I r hw;obtain ⟨a,xs,e1,hq,hl,hw⟩:=hw;subst e1;cases r;obtain ⟨its,rv,ht,hz⟩:=I.tuple hq;refine assign_Tuple_tuple (I.ok.hd hc) ht (by simp [hn,<-hl,rv.length]) BD λh' hx=> ?_;have I1:Inv X δ σ H {s with heap:=h'}:=I.kept (t':=s.toks) λb o e=>hx b o (aaM (aas e)) e;exact h δ _ σ H xs _ Q I1 (by simpa using rv) hw
def Nj(to ti:TE)(t:Fi):TG:=λv σ H Q=>to σ H λo H1=>ti σ H1 λi H2=>t o i v H2 λH3=>Q σ H3
theorem D9{o i:Expr}{to ti:TE}{t:Fi}(ho:PE X o to)(hi:PE X i ti)(hs:Hu X t)
  (ha:∀v,assign (.Subscript o i pos) X.env v=(do
   let ov<-holding [v] (eval o X.env)
   let iv<-holding [v,ov] (eval i X.env)
   standAt pos
   holding [v,ov,iv] (setItem ov iv v)
   release [v,ov,iv] []):=by intro _;rfl):PG X (.Subscript o i pos) (Nj to ti t):=by
 intro δ s σ H v u Q I r h;rw [ha];refine aac (wpAny_holding (a_ (ho δ s σ H _ I h) λov s1 ⟨x,H1,I1,r1,q1⟩=> ?_));refine aac (wpAny_holding (a_ (hi δ s1 σ H1 _ I1 q1) λiv s2 ⟨y,H2,I2,r2,q2⟩=> ?_));refine aac (wpAny_standAt (aac (wpAny_holding (a_ (hs δ s2 σ H2 x y v ov iv u _ I2 r1 r2 r q2) λ_ s3 ⟨H3,I3,q3⟩=> ?_))));exact wpAny_release ⟨σ,H3,I3,q3⟩
def Iw(te:TE)(g:TG):TS:=λD σ H=>te σ H λx H1=>g x σ H1 D.nx
theorem uv{g:TG}(he:PE X e te)(hg:PG X tg g)(hs:swapsWithSole [tg] e pos.line X.env=pure false:=by rfl)(hw:swappedStores [tg] e X.env=pure none:=by rfl)
  (h1:(assignEach [tg] X.env).map (·.2)=[assign tg X.env]:=by rfl):PS X (.Assign [tg] e pos) (Iw te g):=by
 intro δ s σ H D I h;refine wpAny_Assign_stores (a_ (he δ s σ H _ I h) λv s1 ⟨x,H1,I1,r1,q1⟩=> ?_) hs hw;rw [h1];exact a_ (hg δ s1 σ H1 x v _ I1 r1 q1) λ_ s2 q=>q
theorem FL{pos':Pos}(hN:X.N.Nodup)(hi:X.N[i]? =some x)(hx:Loc X.env.scope x)(he:PE X e te)(hs:swapsWith e (some (.Name x pos')) pos.line X.env=pure false:=by rfl)(hf:X.fn x=true\/X.env.scope.names.lookup x=some .local:=by first | exact .inl rfl | exact .inr rfl | assumption):
  PS X (.Assign [.Name x pos'] e pos) (Iw te (fm i)):=by
 intro δ s σ H D I h;refine wpAny_Assign_Name (a_ (he δ s σ H _ I h) λv s1 ⟨y,H1,I1,r1,q1⟩=> ?_) hs;exact jn I1 hN hi hx r1 (λs2 I2=>⟨_,H1,I2,q1⟩) hf
def K6(i j:Nat)(ta:TA):TS:=λD σ H=>ta σ H λvs H1=>∃v w,vs=[v,w]/\D.nx ((σ.set i (some v)).set j (some w)) H1
theorem Ga{j:Nat}{y:Str}{a b:Expr}{ta:TA}{px py pt:Pos}{kt k2 EV}(hc:X.calm=true)(hN:X.N.Nodup)(hi:X.N[i]? =some x)(hj:X.N[j]? =some y)(Ih:i≠j)
  (hx:X.env.scope.names.lookup x=some .local) (hy:X.env.scope.names.lookup y=some .local) (ha:PA X [a,b] ta)
  (hw:swappedStores [.Tuple [.Name x px, .Name y py] kt pt] (.Tuple [a,b] k2 EV) X.env=pure (some [x,y]))
  (hs:swapsWithSole [.Tuple [.Name x px, .Name y py] kt pt] (.Tuple [a,b] k2 EV) pos.line X.env=pure false:=by rfl):
  PS X (.Assign [.Tuple [.Name x px, .Name y py] kt pt] (.Tuple [a,b] k2 EV) pos) (K6 i j ta):=by
 intro δ s σ H D I h;rw [exec_Assign_arm];refine aac (wpAny_standAt ?_);rw [hs];refine aac (aai ?_);rw [aaJ (by decide)];refine aac (Tuple_ (a_ (ha _ δ s σ H _ I h) λus s1 ⟨vs,H1,I1,r1,q1⟩=> ?_));obtain ⟨v,w,e1,q1⟩:=q1;subst e1;obtain ⟨u1,u2,rfl,rv,FO⟩:∃u1 u2,us=[u1,u2]/\Τ v u1/\Τ w u2:=by
  cases r1 with
  | cons p q=>
   cases q with
   | cons p' q'=>
    cases q';exact ⟨_,_,rfl,p,p'⟩
 refine wpAny_newObj_type ?_ fI;have I2:Inv X δ σ H1 {s1 with heap:=s1.heap.push {cls:= .type "tuple",data:= .seq [u1,u2].toArray}}:=I1.kept (t':=s1.toks) λb o e=>aag _ e;rw [hw];refine aac (aai ?_);show wpAny (model X.prog X.w) X.A (do rule "assign.swapped-stores";let items<-unpackItems (.ref s1.heap.objs.size) 2 none;assignInOrder [λv=>bindName X.env y v,λv=>bindName X.env x v] items.reverse;pure Flow.next) _ _ _;refine aac (wpAny_rule (aac (unpackItems_tuple (items:= #[u1,u2]) (I.ok.hd hc) (IsTup.new s1.heap _) λh' Fu=> ?_)));have I3:=I2.kept (h':=h') (t':=s1.toks) λb o e=>Fu b o (aaM (aas e)) e;show wpAny _ _ (assignInOrder [λv=>bindName X.env y v,λv=>bindName X.env x v] [u2,u1] >>= λ_=>pure Flow.next) _ _ _;refine aac (assignInOrder_cons (wpAny_bindName (jn I3 hN hj (.inl hy) FO (λs2 I4=> ?_) (.inr hy))));refine assignInOrder_cons (wpAny_bindName (jn I4 hN hi (.inl hx) rv (λs3 I5=>assignInOrder_nil (aai ?_)) (.inr hx)));rw [List.set_comm _ _ (Ne.symm Ih)] at I5;exact ⟨_,H1,I5,q1⟩
end
section
def ES(c:TT)(tb:TS):TS:=λD σ H=>∃W:Nat->St->Hp->Prop,(∃m,W m σ H)/\∀m σ H,W m σ H->
 c σ H λb H1=>if b=true then∃N:St->Hp->Prop,(∀σ' H',N σ' H'->∃m',m' < m/\W m' σ' H')/\tb {D with nx:=N,ct:=N,bk:=D.nx} σ H1 else D.nx σ H1
theorem An{tc:TT}{tb:TS}(hp:PassesOwn (model X.prog X.w) X.A X.env X.xe)(hc:PT X c tc)(hb:yc X body tb):PS X (.While c body [] pos) (ES tc tb):=by
 intro δ s σ H D I h;obtain ⟨W,⟨m0,w0⟩,turn⟩:=h;refine wpAny_While (codeAny_whileLoop (λn s'=>∃σ' H',Inv X δ σ' H' s'/\W n σ' H') ?_ m0 ⟨σ,H,I,w0⟩);rintro n s1 ⟨σ1,H1,I1,w1⟩;refine wpAny_passesOwn hp (a_ (hc δ s1 σ1 H1 _ I1 (turn n σ1 H1 w1)) λb s2 ⟨H2,I2,q2⟩=> ?_);cases b with
 | true=>
  obtain ⟨N,hN,q2⟩:=q2;rw [aaP rfl];refine wpAny_passesOwn hp (a_ (hb δ s2 σ1 H2 _ I2 q2) λf s3 q3=> ?_);cases f with
  | next=>
   obtain ⟨σ3,H3,I3,n3⟩:=q3;obtain ⟨m',hm,w3⟩:=hN σ3 H3 n3;exact ⟨m',hm,σ3,H3,I3,w3⟩
  | cont=>
   obtain ⟨σ3,H3,I3,n3⟩:=q3;obtain ⟨m',hm,w3⟩:=hN σ3 H3 n3;exact ⟨m',hm,σ3,H3,I3,w3⟩
  | brk=>exact q3
  | ret v=>exact q3
 | false=>
  rw [aaJ aap];exact wpAny_execs_nil ⟨σ1,H2,I2,q2⟩
end
structure It where
 go:Nat->Hp->Prop
 HI:Nat->Hp->V->Hp->Prop
 stop:Nat->Hp->Prop
def nA(X:Cx)(δ:List (Addr×Obj))(H:Hp)(b:Addr):Prop:=
 H b=none/\b≠X.env.locals/\b∉X.fs/\(b∈X.ex\/X.s₀.heap.objs.size<=b)/\(∀x c,X.env.cells.lookup x=some c->c≠b)/\∀p∈X.pn++δ,p.1≠b
theorem Inv.yo{H H':Hp}(I:Inv X δ σ H s)(hb:s.heap.objs.size<=b)(hn:H' b=none):nA X δ H' b:=by
 refine ⟨hn,Nat.ne_of_gt (aaz I.lt hb),I.L6 hb, .inr (aak I.sz hb),λx c e z=> ?_,λp hp z=> ?_⟩
 ·obtain ⟨v,q⟩:=I.cell x c e;exact aaE (aaz q.lt (by rw [z];exact hb)) (abp _)
 ·exact aaE (aaz (aas (I.pin p hp).1) (by rw [z];exact hb)) (abp _)
structure tm(P:Program)(w:World)(K:fv)(tg:Expr)(J:It)(fp:List Addr)(it:Addr)(tn:Nat->Heap->Prop):Prop where
 mem:it∈fp
 obj:∀i h,tn i h->∀b∈fp,∃o,h.get? b=some o/\∀v,o.data≠ .cell v
 keep:∀i h h',tn i h->(∀b∈fp,∀o,h.get? b=some o->h'.get? b=some o)->tn i h'
 item:∀(X:Cx),X.prog=P->X.w=w->X.K=K->X.calm=true->∀(i:Nat) (δ:List (Addr×Obj)) (s:Shared) (σ:St) (H:Hp) (E:Value->Shared->Prop),Inv X δ σ H s->(∀b∈fp,nA X δ H b)->tn i s.heap->J.go i H->
  wpAny (model P w) X.A (pyNext (.ref it)) (λr s1=>∃u,r=some u/\
   wpAny (model P w) X.A (letOwnedTupleGo tg (.ref it) u) (λ_ s2=>∃x H',Inv X δ σ H' s2/\Τ x u/\J.HI i H x H'/\tn (i+1) s2.heap/\∀b∈fp,H' b=none) E s1) E s
 done:∀(X:Cx),X.prog=P->X.w=w->X.K=K->X.calm=true->∀(i:Nat) (δ:List (Addr×Obj)) (s:Shared) (σ:St) (H:Hp) (E:Value->Shared->Prop),Inv X δ σ H s->(∀b∈fp,nA X δ H b)->tn i s.heap->J.stop i H->
  wpAny (model P w) X.A (pyNext (.ref it)) (λr s1=>r=none/\Inv X δ σ H s1) E s
 self:∀(A:Around) (i:Nat) (s:Shared) (Q:Value->Shared->Prop) (E:Value->Shared->Prop),tn i s.heap->Q (.ref it) s->wpAny (model P w) A (pyIter (.ref it)) Q E s
abbrev TI:=St->Hp->(It->Hp->Prop)->Prop
def BR(X:Cx)(δ:List (Addr×Obj))(σ:St)(tg:Expr)(R:It->Hp->Prop)(Kx:Value)(s2:Shared):Prop:=
 ∃(it:Addr) (fp:List Addr) (tn:Nat->Heap->Prop) (J:It) (H':Hp),Kx= .ref it/\Inv X δ σ H' s2/\tm X.prog X.w X.K tg J fp it tn/\tn 0 s2.heap/\(∀b∈fp,nA X δ H' b)/\R J H'
def PI(X:Cx)(tg iter:Expr)(wi:TI):Prop:=
 ∀(δ:List (Addr×Obj)) (s:Shared) (σ:St) (H:Hp) (R:It->Hp->Prop),Inv X δ σ H s->wi σ H R->
  wpAny (model X.prog X.w) X.A (eval iter X.env) (λv s1=>wpAny (model X.prog X.w) X.A (pyIter v) (BR X δ σ tg R) X.xe s1) X.xe s
theorem sk   {E : Value -> Shared -> Prop}   {it : Addr}  {o : Obj} {n : String} {vs : Array Value} {Q : Unit -> Shared -> Prop} (ho : s.heap.get? it = some o) (hc : o.cls = .type n) (hd : o.data = .fields vs)
    (hn : ["enumerate", "zip", "dict_itemiterator", "dict_reverseitemiterator", "odict_iterator", "itertools.zip_longest", "itertools.pairwise"].contains n = false) (hQ : Q () s) : wpAny M A (letOwnedTupleGo tg (.ref it) u) Q E s := by
  unfold letOwnedTupleGo
  cases tg <;> first
    | exact aai hQ
    | (cases u <;> first
        | exact aai hQ
        | (refine aac (wpAny_load ho ?_)
           rw [hc, hd];show wpAny M A (if (["enumerate", "zip", "dict_itemiterator", "dict_reverseitemiterator", "odict_iterator", "itertools.zip_longest", "itertools.pairwise"].contains n && vs[0]? == some (rawInt _)) = true then _ else _) Q E s;rw [aaJ (by intro h; rw [hn, Bool.false_and] at h; cases h)]
           exact aai hQ))
def Ka(K:fv)(a:Addr):It:=
 ⟨λi H=>∃xs x,eN K H a xs/\xs[i]? =some x,λi H x H'=>H'=H/\∀xs,eN K H a xs->xs[i]? =some x,λi H=>∃xs,eN K H a xs/\xs.length<=i⟩
def Mn(K:fv)(a:Addr):It:=
 ⟨λi H=>∃xs x,gP K H a xs/\xs[i]? =some x,λi H x H'=>H'=H/\∀xs,gP K H a xs->xs[i]? =some x,λi H=>∃xs,gP K H a xs/\xs.length<=i⟩
def Ko(lo:Int)(n:Nat):It:=⟨λi _=>i < n,λi H x H'=>H'=H/\x= .int (lo+i),λi _=>n<=i⟩
theorem wZ{K:fv}(a it:Addr):tm P w K tg (Ka K a) [it] it (λi h=>h.IsListIter it a i) where
 mem:=by simp
 obj:=λi h st b hb=>by
  have e:b=it:=by simpa using hb
  subst e;obtain ⟨o,e,c,d⟩:=st;exact ⟨o,e,λv z=>by rw [d] at z;cases z⟩
 keep:=λi h h' st k=>st.at λo e=>k it (by simp) o e
 item:=by intro X hP hw hK hc i δ s σ H E I hf st hg;subst hP hw hK;obtain ⟨xs,x,hq,hx⟩:=hg;obtain ⟨its,rv,p,hz⟩:=I.list hq;obtain ⟨u,hu,ru⟩:=rv.get hx;obtain ⟨f0,f1,f2,f3,f4,f5⟩:=hf it (by simp);refine wpAny_pyNext_list_item st p.isList (x:=u) (by simpa using hu) λh' tE sb=> ?_;have I1:Inv X δ σ H {s with heap:=h'}:=I.turned (t':=s.toks) (λb o hb e=>(sb.2 b hb).trans e) f0 f1 f3 f4 f5;obtain ⟨o,e,c,d⟩:=id tE;exact ⟨u,rfl,sk (s:={s with heap:=h'}) e c d (by decide) ⟨x,H,I1,ru,⟨rfl,λys hy=>by rw [I.fJ hy hq];exact hx⟩,tE,λb hb=>(hf b hb).1⟩⟩
 done:=by intro X hP hw hK hc i δ s σ H E I hf st hg;subst hP hw hK;obtain ⟨xs,hq,hx⟩:=hg;obtain ⟨its,rv,p,hz⟩:=I.list hq;obtain ⟨f0,f1,f2,f3,f4,f5⟩:=hf it (by simp);have hl:=rv.length;exact wpAny_pyNext_list_end (I.ok.hd hc) st p.isList (by simp;omega) λh' eb=>⟨rfl,I.turned (t':=s.toks) (λb o hb e=>eb b o hb e) f0 f1 f3 f4 f5⟩
 self:=λ_ _ _ _ _ st h=>wpAny_pyIter_listiter st h
theorem ux{K:fv}(a it:Addr):tm P w K tg (Mn K a) [it] it (λi h=>h.IsTupleIter it a i) where
 mem:=by simp
 obj:=λi h st b hb=>by
  have e:b=it:=by simpa using hb
  subst e;obtain ⟨o,e,c,d⟩:=st;exact ⟨o,e,λv z=>by rw [d] at z;cases z⟩
 keep:=λi h h' st k=>st.at λo e=>k it (by simp) o e
 item:=by intro X hP hw hK hc i δ s σ H E I hf st hg;subst hP hw hK;obtain ⟨xs,x,hq,hx⟩:=hg;obtain ⟨its,rv,p,hz⟩:=I.tuple hq;obtain ⟨u,hu,ru⟩:=rv.get hx;obtain ⟨f0,f1,f2,f3,f4,f5⟩:=hf it (by simp);refine wpAny_pyNext_tuple_item st (show s.heap.IsTuple a its.toArray from p) (x:=u) (by simpa using hu) λh' tE sb=> ?_;have I1:Inv X δ σ H {s with heap:=h'}:=I.turned (t':=s.toks) (λb o hb e=>(sb.2 b hb).trans e) f0 f1 f3 f4 f5;obtain ⟨o,e,c,d⟩:=id tE;exact ⟨u,rfl,sk (s:={s with heap:=h'}) e c d (by decide) ⟨x,H,I1,ru,⟨rfl,λys hy=>by rw [I.j3 hy hq];exact hx⟩,tE,λb hb=>(hf b hb).1⟩⟩
 done:=by intro X hP hw hK hc i δ s σ H E I hf st hg;subst hP hw hK;obtain ⟨xs,hq,hx⟩:=hg;obtain ⟨its,rv,p,hz⟩:=I.tuple hq;obtain ⟨f0,f1,f2,f3,f4,f5⟩:=hf it (by simp);have hl:=rv.length;exact wpAny_pyNext_tuple_end (I.ok.hd hc) st (show s.heap.IsTuple a its.toArray from p) (by simp;omega) λh' eb=>⟨rfl,I.turned (t':=s.toks) (λb o hb e=>eb b o hb e) f0 f1 f3 f4 f5⟩
 self:=λ_ _ _ _ _ st h=>wpAny_pyIter_tupleiter st h
theorem uF{K:fv}(it:Addr)(lo:Int)(n:Nat):tm P w K tg (Ko lo n) [it] it (λi h=>IsRangeIter h it (lo+(i:Nat) * 1) ((n:Int) - (i:Nat)) 1) where
 mem:=by simp
 obj:=λi h st b hb=>by
  have e:b=it:=by simpa using hb
  subst e
  exact ⟨_,st,λv z=>by
   have z':Data.fields _=Data.cell v:=z
   cases z'⟩
 keep:=λi h h' st k=>k it (by simp) _ st
 item:=by intro X hP hw hK hc i δ s σ H E I hf st hg;subst hP hw hK;obtain ⟨f0,f1,f2,f3,f4,f5⟩:=hf it (by simp);have W:=Walks.range (prog:=X.prog) (w:=X.w) (I.ok.hd hc) it lo 1 n;refine W.item i s _ _ hg st λv h' tk hv tE kk=> ?_;obtain ⟨t,rfl⟩:=hv;have I1:Inv X δ σ H {s with heap:=h',toks:=tk}:=I.turned (λb o hb e=>kk b o (by simpa using hb) e) f0 f1 f3 f4 f5;refine ⟨_,rfl,sk (s:={s with heap:=h',toks:=tk}) (n:="range_iterator") tE rfl rfl (by decide) ⟨.int (lo+i),H,I1,⟨t, ?_⟩,⟨rfl,rfl⟩,tE,λb hb=>(hf b hb).1⟩⟩;rw [Int.mul_one]
 done:=by intro X hP hw hK hc i δ s σ H E I hf st hg;subst hP hw hK;obtain ⟨f0,f1,f2,f3,f4,f5⟩:=hf it (by simp);exact wpAny_pyNext_range_end (I.ok.hd hc) st (by have:n<=i:=hg;omega) λh' eb=>⟨rfl,I.turned (t':=s.toks) (λb o hb e=>eb b o hb e) f0 f1 f3 f4 f5⟩
 self:=λ_ _ _ _ _ st h=>wpAny_pyIter_rangeiter st h
section
theorem yF{H:Hp}{R:It->Hp->Prop}{lo hi:Int}{t u v:Tok}{tk:Nat}(I:Inv X δ σ H s)(h1: -(2 ^ 62)<=lo)(h2:lo < 2 ^ 62)(h3: -(2 ^ 62)<=hi)(h4:hi < 2 ^ 62)
  (q:R (Ko lo (hi - lo).toNat) H):wpAny (model X.prog X.w) X.A (pyIter (.ref s.heap.objs.size)) (BR X δ σ tg R) E {s with heap:=s.heap.push {cls:= .type "range",data:= .fields #[.int lo t, .int hi u, .int 1 v]},toks:=tk}:=by
 refine wpAny_pyIter_range (IsRange.new ..) (small_one h1 h2 h3 h4) ?_;have I1:Inv X δ σ H {s with heap:=s.heap.push {cls:= .type "range",data:= .fields #[.int lo t, .int hi u, .int 1 v]},toks:=tk}:=I.kept λb o e=>aag _ e
 refine ⟨(s.heap.push {cls:= .type "range",data:= .fields #[.int lo t, .int hi u, .int 1 v]}).objs.size,[(s.heap.push {cls:= .type "range",data:= .fields #[.int lo t, .int hi u, .int 1 v]}).objs.size],_,_,H,rfl,
  I1.kept (t':=tk) λb o e=>aag _ e,uF _ lo (hi - lo).toNat, ?_,λb hb=> ?_,q⟩
 ·have e1:lo+((0:Nat):Int) * 1=lo:=by simp
  have e2:(((hi - lo).toNat:Nat):Int) - ((0:Nat):Int)=Builtin.Range.rangeSize lo hi 1:=by rw [rangeSize_one];split <;> omega
  show IsRangeIter _ _ (lo+((0:Nat):Int) * 1) ((((hi - lo).toNat:Nat):Int) - ((0:Nat):Int)) 1;rw [e1,e2];exact aaG _ rfl
 ·have e:b=(s.heap.push {cls:= .type "range",data:= .fields #[.int lo t, .int hi u, .int 1 v]}).objs.size:=by simpa using hb
  subst e;exact I1.yo (aal _) (I1.aR.fresh (aal _))
def Iz(ta:TA):TI:=λσ H R=>ta σ H λvs H1=>∃j:Int,vs=[.int j]/\ -(2 ^ 62)<=j/\j < 2 ^ 62/\R (Ko 0 j.toNat) H1
theorem xa{a:Expr}{ta:TA}{p:Pos}(hg:Gl X "range")(hm:X.mg "range"=none)(ha:PA X [a] ta)(hs:starEach [a] X.env=[(false,eval a X.env)]:=by rfl):PI X tg (.Call (.Name "range" p) [a] [] pos) (Iz ta):=by
 intro δ s σ H R I h;refine Call_ (mU I hg hm boot_range (PyProof.Rows.callWith_type1 (a_ (ha pos δ s σ H _ I h) λus s1 ⟨vs,H1,I1,r1,q1⟩=> ?_) hs rfl));obtain ⟨j,e,q1,q2,q⟩:=q1;subst e;cases r1 with
 | cons r rr=>
  cases rr;obtain ⟨t,rfl⟩:=r;exact call_range_1 (yF I1 (by omega) (by omega) q1 q2 (by simpa using q))
def L9(wi:TI)(g:TG)(tb:TS):TS:=λD σ H=>wi σ H λJ H1=>∃W:Nat->Nat->St->Hp->Prop,(∃m,W 0 m σ H1)/\∀i m σ H,W i m σ H->
 (J.stop i H/\D.nx σ H)\/(J.go i H/\∃N:St->Hp->Prop,(∀σ' H',N σ' H'->∃m',m' < m/\W (i+1) m' σ' H')/\∀x H',J.HI i H x H'->g x σ H' λσ2 H2=>tb {D with nx:=N,ct:=N,bk:=D.nx} σ2 H2)
def qr(fp:List Addr)(h:Heap):List (Addr×Obj):=fp.filterMap λb=>(h.get? b).map λo=>(b,o)
theorem cw{o:Obj}(hb:b∈fp)(e:h.get? b=some o):(b,o)∈qr fp h:=abI.mpr ⟨b,hb,by rw [e];rfl⟩
theorem xk{p:Addr×Obj}(hp:p∈qr fp h):p.1∈fp/\h.get? p.1=some p.2:=by
 obtain ⟨b,hb,e⟩:=abI.mp hp;cases q:h.get? b with
 | none=>rw [q] at e;cases e
 | some o=>
  rw [q] at e;have e':(b,o)=p:=aat e;subst e';exact ⟨hb,q⟩
theorem Inv.pinned{H:Hp}(I:Inv X δ σ H s)(hf:∀b∈fp,nA X δ H b)(ho:∀b∈fp,∃o,s.heap.get? b=some o/\∀v,o.data≠ .cell v):Inv X (δ++qr fp s.heap) σ H s:=
 I.vU λp hp=>(aaI.mp hp).elim (λz=>I.pin p (aau _ z)) λz=>by obtain ⟨hb,e⟩:=xk z;obtain ⟨f0,f1,f2,_⟩:=hf p.1 hb;obtain ⟨o,e',d⟩:=ho p.1 hb;rw [e] at e';cases e';exact ⟨e,f0,f1,f2,d⟩
theorem Inv.fW{pl:List (Addr×Obj)}{H:Hp}(I:Inv X (δ++pl) σ H s):Inv X δ σ H s:=I.vU λp hp=>I.pin p (aau _ (aa1 _ hp))
theorem Aq{iter:Expr}{wi:TI}{g:TG}{tb:TS}(hp:PassesOwn (model X.prog X.w) X.A X.env X.xe)(hc:X.calm=true)(hi:PI X tg iter wi)(hg:PG X tg g)(hb:yc X body tb)
  (hs:∀x,foldedSetIterable iter X.env x=pure x:=by intro _;rfl):PS X (.For tg iter body [] pos) (L9 wi g tb):=by
 intro δ s σ H D I h;refine wpAny_For (a_ (hi δ s σ H _ I h) λv s1 h1=>a_ h1 λKx s2 h2=> ?_) hs;obtain ⟨it,fp,tn,J,H2,e,I2,T,Qk,f2,W,⟨m0,w0⟩,turn⟩:=h2;subst e;have D8:∀{H':Hp},(∀b∈fp,H' b=none)->∀b∈fp,nA X δ H' b:=λhn b hb=>⟨hn b hb,(f2 b hb).2⟩;refine codeAny_forLoop_any (λn s'=>∃i σ' H',Inv X δ σ' H' s'/\tn i s'.heap/\(∀b∈fp,H' b=none)/\W i n σ' H') ?_ m0 ⟨0,σ,H2,I2,Qk,λb hb=>(f2 b hb).1,w0⟩;rintro n s3 ⟨i,σ3,H3,I3,Oc,Om,w3⟩;rcases turn i n σ3 H3 w3 with ⟨stop,qn⟩ | ⟨go,N,hN,step⟩
 ·refine wpAny_passesOwn hp (a_ (T.done X rfl rfl rfl hc i δ s3 σ3 H3 X.xe I3 (D8 Om) Oc stop) λr s4 ⟨hr,I4⟩=> ?_);subst hr;exact wpAny_execs_nil ⟨σ3,H3,I4,qn⟩
 ·refine wpAny_passesOwn hp (a_ (T.item X rfl rfl rfl hc i δ s3 σ3 H3 X.xe I3 (D8 Om) Oc go) λr s4 ⟨u,hr,h4⟩=> ?_);subst hr;refine wpAny_passesOwn hp (a_ h4 λ_ s5 ⟨x,H5,I5,r5,y5,GO,K4⟩=> ?_);have Ti:=I5.pinned (D8 K4) (T.obj _ _ GO);refine wpAny_passesOwn hp (a_ (hg _ s5 σ3 H5 x u _ Ti r5 (step x H5 y5)) λ_ s6 ⟨σ6,H6,I6,q6⟩=> ?_);refine wpAny_passesOwn hp (a_ (hb _ s6 σ6 H6 _ I6 q6) λf s7 q7=> ?_);have again:∀{σ7:St} {H7:Hp},Inv X (δ++qr fp s5.heap) σ7 H7 s7->N σ7 H7->∃m,m < n/\∃i σ' H',Inv X δ σ' H' s7/\tn i s7.heap/\(∀b∈fp,H' b=none)/\W i m σ' H':=λ{σ7 H7} I7 n7=>by obtain ⟨m',hm,w7⟩:=hN σ7 H7 n7;refine ⟨m',hm,i+1,σ7,H7,I7.fW,T.keep _ _ _ GO λb hb o e=>(I7.pin (b,o) (aau _ (aau _ (cw hb e)))).1,λb hb=> ?_,w7⟩;obtain ⟨o,e,d⟩:=T.obj _ _ GO b hb;exact (I7.pin (b,o) (aau _ (aau _ (cw hb e)))).2.1
  cases f with
  | next=>obtain ⟨σ7,H7,I7,n7⟩:=q7;exact again I7 n7
  | cont=>obtain ⟨σ7,H7,I7,n7⟩:=q7;exact again I7 n7
  | brk=>obtain ⟨σ7,H7,I7,q7⟩:=q7;exact ⟨σ7,H7,I7.fW,q7⟩
  | ret v=>obtain ⟨x7,σ7,H7,I7,r7,q7⟩:=q7;exact ⟨x7,σ7,H7,I7.fW,r7,q7⟩
end
abbrev R2:=V->V->Hp->VK->Prop
def gA(X:Cx)(f:Value->Value->Sem Value)(r:R2):Prop:=
 ∀(δ:List (Addr×Obj)) (s:Shared) (σ:St) (H:Hp) (x y:V) (v u:Value) (Q:VK),Inv X δ σ H s->Τ x v->Τ y u->r x y H Q->
  wpAny (model X.prog X.w) X.A (f v u) (EP X δ σ Q) X.xe s
def K0(X:Cx)(f:Value->Sem Value)(r:V->Hp->VK->Prop):Prop:=
 ∀(δ:List (Addr×Obj)) (s:Shared) (σ:St) (H:Hp) (x:V) (v:Value) (Q:VK),Inv X δ σ H s->Τ x v->r x H Q->
  wpAny (model X.prog X.w) X.A (f v) (EP X δ σ Q) X.xe s
def cn(X:Cx)(f:Value)(r:List V->Hp->VK->Prop):Prop:=
 ∀(δ:List (Addr×Obj)) (s:Shared) (σ:St) (H:Hp) (xs:List V) (us:List Value) (Q:VK),Inv X δ σ H s->Μ xs us->r xs H Q->
  wpAny (model X.prog X.w) X.A (call f us) (EP X δ σ Q) X.xe s
def J6(r:R2)(ta tb:TE):TE:=λσ H Q=>ta σ H λx H1=>tb σ H1 λy H2=>r x y H2 Q
def Ob(r:V->Hp->VK->Prop)(ta:TE):TE:=λσ H Q=>ta σ H λx H1=>r x H1 Q
def rI(C:Int->Int->Prop)(g:Int->Int->V):R2:=λx y H Q=>∃i j,x= .int i/\y= .int j/\C i j/\Q (g i j) H
def wI(g:Int->Int->V):R2:=λx y H Q=>∃i j,x= .int i/\y= .int j/\Q (g i j) H
def rU(g:Int->V):V->Hp->VK->Prop:=λx H Q=>∃i,x= .int i/\Q (g i) H
section
variable{a b:Expr}{tb tc:TE}
theorem E3(ha:PE X a ta)(hb:PE X b tb){H:Hp}{R:V->V->Hp->Prop}(I:Inv X δ σ H s)
  (h:ta σ H λx H1=>tb σ H1 λy H2=>R x y H2)
  (hf:∀v u s2 x y H2,Inv X δ σ H2 s2->Τ x v->Τ y u->R x y H2->wpAny (model X.prog X.w) X.A (f v u) Q X.xe s2):
  wpAny (model X.prog X.w) X.A (eval a X.env) (λv s₁=>wpAny (model X.prog X.w) X.A (eval b X.env) (λu s₂=>wpAny (model X.prog X.w) X.A (f v u) Q X.xe s₂) X.xe s₁) X.xe s:=by
 refine a_ (ha δ s σ H _ I h) λv s1 ⟨x,H1,I1,r1,q1⟩=> ?_;refine a_ (hb δ s1 σ H1 _ I1 q1) λu s2 ⟨y,H2,I2,r2,q2⟩=> ?_;exact hf v u s2 x y H2 I2 r1 r2 q2
theorem Ip{op:Operator}{r:R2}(ho:gA X (binaryOp op) r)(ha:PE X a ta)(hb:PE X b tb):PE X (.BinOp a op b pos) (J6 r ta tb):=by intro δ s σ H Q I h;exact wpAny_BinOp (E3 ha hb I h λv u s2 x y H2 I2 rx ry q=>ho δ s2 σ H2 x y v u Q I2 rx ry q)
theorem I0{op:UnaryOp}{r:V->Hp->VK->Prop}(ho:K0 X (unaryOp op) r)(ha:PE X a ta):PE X (.UnaryOp op a pos) (Ob r ta):=by intro δ s σ H Q I h;exact UnaryOp_ (a_ (ha δ s σ H _ I h) λv s1 ⟨x,H1,I1,r1,q1⟩=>ho δ s1 σ H1 x v Q I1 r1 q1)
theorem K2{C:Int->Int->Prop}{g:Int->Int->Int}
  (rule:∀(i j:Int) (t u:Tok) (s:Shared) (Q:Value->Shared->Prop) (E:Value->Shared->Prop),C i j->Q (.int (g i j) s.toks) {s with toks:=s.toks+1}->wpAny (model X.prog X.w) X.A (f (.int i t) (.int j u)) Q E s):
  gA X f (rI C λi j=> .int (g i j)):=by
 intro δ s σ H x y v u Q I rx ry h;obtain ⟨i,j,rfl,rfl,hc,q⟩:=h;obtain ⟨t,rfl⟩:=rx;obtain ⟨t',rfl⟩:=ry;exact rule i j t t' s _ _ hc ⟨.int (g i j),H,I.tok _,⟨_,rfl⟩,q⟩
theorem IE{g:Int->Int->Int}
  (rule:∀(i j:Int) (t u:Tok) (s:Shared) (Q:Value->Shared->Prop) (E:Value->Shared->Prop),Q (.int (g i j) s.toks) {s with toks:=s.toks+1}->wpAny (model X.prog X.w) X.A (f (.int i t) (.int j u)) Q E s):
  gA X f (wI λi j=> .int (g i j)):=by
 intro δ s σ H x y v u Q I rx ry h;obtain ⟨i,j,rfl,rfl,q⟩:=h;obtain ⟨t,rfl⟩:=rx;obtain ⟨t',rfl⟩:=ry;exact rule i j t t' s _ _ ⟨.int (g i j),H,I.tok _,⟨_,rfl⟩,q⟩
theorem BQ{g:Int->Int->Bool}
  (rule:∀(i j:Int) (t u:Tok) (s:Shared) (Q:Value->Shared->Prop) (E:Value->Shared->Prop),Q (.bool (g i j)) s->wpAny (model X.prog X.w) X.A (f (.int i t) (.int j u)) Q E s):
  gA X f (wI λi j=> .bl (g i j)):=by
 intro δ s σ H x y v u Q I rx ry h;obtain ⟨i,j,rfl,rfl,q⟩:=h;obtain ⟨t,rfl⟩:=rx;obtain ⟨t',rfl⟩:=ry;exact rule i j t t' s _ _ ⟨.bl (g i j),H,I,rfl,q⟩
def mO(i j:Int):Prop:=0<=j/\j<=1000000/\i.natAbs < 2 ^ 64
theorem Ff:gA X (binaryOp .Add) (wI λi j=> .int (i+j)):=IE λ_ _ _ _ _ _ _ q=>add_int q
theorem GC:gA X (binaryOp .Sub) (wI λi j=> .int (i - j)):=IE λ_ _ _ _ _ _ _ q=>sub_int q
theorem FD:gA X (binaryOp .Mod) (rI (λ_ j=>0 < j) λi j=> .int (i % j)):=K2 λi j _ _ _ _ _ hc q=>by have h1:(0:Int) < j:=hc;exact mod_int' (by omega) (by rw [abf i (by omega)];exact q)
theorem E9:gA X (binaryOp .Pow) (rI mO λi j=> .int (i ^ j.toNat)):=K2 λ_ _ _ _ _ _ _ hc q=>pow_int_small hc.1 hc.2.1 hc.2.2 q
theorem Q8{f:Value->Sem Value}{g:Int->Int}
  (rule:∀(i:Int) (t:Tok) (s:Shared) (Q:Value->Shared->Prop) (E:Value->Shared->Prop),Q (.int (g i) s.toks) {s with toks:=s.toks+1}->wpAny (model X.prog X.w) X.A (f (.int i t)) Q E s):
  K0 X f (rU λi=> .int (g i)):=by
 intro δ s σ H x v Q I rx h;obtain ⟨i,rfl,q⟩:=h;obtain ⟨t,rfl⟩:=rx;exact rule i t s _ _ ⟨.int (g i),H,I.tok _,⟨_,rfl⟩,q⟩
theorem EC:K0 X (unaryOp .USub) (rU λi=> .int (-i)):=Q8 λ_ _ _ _ _ q=>neg_int q
end
def Js:V->V->Bool
 | .aW, .aW=>true | .aW, .int _=>true | .int _, .aW=>true | .aW, .bl _=>true | .bl _, .aW=>true | .aW, .str _=>true | .str _, .aW=>true
 | .int _, .int _=>true | .bl _, .bl _=>true | .str _, .str _=>true | .yb _, .yb _=>true
 | .int _, .str _=>true | .str _, .int _=>true | .bl _, .str _=>true | .str _, .bl _=>true
 | _,_=>false
def Oy:R2:=λx y H Q=>Js x y=true/\Q (.bl (decide (x=y))) H
def Oh:R2:=λx y H Q=>Js x y=true/\Q (.bl (!decide (x=y))) H
theorem wj{i j:Int}:decide (V.int i=V.int j)=(i==j):=by rw [abd];simp
theorem yT{i j:Bool}:decide (V.bl i=V.bl j)=(i==j):=by rw [abd];simp
theorem vJ{i j:Str}:decide (V.str i=V.str j)=(i==j):=by rw [abd];simp
theorem vE{i j:Array UInt8}:decide (V.yb i=V.yb j)=(i.toList==j.toList):=by rw [abd];cases i;cases j;simp
section
variable{a b:Expr}{tb tc:TE}
theorem aa{H:Hp}{Q:VK}{k k':Bool}(I:Inv X δ σ H s)(q:Q (.bl k) H)(e:k=k'):EP X δ σ Q (.bool k') s:=by subst e;exact ⟨.bl k,H,I,rfl,q⟩
theorem Du:gA X (compareOp .Eq) Oy:=by
 intro δ s σ H x y v u Q I rx ry h;obtain ⟨hs,q⟩:=h;cases x with
 | aW=>
  cases rx;cases y with
  | aW=>cases ry;exact PySem.EqNone.eq_none_none (aa I q (by simp))
  | bl j=>cases ry;exact PySem.EqNone.eq_none_bool (aa I q (by simp))
  | int j=>obtain ⟨t',rfl⟩:=ry;exact PySem.EqNone.eq_none_int (aa I q (by simp))
  | str j=>obtain ⟨t',rfl⟩:=ry;exact PySem.EqNone.eq_none_str (aa I q (by simp))
  | _=>exact aaE (show false=true from hs) aap
 | bl i=>
  cases rx;cases y with
  | aW=>cases ry;exact PySem.EqNone.eq_bool_none (aa I q (by simp))
  | bl j=>cases ry;exact eq_bool (aa I q yT)
  | str j=>obtain ⟨t',rfl⟩:=ry;exact PySem.EqMixed.eq_bool_str (aa I q (by simp))
  | _=>exact aaE (show false=true from hs) aap
 | int i=>
  obtain ⟨t,rfl⟩:=rx;cases y with
  | aW=>cases ry;exact PySem.EqNone.eq_int_none (aa I q (by simp))
  | int j=>obtain ⟨t',rfl⟩:=ry;exact eq_int (aa I q wj)
  | str j=>obtain ⟨t',rfl⟩:=ry;exact PySem.EqMixed.eq_int_str (aa I q (by simp))
  | _=>exact aaE (show false=true from hs) aap
 | str i=>
  obtain ⟨t,rfl⟩:=rx;cases y with
  | aW=>cases ry;exact PySem.EqNone.eq_str_none (aa I q (by simp))
  | bl j=>cases ry;exact PySem.EqMixed.eq_str_bool (aa I q (by simp))
  | int j=>obtain ⟨t',rfl⟩:=ry;exact PySem.EqMixed.eq_str_int (aa I q (by simp))
  | str j=>obtain ⟨t',rfl⟩:=ry;exact eq_str (aa I q vJ)
  | _=>exact aaE (show false=true from hs) aap
 | yb i=>
  obtain ⟨t,rfl⟩:=rx;cases y with
  | yb j=>obtain ⟨t',rfl⟩:=ry;exact PySem.W.eq_bytes (aa I q vE)
  | _=>exact aaE (show false=true from hs) aap
 | _=>cases y <;> exact aaE (show false=true from hs) aap
theorem Ie:gA X (compareOp .NotEq) Oh:=by
 intro δ s σ H x y v u Q I rx ry h;obtain ⟨hs,q⟩:=h;cases x with
 | aW=>
  cases rx;cases y with
  | aW=>cases ry;exact PySem.EqNone.ne_none_none (aa I q (by simp))
  | bl j=>cases ry;exact PySem.EqNone.ne_none_bool (aa I q (by simp))
  | int j=>obtain ⟨t',rfl⟩:=ry;exact PySem.EqNone.ne_none_int (aa I q (by simp))
  | str j=>obtain ⟨t',rfl⟩:=ry;exact PySem.EqNone.ne_none_str (aa I q (by simp))
  | _=>exact aaE (show false=true from hs) aap
 | bl i=>
  cases rx;cases y with
  | aW=>cases ry;exact PySem.EqNone.ne_bool_none (aa I q (by simp))
  | bl j=>cases ry;exact ne_bool (aa I q (aaX not yT))
  | str j=>obtain ⟨t',rfl⟩:=ry;exact PySem.EqMixed.ne_bool_str (aa I q (by simp))
  | _=>exact aaE (show false=true from hs) aap
 | int i=>
  obtain ⟨t,rfl⟩:=rx;cases y with
  | aW=>cases ry;exact PySem.EqNone.ne_int_none (aa I q (by simp))
  | int j=>obtain ⟨t',rfl⟩:=ry;exact ne_int (aa I q (aaX not wj))
  | str j=>obtain ⟨t',rfl⟩:=ry;exact PySem.EqMixed.ne_int_str (aa I q (by simp))
  | _=>exact aaE (show false=true from hs) aap
 | str i=>
  obtain ⟨t,rfl⟩:=rx;cases y with
  | aW=>cases ry;exact PySem.EqNone.ne_str_none (aa I q (by simp))
  | bl j=>cases ry;exact PySem.EqMixed.ne_str_bool (aa I q (by simp))
  | int j=>obtain ⟨t',rfl⟩:=ry;exact PySem.EqMixed.ne_str_int (aa I q (by simp))
  | str j=>obtain ⟨t',rfl⟩:=ry;exact ne_str (aa I q (aaX not vJ))
  | _=>exact aaE (show false=true from hs) aap
 | yb i=>
  obtain ⟨t,rfl⟩:=rx;cases y with
  | yb j=>obtain ⟨t',rfl⟩:=ry;exact PySem.W.ne_bytes (aa I q (aaX not vE))
  | _=>exact aaE (show false=true from hs) aap
 | _=>cases y <;> exact aaE (show false=true from hs) aap
theorem Dr:gA X (compareOp .Lt) (wI λi j=> .bl (decide (i < j))):=BQ λ_ _ _ _ _ _ _ q=>lt_int q
theorem JN:gA X (compareOp .LtE) (wI λi j=> .bl (decide (i<=j))):=BQ λ_ _ _ _ _ _ _ q=>le_int q
theorem Iq:gA X (compareOp .Gt) (wI λi j=> .bl (decide (j < i))):=BQ λ_ _ _ _ _ _ _ q=>gt_int q
theorem JB:gA X (compareOp .GtE) (wI λi j=> .bl (decide (j<=i))):=BQ λ_ _ _ _ _ _ _ q=>ge_int q
theorem gA.or{r r':R2}(h:gA X f r)(h':gA X f r'):gA X f (λx y H Q=>r x y H Q\/r' x y H Q):=by
 intro δ s σ H x y v u Q I rx ry q;rcases q with q | q
 ·exact h δ s σ H x y v u Q I rx ry q
 ·exact h' δ s σ H x y v u Q I rx ry q
theorem fH(b:Expr)(h:op≠ .In:=by decide)(h2:op≠ .NotIn:=by decide):behindInMarks op b=false:=by
 have e1:(op==CmpOp.In)=false:=by cases op <;> first | rfl | exact aaE rfl h
 have e2:(op==CmpOp.NotIn)=false:=by cases op <;> first | rfl | exact aaE rfl h2
 cases b <;> simp [behindInMarks,e1,e2]
theorem Ci{r:R2}(ho:gA X (compareOp op) r)(ha:PE X a ta)(hb:PE X b tb)(hm:behindInMarks op b=false):PE X (.Compare a [op] [b] pos) (J6 r ta tb):=by intro δ s σ H Q I h;exact wpAny_Compare1 (E3 ha hb I h λv u s2 x y H2 I2 rx ry q=>ho δ s2 σ H2 x y v u Q I2 rx ry q) hm
def IH(t:TE):TT:=λσ H Q=>t σ H λx H'=>∃k,x= .bl k/\Q k H'
theorem Ck{r:R2}(ho:gA X (compareOp op) r)(ha:PE X a ta)(hb:PE X b tb)(hm:behindInMarks op b=false):PT X (.Compare a [op] [b] pos) (IH (J6 r ta tb)):=by
 intro δ s σ H Q I h
 refine wpAny_isTrue_Compare1 (a_ (ha δ s σ H _ I h) λv s1 ⟨x,H1,I1,r1,q1⟩=>a_ (hb δ s1 σ H1 _ I1 q1) λu s2 ⟨y,H2,I2,r2,q2⟩=>
  a_ (ho δ s2 σ H2 x y v u _ I2 r1 r2 q2) λc s3 ⟨z,H3,I3,r3,k,e,q3⟩=> ?_) hm
 subst e;cases r3;exact wpAny_truthy_bool ⟨H3,I3,q3⟩
theorem jY:(sizeLine:Nat) < 2 ^ 63:=by rw [sizeLine_eq];decide
theorem uU:gA X (binaryOp .Add) (λx y H Q=>∃i j,x= .str i/\y= .str j/\i.length+j.length<=sizeLine/\Q (.str (i++j)) H):=by intro δ s σ H x y v u Q I rx ry h;obtain ⟨i,j,rfl,rfl,hz,q⟩:=h;obtain ⟨t,rfl⟩:=rx;obtain ⟨t',rfl⟩:=ry;exact add_str (λt' tk=>⟨.str (i++j),H,I.tok _,⟨_,rfl⟩,q⟩) hz
theorem jo{x:V}(r:Μ [x] us):∃u,us=[u]/\Τ x u:=by
 cases r with
 | cons r1 r2=>cases r2;exact ⟨_,rfl,r1⟩
theorem J_{x y:V}(r:Μ [x,y] us):∃u w',us=[u,w']/\Τ x u/\Τ y w':=by
 cases r with
 | cons r1 r2=>
  cases r2 with
  | cons r3 r4=>cases r4;exact ⟨_,_,rfl,r1,r3⟩
theorem Az:cn X (.builtin "abs") (λxs H Q=>∃i,xs=[.int i]/\Q (.int (if i < 0 then -i else i)) H):=by intro δ s σ H xs us Q I r h;obtain ⟨i,rfl,q⟩:=h;obtain ⟨u,rfl,t,rfl⟩:=jo r;exact call_abs_int λu tk=>⟨.int (if i < 0 then -i else i),H,I.tok _,⟨_,rfl⟩,q⟩
end
structure uM(h:Heap)(x dx C:Addr)(mA:Str->Option Value):Prop where
 obj:h.get? x=some (PySem.W.instObj C dx)
 ns:h.Ns1 dx mA
 ne:dx≠x
theorem wX(n:h.Ns1 dx mA):∃od,h.get? dx=some od/\∀name,PySem.W.lookIn name od=some (mA name):=by
 obtain ⟨o,es,ep,ho,hd,hk,_,hm⟩:=n;refine ⟨o,ho,λname=> ?_⟩;have e:=hm name;unfold nsFind findBy at e;rw [<-Array.find?_toList] at e;unfold PySem.W.lookIn;rw [hd];dsimp only;split
 ·rename_i y q;rw [q] at e;exact aaX some e
 ·rename_i q;rw [q] at e;have a:es.toList.any (·.refKey)=false:=by rw [List.any_eq_false];intro y hy;obtain ⟨z,t,Ah⟩:=hk y (Array.mem_toList_iff.mp hy);simp [DictEntry.refKey,Ah]
  have a':¬es.toList.any (·.refKey)=true:=by rw [a];exact aap
  rw [aaJ a'];exact aaX some e
theorem uM.look{x:Addr}(I:uM h x dx C mA):∃od,PySem.W.InstAt h x (PySem.W.instObj C dx) C (some od)/\∀name,PySem.W.lookIn name od=some (mA name):=
 let ⟨od,ho,hl⟩:=wX I.ns
 ⟨od,⟨I.obj,rfl,rfl,ho⟩,hl⟩
section
variable{K:fv}{x f:Addr}{name:Str}{v:Value}
theorem CQ{expr:Bool}(X:K.In s.heap)(I:uM s.heap x dx C mA)(hg:PySem.W.plainGet K C name=true)(hh:PySem.W.hasDictIn K C=true)
  (ha:PySem.W.findIn K (.ref C) name=some none) (hv:mA name=some v) (JQ:PySem.W.handedIn v=true) (h:Q v {s with toks:=s.toks+1}):
  wpAny (model prog w) A (getAttr (.ref x) name expr) Q E s:=by
 obtain ⟨od,J,hl⟩:=I.look;exact PySem.W.get_value X J (PySem.W.plainGet_of hg).1 (PySem.W.findObj_own hh ha rfl (by rw [hl,hv])) JQ h
theorem Ap{pl:Sem Bool}{Q:Value×List Value->Shared->Prop}(X:K.In s.heap)(I:uM s.heap x dx C mA)(hg:PySem.W.plainGet K C name=true)
  (hf:PySem.W.findIn K (.ref C) name=some (some (.ref f))) (ht:PySem.W.isFn K (.ref f)=true) (hv:mA name=none) (h:Q (.ref f,[.ref x]) s):
  wpAny (model prog w) A (getMethod (.ref x) name pl) Q E s:=by
 obtain ⟨od,J,hl⟩:=I.look;exact PySem.W.method_fn X J (PySem.W.plainGet_of hg).1 (PySem.W.plainGet_of hg).2 hf (beq_iff_eq.mp ht) (by show (PySem.W.lookIn name od).map (·.isSome)=some false;rw [hl,hv];rfl) h
theorem CD{ns:List Str}{Q:Unit->Shared->Prop}(X:K.In s.heap)(I:uM s.heap x dx C mA)
  (hs:PySem.W.findIn K (.ref C) "__setattr__"=some (some (.builtin "object.__setattr__"))) (hp:PySem.W.plainOver K C=true) (ht:PySem.W.takerIn K C name=some none) (hh:PySem.W.hasDictIn K C=true)
  (hw:PySem.Within mA ns) (hsz:ns.length<=sizeLine)
  (h:∀h',uM h' x dx C (λy=>if y=name then some v else mA y)->Heap.SameBut dx s.heap h'->Q () {s with heap:=h',toks:=s.toks+2}):
  wpAny (model prog w) A (setAttr (.ref x) name v) Q E s:=by
 obtain ⟨od,J,hl⟩:=I.look;refine PySem.W.set_plain X J hs (PySem.W.osa_open (s:={s with toks:=s.toks+1}) (r:=none) X J hp ht λb=> ?_);obtain ⟨cd,hc,f_⟩:=PySem.W.any_some hh;have hx:s.heap.get? x=some ⟨.ref C,some dx, .plain, #[]⟩:=I.obj;refine aac (aai (aac (aac (wpAny_loadPart hx (aac (PySem.W.Looks.here (s:={s with toks:=s.toks+1}) (PySem.W.looks_clsIn X hc) ?_))))));rw [f_];refine aai (a:=some dx) (aac (aai (aac ?_)));refine wpAny_nsSet1 (s:={s with toks:=s.toks+1}) I.ns λh' GX O5=> ?_;obtain ⟨oD,TL,Tr,Qb,Qh,Pj⟩:=GX.count (PySem.Within.cons name v hw);refine aac (wpAny_lookBehind Qb (by rw [Qh];exact pastItsLine_dict (aak Pj (by rw [aaD];omega))) ?_);exact aai (h _ ⟨(O5.2 _ (Ne.symm I.ne)).trans I.obj,GX,I.ne⟩ O5)
theorem yM{R:Result->Shared->Prop}{vs:List Value}(X:K.In s.heap)(hm:PySem.W.makesIn K C=true)
  (hi:PySem.W.findIn K (.ref C) "__init__"=some (some (.ref f))) (hf:PySem.W.typeIn K (.ref f)=some (.type "function"))
  (h:codeAny (model prog w) (A.under (.builtin "type.__call__" ⟨.ref C::vs,kw⟩)) (.call (.ref f) ⟨.ref (s.heap.objs.size+1)::vs,kw⟩) (PySem.W.InitBack (s.heap.objs.size+1) R)
   {s with heap:=(s.heap.push PySem.W.emptyDict).push (PySem.W.instObj C s.heap.objs.size)}):
  codeAny (model prog w) A (.call (.ref C) ⟨vs,kw⟩) R s:=by
 obtain ⟨hh,g,d,t,os⟩:=s;exact PySem.W.make_core (PySem.W.makes_of X hm) (PySem.W.looks_findIn X hi) (λself=>PySem.W.bind_fn X self hf) (.inl rfl) h
end
def fE(f:Str)(v:V):List (Str×V)->List (Str×V)
 | []=>[(f,v)]
 | (g,x)::r=>if g=f then (g,v)::r else (g,x)::fE f v r
theorem j_(f g:Str)(v:V):∀fs:List (Str×V),(fE f v fs).lookup g=if g=f then some v else fs.lookup g
 | []=>by
  show List.lookup g [(f,v)]=_;by_cases h:g=f
  ·have hb:(g==f)=true:=beq_iff_eq.mpr h;simp only [List.lookup,hb,if_pos h]
  ·have hb:(g==f)=false:=beq_eq_false_iff_ne.mpr h;simp only [List.lookup,hb,if_neg h]
 | (k,x)::r=>by
  have ih:=j_ f g v r;rw [show fE f v ((k,x)::r)=(if k=f then (k,v)::r else (k,x)::fE f v r) from rfl];by_cases hk:k=f
  ·rw [aaP hk];by_cases h:g=k
   ·have hb:(g==k)=true:=beq_iff_eq.mpr h;simp only [List.lookup,hb,if_pos (h.trans hk)]
   ·have hb:(g==k)=false:=beq_eq_false_iff_ne.mpr h;simp only [List.lookup,hb,if_neg (λe:g=f=>h (e.trans hk.symm))]
  ·rw [aaJ hk];by_cases h:g=k
   ·have hb:(g==k)=true:=beq_iff_eq.mpr h;simp only [List.lookup,hb,if_neg (λe:g=f=>hk (h.symm.trans e))]
   ·have hb:(g==k)=false:=beq_eq_false_iff_ne.mpr h;simp only [List.lookup,hb];exact ih
theorem js(f:Str)(v:V):∀fs:List (Str×V),f∈(fE f v fs).map (·.1)/\∀g,g∈fs.map (·.1)->g∈(fE f v fs).map (·.1)
 | []=>⟨by simp [fE],λg h=>by simp at h⟩
 | (k,x)::r=>by
  obtain ⟨i1,i2⟩:=js f v r;rw [show fE f v ((k,x)::r)=(if k=f then (k,v)::r else (k,x)::fE f v r) from rfl];by_cases hk:k=f
  ·rw [aaP hk];subst hk;exact ⟨by simp,λg h=>by simpa using h⟩
  ·rw [aaJ hk];refine ⟨?_,λg h=> ?_⟩
   ·rw [aaQ];exact aah _ i1
   ·rw [aaQ] at h⊢;rcases aaO.mp h with e | e
    ·exact aaO.mpr (.inl e)
    ·exact aah _ (i2 g e)
theorem ke(f:Str)(v:V):∀fs:List (Str×V),(fE f v fs).length<=fs.length+1
 | []=>by simp [fE]
 | (k,x)::r=>by
  have ih:=ke f v r;rw [show fE f v ((k,x)::r)=(if k=f then (k,v)::r else (k,x)::fE f v r) from rfl];by_cases hk:k=f
  ·rw [aaP hk,aaD,aaD];omega
  ·rw [aaJ hk,aaD,aaD];omega
theorem iy.some_of{o:Option Value}(r:iy (some v) o):∃u,o=some u/\Τ v u:=by
 cases o with
 | none=>exact (show False from r).elim
 | some u=>exact ⟨u,rfl,r⟩
theorem iy.none_of{o:Option Value}(r:iy none o):o=none:=by
 cases o with
 | none=>rfl
 | some u=>exact (show False from r).elim
theorem wD(r:Τ v u):PySem.W.handedIn u=true:=by
 cases v with
 | aW=>cases (show u=Value.none from r);rfl
 | bl b=>cases (show u=Value.bool b from r);rfl
 | int i=>obtain ⟨t,e⟩:=(show∃t,u=Value.int i t from r);cases e;rfl
 | str x=>obtain ⟨t,e⟩:=(show∃t,u=Value.str x t from r);cases e;rfl
 | yb b=>obtain ⟨t,e⟩:=(show∃t,u=Value.bytes b t from r);cases e;rfl
 | D5 b=>obtain ⟨t,e⟩:=(show∃t,u=Value.float b t from r);cases e;rfl
 | ref a=>cases (show u=Value.ref a from r);rfl
 | ty n=>cases (show u=Value.type n from r);rfl
section
variable{H H':Hp}{fs Np:List (Str×V)}
theorem lx(aR:gI P w H h)(e:H a=some (.ins C dx fs)):∃mA,uM h a dx C mA/\(∀f,iy (fs.lookup f) (mA f))/\PySem.Within mA (fs.map (·.1))/\fs.length<=1000/\H dx=some (.own a):=by obtain ⟨d,z,ne,ob,mA,n,r,q⟩:=(show aT P w H h a (.ins C dx fs) from aR a _ e);exact ⟨mA,⟨ob,n,ne⟩,r,q,z,d⟩
end
structure vQ(K:fv)(C:Addr):Prop where
 pg:PySem.W.plainGet K C Str.empty=true
 hd:PySem.W.hasDictIn K C=true
 po:PySem.W.plainOver K C=true
 sa:PySem.W.findIn K (.ref C) "__setattr__"=some (some (.builtin "object.__setattr__"))
theorem vQ.get{K:fv}{C:Addr}(c:vQ K C)(f:Str):PySem.W.plainGet K C f=true:=c.pg
def d7(K:fv)(C:Addr)(f:Str):Prop:=PySem.W.findIn K (.ref C) f=some none
theorem d7.IF{K:fv}{f:Str}(n:d7 K C f):PySem.W.takerIn K C f=some none:=by unfold PySem.W.takerIn;rw [show PySem.W.findIn K (.ref C) f=some none from n];rfl
structure CS(K:fv)(C:Addr)(m:Str)(f:Addr):Prop where
 at_:PySem.W.findIn K (.ref C) m=some (some (.ref f))
 fn:PySem.W.isFn K (.ref f)=true
 kp:PySem.W.keepIn K (.ref f)=true
section
variable{H:Hp}{fs:List (Str×V)}{f:Str}
theorem tT{b:Bool}(I:Inv X δ σ H s)(e:H a=some (.ins C dx fs))(c:vQ X.K C)(n:d7 X.K C f)(l:fs.lookup f=some v)
  (h:∀u s',Inv X δ σ H s'->Τ v u->Q u s'):wpAny (model X.prog X.w) A (getAttr (.ref a) f b) Q E s:=by
 obtain ⟨mA,O,r,_,_,_⟩:=lx I.aR e;obtain ⟨u,hu,ru⟩:=iy.some_of (v:=v) (o:=mA f) (by rw [<-l];exact r f);exact CQ I.kJ O (c.get f) c.hd n hu (wD ru) (h u _ (I.tok _) ru)
theorem lH{m:Str}{g:Addr}{pl:Sem Bool}{Q:Value×List Value->Shared->Prop}(I:Inv X δ σ H s)(e:H a=some (.ins C dx fs))(c:vQ X.K C)(k:CS X.K C m g)(l:fs.lookup m=none)
  (h:Q (.ref g,[.ref a]) s):wpAny (model X.prog X.w) A (getMethod (.ref a) m pl) Q E s:=by
 obtain ⟨mA,O,r,_,_,_⟩:=lx I.aR e;have hn:mA m=none:=iy.none_of (by rw [<-l];exact r m);exact Ap I.kJ O (c.get m) k.at_ k.fn hn h
theorem ui{y:V}{Q:Unit->Shared->Prop}(I:Inv X δ σ H s)(e:H a=some (.ins C dx fs))(c:vQ X.K C)(n:d7 X.K C f)(hl:fs.length < 1000)(ry:Τ y u)
  (h:∀s',Inv X δ σ (upd H a (.ins C dx (fE f y fs))) s'->Q () s'):wpAny (model X.prog X.w) A (setAttr (.ref a) f u) Q E s:=by
 obtain ⟨mA,O,r,wi,_,ho⟩:=lx I.aR e;have hz:(fs.map (·.1)).length<=sizeLine:=by rw [aab,sizeLine_eq];omega
 refine CD I.kJ O c.sa c.po n.IF c.hd wi hz λh' O' sb=>h _ ?_;have hd:∃o,h'.get? dx=some o:=let ⟨o,_,_,e',_⟩:=O'.ns;⟨o,e'⟩
 refine I.write (x:=a) (e:=dx) (by rw [e];exact True.intro) (.inr ho) (λb q hb z=>(sb.2 b hb).trans z) hd ?_;refine ⟨by rw [Α O.ne];exact ho, ?_,O.ne,O'.obj,_,O'.ns,λg=> ?_,λg hg=> ?_⟩
 ·have:=ke f y fs;omega
 ·show iy ((fE f y fs).lookup g) (if g=f then some u else mA g);rw [j_];by_cases q:g=f
  ·rw [aaP q,aaP q];exact ry
  ·rw [aaJ q,aaJ q];exact r g
 ·by_cases q:g=f
  ·rw [q];exact (js f y fs).1
  ·refine (js f y fs).2 g (wi g λz=>hg ?_);show (if g=f then some u else mA g)=none;rw [aaJ q];exact z
theorem Inv.made(I:Inv X δ σ H s):Inv X δ σ (upd (upd H s.heap.objs.size (.own (s.heap.objs.size+1))) (s.heap.objs.size+1) (.ins C s.heap.objs.size []))
  {s with heap:=(s.heap.push PySem.W.emptyDict).push (PySem.W.instObj C s.heap.objs.size)}:=by
 have e1:(s.heap.push PySem.W.emptyDict).get? s.heap.objs.size=some PySem.W.emptyDict:=aaG s.heap rfl;have e2:((s.heap.push PySem.W.emptyDict).push (PySem.W.instObj C s.heap.objs.size)).get? (s.heap.objs.size+1)=some (PySem.W.instObj C s.heap.objs.size):=by have:=aaG (s.heap.push PySem.W.emptyDict) (o:=PySem.W.instObj C s.heap.objs.size) rfl;rwa [Heap.size_push] at this
 have e3:(s.heap.push PySem.W.emptyDict).Ns s.heap.objs.size (λ_=>none):=⟨PySem.W.emptyDict, #[],_,e1,rfl,(λe he=>absurd he (by simp)),λ_=>rfl⟩;have I1:=I.laid (a:=s.heap.objs.size) (o:= .own (s.heap.objs.size+1)) (h':=s.heap.push PySem.W.emptyDict) (t':=s.toks) (λb u q=>aag _ q) (aal _) ⟨_,e1⟩;refine I1.laid (a:=s.heap.objs.size+1) (o:= .ins C s.heap.objs.size []) (t':=s.toks) (λb u q=>aag _ q) (Nat.le_of_eq (Heap.size_push _ _)) ?_;have ne:s.heap.objs.size≠s.heap.objs.size+1:=aaM (Nat.lt_succ_self _);refine ⟨by rw [Α ne,Ξ],abE _,ne,e2,λ_=>none,(Heap.Ns1.of_empty e3).at λo q=>aag _ q,λ_=>True.intro,λy hy=>aaE rfl hy⟩
theorem Cj{env:Env}{f:Str}(hb:attributeBase e f env (eval e env)=eval e env)
  (h:wpAny (model prog w) A (eval e env) (λo s₁=>wpAny (model prog w) A (getAttr o f true) Q E s₁) E s):wpAny (model prog w) A (eval (.Attribute e f pos) env) Q E s:=
 Attribute_any_ h (by rw [arm_eval_Attribute,hb])
end
def Lf(K:fv)(ta:TE)(f:Str):TE:=λσ H Q=>ta σ H λx H1=>∃a C dx fs v,x= .ref a/\H1 a=some (.ins C dx fs)/\vQ K C/\d7 K C f/\fs.lookup f=some v/\Q v H1
def ND(K:fv)(ta tv:TE)(f:Str):TS:=λD σ H=>tv σ H λy H1=>ta σ H1 λx H2=>∃a C dx fs,x= .ref a/\H2 a=some (.ins C dx fs)/\vQ K C/\d7 K C f/\fs.length < 1000/\
 D.nx σ (upd H2 a (.ins C dx (fE f y fs)))
section
variable{o value:Expr}{f:Str}{pos' nG:Pos}{tv:TE}
theorem Fv(he:PE X e ta)(hb:attributeBase e f X.env (eval e X.env)=eval e X.env):PE X (.Attribute e f pos) (Lf X.K ta f):=by intro δ s σ H Q I h;refine Cj hb (a_ (he δ s σ H _ I h) λu s1 ⟨x,H1,I1,rx,a,C,dx,fs,v,ex,ea,c,n,l,q⟩=> ?_);subst ex;obtain rfl:u=Value.ref a:=rx;exact tT I1 ea c n l λu' s2 I2 ru=>⟨v,H1,I2,ru,q⟩
theorem FY(ha:PE X o ta)(hv:PE X value tv)(hs:swapsWith value (some (.Attribute o f pos')) pos.line X.env=pure false):PS X (.Assign [.Attribute o f pos'] value pos) (ND X.K ta tv f):=by intro δ s σ H D I h;refine plainObj_wpAny_Assign_Attribute (a_ (hv δ s σ H _ I h) λu s1 ⟨y,H1,I1,ry,q⟩=>a_ (ha δ s1 σ H1 _ I1 q) λov s2 ⟨x,H2,I2,rx,a,C,dx,fs,ex,ea,c,n,l,q2⟩=> ?_) hs;subst ex;obtain rfl:ov=Value.ref a:=rx;exact ui I2 ea c n l ry λs3 I3=>⟨σ,_,I3,q2⟩
end
section
variable{H:Hp}{c:Value}{b:Bool}
inductive gc(K:fv)(H:Hp):V->Value->Prop where
 | aW:gc K H .aW (.type "NoneType")
 | bl (x:Bool):gc K H (.bl x) (.type "bool")
 | int (i:Int):gc K H (.int i) (.type "int")
 | str (x:Str):gc K H (.str x) (.type "str")
 | D5 (x:UInt64):gc K H (.D5 x) (.type "float")
 | lst {a:Addr} {xs:List V} (e:H a=some (.lst xs)):gc K H (.ref a) (.type "list")
 | qS {a:Addr} {o:Obj} {xs:List V} (e:H a=some (.qS o (.lst xs))):gc K H (.ref a) (.type "list")
 | tup {a:Addr} {xs:List V} (e:H a=some (.tup xs)):gc K H (.ref a) (.type "tuple")
 | dK {a:Addr} {af:List (Key×V)} (e:H a=some (.dK af)):gc K H (.ref a) (.type "dict")
 | dT {a:Addr} {af:List (List Key×V)} (e:H a=some (.dT af)):gc K H (.ref a) (.type "dict")
 | ins {a C dx:Addr} {fs:List (Str×V)} (e:H a=some (.ins C dx fs)) (cl:vQ K C) (ha:PySem.W.findIn K (.ref C) "__class__"=some (some (.builtin "object.__class__")))
   (hn:PySem.W.specialIn K (.builtin "object.__class__") "__get__"=some (some (.builtin "getset_descriptor.__get__"))) (Og:PySem.W.takesIn K (.builtin "object.__class__")=some true)
   (hm:PySem.W.mroIn K C (.type "object")=some true):gc K H (.ref a) (.ref C)
theorem x9{x:V}{t:Value}(I:Inv X δ σ H s)(rx:Τ x u)(ty:gc X.K H x t)(e:PySem.W.kitOne X.K t c=some b)(h:∀tk,Q (.bool b) {s with toks:=tk}):
  wpAny (model X.prog X.w) A (call (.builtin "isinstance") [u,c]) Q E s:=by
 cases ty with
 | aW=>cases (show u=Value.none from rx);exact PySem.W.kia_one PySem.W.kitx_none I.kJ True.intro e (λz=>nomatch z) h
 | bl y=>cases (show u=Value.bool y from rx);exact PySem.W.kia_one PySem.W.kitx_bool I.kJ True.intro e (λz=>nomatch z) h
 | int i=>obtain ⟨t,q⟩:=(show∃t,u=Value.int i t from rx);cases q;exact PySem.W.kia_one PySem.W.kitx_int I.kJ True.intro e (λz=>nomatch z) h
 | str y=>obtain ⟨t,q⟩:=(show∃t,u=Value.str y t from rx);cases q;exact PySem.W.kia_one PySem.W.kitx_str I.kJ True.intro e (λz=>nomatch z) h
 | D5 y=>obtain ⟨t,q⟩:=(show∃t,u=Value.float y t from rx);cases q;exact PySem.W.kia_one PySem.W.kitx_float I.kJ True.intro e (λz=>nomatch z) h
 | @lst a xs ea=>
  cases (show u=Value.ref a from rx);obtain ⟨_,_,n,_,h1⟩:=(show aT X.prog X.w H s.heap a (.lst xs) from I.aR a _ ea);exact PySem.W.kia_one PySem.W.kitx_list I.kJ ⟨_,h1,rfl⟩ e (λz=>nomatch z) h
 | @qS a ob xs ea=>
  cases (show u=Value.ref a from rx);obtain ⟨_,_,_,n,_,h1⟩:=(show aT X.prog X.w H s.heap a (.qS ob (.lst xs)) from I.aR a _ ea);exact PySem.W.kia_one PySem.W.kitx_list I.kJ ⟨_,h1,rfl⟩ e (λz=>nomatch z) h
 | @tup a xs ea=>
  cases (show u=Value.ref a from rx);obtain ⟨_,_,_,p⟩:=(show aT X.prog X.w H s.heap a (.tup xs) from I.aR a _ ea);obtain ⟨o,h1,h2,_⟩:=p;exact PySem.W.kia_one PySem.W.kitx_tuple I.kJ ⟨o,h1,h2⟩ e (λz=>nomatch z) h
 | @dK a af ea=>
  cases (show u=Value.ref a from rx);obtain ⟨_,_,vs,_,p⟩:=(show aT X.prog X.w H s.heap a (.dK af) from I.aR a _ ea);obtain ⟨o,es,ep,h1,h2,_⟩:=p;exact PySem.W.kia_one PySem.W.kitx_dict I.kJ ⟨o,h1,h2.1⟩ e (λz=>nomatch z) h
 | @dT a af ea=>
  cases (show u=Value.ref a from rx);obtain ⟨_,_,xs,_,o,es,ep,h1,h2,_⟩:=(show aT X.prog X.w H s.heap a (.dT af) from I.aR a _ ea);exact PySem.W.kia_one PySem.W.kitx_dict I.kJ ⟨o,h1,h2.1⟩ e (λz=>nomatch z) h
 | @ins a C dx fs ea cl ha hn Og hm=>
  cases (show u=Value.ref a from rx);obtain ⟨mA,O,_⟩:=lx I.aR ea;obtain ⟨od,J,_⟩:=O.look;exact PySem.W.kia_one (PySem.W.kitx_own (cl.get _) cl.hd ha hn Og hm) I.kJ J e (λz=>nomatch z) h
end
structure aX(k:Nat)(A:Around):Prop where
 hd:A.handled=none
 dp:A.depth+3 * k+5 < recursionLimit
 un:A.units+16 * k+200 < cLine
theorem aX.mono{j:Nat}(r:aX k A)(h:j<=k):aX j A:=⟨r.hd,by have:=r.dp;omega,by have:=r.un;omega⟩
theorem aX.deeper(r:aX (k+1) A)(env:Env):aX k (A.deeper env):=
 ⟨r.hd,by have:=r.dp;show A.depth+1+3 * k+5 < _;omega,by have:=r.un;show A.units+3+16 * k+200 < _;omega⟩
theorem u3:(A.under (.builtin "type.__call__" ⟨.ref C::us,kw⟩)).depth=A.depth+1:=by
 first | rfl | simp [Around.under,Code.weight,Code.isCreation,Code.isGuard,Code.isCaller,Code.frames,Code.isFrame,guardIds]
theorem uW:(A.under (.builtin "type.__call__" ⟨.ref C::us,kw⟩)).units=A.units+1:=by
 first | rfl | simp [Around.under,Code.cUnits,Code.frames,Code.isFrame]
theorem aX.make(r:aX (k+1) A)(C:Addr)(us:List Value)(kw:List (Str×Value)):aX k (A.under (.builtin "type.__call__" ⟨.ref C::us,kw⟩)):=
 ⟨r.hd,by have:=r.dp;rw [u3];omega,by have:=r.un;rw [uW];omega⟩
theorem aX.depth(r:aX k A):A.depth < recursionLimit:=by have:=r.dp;omega
theorem aX.units(r:aX k A):A.units+64 < cLine:=by have:=r.un;omega
theorem aX.uQ(r:aX k A):A.units < cLine:=by have:=r.un;omega
def JP:TA:=λ_ H Q=>Q [] H
def JF(ta:TE)(tr:TA):TA:=λσ H Q=>ta σ H λx H1=>tr σ H1 λxs H2=>Q (x::xs) H2
section
variable{t:TA}
theorem zA:PA X [] JP:=λ_ _ _ _ H Q I h=>Calls.spliced_nil ⟨[],H,I, .nil,h⟩
theorem vi(ha:PE X e te)(hr:PA X es t)(hs:starEach (e::es) X.env=(false,eval e X.env)::starEach es X.env:=by rfl):PA X (e::es) (JF te t):=by intro pos δ s σ H Q I h;rw [hs];show wpAny _ _ (spliced ((false,eval e X.env)::backTo pos (starEach es X.env))) _ _ s;refine Calls.spliced_cons (a_ (ha δ s σ H _ I h) λu s1 ⟨x,H1,I1,r1,q1⟩=> ?_);exact a_ (hr pos δ s1 σ H1 _ I1 q1) λus s2 ⟨xs,H2,I2,r2,q2⟩=>⟨x::xs,H2,I2, .cons r1 r2,q2⟩
def LN(t:TA):TE:=λσ H Q=>t σ H λxs H1=>xs.length<=sizeLine/\∀p,H1 p=none->Q (.ref p) (upd H1 p (.tup xs))
def LM(t:TA):TE:=λσ H Q=>t σ H λxs H1=>xs.length<=sizeLine/\∀p,H1 p=none->Q (.ref p) (upd H1 p (.lst xs))
theorem DZ{x1}(h:PA X es t):PE X (.Tuple es x1 pos) (LN t):=by intro δ s σ H Q I hq;refine wpAny_Tuple_spliced (a_ (h pos δ s σ H _ I hq) λus s1 ⟨xs,H1,I1,r,z,q⟩=>⟨by rw [<-r.length];exact z, ?_⟩);have hf:H1 s1.heap.objs.size=none:=I1.aR.fresh (aal _);refine ⟨.ref s1.heap.objs.size,upd H1 s1.heap.objs.size (.tup xs),I1.laid (t':=s1.toks) (λb u e=>aag _ e) (aal _) ?_,rfl,q _ hf⟩;exact ⟨z,us,r,⟨_,aaG _ rfl,rfl,_,rfl⟩⟩
theorem AY(h:PA X es t):PE X (.List es pos) (LM t):=by intro δ s σ H Q I hq;refine wpAny_List_spliced (a_ (h pos δ s σ H _ I hq) λus s1 ⟨xs,H1,I1,r,z,q⟩=>⟨by rw [<-r.length];exact z, ?_⟩);have hf:H1 s1.heap.objs.size=none:=I1.aR.fresh (aal _);refine ⟨.ref s1.heap.objs.size,upd H1 s1.heap.objs.size (.lst xs),I1.laid (t':=s1.toks) (λb u e=>aag _ e) (aal _) ?_,rfl,q _ hf⟩;exact ⟨z,us,0,r,aaG _ rfl⟩
end
abbrev Sp:=List V->Hp->VK->XK->Prop
abbrev tG:=List Env->Hp->Shared->XK->Value->Shared->Prop
structure uI(P:Program)(w:World)(K:fv)(mg:Str->Option Value)(base:Heap)(A:Around)(outer:List Env)(s:Shared)(H:Hp):Prop where
 frames:A.frames=some outer
 mod:Mod K mg base
 bs:∀b o,base.get? b=some o->s.heap.get? b=some o/\H b=none
 G8:base.objs.size<=s.heap.objs.size
 nN:s.heap.FunFrames base outer
 HX:∀b∈kK outer,H b=none
 aR:gI P w H s.heap
 bare:AllBare s.gens
def CE(outer:List Env)(P:Program)(w:World)(H:Hp)(s:Shared)(Q:VK)(u:Value)(s':Shared):Prop:=
 ∃v H',s'.os=s.os/\AllBare s'.gens/\Un (kK outer) [] H H' s.heap s'.heap/\gI P w H' s'.heap/\Τ v u/\Q v H'
def CR(CX:tG)(outer:List Env)(P:Program)(w:World)(H:Hp)(s:Shared)(Q:VK)(E:XK)(r:Result)(s':Shared):Prop:=
 match r with
 | .ok (.ret u)=>CE outer P w H s Q u s'
 | .ok _=>False
 | .error e=>CX outer H s E e s'
structure ao(P:Program)(w:World)(K:fv)(mg:Str->Option Value)(base:Heap)(CX:tG)(k:Nat)(f:Addr)(fd:FuncData)(ps:List Str)(sp:Sp):Prop where
 len:∀vs H Q E,sp vs H Q E->vs.length=ps.length
 run:∀(A:Around) (outer:List Env) (s:Shared) (H:Hp) (args:Args) (us:List Value) (vs:List V) (Q:VK) (E:XK),aX k A->uI P w K mg base A outer s H->BindsTo s fd args (ps.zip us)->Μ vs us->sp vs H Q E->
  codeAny (model P w) A (.call (.ref f) args) (CR CX outer P w H s Q E) s
theorem uI.make{K:fv}{H:Hp}(e:uI P w K mg base A outer s H)(C:Addr)(us:List Value)(kw:List (Str×Value)):
  uI P w K mg base (A.under (.builtin "type.__call__" ⟨.ref C::us,kw⟩)) outer s H:=⟨by first | exact e.frames | (simpa [Around.under,Code.envs,Code.isFrame,pushEnvs] using e.frames),e.mod,e.bs,e.G8,e.nN,e.HX,e.aR,e.bare⟩
section
variable{H:Hp}{s':Shared}
theorem Inv.Iu(I:Inv X δ σ H s):uI X.prog X.w X.K X.mg X.base X.A X.stack s H:=
 ⟨I.ok.frames,I.ok.mod,I.bs,aak I.ok.G8 I.sz,I.stack,I.pB,I.aR,I.bare⟩
theorem Inv.after{Q:VK}(I:Inv X δ σ H s)(h:CE X.stack X.prog X.w H s Q u s'):EP X δ σ Q u s':=by obtain ⟨v,H',os,bare,un,aR,r,q⟩:=h;obtain ⟨hh,g,d,t,KH⟩:=s';obtain rfl:KH=s.os:=os;exact ⟨v,H',I.call (h':=hh) (g':=g) (d':=d) (t':=t) (ch:=[]) un aR bare (λb z=>absurd z (by simp)),r,q⟩
end
def fD(K:fv)(fd:FuncData)(ps:List Str)(ds:List Value):Prop:=
 ∀(s:Shared) (us:List Value),K.In s.heap->(us++ds).length=ps.length->BindsTo s fd ⟨us,[]⟩ (ps.zip (us++ds))
theorem fD.all{K:fv}{fd:FuncData}(h:∀us:List Value,us.length=ps.length->bindArgs fd ⟨us,[]⟩=pure (ps.zip us)):fD K fd ps []:=λs us _ hl=>by rw [aaY] at hl⊢;exact .of_eq (h us hl)
section
variable{CX:tG}{f:Addr}{fd:FuncData}{sp:Sp}{lr:List V}{ds:List Value}{E:XK}{m:Str}{p apos:Pos}{o:Expr}{t:TA}
structure Mk(K:fv)(C f:Addr):Prop where
 makes:PySem.W.makesIn K C=true
 init:PySem.W.findIn K (.ref C) "__init__"=some (some (.ref f))
 fn:PySem.W.isFn K (.ref f)=true
 kp:PySem.W.keepIn K (.ref C)=true
end
structure χ(N P:List Str)(sc:Scope):Prop where
 kind:sc.kind= .function
 co:sc.isCoroutine=false
 gen:sc.isGenerator=false
 nd:N.Nodup
 pre:N.take P.length=P
 par:∀x∈P,sc.names.lookup x=some .local\/sc.names.lookup x=some .cell
 EX:∀y∈sc.names,y.2≠ .free
theorem oq{kindOf:Str->Option NameKind}{x:Str}:∀{binds:List (Str×Value)} {m:Str->Option Value},(∀v,(x,v)∉binds)->bindL kindOf binds m x=m x
 | [],_,_=>rfl
 | (n,v)::r,m,h=>by
  unfold bindL;rw [oq λw hw=>h w (aah _ hw)];split
  ·have:x≠n:=by rintro rfl;exact h v aam
   simp [this]
  ·rfl
theorem oH{kindOf:Str->Option NameKind}{x:Str}:∀{binds:List (Str×Value)} {m:Str->Option Value},(∀v,(x,v)∉binds)->bindC kindOf binds m x=m x
 | [],_,_=>rfl
 | (n,v)::r,m,h=>by
  unfold bindC;rw [oH λw hw=>h w (aah _ hw)];split
  ·rfl
  ·have:x≠n:=by rintro rfl;exact h v aam
   simp [this]
theorem nW{kindOf:Str->Option NameKind}{x:Str}{v:Value}:∀{P:List Str} {vs:List Value} {i:Nat} {m:Str->Option Value},P.Nodup->P[i]? =some x->vs[i]? =some v->kindOf x=some .local->
  bindL kindOf (P.zip vs) m x=some v
 | [],_,_,_,_,h,_,_=>by simp at h
 | _::_,[],_,_,_,_,h,_=>by simp at h
 | p::P,w::vs,0,m,nd,h1,h2,hk=>by simp at h1 h2;subst h1;subst h2;show bindL kindOf ((p,w)::P.zip vs) m p=_;unfold bindL;rw [oq λv hv=>(abv.mp nd).1 (List.of_mem_zip hv).1,aaP hk];simp
 | p::P,w::vs,i+1,m,nd,h1,h2,hk=>by show bindL kindOf ((p,w)::P.zip vs) m x=_;unfold bindL;exact nW (i:=i) (List.nodup_cons.mp nd).2 (by simpa using h1) (by simpa using h2) hk
theorem oo{kindOf:Str->Option NameKind}{x:Str}{v:Value}:∀{P:List Str} {vs:List Value} {i:Nat} {m:Str->Option Value},P.Nodup->P[i]? =some x->vs[i]? =some v->kindOf x≠some .local->
  bindC kindOf (P.zip vs) m x=some v
 | [],_,_,_,_,h,_,_=>by simp at h
 | _::_,[],_,_,_,_,h,_=>by simp at h
 | p::P,w::vs,0,m,nd,h1,h2,hk=>by simp at h1 h2;subst h1;subst h2;show bindC kindOf ((p,w)::P.zip vs) m p=_;unfold bindC;rw [oH λv hv=>(abv.mp nd).1 (List.of_mem_zip hv).1,aaJ hk];simp
 | p::P,w::vs,i+1,m,nd,h1,h2,hk=>by show bindC kindOf ((p,w)::P.zip vs) m x=_;unfold bindC;exact oo (i:=i) (List.nodup_cons.mp nd).2 (by simpa using h1) (by simpa using h2) hk
def gk(N:List Str)(vs:List V):St:=vs.map some++List.replicate (N.length - vs.length) none
def pE(CX:tG)(P:Program)(w:World)(K:fv)(mg:Str->Option Value)(base:Heap)(N:List Str)(qual:Str)(scope:Scope)(f:Addr)(cd:Value)(A:Around)(outer:List Env)(s:Shared)(H:Hp)(E:XK):Cx where
 prog:=P
 w:=w
 K:=K
 mg:=mg
 base:=base
 A:=A.deeper (envOfC qual scope s.heap.objs.size f cd)
 N:=N
 s₀:=s
 H₀:=H
 env:=envOfC qual scope s.heap.objs.size f cd
 outer:=outer
 stack:=envOfC qual scope s.heap.objs.size f cd::outer
 ex:=[]
 calm:=true
 fn:=λ_=>true
 pn:=[]
 xe:=λe s'=>wpAny (model P w) (A.deeper (envOfC qual scope s.heap.objs.size f cd)) (leaving (envOfC qual scope s.heap.objs.size f cd) e) (λ_ GW=>CX outer H s E e GW) (λe' GW=>CX outer H s E e' GW) s'
theorem sR{sc:Scope}{n:Nat}(h:sc.names.lookup x=some .cell):∃c,(cellsFrom n sc.names []).lookup x=some c:=by have q:=PySem.W.cellsFrom_some sc.names n [] (.inl h);exact abF.mp q
theorem wW{CX:tG}{K:fv}{N:List Str}{qual:Str}{scope:Scope}{f:Addr}{cd:Value}{s1:Shared}{H:Hp}{E:XK}{vs:List V}
  (S:χ N ps scope) (hd:A.handled=none) (e0:uI P w K mg base A outer s H) (hl:vs.length=ps.length) (r:Μ vs us)
  (x:InCallC s s.heap.objs.size (bindL (envOfC qual scope s.heap.objs.size f cd).kindOf (ps.zip us) λ_=>none) (cellsFrom (s.heap.objs.size+1) scope.names []) (bindC (envOfC qual scope s.heap.objs.size f cd).kindOf (ps.zip us) λ_=>none) s1):
  Inv (pE CX P w K mg base N qual scope f cd A outer s H E) [] (gk N vs) H s1:=by
 have dE:ps.length<=N.length:=by have:=aaX List.length S.pre;rw [abg] at this;omega
 obtain ⟨h1,tk,rfl,hk⟩:=x.done;have Ho:∀b:Addr,b∉(pE CX P w K mg base N qual scope f cd A outer s H E).ex:=λb z=>absurd (show b∈([]:List Addr) from z) (by simp)
 refine ⟨⟨e0.mod,S.kind,rfl,rfl,aal _,λy z c h1 h2=> ?_,λy hy=> ?_,λy c _ h=> ?_,λ_=>hd,Around.frames_deeper e0.frames, .inr ⟨rfl,rfl⟩,λb z=>aaE z (Ho b),e0.bs,e0.G8,λb _ _=>Ho b,λb z=>aaE z (Ho b),e0.nN,e0.HX⟩,
  rfl,e0.bare,Un.kept hk,⟨_,x.toInCall.ns,λi y v h1 h2 h3=> ?_⟩,λy c h=>⟨_,x.cell y c h⟩,e0.aR.fresh (Nat.le_refl _),λy c h=> ?_,λp hp=>absurd (show p∈([]:List (Addr×Obj)) from hp) (by simp),e0.aR.kept hk, ?_⟩
 ·exact name_of_addr x.apart (PySem.mem_of_lookup h1) (PySem.mem_of_lookup h2)
 ·have hy:scope.names.lookup y=some .cell\/scope.names.lookup y=some .free:=hy;rcases hy with hy | hy
  ·exact sR hy
  ·exact aaE rfl (S.EX _ (PySem.mem_of_lookup hy))
 ·exact Nat.le_of_lt (x.above y c (PySem.mem_of_lookup h))
 ·have hi:i < vs.length:=by
   unfold gk at h2;by_cases hi:i < vs.length
   ·exact hi
   ·rw [List.getElem?_append_right (by simpa using hi)] at h2;rw [List.getElem?_replicate] at h2;split at h2 <;> cases h2
  have ha:vs[i]? =some v:=by
   unfold gk at h2;rw [List.getElem?_append_left (by simpa using hi),List.getElem?_map] at h2;cases e:vs[i]? with
   | none=>rw [e] at h2;cases h2
   | some a=>rw [e] at h2;cases h2;rfl
  obtain ⟨u,hu,rv⟩:=r.get ha;have hp:ps[i]? =some y:=by rw [<-S.pre,List.getElem?_take_of_lt (by omega)];exact h1
  have OH:ps.Nodup:=by rw [<-S.pre];exact S.nd.sublist (List.take_sublist _ _)
  refine ⟨u,rv, ?_⟩;rcases S.par y (aaw hp) with k | k
  ·exact .inl ⟨k,nW OH hp hu k⟩
  ·obtain ⟨c,e⟩:=sR (n:=s.heap.objs.size+1) k;refine .inr ⟨.inl k,c,e, ?_⟩;have q:=x.cell y c e;rw [oo OH hp hu (by show scope.names.lookup y≠_;rw [k];decide)] at q;exact q
 ·exact e0.aR.fresh (Nat.le_of_lt (x.above y c (PySem.mem_of_lookup h)))
 ·unfold gk;show _=N.length;rw [aae,aab,aaT];omega
theorem Hh{CX:tG}{K:fv}{f:Addr}{name qual:Str}{params:Arguments}{scope:Scope}{dV kV doc pm bq ct oc:Value}{an od:Option Addr}
  {zX:Array (Option Value)} {N:List Str} {sp:Sp} (lk:K.lookup f=some ⟨oc,od, .func (PySem.W.fnOf name qual params body scope dV kV doc pm an bq ct),zX⟩) (y4:PySem.W.codeIn K bq qual=true) (S:χ N ps scope)
  (len:∀vs H Q E,sp vs H Q E->vs.length=ps.length)
  (s_:∀(A:Around) (outer:List Env) (s:Shared) (H:Hp) (vs:List V) (Q:VK) (E:XK),aX k (A.deeper (envOfC qual scope s.heap.objs.size f bq))->sp vs H Q E->
   ∃t,yc (pE CX P w K mg base N qual scope f bq A outer s H E) body t/\t {nx:=λ_ H'=>Q .aW H',rt:=Q} (gk N vs) H):
  ao P w K mg base CX (k+1) f (PySem.W.fnOf name qual params body scope dV kV doc pm an bq ct) ps sp:=by
 refine ⟨len,λA outer s H args us vs Q E hr e0 hb r Dj=> ?_⟩;have hl:=len _ _ _ _ Dj;have KX:K.In s.heap:=e0.mod.Ia.keeps λb o e=>(e0.bs b o e).1;have lim:s.heap.NoLimit:=e0.mod.nolimit.keeps λb o e=>(e0.bs b o e).1;have IT:∀y∈ps.zip us,scope.names.lookup y.1=some .local\/(scope.names.lookup y.1=some .cell/\((cellsFrom (s.heap.objs.size+1) scope.names []).lookup y.1).isSome=true):=λ⟨n,v⟩ hy=>by
  rcases S.par n (List.of_mem_zip hy).1 with q | q
  ·exact .inl q
  ·exact .inr ⟨q,PySem.W.cellsFrom_some _ _ _ (.inl q)⟩
 refine codeAny_call_function hr.depth (KX _ _ lk) rfl S.co S.gen rfl (PySem.W.codeRec_of KX y4) (hb _ _ _ _ ?_);refine wpAny_newFunctionEnv_cells S.kind IT λenv he s1 x=> ?_;subst he;refine ⟨lim.keeps x.toInCall.keep,codeAny_func ?_⟩;obtain ⟨t,ht,hq⟩:=s_ A outer s H vs Q E (hr.deeper _) Dj;have I:Inv (pE CX P w K mg base N qual scope f bq A outer s H E) [] (gk N vs) H s1:=wW S hr.hd e0 hl r x;refine abK (ht [] s1 (gk N vs) H _ I hq) (λfl s' hs=> ?_) λe s' hs=>hs
 have fin:∀{σ':St} {H':Hp} {v:V} {u:Value},Inv (pE CX P w K mg base N qual scope f bq A outer s H E) [] σ' H' s'->Τ v u->Q v H'->CE outer P w H s Q u s':=
  λ{σ' H' v u} J rv q=>⟨v,H',J.os,J.bare,J.base,J.aR,rv,q⟩
 cases fl with
 | ret u=>
  obtain ⟨v,σ',H',J,rv,q⟩:=hs;exact fin J rv q
 | next=>
  obtain ⟨σ',H',J,q⟩:=hs;exact fin (v:=V.aW) (u:=Value.none) J rfl q
 | brk=>
  obtain ⟨_,_,_,q⟩:=hs;exact False.elim q
 | cont=>
  obtain ⟨_,_,_,q⟩:=hs;exact False.elim q
section
variable{p:Pos}{t:TA}{id T:String}{r:List V->Hp->VK->Prop}
def Lb(r:List V->Hp->VK->Prop)(t:TA):TE:=λσ H Q=>t σ H λvs H1=>r vs H1 Q
theorem AI(hc:cn X (.builtin id) r)(hg:Gl X x)(hm:X.mg x=none)(hv:bootBuiltins x=some (.builtin id))(ha:PA X (e::es) t)(hn:x≠"__name__":=by decide)(m_:(x==("__debug__":Str))=false:=by decide)
  (he:starEach (e::es) X.env=(false,eval e X.env)::starEach es X.env:=by rfl) (dE:(backTo pos (starEach es X.env)).any (·.1)=false:=by rfl):PE X (.Call (.Name x p) (e::es) [] pos) (Lb r t):=by
 intro δ s σ H Q I h;refine wpAny_Call_Name_kw (mU I hg hm hv ?_ hn m_);exact PyProof.Rows.callWith_builtin1 (a_ (ha pos δ s σ H _ I h) λus s1 ⟨vs,H1,I1,r1,q1⟩=>hc δ s1 σ H1 vs us Q I1 r1 q1) he dE
theorem jC(hc:cn X (.type T) r)(hg:Gl X x)(hm:X.mg x=none)(hv:bootBuiltins x=some (.type T))(ha:PA X (e::es) t)(hn:x≠"__name__":=by decide)(m_:(x==("__debug__":Str))=false:=by decide)
  (he:starEach (e::es) X.env=(false,eval e X.env)::starEach es X.env:=by rfl) (dE:(backTo pos (starEach es X.env)).any (·.1)=false:=by rfl):PE X (.Call (.Name x p) (e::es) [] pos) (Lb r t):=by
 intro δ s σ H Q I h;refine wpAny_Call_Name_kw (mU I hg hm hv ?_ hn m_);exact PyProof.Rows.callWith_type1 (a_ (ha pos δ s σ H _ I h) λus s1 ⟨vs,H1,I1,r1,q1⟩=>hc δ s1 σ H1 vs us Q I1 r1 q1) he dE
end
end L2
namespace HT
open PySem PyProof.Rows
section
variable{prog:Program}{w:World}{A:Around}{E:Value->Shared->Prop}{s:Shared}
theorem BU{t b:Addr}{vs ws:List Value}{Q:Value->Shared->Prop}(ht:IsTup s.heap t vs.toArray)(hb:IsTup s.heap b ws.toArray)(hv:vs≠[])
  (h1:ws=[]->Q (.ref t) s) (h2:ws≠[]->Q (.ref s.heap.objs.size) {s with heap:=s.heap.push {cls:= .type "tuple",data:= .seq (vs++ws).toArray}})
  (hsz:vs.length+ws.length<=sizeLine):wpAny (model prog w) A (binaryOp .Add (.ref t) (.ref b)) Q E s:=by
 obtain ⟨⟨cls,dd,data,sl⟩,ho,hc,n,hd⟩:=id ht;obtain ⟨⟨RN,Hl,data2,kG⟩,K5,Ou,n2,hd2⟩:=id hb;simp only at hc hd Ou hd2;subst hc hd Ou hd2;have e:vs.toArray++ws.toArray=(vs++ws).toArray:=by simp
 by_cases hw:ws=[]
 ·exact concat_meets ⟨_,ho,rfl⟩ ⟨_,K5,rfl⟩ noFill_tuple_add seq_tuple_add PySem.F.slot_tuple_add PySem.F.entry_tuple_add (PySem.F.args_tuple_add_2 _ _)
   (tuple_addW1 t b vs.toArray ws.toArray n n2 dd Hl sl kG (by simpa using hv) (by simp [hw])) ⟨ho,K5,h1 hw⟩
 ·refine concat_meets ⟨_,ho,rfl⟩ ⟨_,K5,rfl⟩ noFill_tuple_add seq_tuple_add PySem.F.slot_tuple_add PySem.F.entry_tuple_add (PySem.F.args_tuple_add_2 _ _)
   (tuple_addW2 t b vs.toArray ws.toArray n n2 dd Hl sl kG (by simpa using hv) (by simpa using hw) (by rw [List.size_toArray,List.size_toArray];exact hsz)) ⟨ho,K5, ?_⟩
  rw [e];exact h2 hw
def cG(n d:Nat):Option Int->Nat
 | none=>d
 | some v=>if v < 0 then (v+(n:Int)).toNat else min v.toNat n
theorem rS(n d:Nat):cG n d none=d:=rfl
theorem k7(n d k:Nat):cG n d (some (k:Int))=min k n:=by show (if (k:Int) < 0 then ((k:Int)+(n:Int)).toNat else min (k:Int).toNat n)=min k n;rw [aaJ (by omega),aaW]
theorem FI(n d:Nat)(hd:d<=n)(o:Option Int):cG n d o<=n:=by
 cases o with
 | none=>exact hd
 | some v=>
  show (if v < 0 then (v+(n:Int)).toNat else min v.toNat n)<=n;by_cases hv:v < 0
  ·rw [aaP hv];omega
  ·rw [aaJ hv];exact Nat.min_le_right _ _
theorem wu(v:Int)(n d:Nat):(if v < 0 then max (v+(n:Int)) 0 else min v (n:Int))=((cG n d (some v):Nat):Int):=by
 show (if v < 0 then max (v+(n:Int)) 0 else min v (n:Int))=(((if v < 0 then (v+(n:Int)).toNat else min v.toNat n):Nat):Int);by_cases hv:v < 0
 ·simp only [if_pos hv];omega
 ·simp only [if_neg hv];omega
theorem u7(lo hi:Option Int)(n:Nat):Builtin.Slice.sliceAdjust lo hi 1 (n:Int)=(((cG n 0 lo:Nat):Int),((cG n n hi:Nat):Int)):=by
 have h1:¬((1:Int) < 0):=by omega
 unfold Builtin.Slice.sliceAdjust;simp only [h1,if_false];refine Prod.ext ?_ ?_
 ·cases lo with
  | none=>rfl
  | some v=>exact wu v n 0
 ·cases hi with
  | none=>rfl
  | some v=>exact wu v n n
theorem uV(i j:Nat):Builtin.Slice.slicePlaces (i:Int) (j:Int) 1=j - i:=by
 unfold Builtin.Slice.slicePlaces;have h1:(1:Int) > 0:=by omega
 simp only [h1,if_true,Int.ediv_one];split <;> omega
theorem mD{v:Value}{o:Option Int}{Q:Option Int->Shared->Prop}(p:IsPart v o)(h:Q o s):wpAny (model prog w) A (Builtin.Slice.slicePartIndex v) Q E s:=by
 cases p with
 | none=>exact slicePart_none h
 | int i t=>exact slicePart_int h
theorem jS{sl:Addr}{vl vu:Value}{lo hi:Option Int}{n:Nat}{Q:Int×Int×Nat->Shared->Prop}(hs:s.heap.IsSliceOf sl vl vu .none)(pl:IsPart vl lo)(pu:IsPart vu hi)
  (h:Q (((cG n 0 lo:Nat):Int),1,cG n n hi - cG n 0 lo) s):wpAny (model prog w) A (Builtin.Slice.sliceApplied (.ref sl) (pure (n:Int))) Q E s:=by
 obtain ⟨os,ER,Oq,GR⟩:=id hs;unfold Builtin.Slice.sliceApplied Builtin.Slice.sliceFields;refine aac (aac (wpAny_field ER GR (x:=vl) rfl (aac (wpAny_field ER GR (x:=vu) rfl (aac (wpAny_field ER GR (x:= .none) rfl (aai ?_)))))));refine aac (slicePart_none ?_);show wpAny _ _ (if ((1:Int)==0)=true then _ else _) _ _ s;rw [aaJ (by decide)];refine aac (mD pl (aac (mD pu (aac (aai ?_)))));show wpAny _ _ (match Builtin.Slice.sliceAdjust lo hi 1 (n:Int) with | (lo,hi)=>pure (lo,(1:Int),Builtin.Slice.slicePlaces lo hi 1)) _ _ s;rw [u7 lo hi n];show wpAny _ _ (pure (((cG n 0 lo:Nat):Int),(1:Int),Builtin.Slice.slicePlaces ((cG n 0 lo:Nat):Int) ((cG n n hi:Nat):Int) 1)) _ _ s;rw [uV];exact aai h
theorem z6(xs:Array Value)(i k:Nat):((List.range k).filterMap λ(m:Nat)=>xs[((i:Int)+(m:Int) * 1).toNat]?).toArray=((xs.toList.drop i).take k).toArray:=by
 have e:(λ(m:Nat)=>xs[((i:Int)+(m:Int) * 1).toNat]?)=λm=>xs[i+m]? :=by
  funext m
  have:((i:Int)+(m:Int) * 1).toNat=i+m:=by omega
  rw [this]
 rw [e];have:=pick_run xs i k;rw [List.filterMap_map] at this;have e2:((λx=>xs[x]?) ∘ λx=>i+x)=λm=>xs[i+m]? :=rfl;rw [e2] at this;rw [this]
theorem jh{t sl:Addr}{items:Array Value}{vl vu:Value}{lo hi:Option Int}{Q:Value->Shared->Prop}(ht:IsTup s.heap t items)(hs:s.heap.IsSliceOf sl vl vu .none)(pl:IsPart vl lo)(pu:IsPart vu hi)
  (hw:¬(cG items.size 0 lo=0/\cG items.size items.size hi=items.size))
  (h:Q (.ref s.heap.objs.size) {s with heap:=s.heap.push {cls:= .type "tuple",data:= .seq ((items.toList.drop (cG items.size 0 lo)).take (cG items.size items.size hi - cG items.size 0 lo)).toArray}})
  (hsz:items.size<=sizeLine):wpAny (model prog w) A (getItem (.ref t) (.ref sl)) Q E s:=by
 have vN:sizeOk (.seq ((items.toList.drop (cG items.size 0 lo)).take (cG items.size items.size hi - cG items.size 0 lo)).toArray):=by show ((items.toList.drop (cG items.size 0 lo)).take (cG items.size items.size hi - cG items.size 0 lo)).toArray.size<=sizeLine;rw [aaj,abg,abh,abq];omega
 have hj:cG items.size items.size hi<=items.size:=FI _ _ (aal _) hi;obtain ⟨os,ER,Oq,GR⟩:=id hs;have QS:s.TypeIs (.ref sl) "slice":=⟨os,ER,Oq⟩;unfold getItem
 try with_reducible refine wpAny_holding ?_
 first | refine aac (aai ?_) | skip
 refine aac (wpAny_sequenceKey ht.typeIs (by decide) ?_)
 refine aac (wpAny_callSpecial?_slot (name:=Str.ofString "__getitem__") ht.typeIs PyProof.Rows.slot_tuple_getitem
  (wpAny_call_entry PyProof.Rows.slot_tuple_getitem ht.typeIs entry_tuple_getitem ?_ (args_tuple_getitem _ _)))
 show wpAny _ _ (Builtin.Tuple.tupleItemsOf (.ref t) >>= _) _ _ s;refine aac (tupleItemsOf_ ht ?_);refine aac (wpAny_typeOf QS ?_);rw [aaP (by decide)];refine aac (jS hs pl pu ?_);have G9:¬((((cG items.size 0 lo:Nat):Int)==0&&(1:Int)==1&&(cG items.size items.size hi - cG items.size 0 lo)==items.size)=true):=by intro q;rw [aax,aax] at q;have q1:((cG items.size 0 lo:Nat):Int)=0:=eq_of_beq q.1.1;have q2:cG items.size items.size hi - cG items.size 0 lo=items.size:=eq_of_beq q.2;exact hw ⟨by omega,by omega⟩
 show wpAny _ _ (if (((cG items.size 0 lo:Nat):Int)==0&&(1:Int)==1&&(cG items.size items.size hi - cG items.size 0 lo)==items.size)=true then _ else _) _ _ s;rw [aaJ G9,z6]
 first
  | exact aac (m:=Builtin.Tuple.tupleExact _) (wpAny_newObj_type (aai ⟨_,rfl,aai h⟩) vN)
  | exact aac (m:=Builtin.Tuple.tupleExact _) (wpAny_newObj_type (aac (aai (aai ⟨_,rfl,aai h⟩))) vN)
  | exact aac (aac (m:=Builtin.Tuple.tupleExact _) (wpAny_newObj_type (aai (aai ⟨_,rfl,aai h⟩)) vN))
  | exact aac (aac (m:=Builtin.Tuple.tupleExact _) (wpAny_newObj_type (aai ⟨_,rfl,aai h⟩) vN))
end
end HT
namespace L2
open PySem PySem.Spec PyProof.Rows
variable{X:Cx}{n:Nat}{δ:List (Addr×Obj)}{s:Shared}{its:List Value}
abbrev TO:=St->Hp->(Option Int->Hp->Prop)->Prop
def PO(X:Cx)(e:Option Expr)(t:TO):Prop:=
 ∀(δ:List (Addr×Obj)) (s:Shared) (σ:St) (H:Hp) (Q:Option Int->Hp->Prop),Inv X δ σ H s->t σ H Q->
  wpAny (model X.prog X.w) X.A (evalPart e X.env) (λu s'=>∃o H',Inv X δ σ H' s'/\IsPart u o/\Q o H') X.xe s
def Bs:TO:=λ_ H Q=>Q none H
def HQ(t:TE):TO:=λσ H Q=>t σ H λx H1=>∃i,x= .int i/\Q (some i) H1
section
variable{e:Expr}{te:TE}{lo hi:Option Expr}{tl th:TO}{pos p2:Pos}
theorem lD:PO X none Bs:=by intro δ s σ H Q I h;rw [evalPart_none];exact aai ⟨none,H,I, .none,h⟩
theorem kR(h:PE X e te):PO X (some e) (HQ te):=by intro δ s σ H Q I hw;rw [evalPart_some];refine a_ (h δ s σ H _ I hw) λu s1 ⟨x,H1,I1,r1,q1⟩=> ?_;obtain ⟨i,rfl,q⟩:=q1;obtain ⟨t,rfl⟩:=r1;exact ⟨some i,H1,I1, .int i t,q⟩
def NI(X:Cx)(r:V->Option Int->Option Int->Hp->VK->Prop):Prop:=
 ∀(δ:List (Addr×Obj)) (s:Shared) (σ:St) (H:Hp) (x:V) (v vl vu:Value) (lo hi:Option Int) (sl:Addr) (Q:VK),Inv X δ σ H s->Τ x v->s.heap.IsSliceOf sl vl vu .none->IsPart vl lo->IsPart vu hi->r x lo hi H Q->
  ∃T id,typeLookup (.type T) "__getitem__"=pure (some (.builtin id))/\s.TypeIs v T/\wpAny (model X.prog X.w) X.A (getItem v (.ref sl)) (EP X δ σ Q) X.xe s
def Rc(r:V->Option Int->Option Int->Hp->VK->Prop)(te:TE)(tl th:TO):TE:=λσ H Q=>te σ H λx H1=>tl σ H1 λl H2=>th σ H2 λu H3=>r x l u H3 Q
theorem i6{r:V->Option Int->Option Int->Hp->VK->Prop}(hr:NI X r)(he:PE X e te)(hl:PO X lo tl)(hu:PO X hi th):PE X (.Subscript e (.Slice lo hi none p2) pos) (Rc r te tl th):=by intro δ s σ H Q I h;refine Subscript_ (a_ (he δ s σ H _ I h) λv s1 ⟨x,H1,I1,r1,q1⟩=> ?_);refine wpAny_Slice (a_ (hl δ s1 σ H1 _ I1 q1) λvl s2 ⟨l,H2,I2,pl,q2⟩=>a_ (hu δ s2 σ H2 _ I2 q2) λvu s3 ⟨u,H3,I3,pu,q3⟩=> ?_);rw [evalPart_none];refine aai ?_;have I4:Inv X δ σ H3 {s3 with heap:=s3.heap.push {cls:= .type "slice",data:= .fields #[vl,vu, .none]}}:=I3.kept (t':=s3.toks) λb ob q=>aag _ q;obtain ⟨T,id,hT,ht,hg⟩:=hr δ {s3 with heap:=s3.heap.push {cls:= .type "slice",data:= .fields #[vl,vu, .none]}} σ H3 x v vl vu l u s3.heap.objs.size Q I4 r1 (Heap.IsSliceOf.new ..) pl pu q3;show wpAny (model X.prog X.w) X.A (subscriptTail e (.Slice lo hi none p2) v (.ref s3.heap.objs.size)) (EP X δ σ Q) X.xe {s3 with heap:=s3.heap.push {cls:= .type "slice",data:= .fields #[vl,vu, .none]}};exact tail_any (ops:=[.ref s3.heap.objs.size,v]) ht hT hg (by with_unfolding_all rfl)
def nH(xs:List V)(lo hi:Option Int):List V:=(xs.drop (HT.cG xs.length 0 lo)).take (HT.cG xs.length xs.length hi - HT.cG xs.length 0 lo)
theorem ko(xs:List V)(lo hi:Option Int):(nH xs lo hi).length<=xs.length:=by unfold nH;rw [abg,abh];omega
def NZ(K:fv):V->Option Int->Option Int->Hp->VK->Prop:=λx lo hi H Q=>∃a xs,x= .ref a/\gP K H a xs/\
 ¬(HT.cG xs.length 0 lo=0/\HT.cG xs.length xs.length hi=xs.length)/\∀p,H p=none->Q (.ref p) (upd H p (.tup (nH xs lo hi)))
theorem zw:NI X (NZ X.K):=by
 intro δ s σ H x v vl vu lo hi sl Q I rx hs pl pu h;obtain ⟨a,xs,rfl,hx,hw,q⟩:=h;cases rx;obtain ⟨its,r,ht,hz⟩:=I.tuple hx;have hlen:its.toArray.size=xs.length:=by rw [aaj];exact r.length.symm
 refine ⟨"tuple",_,PyProof.Rows.slot_tuple_getitem.lookup,ht.typeIs, ?_⟩;refine HT.jh ht hs pl pu (by rw [hlen];exact hw) ?_ (by rw [hlen];exact hz);rw [hlen];refine ⟨.ref s.heap.objs.size,_,I.laid (t':=s.toks) (o:= .tup (nH xs lo hi)) (λb ob q=>aag _ q) (aal _) ?_,rfl,q _ (I.aR.fresh (aal _))⟩;exact ⟨aak (ko xs lo hi) hz,_,(r.drop (HT.cG xs.length 0 lo)).take (HT.cG xs.length xs.length hi - HT.cG xs.length 0 lo),IsTup.new _ _⟩
def Dm(K:fv):R2:=λx y H Q=>∃a b xs ys,x= .ref a/\y= .ref b/\gP K H a xs/\gP K H b ys/\xs≠[]/\xs.length+ys.length<=sizeLine/\
 (ys=[]->Q (.ref a) H)/\(ys≠[]->∀p,H p=none->Q (.ref p) (upd H p (.tup (xs++ys))))
theorem Μ.qh{xs:List V}{us:List Value}(r:Μ xs us):us=[]↔xs=[]:=by
 cases r with
 | nil=>simp
 | cons _ _=>simp
theorem Bx:gA X (binaryOp .Add) (Dm X.K):=by intro δ s σ H x y v u Q I rx ry h;obtain ⟨a,b,xs,ys,rfl,rfl,ha,hb,hx,hz,q1,q2⟩:=h;cases rx;cases ry;obtain ⟨its,r1,p1,_⟩:=I.tuple ha;obtain ⟨Fb,r2,p2,_⟩:=I.tuple hb;refine HT.BU p1 p2 (λz=>hx (r1.qh.mp z)) (λz=>⟨.ref a,H,I,rfl,q1 (r2.qh.mp z)⟩) (λz=> ?_) (by rw [<-r1.length,<-r2.length];exact hz);refine ⟨.ref s.heap.objs.size,_,I.laid (t':=s.toks) (o:= .tup (xs++ys)) (λb ob q=>aag _ q) (aal _) ?_,rfl,q2 (λw=>z (r2.qh.mpr w)) _ (I.aR.fresh (aal _))⟩;exact ⟨by rw [aae];exact hz,_,r1.append r2,IsTup.new _ _⟩
end
def xJ(n:Nat)(i:Int):Option Nat:=if 0<=i then (if i < n then some i.toNat else none) else if -(n:Int)<=i then some (i+n).toNat else none
def fF{α:Type}(xs:List α)(i:Int):Option α:=(xJ xs.length i).bind λj=>xs[j]?
theorem vd{i:Int}{j:Nat}(h:xJ n i=some j):seqIndex? i n=some j/\j < n/\ -(n:Int)<=i/\i < n:=by
 unfold xJ at h;by_cases h0:0<=i
 ·rw [aaP h0] at h;by_cases h1:i < n
  ·rw [aaP h1] at h;have e:i.toNat=j:=aat h;exact ⟨by rw [seqIndex_of h0 h1,e],by omega,by omega,h1⟩
  ·rw [aaJ h1] at h;cases h
 ·rw [aaJ h0] at h;by_cases h1: -(n:Int)<=i
  ·rw [aaP h1] at h;have e:(i+n).toNat=j:=aat h;exact ⟨by rw [seqIndex_neg (by omega) h1,e],by omega,h1,by omega⟩
  ·rw [aaJ h1] at h;cases h
theorem oU{α:Type}{xs:List α}{i:Int}{v:α}(h:fF xs i=some v):∃j,seqIndex? i xs.length=some j/\xs[j]? =some v/\j < xs.length/\ -(xs.length:Int)<=i/\i < xs.length:=by
 unfold fF at h;cases e:xJ xs.length i with
 | none=>rw [e] at h;cases h
 | some j=>
  rw [e] at h;obtain ⟨h1,h2,h3,h4⟩:=vd e;exact ⟨j,h1,h,h2,h3,h4⟩
theorem Η{α:Type}{xs:List α}{j:Nat}{v:α}(h:xs[j]? =some v):fF xs (j:Int)=some v:=by
 have hj:j < xs.length:=(aad.mp h).1;have e:xJ xs.length (j:Int)=some j:=by unfold xJ;rw [if_pos (by omega),if_pos (by omega)];simp
 unfold fF;rw [e];exact h
def pA(b:Expr):Prop:=∀o i,subscripted b false o i=operate [o,i] (getItem o i)
def Bd(X:Cx)(r:R2):Prop:=
 ∀(value slice:Expr) (δ:List (Addr×Obj)) (s:Shared) (σ:St) (H:Hp) (x y:V) (v u:Value) (Q:VK),Inv X δ σ H s->Τ x v->Τ y u->r x y H Q->
  subscripted slice false v u=operate [v,u] (getItem v u)->wpAny (model X.prog X.w) X.A (subscriptTail value slice v u) (EP X δ σ Q) X.xe s
def Mo(X:Cx)(id:String)(r:V->List V->Hp->VK->Prop):Prop:=
 ∀(δ:List (Addr×Obj)) (s:Shared) (σ:St) (H:Hp) (x:V) (xs:List V) (v:Value) (us:List Value) (Q:VK),Inv X δ σ H s->Τ x v->Μ xs us->r x xs H Q->
  wpAny (model X.prog X.w) X.A (call (.builtin id) (v::us)) (EP X δ σ Q) X.xe s
section
variable{a b:Expr}{ta tb:TE}{pos:Pos}
theorem Bd.or{r r':R2}(h:Bd X r)(h':Bd X r'):Bd X (λx y H Q=>r x y H Q\/r' x y H Q):=by
 intro value slice δ s σ H x y v u Q I rx ry q hs;rcases q with q | q
 ·exact h value slice δ s σ H x y v u Q I rx ry q hs
 ·exact h' value slice δ s σ H x y v u Q I rx ry q hs
theorem HU{r:R2}(hr:Bd X r)(ha:PE X a ta)(hb:PE X b tb)(hs:pA b):PE X (.Subscript a b pos) (J6 r ta tb):=by intro δ s σ H Q I h;exact Subscript_ (E3 ha hb I h λv u s2 x y H2 I2 rx ry q=>hr a b δ s2 σ H2 x y v u Q I2 rx ry q (hs _ _))
def Im(K:fv):R2:=λx y H Q=>∃p xs i v,x= .ref p/\y= .int i/\eN K H p xs/\fF xs i=some v/\Q v H
def Hz(K:fv):R2:=λx y H Q=>∃p xs i v,x= .ref p/\y= .int i/\gP K H p xs/\fF xs i=some v/\Q v H
def JL:R2:=λx y H Q=>∃z i c,x= .str z/\y= .int i/\z.length<=sizeLine/\fF z.cps.toList i=some c/\Q (.str ⟨#[c]⟩) H
theorem B2:Bd X (Im X.K):=by
 intro value slice δ s σ H x y v u Q I rx ry h hs;obtain ⟨p,xs,i,z,rfl,rfl,hq,he,q⟩:=h;cases rx;obtain ⟨t,rfl⟩:=ry;obtain ⟨its,r,pl,hz⟩:=I.list hq;obtain ⟨j,h1,h2,h3,h4,h5⟩:=oU he;obtain ⟨w,ew,FO⟩:=r.get h2;have hl:=r.length;have hn:=jY;have fin:EP X δ σ Q w s:=⟨z,H,I,FO,q⟩;by_cases h0:0<=i
 ·have hj:i.toNat=j:=by rw [seqIndex_of h0 h5] at h1;exact aat h1
  exact item_listR pl.isList h0 (by omega) (by rw [hj];simpa using ew) fin hs
 ·have hj:(i+(its.toArray.size:Int)).toNat=j:=by rw [seqIndex_neg (by omega) h4] at h1;rw [aaj,<-hl];exact aat h1
  exact subscriptTail_builtinR (x:=w) pl.isList.typeIs slot_list_getitem.lookup
   (wpAny_getItem_list_neg (Q:=λr s'=>r=w/\EP X δ σ Q r s') pl.isList (by omega) (by rw [List.size_toArray] <;> omega) (by omega) (by rw [hj];simpa using ew) ⟨rfl,fin⟩) hs
theorem FE:Bd X (Hz X.K):=by
 intro value slice δ s σ H x y v u Q I rx ry h hs;obtain ⟨p,xs,i,z,rfl,rfl,hq,he,q⟩:=h;cases rx;obtain ⟨t,rfl⟩:=ry;obtain ⟨its,r,pl,hz⟩:=I.tuple hq;obtain ⟨j,h1,h2,h3,h4,h5⟩:=oU he;obtain ⟨w,ew,FO⟩:=r.get h2;have hl:=r.length;have hn:=jY;have fin:EP X δ σ Q w s:=⟨z,H,I,FO,q⟩
 exact subscriptTail_builtinR (x:=w) pl.typeIs slot_tuple_getitem.lookup
  (getItem_tuple (j:=j) (Q:=λr s'=>r=w/\EP X δ σ Q r s') pl (by omega) (by omega) (by rw [List.size_toArray,<-hl];exact h1) (by simpa using ew) ⟨rfl,fin⟩) hs
theorem Gj:Bd X JL:=by
 intro value slice δ s σ H x y v u Q I rx ry h hs;obtain ⟨z,i,c,rfl,rfl,hz,he,q⟩:=h;obtain ⟨t,rfl⟩:=rx;obtain ⟨t',rfl⟩:=ry;obtain ⟨j,h1,h2,h3,h4,h5⟩:=oU he;have hl:z.cps.toList.length=z.length:=by simp [Str.length]
 rw [hl] at h1 h4 h5;have hn:=jY
 exact tail_any (typeIs_str s z t) slot_str_getitem.lookup (getItem_str (c:=c) (by
  have e1:decide (i < -(2 ^ 63:Int))=false:=aaF (by omega);have e2:decide (i ≥ 2 ^ 63)=false:=aaF (by omega)
  rw [e1,e2,Bool.or_false]) (by rw [h1];simpa using h2) ⟨.str ⟨#[c]⟩,H,I.tok _,⟨_,rfl⟩,q⟩) hs
def Of(K:fv):R2:=λx y H Q=>Im K x y H Q\/Hz K x y H Q\/JL x y H Q
theorem EU:Bd X (Of X.K):=B2.or (FE.or Gj)
theorem tW(its:List Value)(n j:Nat)(u:Value):Obj.mapSeq (·.setIfInBounds j u) {cls:= .type "list",data:= .seq its.toArray n}={cls:= .type "list",data:= .seq (its.set j u).toArray n}:=by simp [Obj.mapSeq]
theorem Inv.lst{δ:List (Addr×Obj)}{σ:St}{H:Hp}{s:Shared}{p:Addr}{xs:List V}(I:Inv X δ σ H s)(h:H p=some (.lst xs)):
  ∃(its:List Value) (n:Nat),Μ xs its/\s.heap.get? p=some {cls:= .type "list",data:= .seq its.toArray n}/\xs.length<=sizeLine:=by
 obtain ⟨z,its,n,r,e⟩:=I.aR p _ h;exact ⟨its,n,r,e,z⟩
theorem Inv.Gb{σ:St}{H:Hp}{p:Addr}{xs ys:List V}{its':List Value}{n':Nat}{f:Obj->Obj}(I:Inv X δ σ H s)(h:H p=some (.lst xs))
  (ho:s.heap.get? p=some {cls:= .type "list",data:= .seq its.toArray n}) (hf:f {cls:= .type "list",data:= .seq its.toArray n}={cls:= .type "list",data:= .seq its'.toArray n'}) (r:Μ ys its') (hz:ys.length<=sizeLine) (t:Nat):
  Inv X δ σ (upd H p (.lst ys)) {s with heap:=s.heap.update p f,toks:=t}:=by
 have e:(s.heap.update p f).get? p=some {cls:= .type "list",data:= .seq its'.toArray n'}:=by rw [Heap.get?_update_self f ho (by rw [hf] <;> rfl),hf]
 refine I.write (x:=p) (e:=p) (by rw [h];trivial) (.inl rfl) (λb u hb q=>(Heap.get?_update_other _ _ (Ne.symm hb)).trans q) ⟨_,e⟩ ?_;exact ⟨hz,its',n',r,e⟩
def Dc:V->V->V->Hp->(Hp->Prop)->Prop:=λo i v H Q=>∃p xs k j,o= .ref p/\i= .int k/\H p=some (.lst xs)/\xJ xs.length k=some j/\Q (upd H p (.lst (xs.set j v)))
theorem A':Hu X Dc:=by
 intro δ s σ H o i v ov iv u Q I ro ri rv h;obtain ⟨p,xs,k,j,rfl,rfl,hp,hj,q⟩:=h;cases ro;obtain ⟨t,rfl⟩:=ri;obtain ⟨its,n,r,ho,hz⟩:=I.lst hp;obtain ⟨h1,h2,h3,h4⟩:=vd hj;have hl:=r.length;have hn:=jY
 have I':Inv X δ σ (upd H p (.lst (xs.set j v))) {s with heap:=s.heap.update p (Obj.mapSeq (·.setIfInBounds j u))}:=
  I.Gb hp ho (tW its n j u) (r.set rv j) (by rw [aa6];exact hz) s.toks
 by_cases h0:0<=k
 ·have hk:k.toNat=j:=by rw [seqIndex_of h0 h4] at h1;exact aat h1
  exact PySem.W.ki_setAt ho h0 (by omega) (by rw [aaj,<-hl];exact h4) (by rw [hk];exact ⟨_,I',q⟩)
 ·have hk:(k+(its.toArray.size:Int)).toNat=j:=by rw [seqIndex_neg (by omega) h3] at h1;rw [aaj,<-hl];exact aat h1
  exact PySem.W.ki_setBack ho (by omega) (by rw [aaj,<-hl];exact h3) (by omega) (by rw [hk];exact ⟨_,I',q⟩)
theorem pV(lo hi:Option Int)(n:Nat):(sliceBounds lo hi none n).1=((HT.cG n 0 lo:Nat):Int)/\(sliceBounds lo hi none n).2.1=((HT.cG n n hi:Nat):Int)/\(sliceBounds lo hi none n).2.2=1:=by
 refine ⟨?_, ?_,rfl⟩
 ·cases lo with
  | none=>simp [sliceBounds,HT.cG]
  | some i=>
   simp only [sliceBounds,HT.cG,Option.getD_none,show (1:Int) > 0 by decide,if_true];by_cases h:i < 0
   ·simp only [h,if_true] <;> omega
   ·simp only [h,if_false] <;> omega
 ·cases hi with
  | none=>simp [sliceBounds,HT.cG]
  | some i=>
   simp only [sliceBounds,HT.cG,Option.getD_none,show (1:Int) > 0 by decide,if_true];by_cases h:i < 0
   ·simp only [h,if_true] <;> omega
   ·simp only [h,if_false] <;> omega
theorem nE(its:List Value)(lo hi:Option Int):slicePick its.toArray lo hi none=((its.drop (HT.cG its.length 0 lo)).take (HT.cG its.length its.length hi - HT.cG its.length 0 lo)).toArray:=by obtain ⟨h1,h2,h3⟩:=pV lo hi its.toArray.size;unfold slicePick;rw [h1,h2,h3];simp only [sliceRange_one,pick_run,List.size_toArray] <;> rfl
def Mi(K:fv):V->Option Int->Option Int->Hp->VK->Prop:=λx lo hi H Q=>∃a xs,x= .ref a/\eN K H a xs/\∀p,H p=none->Q (.ref p) (upd H p (.lst (nH xs lo hi)))
theorem vp:NI X (Mi X.K):=by intro δ s σ H x v vl vu lo hi sl Q I rx hs pl pu h;obtain ⟨a,xs,rfl,hx,q⟩:=h;cases rx;obtain ⟨its,r,ht,hz⟩:=I.list hx;have hlen:=r.length;refine ⟨"list",_,slot_list_getitem.lookup,ht.isList.typeIs, ?_⟩;refine wpAny_getItem_list_slice ht.isList hs pl pu .none (by simp) ?_ (by rw [List.size_toArray] <;> omega);rw [nE,<-hlen];refine ⟨.ref s.heap.objs.size,_,I.laid (t':=s.toks) (o:= .lst (nH xs lo hi)) (λb ob q=>aag _ q) (aal _) ?_,rfl,q _ (I.aR.fresh (aal _))⟩;exact ⟨aak (ko xs lo hi) hz,_,0,(r.drop (HT.cG xs.length 0 lo)).take (HT.cG xs.length xs.length hi - HT.cG xs.length 0 lo),aaG _ rfl⟩
def cg:V->Bool
 | .aW=>true
 | .bl _=>true
 | .int _=>true
 | .str _=>true
 | _=>false
def fo:V->V->Bool
 | .aW, .aW=>true
 | .bl a, .bl b=>a==b
 | .bl a, .int b=>(if a then 1 else 0)==b
 | .int a, .bl b=>a==(if b then 1 else 0)
 | .int a, .int b=>a==b
 | .str a, .str b=>a==b
 | _,_=>false
theorem pF{A:Around}{y x:V}{u v:Value}(ry:Τ y u)(rx:Τ x v)(fy:cg y=true)(fx:cg x=true):SeqAt.EqAt A s u v (fo y x):=by
 cases y with
 | aW=>
  cases ry;cases x with
  | aW=>cases rx;exact SeqAt.EqAt.same _
  | bl b=>cases rx;exact SeqAt.EqAt.none_bool b
  | int b=>obtain ⟨t,rfl⟩:=rx;exact SeqAt.EqAt.none_int b t
  | str b=>obtain ⟨t,rfl⟩:=rx;exact SeqAt.EqAt.none_str b t
  | _=>exact aaE (show false=true from fx) aap
 | bl a=>
  cases ry;cases x with
  | aW=>cases rx;exact SeqAt.EqAt.bool_none a
  | bl b=>cases rx;exact SeqAt.EqAt.bool_bool a b
  | int b=>obtain ⟨t,rfl⟩:=rx;exact SeqAt.EqAt.bool_int a b t
  | str b=>obtain ⟨t,rfl⟩:=rx;exact SeqAt.EqAt.bool_str a b t
  | _=>exact aaE (show false=true from fx) aap
 | int a=>
  obtain ⟨t',rfl⟩:=ry;cases x with
  | aW=>cases rx;exact SeqAt.EqAt.int_none a t'
  | bl b=>cases rx;exact SeqAt.EqAt.int_bool a t' b
  | int b=>obtain ⟨t,rfl⟩:=rx;exact SeqAt.EqAt.int_int a t' b t
  | str b=>obtain ⟨t,rfl⟩:=rx;exact SeqAt.EqAt.int_str a t' b t
  | _=>exact aaE (show false=true from fx) aap
 | str a=>
  obtain ⟨t',rfl⟩:=ry;cases x with
  | aW=>cases rx;exact SeqAt.EqAt.str_none a t'
  | bl b=>cases rx;exact SeqAt.EqAt.str_bool a t' b
  | int b=>obtain ⟨t,rfl⟩:=rx;exact SeqAt.EqAt.str_int a t' b t
  | str b=>obtain ⟨t,rfl⟩:=rx;exact SeqAt.EqAt.str_str a t' b t
  | _=>exact aaE (show false=true from fx) aap
 | _=>exact aaE (show false=true from fy) aap
def CC(x:V)(u:Value):Bool:=match u with
 | .none=>fo .aW x
 | .bool b=>fo (.bl b) x
 | .int i _=>fo (.int i) x
 | .str z _=>fo (.str z) x
 | _=>false
theorem AE{x y:V}{u:Value}(r:Τ y u)(f:cg y=true):CC x u=fo y x:=by
 cases y with
 | aW=>cases r;rfl
 | bl b=>cases r;rfl
 | int i=>obtain ⟨t,rfl⟩:=r;rfl
 | str z=>obtain ⟨t,rfl⟩:=r;rfl
 | _=>exact aaE (show false=true from f) aap
theorem qJ{x:V}:∀{xs:List V} {us:List Value},Μ xs us->xs.all cg=true->us.any (CC x)=xs.any λy=>fo y x
 | _,_, .nil,_=>rfl
 | y::xs,u::us, .cons r t,f=>by rw [abr,aax] at f;rw [List.any_cons,List.any_cons,AE r f.1,qJ t f.2]
theorem mF{A:Around}{s:Shared}{x:V}{v:Value}(rx:Τ x v)(fx:cg x=true):∀{xs:List V} {us:List Value},Μ xs us->xs.all cg=true->∀u∈us,SeqAt.EqAt A s u v (CC x u)
 | _,_, .nil,_=>λu hu=>by cases hu
 | y::xs,u::us, .cons r t,f=>λu' hu=>by
  rw [abr,aax] at f;rcases aaO.mp hu with rfl | hu
  ·rw [AE r f.1];exact pF r rx f.1 fx
  ·exact mF rx fx t f.2 u' hu
def Kh(x:V)(xs:List V):Bool:=xs.any λy=>fo y x
def OY(K:fv)(neg:Bool):R2:=λx y H Q=>∃p xs,y= .ref p/\(eN K H p xs\/gP K H p xs)/\cg x=true/\xs.all cg=true/\Q (.bl (if neg then !Kh x xs else Kh x xs)) H
theorem xY:gA X (compareOp .In) (OY X.K false):=by
 intro δ s σ H x y v u Q I rx ry h;obtain ⟨p,xs,rfl,hq,fx,fs,q⟩:=h;cases ry;rcases hq with hq | hq
 ·obtain ⟨its,r,pl,hz⟩:=I.list hq;refine SeqAt.in_listAt (CC x) pl.isList (λw hw=>mF rx fx r fs w (by simpa using hw)) ⟨.bl _,H,I,rfl, ?_⟩;rw [show its.toArray.any (CC x)=its.any (CC x) by simp,qJ r fs];exact q
 ·obtain ⟨its,r,pl,hz⟩:=I.tuple hq;refine SeqAt.in_tupleAt (CC x) pl (λw hw=>mF rx fx r fs w (by simpa using hw)) ⟨.bl _,H,I,rfl, ?_⟩;rw [show its.toArray.any (CC x)=its.any (CC x) by simp,qJ r fs];exact q
theorem ql:cn X (.builtin "len") (λxs H Q=>∃p ys,xs=[.ref p]/\(eN X.K H p ys\/gP X.K H p ys)/\Q (.int ys.length) H):=by
 intro δ s σ H xs us Q I r h;obtain ⟨p,ys,rfl,hq,q⟩:=h;obtain ⟨u,rfl,rx⟩:=jo r;cases rx;have hn:=jY;rcases hq with hq | hq
 ·obtain ⟨its,r',pl,hz⟩:=I.list hq;have hlen:=r'.length;exact Calls.call_len_list pl.isList (by simp only [List.size_toArray] <;> omega) ⟨.int ys.length,H,I.tok _,⟨s.toks+1,by rw [List.size_toArray,hlen]⟩,q⟩
 ·obtain ⟨its,r',pl,hz⟩:=I.tuple hq;have hlen:=r'.length;exact len_tuple pl (by simp only [List.size_toArray] <;> omega) ⟨.int ys.length,H,I.tok _,⟨s.toks+1,by rw [List.size_toArray,hlen]⟩,q⟩
theorem qg:cn X (.builtin "len") (λxs H Q=>∃z,xs=[.str z]/\z.length<=sizeLine/\Q (.int z.length) H):=by intro δ s σ H xs us Q I r h;obtain ⟨z,rfl,hz,q⟩:=h;obtain ⟨u,rfl,t,rfl⟩:=jo r;have hn:=jY;exact len_str (by omega) ⟨.int z.length,H,I.tok _,⟨_,rfl⟩,q⟩
theorem cn.or{f:Value}{r r':List V->Hp->VK->Prop}(h:cn X f r)(h':cn X f r'):cn X f (λxs H Q=>r xs H Q\/r' xs H Q):=by
 intro δ s σ H xs us Q I rs q;rcases q with q | q
 ·exact h δ s σ H xs us Q I rs q
 ·exact h' δ s σ H xs us Q I rs q
theorem pI:cn X (.type "list") (λxs H Q=>∃p ys,xs=[.ref p]/\(eN X.K H p ys\/gP X.K H p ys)/\∀l,H l=none->Q (.ref l) (upd H l (.lst ys))):=by
 intro δ s σ H xs us Q I r h;obtain ⟨p,ys,rfl,hq,q⟩:=h;obtain ⟨u,rfl,rx⟩:=jo r;cases rx
 have fin:∀(its:List Value),Μ ys its->ys.length<=sizeLine->∀(h':Heap) (c':Nat),(∀b o',s.heap.get? b=some o'->h'.get? b=some o')->
   h'.get? s.heap.objs.size=some {cls:= .type "list",dict:=none,data:= .seq its.toArray c',slots:= #[]}->EP X δ σ Q (.ref s.heap.objs.size) {s with heap:=h'}:=λits r' hz h' c' kp e=>
  ⟨.ref s.heap.objs.size,_,I.laid (t':=s.toks) kp (aal _) (show aT X.prog X.w _ h' _ (.lst ys) from ⟨hz,its,c',r',e⟩),rfl,q _ (I.aR.fresh (aal _))⟩
 rcases hq with hq | hq
 ·obtain ⟨its,r',pl,hz⟩:=I.list hq;have hlen:=r'.length;obtain ⟨o,ho,hc,n,hd⟩:=pl.isList;exact call_list_seq p (.inl rfl) ho hc hd (λh' c' kp e=>fin its r' hz h' c' kp e) (by simp only [List.size_toArray] <;> omega)
 ·obtain ⟨its,r',pl,hz⟩:=I.tuple hq;have hlen:=r'.length;obtain ⟨o,ho,hc,n,hd⟩:=pl;exact call_list_seq p (.inr rfl) ho hc hd (λh' c' kp e=>fin its r' hz h' c' kp e) (by simp only [List.size_toArray] <;> omega)
def Ml(K:fv)(T:String)(x:V)(H:Hp):Prop:=match x with
 | .str _=>T="str"
 | .int _=>T="int"
 | .ref p=>(T="list"/\∃xs,eN K H p xs)\/(T="tuple"/\∃o,K.lookup p=some o/\o.cls= .type "tuple"/\o.dict=none)\/
   (T="dict"/\((∃af,H p=some (.dK af))\/∃af,H p=some (.dT af)))\/(T="set"/\∃S n,H p=some (.set S n))
 | _=>False
theorem zm{σ:St}{H:Hp}{T:String}{x:V}{v:Value}(I:Inv X δ σ H s)(r:Τ x v)(ty:Ml X.K T x H):
  s.TypeIs v T/\∀a,v= .ref a->∃ob,s.heap.get? a=some ob/\ob.dict=none:=by
 cases x with
 | str z=>
  obtain ⟨t,rfl⟩:=r;cases (show T="str" from ty);exact ⟨typeIs_str s z t,λ_ e=>nomatch e⟩
 | int i=>
  obtain ⟨t,rfl⟩:=r;cases (show T="int" from ty);exact ⟨typeIs_int s i t,λ_ e=>nomatch e⟩
 | ref p=>
  cases r;rcases ty with ⟨rfl,xs,hq⟩ | ⟨rfl,o,hk,hc,hd⟩ | ⟨rfl,hk⟩ | ⟨rfl,S,n,hk⟩
  ·obtain ⟨its,_,pl,_⟩:=I.list hq;refine ⟨pl.isList.typeIs,λa e=> ?_⟩;cases e;obtain ⟨o,n,e,c,hd,_⟩:=pl;exact ⟨o,e,hd⟩
  ·refine ⟨⟨o,I.kJ p o hk,hc⟩,λa e=> ?_⟩;cases e;exact ⟨o,I.kJ _ o hk,hd⟩
  ·have z:∃o,s.heap.get? p=some o/\o.ExactDict:=by
    rcases hk with ⟨af,hk⟩ | ⟨af,hk⟩
    ·obtain ⟨_,_,_,_,o,_,_,e,ex,_⟩:=I.aR p _ hk;exact ⟨o,e,ex⟩
    ·obtain ⟨_,_,_,_,o,_,_,e,ex,_⟩:=I.aR p _ hk;exact ⟨o,e,ex⟩
   obtain ⟨o,e,ex⟩:=z;refine ⟨⟨o,e,ex.1⟩,λa e2=> ?_⟩;cases e2;exact ⟨o,e,ex.2.1⟩
  ·obtain ⟨o,_,_,_,e,ex,_⟩:=I.aR p _ hk;refine ⟨⟨o,e,ex.1⟩,λa e2=> ?_⟩;cases e2;exact ⟨o,e,ex.2.1⟩
 | _=>exact False.elim ty
def Mz(K:fv)(T:String)(r:V->List V->Hp->VK->Prop)(to:TE):TE:=λσ H Q=>to σ H λx H1=>Ml K T x H1/\r x [] H1 Q
def RC(K:fv)(T:String)(r:V->List V->Hp->VK->Prop)(to:TE)(t:TA):TE:=λσ H Q=>to σ H λx H1=>Ml K T x H1/\t σ H1 λxs H2=>r x xs H2 Q
variable{o e:Expr}{es:List Expr}{to:TE}{t:TA}{name:Str}{apos aE:Pos}{T id:String}{r:V->List V->Hp->VK->Prop}
theorem E5(pa:PlainAttrs T)(slot:Slot T name id)(Mj:typeOf (.builtin id)=pure (.type "method_descriptor"))(hm:Mo X id r)(ho:PE X o to)
  (jf:attributeBase o name X.env (eval o X.env)=eval o X.env:=by rfl) (iF:(apos.endLine==aE.line)=true:=by rfl):PE X (.Call (.Attribute o name apos) [] [] aE) (Mz X.K T r to):=by
 intro δ s σ H Q I h;refine wpAny_Call_method0_late jf iF (a_ (ho δ s σ H _ I h) λv s1 ⟨x,H1,I1,r1,ty,q1⟩=> ?_);obtain ⟨h1,h2⟩:=zm I1 r1 ty;exact ⟨T,id,pa,slot,Mj,h1,h2,Calls.callWith_builtin rfl (PySem.evalArgs_none (hm δ s1 σ H1 x [] v [] Q I1 r1 .nil q1))⟩
theorem Dv(pa:PlainAttrs T)(slot:Slot T name id)(Mj:typeOf (.builtin id)=pure (.type "method_descriptor"))(hm:Mo X id r)(ho:PE X o to)(ha:PA X (e::es) t)
  (jf:attributeBase o name X.env (eval o X.env)=eval o X.env:=by rfl)
  (yP:((backTo aE (starEach (e::es) X.env)).all (λx=> !x.1)&&(backToKw aE (keywordEach [] X.env)).all (λx=>x.1.isSome)
   &&decide ((e::es).length+([]:List Keyword).length+(if ([]:List Keyword).isEmpty then 0 else 1) < 30))=true:=by rfl)
  (iF:(apos.endLine==aE.line)=true:=by rfl) (hs:starEach (e::es) X.env=(false,eval e X.env)::starEach es X.env:=by rfl) (lS:(backTo aE (starEach es X.env)).any (·.1)=false:=by rfl):
  PE X (.Call (.Attribute o name apos) (e::es) [] aE) (RC X.K T r to t):=by
 intro δ s σ H Q I h;refine wpAny_Call_method_late jf yP iF rfl (a_ (ho δ s σ H _ I h) λv s1 ⟨x,H1,I1,r1,ty,q1⟩=> ?_);obtain ⟨h1,h2⟩:=zm I1 r1 ty;refine ⟨T,id,pa,slot,Mj,h1,h2, ?_⟩;have hA:=ha aE δ s1 σ H1 _ I1 q1;rw [hs] at hA⊢;refine Calls.callWith_builtin (by show (false || (backTo aE (starEach es X.env)).any (·.1))=false;rw [lS] <;> rfl) (Calls.evalArgs_plain ?_);exact a_ hA λus s2 ⟨vs,H2,I2,r2,q2⟩=>hm δ s2 σ H2 x vs v us Q I2 r1 r2 q2
end
def Ls(X:Cx)(id:String)(r:V->List V->Hp->VK->Prop):Prop:=
 ∀(δ:List (Addr×Obj)) (s:Shared) (σ:St) (H:Hp) (x:V) (xs:List V) (v:Value) (us:List Value) (Q:VK),Inv X δ σ H s->Τ x v->Μ xs us->r x xs H Q->
  wpAny (model X.prog X.w) X.A (call (.builtin id) (v::us)) (EP X δ σ Q) X.xe s
theorem Μ.one:∀{x:V} {us:List Value},Μ [x] us->∃u,us=[u]/\Τ x u
 | _,_, .cons r .nil=>⟨_,rfl,r⟩
theorem Μ.zero:∀{us:List Value},Μ [] us->us=[]
 | _, .nil=>rfl
theorem Μ.rep{xs:List V}{us:List Value}(h:Μ xs us):∀k:Nat,Μ (List.replicate k xs).flatten (List.replicate k us).flatten
 | 0=> .nil
 | k+1=>by rw [aa7,aa7,abm,abm];exact Μ.append h (Μ.rep h k)
theorem oS(its:List Value):∀(k:Nat) (ae:List Value),
  List.foldl (λx1 x2=>x1++x2) ae.toArray (List.replicate k its.toArray)=(ae++(List.replicate k its).flatten).toArray
 | 0,ae=>by simp
 | k+1,ae=>by
  have e:ae.toArray++its.toArray=(ae++its).toArray:=by simp
  have e2:(ae++its)++(List.replicate k its).flatten=ae++(List.replicate (k+1) its).flatten:=by rw [aa7,abm,abc]
  rw [<-e2,<-oS its k (ae++its),<-e,aa7,List.foldl_cons]
section
variable{σ:St}{H:Hp}{l b:Addr}{xs ys zs:List V}
theorem Inv.HD{its':List Value}{f:Array Value->Array Value}{t':Nat}(I:Inv X δ σ H s)(hH:H l=some (.lst xs))
  (e:s.heap.get? l=some {cls:= .type "list",data:= .seq its.toArray n}) (hf:f its.toArray=its'.toArray) (hv:Μ ys its') (hz:ys.length<=sizeLine):
  Inv X δ σ (upd H l (.lst ys)) {s with heap:=s.heap.update l (Obj.mapSeq f),toks:=t'}:=by
 have q:=PySem.IsL.update e f;rw [hf] at q;refine I.write (x:=l) (e:=l) (by rw [hH];exact trivial) (.inl rfl) (λb' u hb hu=>(Heap.get?_update_other s.heap (Obj.mapSeq f) (Ne.symm hb)).trans hu) ⟨_,q⟩ ?_;exact ⟨hz,its',_,hv,q⟩
theorem Inv.Ef{t':Nat}(I:Inv X δ σ H s)(hv:Μ ys its)(hz:ys.length<=sizeLine):
  Inv X δ σ (upd H s.heap.objs.size (.lst ys)) {s with heap:=s.heap.push {cls:= .type "list",data:= .seq its.toArray},toks:=t'}:=
 I.laid (λ_ _ q=>aag _ q) (aal _) ⟨hz,its,0,hv,aaG _ rfl⟩
theorem Inv.fresh(I:Inv X δ σ H s):H s.heap.objs.size=none:=I.aR.fresh (aal _)
theorem Inv.yz(I:Inv X δ σ H s)(hH:H l=some (.lst xs)):xs.length<=sizeLine/\∃(its:List Value) (n:Nat),Μ xs its/\xs.length=its.length/\s.heap.get? l=some {cls:= .type "list",data:= .seq its.toArray n}:=by obtain ⟨z,its,n,r,e⟩:=I.aR l _ hH;exact ⟨z,its,n,r,r.length,e⟩
theorem yD(h:n<=sizeLine):Builtin.List.listTooLong n=false:=by unfold Builtin.List.listTooLong;exact aaF (by omega)
end
section
def vX:V->List V->Hp->VK->Prop:=λx vs H Q=>∃l xs y,x= .ref l/\vs=[y]/\H l=some (.lst xs)/\xs.length < sizeLine/\Q .aW (upd H l (.lst (xs++[y])))
theorem ou:Ls X "list.append" vX:=by intro δ s σ H x vs v us Q I rx rv h;obtain ⟨l,xs,y,rfl,rfl,hH,hz,q⟩:=h;cases rx;obtain ⟨u,rfl,ru⟩:=rv.one;obtain ⟨z,its,n,r,hl,e⟩:=I.yz hH;refine call_meets F.slot_list_append ⟨_,e,rfl⟩ F.entry_list_append (F.args_list_append_2 _ _) (PySem.list_append l its.toArray n u (by rw [aaj];omega)) ⟨e, ?_⟩;refine ⟨.aW,_,I.HD (its':=its++[u]) hH e (by simp) (r.append (.cons ru .nil)) ?_,rfl,q⟩;rw [aae,List.length_singleton];omega
def zH:V->List V->Hp->VK->Prop:=λx vs H Q=>∃l xs,x= .ref l/\vs=[]/\H l=some (.lst xs)/\Q .aW (upd H l (.lst []))
theorem zt:Ls X "list.clear" zH:=by intro δ s σ H x vs v us Q I rx rv h;obtain ⟨l,xs,rfl,rfl,hH,q⟩:=h;cases rx;have Qi:=rv.zero;subst Qi;obtain ⟨z,its,n,r,hl,e⟩:=I.yz hH;refine call_meets F.slot_list_clear ⟨_,e,rfl⟩ F.entry_list_clear (F.args_list_clear_1 _) (AutoSeq1.list_clear_list_0 l its.toArray n (by rw [aaj];omega)) ⟨e, ?_⟩;exact ⟨.aW,_,I.HD (its':=[]) (ys:=[]) hH e rfl .nil (abE _),rfl,q⟩
def Ij:R2:=λx y H Q=>∃l b xs zs,x= .ref l/\y= .ref b/\H l=some (.lst xs)/\H b=some (.lst zs)/\xs.length+zs.length<=sizeLine/\∀p,H p=none->Q (.ref p) (upd H p (.lst (xs++zs)))
theorem FF:gA X (binaryOp .Add) Ij:=by
 intro δ s σ H x y v u Q I rx ry h;obtain ⟨l,b,xs,zs,rfl,rfl,hH,hB,hz,q⟩:=h;cases rx;cases ry;obtain ⟨z,its,n,r,hl,e⟩:=I.yz hH;obtain ⟨z2,Fb,n2,r2,Ej,e2⟩:=I.yz hB;refine PySem.P.add_list e e2 ?_ (by rw [aaj,aaj];omega);have ea:its.toArray++Fb.toArray=(its++Fb).toArray:=by simp
 rw [ea];exact ⟨.ref _,_,I.Ef (t':=s.toks) (r.append r2) (by rw [aae];omega),rfl,q _ I.fresh⟩
def IZ:R2:=λx y H Q=>∃l k xs,x= .ref l/\y= .int k/\H l=some (.lst xs)/\ -(2 ^ 63)<=k/\k < 2 ^ 63/\xs.length * k.toNat<=sizeLine/\
 ∀p,H p=none->Q (.ref p) (upd H p (.lst (List.replicate k.toNat xs).flatten))
theorem CT{α:Type}(xs:List α)(k:Nat):(List.replicate k xs).flatten.length=k * xs.length:=by
 induction k with
 | zero=>simp
 | succ k ih=>rw [aa7,abm,aae,ih,Nat.succ_mul,Nat.add_comm]
theorem D0:gA X (binaryOp .Mult) IZ:=by
 intro δ s σ H x y v u Q I rx ry h;obtain ⟨l,k,xs,rfl,rfl,hH,h1,h2,hz,q⟩:=h;cases rx;obtain ⟨t,rfl⟩:=ry;obtain ⟨z,its,n,r,hl,e⟩:=I.yz hH;have hlen:its.toArray.size * k.toNat<=sizeLine:=by rw [aaj,<-hl];exact hz
 have Lk:¬its.toArray.size * k.toNat > (2 ^ 63 - 1) / 8:=by
  have:(sizeLine:Nat)<=(2 ^ 63 - 1) / 8:=by decide
  omega
 have M_:¬(!Builtin.List.listFitsIndex k)=true:=by rw [fitsIndex_both h1 h2];exact aap
 have HV:¬Builtin.List.listTooLong (its.toArray.size * k.toNat)=true:=by rw [yD hlen];exact aap
 have L8:List.foldl (λx1 x2=>x1++x2) #[] (List.replicate (if its.toArray.isEmpty=true then 0 else k.toNat) its.toArray)=(List.replicate k.toNat its).flatten.toArray:=by
  have f0:∀m:Nat,List.foldl (λx1 x2=>x1++x2) #[] (List.replicate m its.toArray)=(List.replicate m its).flatten.toArray:=λm=>by have:=oS its m [];rw [aaU] at this;exact this
  rw [f0];cases its with
  | nil=>simp
  | cons a r'=>rw [if_neg (by simp)]
 refine wpAny_binaryOp_repeat_ref (T:="list") (U:="int") (by decide) ⟨_,e,rfl⟩ (λs'=>typeIs_int s' k t) noFill_list_mul F.fills_int_mul F.slot_int_rmul repeat_list F.slot_int_index.lookup
  (call_meets F.slot_int_rmul (typeIs_int s k t) F.entry_int_rmul (F.args_int_rmul_2 _ _) (int___rmul___int_list k t l its.toArray n)
   ⟨e,rfl,⟨_,e,rfl⟩,call_meets F.slot_list_mul ⟨_,e,rfl⟩ F.entry_list_mul (F.args_list_mul_2 _ _) (AutoListH.list___mul___list_int_3 l its.toArray n k t M_ Lk HV) ⟨e, ?_⟩⟩)
 rw [L8];exact ⟨.ref _,_,I.Ef (t':=s.toks) (r.rep k.toNat) (by rw [CT,Nat.mul_comm];exact hz),rfl,q _ I.fresh⟩
end
end L2
namespace Att
open PySem PySem.W PySem.Calls PyProof.Rows
theorem kN{P:Params}{h:Heap}:∀(ns:List Int) (vs:List Value),WellAll P h vs (ns.map WData.int)->IntsAre vs ns:=by
 intro ns
 induction ns with
 | nil=>
  intro vs w;rw [List.map_nil] at w;cases w;exact .nil
 | cons n ns ih=>
  intro vs w;rw [aaQ] at w;cases w with
  | cons a b=>
   cases a;exact .cons _ _ (ih _ b)
theorem xg{l:OpenLaw}{n:Nat}(hn:l.most=some n){P:Params}{h:Heap}{args:List WData}{vals:List Value}
  (B5:l.row.toRowW.claim.pre args=true) (Li:WellAll P h vals args):
  ∃a vs ns,vals=[Value.ref a]/\args=[WData.list (ns.map WData.int)]/\h.get? a=some {cls:= .type "list",data:= .seq vs.toArray}/\IntsAre vs ns/\ns.length<=n:=by
 have KI:WShape.hasAll [] args [.list .int]=true:=(pre_splitW B5).1;have hc:l.pre.holds [] {args:=args}=true:=(pre_splitW B5).2;obtain ⟨d,r,rfl,h1,h2⟩:=hasAllW_cons KI;obtain rfl:=hasAllW_nil h2;obtain ⟨xs,rfl,h3⟩:=hasW_list h1;obtain ⟨ns,rfl⟩:=items_int h3;have hlen:ns.length<=n:=by
  unfold OpenLaw.pre at hc;have h4:(WTm.not (.lt (.lit (.int (n:Int))) (.len (.arg 0)))).holds [] {args:=[.list (ns.map .int)]}=true:=by have h4:=(holds_andW hc).1;rw [hn] at h4;exact h4
  have h5:=condW_of h4 (w_not (w_lt w_lit (w_len_list (w_arg rfl))));rw [aab] at h5;refine Nat.le_of_not_lt λq=> ?_;have q':(n:Int) < ((ns.length:Nat):Int):=by omega
  first
   | (rw [aaq q'] at h5;exact aaE h5 (by decide))
   | (simp at h5;omega)
 cases Li with
 | cons w1 w2=>
  cases w2;cases w1 with
  | list ho i8=>exact ⟨_,_,ns,rfl,rfl,ho,kN ns _ i8,hlen⟩
theorem wK(l:OpenLaw)(args:List WData):l.row.toRowW.claim.post args (.bool true) args=true:=
 postW_of (r:=l.row.toRowW) (X:=(true==true))
  (show WShape.has [] (.bool true) .bool=true by first | rfl | decide | simp [WShape.has,WShape.arms,WShape.armsAll])
  (show (WTm.eq .res (.lit (.bool true))).value [] {args:=args,res:=some (.bool true),after:=args}=some (.bool (true==true)) from w_eq_bool (w_res rfl) w_lit) rfl
theorem sO{l:OpenLaw}{n:Nat}{q:Program}{loose:List Str}{XP:(Str->Option Value)->Heap->Prop}{YP:World->Heap->Prop}{d:DefRec}
  (hn:l.most=some n) (JY:d.params.defaults=[])
  (call:∀(w:World) (s₀ s₁:Shared) (mg mb:Str->Option Value) (fa:Addr) (o:Obj) (pm cd doc:Value) (a:Addr) (vs:List Value) (ns:List Int),
   Ground q loose [] XP w s₀ mg mb s₁.heap->YP w s₁.heap->
   s₁.heap.get? fa=some o->o.data= .func (docDef d.name d.params d.body d.scope pm cd doc)->s₁.heap.CodeRec cd d.name->mg d.name=some (.ref fa)->
   s₁.heap.get? a=some {cls:= .type "list",data:= .seq vs.toArray}->IntsAre vs ns->ns.length<=n->s₁.gens= #[]->
   codeAny (model l.prog w) callerA (.call (.ref fa) ⟨[.ref a],[]⟩) (λr s'=>r= .ok (.ret (.bool true))/\OldK s₁.heap s'.heap/\s'.os=s₁.os/\AllBare s'.gens) s₁):
  WalkO q loose XP YP l.row.toRowW d [] (λf vs=>PySem.call f vs):=by
 intro w s₀ s₁ mg mb G Y fa o pm cd doc dV kV ho hd y4 hD BG hg args vals as B5 Qc T1 Li Tw;obtain rfl:dV= .none:=Dflts.none hD JY;obtain rfl:kV= .none:=Dflts.noKw hD;obtain ⟨a,vs,ns,rfl,rfl,Ek,hints,hlen⟩:=xg hn B5 Li;refine enter_call (codeAny_mono (call w s₀ s₁ mg mb fa o pm cd doc a vs ns G Y ho (fd_plain hd) y4 BG Ek hints hlen hg) λr s' hq=> ?_);obtain ⟨rfl,h2,h3,h4⟩:=hq;exact ⟨.inl ⟨.bool true, .bool true,[],rfl,λ_=>rfl, .bool true,wK l _,λ_=>⟨List.Pairwise.nil,λ_ hm=>(nomatch hm)⟩⟩,h2,h3,h4⟩
end Att
namespace L2
open PySem PySem.Spec PyProof.Rows
theorem oE:∀{vs:List Value} {ns:List Int},IntsAre vs ns->Μ (ns.map V.int) vs
 | _,_, .nil=> .nil
 | _,_, .cons n t h=> .cons ⟨t,rfl⟩ (oE h)
def Em(H:Hp):Prop:=∀b,H b=none\/∃o xs,H b=some (.qS o (.lst xs))
theorem z_{P:Program}{w:World}{K:fv}{mg mb:Str->Option Value}{CX:tG}{k:Nat}{fa a:Addr}{fd:FuncData}{x:Str}{sp:Sp}{s₁:Shared}{vs:List Value}{ns:List Int}
  (KX:K.In s₁.heap) (OL:s₁.heap.Ns mainGlobals mg) (hb:s₁.heap.Ns builtinsNs mb) (SO:∀x:Str,x≠"__name__"->mb x=bootBuiltins x) (Le:s₁.heap.NoLimit) (hg:s₁.gens= #[])
  (ha:s₁.heap.get? a=some {cls:= .type "list",data:= .seq vs.toArray}) (hi:IntsAre vs ns) (hl:ns.length<=sizeLine) (hr:aX k callerA)
  (F:∀base:Heap,K.In base->base.Ns mainGlobals mg->ao P w K mg base CX k fa fd [x] sp) (HB:∀(s:Shared) (u:Value),BindsTo s fd ⟨[u],[]⟩ [(x,u)])
  (Dj:∀H:Hp,Em H->eN K H a (ns.map V.int)->sp [.ref a] H (λv _=>v= .bl true) λ_ _ _=>False)
  (NV:∀H e s',CX [] H s₁ (λ_ _ _=>False) e s'->False):
  codeAny (model P w) callerA (.call (.ref fa) ⟨[.ref a],[]⟩) (λr s'=>r= .ok (.ret (.bool true))/\OldK s₁.heap s'.heap/\s'.os=s₁.os/\AllBare s'.gens) s₁:=by
 have rv:=oE hi;have Nl:=hi.length
 have core:∀H:Hp,Em H->eN K H a (ns.map V.int)->gI P w H s₁.heap->(∀b,H b≠none->b=a)->(H a≠none->K.lookup a=none)->
   codeAny (model P w) callerA (.call (.ref fa) ⟨[.ref a],[]⟩) (λr s'=>r= .ok (.ret (.bool true))/\OldK s₁.heap s'.heap/\s'.os=s₁.os/\AllBare s'.gens) s₁:=by
  intro H hO hS aR hA hK;have vx:∀{b:Addr} {o:Obj},s₁.heap.get? b=some o->H b=none->(pL s₁.heap H).get? b=some o:=λe n=>zP e n;have Ho:∀{b:Addr} {o:Obj} {es:Array DictEntry} {ep:Nat},s₁.heap.get? b=some o->o.data= .dict es ep->H b=none:=λ{b o es ep} e d=>by
   cases q:H b with
   | none=>rfl
   | some u=>
    have e':b=a:=hA b (by rw [q];simp);subst e';rw [ha] at e;cases e;have d':Data.seq vs.toArray _=Data.dict es ep:=d;cases d'
  have KS:∀{b:Addr} {m:Str->Option Value},s₁.heap.Ns b m->(pL s₁.heap H).Ns b m:=λ{b m} ⟨o,es,ep,e,d,r⟩=>⟨o,es,ep,vx e (Ho e d),d,r⟩
  have OM:K.In (pL s₁.heap H):=λb o e=>vx (KX b o e) (by
   cases q:H b with
   | none=>rfl
   | some u=>
    have e':b=a:=hA b (by rw [q];simp);subst e'
    rw [hK (by rw [q];simp)] at e;cases e)
  have hM:Mod K mg (pL s₁.heap H):=⟨OM,KS OL,⟨mb,KS hb,SO⟩,let ⟨mc,h1,h2⟩:=Le;⟨mc,KS h1,h2⟩⟩;have e0:uI P w K mg (pL s₁.heap H) callerA [] s₁ H:=⟨rfl,hM,λb o e=>Ct e,Nat.le_of_eq (xT _ _),trivial,λb hb=>absurd (show b∈([]:List Addr) from hb) (by simp),aR, .of_eq hg⟩;refine codeAny_mono ((F _ OM (KS OL)).run callerA [] s₁ H ⟨[.ref a],[]⟩ [.ref a] [.ref a] _ _ hr e0 (HB s₁ (.ref a)) (.cons rfl .nil) (Dj H hO hS)) λr s' h=> ?_;cases r with
  | error e=>exact (NV H e s' h).elim
  | ok fl=>
   cases fl with
   | next=>exact False.elim h
   | brk=>exact False.elim h
   | cont=>exact False.elim h
   | ret u=>
    obtain ⟨v,H',os,bare,un,MW,r',q⟩:=h;have q':v= .bl true:=q;subst q';obtain rfl:u=Value.bool true:=r';refine ⟨rfl,OldK.of_keep λb o e=> ?_,os,bare⟩;cases q:H b with
    | none=>exact un.keep b o e q (by intro z;exact absurd (show b∈([]:List Addr) from z) (by simp)) (by simp)
    | some u=>
     rcases hO b with z | ⟨ob,xs,z⟩
     ·rw [q] at z;cases z
     ·have z2:=un.jw b ob _ z;obtain ⟨e1,_⟩:=aR b _ z;obtain ⟨e2,_⟩:=MW b _ z2;rw [e] at e1;cases e1;exact e2
 cases hk:K.lookup a with
 | some o=>
  have e:=KX a o hk;rw [ha] at e;cases e;refine core (λ_=>none) (λ_=> .inl rfl) (.inr ⟨_,vs.toArray,_,hk,rfl,rfl,rfl,by rw [List.size_toArray,Nl];exact hl,by simpa using rv⟩) (λb u z=>by have z':(none:Option HO)=some u:=z;cases z') (λb z=>absurd rfl z) λz=>absurd rfl z
 | none=>
  refine core (λb=>if b=a then some (.qS {cls:= .type "list",data:= .seq vs.toArray} (.lst (ns.map V.int))) else none) (λb=> ?_) (.inl (.inr ⟨{cls:= .type "list",data:= .seq vs.toArray},aaP rfl⟩)) (λb u z=> ?_) (λb z=> ?_) λ_=>hk
  ·by_cases hb:b=a
   ·exact .inr ⟨_,_,aaP hb⟩
   ·exact .inl (aaJ hb)
  ·by_cases hb:b=a
   ·have z':=(aaP hb).symm.trans z;cases z';subst hb;exact ⟨ha,by rw [aab];exact hl,vs,_,rv,ha⟩
   ·have z':=(aaJ hb).symm.trans z;cases z'
  ·by_cases hb:b=a
   ·exact hb
   ·exact aaE (aaJ hb) z
theorem pb{l:PySem.W.OpenLaw}{n k:Nat}{q:Program}{loose:List Str}{XP:(Str->Option Value)->Heap->Prop}{YP:World->Heap->Prop}{d:DefRec}{K:Params->fv}{CX:World->tG}{sp:World->Sp}{x:Str}
  (hn:l.most=some n) (GX:n<=sizeLine) (JY:d.params.defaults=[]) (hr:aX k callerA)
  (hY:∀(w:World) (h:Heap),YP w h->(K w.params).In h)
  (F:∀(w:World) (mg:Str->Option Value) (fa:Addr) (h:Heap),(K w.params).In h->h.Ns mainGlobals mg->mg d.name=some (.ref fa)->
   ∃fd:FuncData,(∀(s:Shared) (u:Value),BindsTo s fd ⟨[u],[]⟩ [(x,u)])/\
    ∀base:Heap,(K w.params).In base->base.Ns mainGlobals mg->ao l.prog w (K w.params) mg base (CX w) k fa fd [x] (sp w))
  (Dj:∀(w:World) (H:Hp) (a:Addr) (ns:List Int),ns.length<=n->Em H->eN (K w.params) H a (ns.map V.int)->sp w [.ref a] H (λv _=>v= .bl true) λ_ _ _=>False)
  (NV:∀(w:World) (H:Hp) (s:Shared) (e:Value) (s':Shared),CX w [] H s (λ_ _ _=>False) e s'->False):
  PySem.W.WalkO q loose XP YP l.row.toRowW d [] (λf vs=>PySem.call f vs):=by
 refine Att.sO hn JY λw s₀ s₁ mg mb fa o pm cd doc a vs ns G Y ho hd y4 BG Ek hints hlen hg=> ?_;have KX:=hY w _ Y;obtain ⟨fd,hb,hF⟩:=F w mg fa _ KX G.T.g BG;exact z_ KX G.T.g G.T.b G.T.builtins G.T.nolimit hg Ek hints (aak hlen GX) hr hF hb (λH hO hS=>Dj w H a ns hlen hO hS) λH e s'=>NV w H s₁ e s'
end L2
/- Qu MS BC (shape;S_,My.* are HC):
  My.QR:a structure of Cw addresses Mr Nu Hj names (classes,xV);My.Txt K t:a structure (Prop) of Cw equations kQ K;
  My.um:{K} {implicit addresses ..} (e1:nsIn K mainGlobals "law"=some (some (.ref f))) (e2:K.lookup f=some ⟨oc,od, .func (fnOf "law" "law" params body scope dV kV doc pm an bq ct),sl⟩) (e3:codeIn K bq "law"=true) .. :∃t,My.Txt K t
set_option maxRecDepth 100000 in
set_option maxHeartbeats 0 in
theorem PySem.Challenge.cw_LID_holds : PySem.Challenge.rw_LID.Holds := by
 w_on;o_law;k_head;(case hw=>w_witness2)
 k_fill
 refine L2.pb (l:=PySem.Challenge.rw_LID) (n:=63) (k:=40) (x:="script") (CX:=fun w=> ..) (sp:=fun _=>My.Ft) rfl (by decide) rfl ⟨rfl,by decide,by decide⟩ (fun w h Y=>PySem.W.kIn_of Y) ?F ?S ?C
 case F=>
  intro w mg fa h KX G BG;have T:∃t,My.Txt (L2.NS KX) t:=by
   dsimp only [L2.NS]
   refine' My.um ?e1 ?e2 ?e3 ..
   (case e1=>PySem.W.k_is)
   (case e2=>PySem.W.k_is)
   ..
  obtain ⟨t,T⟩:=T;have e0:=BG.symm.trans (PySem.W.mg_of KX G T.Sr);cases e0;exact ⟨_,λs u=> .of_eq rfl,λbase kb nb=>My.uH T kb nb⟩
 case S=>exact λw H a ns hl hO hS=> ..
 case C=>exact ..
(Cw tactic k_is has no namespace:write k_is) -/
namespace L2
open PySem PySem.Spec PyProof.Rows
variable{P:Program}{w:World}{mg:Str->Option Value}{base:Heap}{qual:Str}{st:Stmt}{f x:Addr}{fd:FuncData}{ps N xs ys:List Str}{A:Around}{s:Shared}{env:Env}{outer:List Env}{X:Cx}{δ:List (Addr×Obj)}{scope:Scope}{Θ:List Nat}
def gu(s:Stmt):Arguments:=match s with
 | .FunctionDef _ a _ _ _ _ _ _ _ _=>a
 | _=>{posonlyargs:=[],args:=[],vararg:=none,kwonlyargs:=[],kw_defaults:=[],kwarg:=none,defaults:=[]}
def dY(s:Stmt):List Stmt:=match s with
 | .FunctionDef _ _ b _ _ _ _ _ _ _=>b
 | _=>[]
def ο(s:Stmt):Scope:=match s with
 | .FunctionDef _ _ _ _ _ _ sc _ _ _=>sc
 | _=>{kind:= .function,names:=[],isGenerator:=false,isCoroutine:=false}
abbrev Kz:tG:=λ_ _ _ _ _ _=>False
abbrev E0:XK:=λ_ _ _=>False
structure cY(K:fv)(x qual:Str)(st:Stmt)(f:Addr)(fd:FuncData):Prop where
 ex:∃(oc:Value) (od:Option Addr) (kV doc pm:Value) (an:Option Addr) (bq ct:Value) (zX:Array (Option Value)),
  fd=PySem.W.fnOf x qual (gu st) (dY st) (ο st) .none kV doc pm an bq ct/\K.lookup f=some ⟨oc,od, .func fd,zX⟩/\PySem.W.codeIn K bq qual=true
 kp:PySem.W.keepIn K (.ref f)=true
section
variable{K:fv}
theorem cY.binds{x:Str}(F:cY K x qual st f fd)
  (h:∀(kV doc pm:Value) (an:Option Addr) (bq ct:Value) (us:List Value),us.length=ps.length->bindArgs (PySem.W.fnOf x qual (gu st) (dY st) (ο st) .none kV doc pm an bq ct) ⟨us,[]⟩=pure (ps.zip us)):fD K fd ps []:=by
 obtain ⟨oc,od,kV,doc,pm,an,bq,ct,zX,rfl,lk,y4⟩:=F.ex;exact .all (h kV doc pm an bq ct)
theorem AU{x:Str}{oc:Value}{od an:Option Addr}{zX:Array (Option Value)}{kV doc pm bq ct:Value}(l:K.lookup f=some ⟨oc,od, .func (PySem.W.fnOf x qual (gu st) (dY st) (ο st) .none kV doc pm an bq ct),zX⟩)
  (c:PySem.W.codeIn K bq qual=true) (k:PySem.W.keepIn K (.ref f)=true):cY K x qual st f (PySem.W.fnOf x qual (gu st) (dY st) (ο st) .none kV doc pm an bq ct):=⟨⟨oc,od,kV,doc,pm,an,bq,ct,zX,rfl,l,c⟩,k⟩
end
theorem u9{A B:Prop}(h:B):if false=true then A else B:=by rw [aaJ aap];exact h
theorem uK{A B:Prop}(h:A):if true=true then A else B:=by rw [aaP rfl];exact h
def bH(H H':Hp):Prop:=∀b o,H b=some o->H' b=some o
theorem bH.refl(H:Hp):bH H H:=λ_ _ h=>h
theorem bH.trans{H H1 H2:Hp}(a:bH H H1)(b:bH H1 H2):bH H H2:=λc o h=>b c o (a c o h)
theorem bH.free{H H':Hp}(e:bH H H'){l:Addr}(h:H' l=Option.none):H l=Option.none:=by
 cases q:H l with
 | none=>rfl
 | some o=>
  rw [e l o q] at h;cases h
theorem bH.seq{K:fv}{H H':Hp}{a:Addr}{xs:List V}(e:bH H H')(h:eN K H a xs):eN K H' a xs:=by
 rcases h with (h | ⟨o,h⟩) | h
 ·exact .inl (.inl (e _ _ h))
 ·exact .inl (.inr ⟨o,e _ _ h⟩)
 ·exact .inr h
section
def Cu(B:Heap)(l:List Env)(x:Addr)(o:Obj)(fl:Value)(h:Heap):Prop:=
 B.StaysIn h/\B.get? x=none/\h.FunFrames B l/\∃(vs:Array Value) (T:Addr) (oT:Obj) (ts:Array Value),h.get? x=some {o with data:= .fields vs}/\vs[2]? =some .none/\vs[1]? =some (.ref T)/\
  B.get? T=none/\T≠x/\h.get? T=some oT/\oT.data= .fields ts/\ts[3]? =some fl
section
variable{M:Model}{E:Value->Shared->Prop}{B:Heap}{l:List Env}{L:Addr}{o:Obj}{vs:Array Value}{Q:Unit->Shared->Prop}
theorem mW{h h':Heap}{T:Addr}{oT:Obj}{ts:Array Value}(hT:h.get? T=some oT)(hd:oT.data= .fields ts)(k:∀b,b≠T->h'.get? b=h.get? b):h.UpToSlots h':=λb ob e hn=>
 ⟨ob.slots,(k b λz=>by rw [z,hT] at e;cases e;exact hn _ hd).trans e⟩
theorem oJ{h h':Heap}(hl:h.FunFrames B l)(u:h.UpToSlots h'):h'.FunFrames B l:=hl.of_keeps λb ob e hn=>by obtain ⟨sl,q⟩:=u b ob e hn;exact ⟨_,q,rfl⟩
theorem zb{head:Value}{QT:Bool}(NB:A.frames=some (env::outer))(hf:env.frame=some L)(hB:B.StaysIn s.heap)(hn:B.get? x=none)(hl:s.heap.FunFrames B (env::outer))(hx:s.heap.get? x=some {o with data:= .fields vs})(h1:1 < vs.size)(h2:vs[2]? =some .none)
  (h:∀h',Cu B (env::outer) x o (rawInt L) h'->s.heap.UpToSlots h'->Q () {s with heap:=h'}):
  wpAny M A (do let a<-frameOf env;let pl<-entryPlaceOf L QT;let n<-EntryCells.newEntry head a .none (rawInt L) .none pl;setField (.ref x) 1 n) Q E s:=by
 refine aac (wpAny_frameOf_fun NB hl hf λg1 S1=>aac (wpAny_entryPlaceOf λpl dE=> ?_));have nx:x∉(env::outer).filterMap (·.frame):=λz=>by obtain ⟨_,ob,e,d⟩:=hl.mem z;rw [hx] at e;cases e;exact d _ rfl
 have N_:g1.get? x=some {o with data:= .fields vs}:=(S1.2.1 x nx).trans hx;unfold EntryCells.newEntry newFields;refine aac (wpAny_newObj_type ?_ (dE.sizeOk5 _ _ _ _ _));have K3:=aag (h:=g1) {cls:= .type "traceback",dict:=none,data:= .fields ([head, .ref L, .none,rawInt L, .none]++(if pl.isEmpty then List.replicate 6 Value.none else pl)).toArray} N_;refine wpAny_setField K3 rfl h1 (h _ ?_ ?_)
 ·have up1:∀b ob,b≠x->g1.get? b=some ob->((g1.push {cls:= .type "traceback",dict:=none,data:= .fields ([head, .ref L, .none,rawInt L, .none]++(if pl.isEmpty then List.replicate 6 Value.none else pl)).toArray}).update x (Obj.mapFields (·.setIfInBounds 1 (Value.ref g1.objs.size)))).get? b=some ob:=λb ob nb e=>
   (Heap.get?_update_other _ _ (Ne.symm nb)).trans (aag _ e)
  have neT:g1.objs.size≠x:=Nat.ne_of_gt (aas N_)
  refine ⟨λb ob e=>up1 b ob (λz=>by rw [z,hn] at e;cases e) ((S1.2.1 b λz=>by rw [(hl.mem z).1] at e;cases e).trans (hB b ob e)),hn,hl.of_keeps λb ob e d=> ?_,vs.setIfInBounds 1 (.ref g1.objs.size),g1.objs.size,_,_,Heap.get?_update_self _ K3 rfl,by rw [Array.getElem?_setIfInBounds_ne (by decide)];exact h2,by simp [h1], ?_,neT,
   (Heap.get?_update_other _ _ (Ne.symm neT)).trans (aaG g1 rfl),rfl, ?_⟩
  ·obtain ⟨sl,q⟩:=S1.2.2 b ob e;exact ⟨_,up1 b _ (λz=>by rw [z,hx] at e;cases e;exact d _ rfl) q,rfl⟩
  ·cases q:B.get? g1.objs.size with
   | none=>rfl
   | some ob=>
    have:=aas (hB _ _ q);rw [<-S1.1] at this;exact aaE this (abp _)
  ·first
    | (simp;done)
    | (rcases dE with rfl | ⟨_,_,_,_,_,_,_,rfl⟩ <;> simp)
 ·intro b ob e d;obtain ⟨sl,q⟩:=S1.2.2 b ob e;refine ⟨sl, ?_⟩;rw [Heap.get?_update_other _ _ (λz:x=b=>by rw [<-z,hx] at e;cases e;exact d _ rfl)];exact aag _ q
theorem HP(NB:A.frames=some (env::outer))(hf:env.frame=some L)(R:Cu B (env::outer) x o .none s.heap)
  (h:∀h',Cu B (env::outer) x o (rawInt L) h'->s.heap.UpToSlots h'->Q () {s with heap:=h'}):wpAny M A (noteFrame (.ref x) env) Q E s:=by
 obtain ⟨hB,hn,hl,vs,T,oT,ts,hx,h2,h1,nT,KA,hT,dT,h3⟩:=R;unfold noteFrame;simp only [hf];refine aac (wpAny_field hx rfl h1 ?_);rw [if_pos (show (Value.ref T != Value.none)=true by simp)];refine aac (wpAny_field hT dT h3 ?_);rw [if_neg (show¬((Value.none==rawInt L)=true) by simp [rawInt])];refine aac (wpAny_setField hT dT (abz.mp h3).1 ?_);have FG:∀b,b≠T->(s.heap.update T (Obj.mapFields (·.setIfInBounds 3 Value.none))).get? b=s.heap.get? b:=λb nb=>Heap.get?_update_other _ _ (Ne.symm nb);have u:=mW hT dT FG;exact zb NB hf (λb ob e=>(FG b λz=>by rw [z,nT] at e;cases e).trans (hB b ob e)) hn (oJ hl u) ((FG x (Ne.symm KA)).trans hx) (abz.mp h1).1 h2 λh' F' u'=>h h' F' (u.trans u')
theorem Cq{fl:Value}(R:Cu B l x o fl s.heap)(h:∀h',Cu B l x o .none h'->s.heap.UpToSlots h'->Q () {s with heap:=h'}):wpAny M A (setFlight (.ref x) none) Q E s:=by obtain ⟨hB,hn,hl,vs,T,oT,ts,hx,h2,h1,nT,KA,hT,dT,h3⟩:=R;unfold setFlight;refine aac (wpAny_field hx rfl h1 ?_);rw [if_pos (show (Value.ref T != Value.none)=true by simp)];have z3:=(abz.mp h3).1;have FG:∀b,b≠T->(s.heap.update T (Obj.mapFields (·.setIfInBounds 3 ((none:Option Addr).elim Value.none λf=>rawInt f)))).get? b=s.heap.get? b:=λb nb=>Heap.get?_update_other _ _ (Ne.symm nb);have u:=mW hT dT FG;refine wpAny_setField hT dT z3 (h _ ⟨λb ob e=>(FG b λz=>by rw [z,nT] at e;cases e).trans (hB b ob e),hn,oJ hl u,vs,T,_,_,(FG x (Ne.symm KA)).trans hx,h2,h1,nT,KA,Heap.get?_update_self _ hT (Obj.isFreed_of_fields (Obj.data_mapFields dT _)),Obj.data_mapFields dT _,by simp [z3]⟩ u)
theorem Ec{fl:Value}{h:Heap}(R:Cu B (env::outer) x o fl h):Cu B outer x o fl h:=by obtain ⟨hB,hn,⟨_,_,hl⟩,r⟩:=R;exact ⟨hB,hn,hl,r⟩
end
structure Kd(P:Program)(w:World)(l:List Env)(H H':Hp)(h h' B:Heap)(x:Addr)(o:Obj):Prop where
 un:Un (kK l) [] H H' h h'
 ok:gI P w H' B
 Jw:Cu B l x o .none h'
 Km:∀b u,h.get? b=some u->H b=none->b∉kK l->B.get? b=some u
 Hv:∀b u,h.get? b=some u->b∉kK l->∃u',B.get? b=some u'
variable{l:List Env}{H H':Hp}{h h' KG B:Heap}{o:Obj}
end
def cq(P:Program)(w:World):tG:=λouter H s E e s'=>
 ∃x o H' B,e= .ref x/\s'.os=s.os/\AllBare s'.gens/\Kd P w outer H H' s.heap s'.heap B x o/\E o.cls o.dict H'
section
variable{σ:St}{H H':Hp}{KG B:Heap}{ox:Obj}
theorem Kd.leave(I:Inv X δ σ H s)(hex:X.ex=[])(BD:∀b∈kK X.outer,b∈kK X.stack)(ok:gI X.prog X.w H' B)(f:Cu B X.outer x ox .none KG)(Q6:X.s₀.heap.get? x=none)
  (Km:∀b o,b≠x->s.heap.get? b=some o->H b=none->b∉kK X.stack->B.get? b=some o)
  (Hv:∀b o,b≠x->s.heap.get? b=some o->b∉kK X.stack->∃o',B.get? b=some o')
  (sl:∀b o,s.heap.get? b=some o->b∈kK X.stack->∃sl,KG.get? b=some {o with slots:=sl})
  (free:∀b o,s.heap.get? b=some o->H b=none->H' b=none)
  (kF:∀b xs,H b=some (.tup xs)->H' b=some (.tup xs)) (jw:∀b o u,H b=some (.qS o u)->H' b=some (.qS o u))
  (kE:∀b ps,H b=some (.CM ps)->∃more,H' b=some (.CM (ps++more))):Kd X.prog X.w X.outer X.H₀ H' X.s₀.heap KG B x ox:=by
 have nX:∀b o,X.s₀.heap.get? b=some o->b≠x:=λb o e z=>by rw [z,Q6] at e;cases e
 have iC:∀b:Addr,b∉X.ex:=λb z=>by rw [hex] at z;cases z
 have nS:∀b o,X.s₀.heap.get? b=some o->b∉kK X.outer->b∉kK X.stack:=λb o e hb z=>
  (aaO.mp (I.qI b z)).elim (λq=>aaM (aaz (aas e) I.ok.above) q) hb
 refine ⟨⟨λb o e n hb _=> ?_,λb o e n hb _=> ?_,λb o e n _=> ?_,λb o e _=> ?_,λb xs e=>kF b xs (I.base.kF b xs e),λb o u e=>jw b o u (I.base.jw b o u e),λb ps e=> ?_⟩,ok,f,λb o e n hb=> ?_,λb o e hb=> ?_⟩
 ·exact f.1 b o (Km b o (nX b o e) (I.base.keep b o e n hb (iC b)) (I.base.free b o e n (iC b)) (nS b o e hb))
 ·obtain ⟨s1,e1⟩:=I.base.slot b o e n hb (iC b);obtain ⟨s2,e2⟩:=sl b _ e1 (BD b hb);exact ⟨s2,e2⟩
 ·obtain ⟨o',e1⟩:=I.base.there b o e (iC b);exact free b o' e1 (I.base.free b o e n (iC b))
 ·obtain ⟨o',e1⟩:=I.base.there b o e (iC b);by_cases hb:b∈kK X.stack
  ·obtain ⟨s2,e2⟩:=sl b _ e1 hb;exact ⟨_,e2⟩
  ·obtain ⟨o2,q⟩:=Hv b o' (nX b o e) e1 hb;exact ⟨o2,f.1 _ _ q⟩
 ·obtain ⟨m1,e1⟩:=I.base.kE b ps e;obtain ⟨m2,e2⟩:=kE b _ e1;exact ⟨m1++m2,by rw [e2,Array.append_assoc]⟩
 ·exact Km b o (nX b o e) (I.base.keep b o e n hb (iC b)) (I.base.free b o e n (iC b)) (nS b o e hb)
 ·obtain ⟨o',e1⟩:=I.base.there b o e (iC b);exact Hv b o' (nX b o e) e1 (nS b o e hb)
end
def bM(CX:tG)(X:Cx)(R:St->XK):Prop:=∀(δ:List (Addr×Obj)) (σ:St) (H:Hp) (s:Shared) (e:Value) (s':Shared),Inv X δ σ H s->CX X.stack H s (R σ) e s'->X.xe e s'
section
variable{K:fv}{cd:Value}{s₀:Shared}{H₀:Hp}{E:XK}
theorem Bh:∀b∈kK outer,b∈kK (env::outer):=λb hb=>by obtain ⟨en,he,hf⟩:=abI.mp hb;exact abI.mpr ⟨en,aah _ he,hf⟩
theorem ξ:bM (cq P w) (pE (cq P w) P w K mg base N qual scope f cd A outer s₀ H₀ E) (λ_=>E):=by
 intro δ σ H s e s' I hx;obtain ⟨x,o,H',B,rfl,os,bare,F,hE⟩:=hx;show wpAny _ _ (do noteFrame (.ref x) _;setFlight (.ref x) none) _ _ s';refine aac (HP (B:=B) I.ok.frames rfl F.Jw λh4 f4 u4=>Cq f4 λh5 f5 u5=> ?_);refine ⟨x,o,H',B,rfl,os.trans I.os,bare,Kd.leave I rfl Bh F.ok (Ec f5) ?_ (λb o _=>F.Km b o) (λb o _=>F.Hv b o) (λb o q hb=> ?_) (λb o q n=>F.un.free b o q n (by simp)) F.un.kF F.un.jw F.un.kE,hE⟩
 ·show s₀.heap.get? x=none;cases q:s₀.heap.get? x with
  | none=>rfl
  | some u=>
   obtain ⟨u',e1⟩:=I.base.there x u q (λz=>nomatch z);by_cases hb:x∈kK (pE (cq P w) P w K mg base N qual scope f cd A outer s₀ H₀ E).stack
   ·obtain ⟨vs,_,_,_,Q_,_⟩:=F.Jw.2.2.2;obtain ⟨_,o',qT,hd⟩:=F.Jw.2.2.1.mem hb;rw [Q_] at qT;cases qT;exact aaE rfl (hd _)
   ·obtain ⟨u2,e2⟩:=F.Hv x u' e1 hb;rw [F.Jw.2.1] at e2;cases e2
 ·obtain ⟨sl,e1⟩:=F.un.slot b o q (I.pB b hb) hb (by simp);obtain ⟨_,o',qT,hd⟩:=F.Jw.2.2.1.mem hb;rw [e1] at qT;cases qT;obtain ⟨kG,e2⟩:=(u4.trans u5) b _ e1 hd;exact ⟨kG,e2⟩
end
def D_(sp:Sp)(lr:List V)(R:St->XK)(t:TA):TE:=λσ H Q=>t σ H λvs H1=>sp (vs++lr) H1 Q (R σ)
section
variable{CX:tG}{k:Nat}{sp:Sp}{lr:List V}{ds:List Value}{R:St->XK}{x:Str}{p pos:Pos}{e:Expr}{es:List Expr}{t:TA}
theorem pD{σ:St}{H:Hp}{Q:VK}{us:List Value}{vs:List V}(F:ao X.prog X.w X.K X.mg X.base CX k f fd ps sp)(hr:aX k X.A)(hb:fD X.K fd ps ds)(hd:Μ lr ds)(hx:bM CX X R)
  (I:Inv X δ σ H s) (r:Μ vs us) (h:sp (vs++lr) H Q (R σ)):wpAny (model X.prog X.w) X.A (call (.ref f) us) (EP X δ σ Q) X.xe s:=by
 have r2:Μ (vs++lr) (us++ds):=r.append hd;have hl:(us++ds).length=ps.length:=by rw [<-r2.length];exact F.len _ _ _ _ h
 refine wpAny_call (codeAny_mono (F.run X.A X.stack s H ⟨us,[]⟩ (us++ds) (vs++lr) Q (R σ) hr I.Iu (hb s us I.kJ hl) r2 h) λr s' hq=> ?_);cases r with
 | error e=>exact hx δ σ H s e s' I hq
 | ok fl=>
  cases fl with
  | ret u=>exact I.after hq
  | next=>exact False.elim hq
  | brk=>exact False.elim hq
  | cont=>exact False.elim hq
theorem zQ(F:ao X.prog X.w X.K X.mg X.base CX k f fd ps sp)(hr:aX k X.A)(hg:Gl X x)(hm:X.mg x=some (.ref f))(hk:PySem.W.keepIn X.K (.ref f)=true)(hb:fD X.K fd ps ds)(hd:Μ lr ds)(hx:bM CX X R)
  (ha:PA X (e::es) t) (m_:(x==("__debug__":Str))=false:=by decide) (he:starEach (e::es) X.env=(false,eval e X.env)::starEach es X.env:=by rfl) (dE:(backTo pos (starEach es X.env)).any (·.1)=false:=by rfl):
  PE X (.Call (.Name x p) (e::es) [] pos) (D_ sp lr R t):=by
 intro δ s σ H Q I h;refine wpAny_Call_Name_kw (pX I hg hm ?_ m_);refine PySem.W.callWith_K (h₀:=X.base) I.ok.mod.Ia hk (a_ (ha pos δ s σ H _ I h) λus s1 ⟨vs,H1,I1,r,q⟩=>⟨I1.kJ, ?_⟩) he dE;exact pD F hr hb hd hx I1 r q
end
def h_(env:Env):List (Str×NameKind)->List (Str×Addr)->List (Str×Addr)
 | [],ae=>ae
 | p::r,ae=>h_ env r (if p.2== .free then (p.1,(env.cells.lookup p.1).getD 0)::ae else ae)
theorem mz(h:∀p∈scope.names,p.2= .free->(env.cells.lookup p.1).isSome=true):closureFor scope env=pure (h_ env scope.names []):=by
 have key:∀(l:List (Str×NameKind)) (ae:List (Str×Addr)),(∀p∈l,p.2= .free->(env.cells.lookup p.1).isSome=true)->
   (forIn l ae (λ(p:Str×NameKind) (r:List (Str×Addr))=>(if p.2== .free then (do let c<-cellOf env p.1;pure (ForInStep.yield ((p.1,c)::r))) else pure (ForInStep.yield r):Sem (ForInStep (List (Str×Addr))))))=(pure (h_ env l ae):Sem (List (Str×Addr))):=by
  intro l
  induction l with
  | nil=>intro ae _;rfl
  | cons p r ih=>
   intro ae hp;rw [List.forIn_cons];have OX:=λa=>ih a λq hq=>hp q (aah _ hq);obtain ⟨n,k⟩:=p;by_cases hk:k= .free
   ·subst hk;have hs:=hp (n, .free) aam rfl;cases hl:env.cells.lookup n with
    | none=>rw [show env.cells.lookup (n,NameKind.free).1=none from hl] at hs;cases hs
    | some c=>
     have e1:h_ env ((n, .free)::r) ae=h_ env r ((n,c)::ae):=by show h_ env r (if (NameKind.free==NameKind.free)=true then (n,(env.cells.lookup n).getD 0)::ae else ae)=_;rw [aaP (by decide),hl];rfl
     have e2:cellOf env n=pure c:=by unfold cellOf;rw [hl]
     rw [e1];have e3:(NameKind.free==NameKind.free)=true:=by decide
     simp only [e3,if_true,e2,pure_bind];exact OX _
   ·have hb:(k==NameKind.free)=false:=by simpa using hk
    have e1:h_ env ((n,k)::r) ae=h_ env r ae:=by show h_ env r (if (k==NameKind.free)=true then (n,(env.cells.lookup n).getD 0)::ae else ae)=_;rw [hb,aaJ (by decide)]
    rw [e1];simp only [hb,Bool.false_eq_true,if_false,pure_bind];exact OX _
 have:=key scope.names [] h;unfold closureFor
 first
  | exact this
  | (simp only [bind_pure];exact this)
  | (rw [bind_pure];exact this)
theorem oC{env:Env}{y:Str}{c:Addr}:∀(l:List (Str×NameKind)) (ae:List (Str×Addr)),(∀p∈l,p.2= .free->(env.cells.lookup p.1).isSome=true)->
  (ae.lookup y=some c->env.cells.lookup y=some c)->(h_ env l ae).lookup y=some c->env.cells.lookup y=some c
 | [],ae,_,ha,h=>ha h
 | (n,k)::r,ae,hp,ha,h=>by
  refine oC r _ (λq hq=>hp q (aah _ hq)) (λe=> ?_) h;split at e
  ·rename_i hk;rw [abi] at e;cases q:(y==n) with
   | true=>
    rw [q] at e;have e':(env.cells.lookup n).getD 0=c:=aat e;have hn:y=n:=by simpa using q
    subst hn;have hs:=hp (y,k) List.mem_cons_self (by simpa using hk);cases z:env.cells.lookup y with
    | none=>rw [show env.cells.lookup (y,k).1=none from z] at hs;cases hs
    | some d=>rw [z] at e';rw [<-e'];rfl
   | false=>rw [q] at e;exact ha e
  ·exact ha e
theorem l6{env:Env}{y:Str}:∀(l:List (Str×NameKind)) (ae:List (Str×Addr)),((y,NameKind.free)∈l\/(ae.lookup y).isSome=true)->((h_ env l ae).lookup y).isSome=true
 | [],ae,h=>by
  rcases h with h | h
  ·cases h
  ·exact h
 | (n,k)::r,ae,h=>by
  refine l6 r _ ?_;by_cases hy:y=n
  ·subst hy;by_cases hk:k= .free
   ·subst hk;right;show (List.lookup y (if (NameKind.free==NameKind.free)=true then (y,(env.cells.lookup y).getD 0)::ae else ae)).isSome=true;rw [aaP (by decide),abi,beq_self_eq_true];rfl
   ·rcases h with h | h
    ·rcases aaO.mp h with z | z
     ·exact aaE (Prod.mk.inj z).2.symm hk
     ·exact .inl z
    ·right;rw [if_neg (by simpa using hk)];exact h
  ·rcases h with h | h
   ·rcases aaO.mp h with z | z
    ·exact aaE (Prod.mk.inj z).1 hy
    ·exact .inl z
   ·right;split
    ·rw [List.lookup_cons,show (y==n)=false by simpa using hy];exact h
    ·exact h
def Cx.comp(X:Cx)(Nc:List Str)(scope:Scope)(C:Addr)(s:Shared)(H:Hp)(fp:List Addr):Cx:={X with
 N:=Nc
 s₀:=s
 H₀:=H
 env:=compEnvC scope (h_ X.env scope.names []) C X.env
 outer:=X.stack
 ex:=fp
 fn:=λ_=>false
 pn:=[]
 xe:=λ_ _=>False}
theorem χ.of{P:List Str}{sc:Scope}(h:(sc.kind,sc.isCoroutine,sc.isGenerator)=(.function,false,false))(h2:N.Nodup/\N.take P.length=P/\(∀x∈P,sc.names.lookup x=some .local\/sc.names.lookup x=some .cell)/\(∀y∈sc.names,y.2≠ .free):=by decide+kernel):χ N P sc:=by obtain ⟨a,b,c,d⟩:=h2;exact ⟨aaX (·.1) h,aaX (·.2.1) h,aaX (·.2.2) h,a,b,c,d⟩
structure Ψ(X:Cx)(scope:Scope)(xs ys:List Str)(Θ:List Nat):Prop where
 kind:scope.kind= .function
 AV:∀p∈scope.names,p.2≠ .cell
 names:∀p∈scope.names,p.2= .local->scope.names.lookup p.1=some .local
 own:∀x∈xs,scope.names.lookup x=some .local
 free:∀p∈scope.names,p.2= .free->X.env.scope.names.lookup p.1=some .cell
 nd:(xs++ys).Nodup
 PN:∀q∈ys.zip Θ,X.N[q.2]? =some q.1/\X.env.scope.names.lookup q.1=some .cell/\scope.names.lookup q.1=some .free
 len:ys.length=Θ.length
theorem Ψ.of{sc:Scope}(_:χ N ps sc)(hN:X.N=N)(hs:X.env.scope=sc)(k:scope.kind= .function)(h:(∀p∈scope.names,p.2≠ .cell)/\(∀p∈scope.names,p.2= .local->scope.names.lookup p.1=some .local)/\(∀x∈xs,scope.names.lookup x=some .local)/\(∀p∈scope.names,p.2= .free->sc.names.lookup p.1=some .cell)/\(xs++ys).Nodup/\(∀q∈ys.zip Θ,N[q.2]? =some q.1/\sc.names.lookup q.1=some .cell/\scope.names.lookup q.1=some .free)/\ys.length=Θ.length:=by decide+kernel):Ψ X scope xs ys Θ:=by subst hN hs;obtain ⟨a,b,c,d,e,f,g⟩:=h;exact ⟨k,a,b,c,d,e,f,g⟩
theorem z5{env:Env}{y:Str}:∀{l:List (Str×NameKind)},(∀p∈l,p.2≠ .cell)->
  ((l.map λ(n,k)=>if (k==NameKind.free&&env.scope.kind== .function&&env.kindOf n==some .cell) then (n,NameKind.cell) else (n,k)).lookup y=some .cell\/
   (l.map λ(n,k)=>if (k==NameKind.free&&env.scope.kind== .function&&env.kindOf n==some .cell) then (n,NameKind.cell) else (n,k)).lookup y=some .free)->(y,NameKind.free)∈l
 | [],_,h=>by rcases h with h | h <;> cases h
 | (n,k)::r,hc,h=>by
  have ih:= @z5 env y r (λp hp=>hc p (aah _ hp));rw [aaQ] at h;by_cases q:(k==NameKind.free&&env.scope.kind== .function&&env.kindOf n==some .cell)=true
  ·have hk:k= .free:=by rw [aax,aax] at q;simpa using q.1.1
   subst hk;by_cases hy:y=n
   ·subst hy;exact aam
   ·refine aah _ (ih ?_);have hb:(y==n)=false:=by simpa using hy
    simp only [q,if_true,List.lookup_cons,hb] at h;exact h
  ·by_cases hy:y=n
   ·subst hy;have hb:(y==y)=true:=by simp
    simp only [q,Bool.false_eq_true,if_false,List.lookup_cons,hb] at h;rcases h with h | h
    ·exact aaE (aat h) (hc (y,k) aam)
    ·rw [<-aat h];exact aam
   ·refine aah _ (ih ?_);have hb:(y==n)=false:=by simpa using hy
    simp only [q,Bool.false_eq_true,if_false,List.lookup_cons,hb] at h;exact h
theorem r9{env:Env}{y:Str}(hk:env.scope.kind= .function)(hy:env.kindOf y=some .cell):∀{l:List (Str×NameKind)},l.lookup y=some .free->
  (l.map λ(n,k)=>if (k==NameKind.free&&env.scope.kind== .function&&env.kindOf n==some .cell) then (n,NameKind.cell) else (n,k)).lookup y=some .cell
 | [],h=>by cases h
 | (n,k)::r,h=>by
  have ih:= @r9 env y hk hy r;rw [aaQ];rw [abi] at h;by_cases e:y=n
  ·subst e;have hb:(y==y)=true:=by simp
   rw [hb] at h;have:k= .free:=aat h;subst this;have q:(NameKind.free==NameKind.free&&env.scope.kind== .function&&env.kindOf y==some .cell)=true:=by rw [hk,hy];rfl
   simp only [q,if_true,List.lookup_cons,hb]
  ·have hb:(y==n)=false:=by simpa using e
   rw [hb] at h;by_cases q:(k==NameKind.free&&env.scope.kind== .function&&env.kindOf n==some .cell)=true
   ·simp only [q,if_true,List.lookup_cons,hb];exact ih h
   ·simp only [q,Bool.false_eq_true,if_false,List.lookup_cons,hb];exact ih h
theorem Ψ.has(S:Ψ X scope xs ys Θ)(ok:X.Ok):∀p∈scope.names,p.2= .free->(X.env.cells.lookup p.1).isSome=true:=λp hp hf=>by obtain ⟨c,e⟩:=ok.has p.1 (.inl (S.free p hp hf));rw [e];rfl
theorem zv{α β:Type}:∀{xs:List α} {ys:List β} {j:Nat} {x:α} {y:β},xs[j]? =some x->ys[j]? =some y->(x,y)∈xs.zip ys
 | x::xs,y::ys,0,_,_,h1,h2=>by cases h1;cases h2;exact aam
 | x::xs,y::ys,j+1,_,_,h1,h2=>aah _ (zv (xs:=xs) (ys:=ys) (j:=j) h1 h2)
 | [],_,_,_,_,h1,_=>by simp at h1
 | _::_,[],_,_,_,_,h2=>by simp at h2
def j6(Θ:List Nat)(σ:St):St:=Θ.map λi=>(σ[i]?).join
def tq(n:Nat)(gg:TG):Prop:=∀v (os cs:St) H (Q:St->Hp->Prop),os.length=n->gg v (os++cs) H Q->gg v (os++cs) H λσ' H'=>(∃KH:St,KH.length=n/\σ'=KH++cs)/\Q σ' H'
def tZ(J:It)(n:Nat)(gg:TG)(tc:TT)(te:TE)(cs:St)(Q:VK)(H1:Hp)(D:Addr):Prop:=
 ∃ W:Nat->Nat->List V->Hp->Prop,(∃m,W 0 m [] (upd H1 D (.lst [])))/\∀i m ys H2,W i m ys H2->H2 D=some (.lst ys)/\
  ((J.stop i H2/\Q (.ref D) H2)\/(J.go i H2/\∀x H3,J.HI i H2 x H3->∀os:St,os.length=n->gg x (os++cs) H3 λσ' Qr=>tc σ' Qr λb H4=>match b with
   | true=>te σ' H4 λy H5=>H5 D=some (.lst ys)/\ys.length < sizeLine/\∃m',m' < m/\W (i+1) m' (ys++[y]) (upd H5 D (.lst (ys++[y])))
   | false=>∃m',m' < m/\W (i+1) m' ys H4))
def AH(wi:TI)(n:Nat)(gg:TG)(tc:TT)(te:TE)(Θ:List Nat):TE:=λσ H Q=>wi σ H λJ H1=>∀D,H1 D=none->tZ J n gg tc te (j6 Θ σ) Q H1 D
def Ly(cs:List Expr)(env:Env):Sem Bool:=match cs with
 | []=>pure true
 | c::_=>isTrue c env (eval c env)
def Kv(X:Cx)(cs:List Expr)(t:TT):Prop:=
 (cs=[]\/∃c,cs=[c])/\∀(δ:List (Addr×Obj)) (s:Shared) (σ:St) (H:Hp) (Q:Bool->Hp->Prop),Inv X δ σ H s->t σ H Q->wpAny (model X.prog X.w) X.A (Ly cs X.env) (TP X δ σ Q) X.xe s
theorem nO{elt target iter:Expr}{cs:List Expr}{scope:Scope}{pos:Pos}{it ae:Value}{env:Env}(h:cs=[]\/∃c,cs=[c]):
  compTurn (.ListComp elt [⟨target,iter,cs,0⟩] scope pos) 0 it ae env=(standAt iter.pos >>= λ_=>pyNext it >>= λr=>match r with
   | none=>pure (.done .next)
   | some v=>letOwnedTupleGo target it v >>= λ_=>assign target env v >>= λ_=>Ly cs env >>= λok=>
    (if ok=true then (eval elt env >>= λx=>call (.builtin "list.append") [ae,x] >>= λ_=>pure ()) >>= λ_=>again (.compLoop (.ListComp elt [⟨target,iter,cs,0⟩] scope pos) 0 it ae env)
     else again (.compLoop (.ListComp elt [⟨target,iter,cs,0⟩] scope pos) 0 it ae env))):=by
 rcases h with rfl | ⟨c,rfl⟩ <;> (unfold compTurn Ly;dsimp only [List.getElem?_cons_zero,List.getElem?_cons_succ,List.getElem?_nil];simp only [List.forIn_cons,List.forIn_nil,bind_assoc,pure_bind,if_true];rfl)
section
variable{elt iter tg:Expr}{cs:List Expr}{pos:Pos}{wi:TI}{gg:TG}{tc:TT}{te:TE}
theorem oI(S:Ψ X scope xs ys Θ)(hc:X.calm=true)(hg:∀C s H fp,PG (Cx.comp X (xs++ys) scope C s H fp) tg gg)(hk:tq xs.length gg)(ht:∀C s H fp,Kv (Cx.comp X (xs++ys) scope C s H fp) cs tc)(he:∀C s H fp,PE (Cx.comp X (xs++ys) scope C s H fp) elt te)
   {σ:St} {H2:Hp} {s2:Shared} {it:Addr} {fp:List Addr} {tn:Nat->Heap->Prop} {J:It} {Q:V->Hp->Prop} {PQ:Value->Addr->Result->Shared->Prop} (I:Inv X δ σ H2 s2) (T:tm X.prog X.w X.K tg J fp it tn) (t0:tn 0 s2.heap) (f2:∀b∈fp,nA X δ H2 b)
  (h:∀D,H2 D=none->tZ J xs.length gg tc te (j6 Θ σ) Q H2 D)
  (Sk:∀D C s' H',Inv X δ σ H' s'->Q (.ref D) H'->(∃m,s'.heap.Ns C m)->H' C=none->X.s₀.heap.objs.size<=C->C≠X.env.locals->(∀z c,X.env.cells.lookup z=some c->c≠C)->(∀p∈X.pn++δ,p.1≠C)->PQ (.ref D) C (.ok .next) s'):
  wpAny (model X.prog X.w) X.A (newList []) (λae s3=>wpAny (model X.prog X.w) X.A (newFunctionEnv scope X.env.globals (h_ X.env scope.names []) [] X.env.qual none .none (some X.env)) (λJf s4=>
   codeAny (model X.prog X.w) X.A (.compStart (.ListComp elt [⟨tg,iter,cs,0⟩] scope pos) 0 (.ref it) ae {Jf with scope:=relabel scope X.env}) (PQ ae Jf.locals) s4) X.xe s3) X.xe s2:=by
 have hD:H2 s2.heap.objs.size=none:=I.fresh;obtain ⟨W,⟨m0,w0⟩,step⟩:=h _ hD;refine wpAny_newObj_type ?_;have I3:Inv X δ σ (upd H2 s2.heap.objs.size (.lst [])) {s2 with heap:=s2.heap.push {cls:= .type "list",data:= .seq ([]:List Value).toArray}}:=Inv.Ef (t':=s2.toks) I (ys:=[]) (its:=[]) .nil (abE _);generalize RW:upd H2 s2.heap.objs.size (.lst [])=H3 at I3 w0;generalize QM:({s2 with heap:=s2.heap.push {cls:= .type "list",data:= .seq ([]:List Value).toArray}}:Shared)=s3 at I3;have NR:∀b∈fp,H3 b=none:=λb hb=>by obtain ⟨o,e,_⟩:=T.obj _ _ t0 b hb;rw [<-RW,Α (aaM (aas e))];exact (f2 b hb).1
 have t3:tn 0 s3.heap:=T.keep _ _ _ t0 λb hb o e=>by rw [<-QM];exact aag _ e
 refine wpAny_newFunctionEnv S.AV (λy hy=>nomatch hy) (λh4 QN PC=> ?_) S.kind;have hC:H3 s3.heap.objs.size=none:=I3.fresh
 have kp:∀b o,s3.heap.get? b=some o->h4.get? b=some o:=λb o e=>
  (PC.2 b (aaM (aas e))).trans (aag _ e)
 generalize LK:({s3 with heap:=h4,toks:=s3.toks+([]:List (Str×Value)).length}:Shared)=s4;have e4:s4.heap=h4:=by rw [<-LK]
 have BJ:∀z c,X.env.cells.lookup z=some c->c≠s3.heap.objs.size:=λz c e q=>by obtain ⟨v,w⟩:=I3.cell z c e;exact abp _ (q▸w.lt)
 have nR:∀z c,(h_ X.env scope.names []).lookup z=some c->X.env.cells.lookup z=some c:=λz c e=>oC scope.names [] (S.has I.ok) (λq=>nomatch q) e;have RY:s3.heap.objs.size≠X.env.locals:=Nat.ne_of_gt I3.lt;have ok:(Cx.comp X (xs++ys) scope s3.heap.objs.size s3 H3 fp).Ok:=by
  refine ⟨I3.ok.mod,S.kind,I3.ok.glob,I3.ok.blt,aal _,λz z' c e1 e2=>I3.ok.inj z z' c (nR z c e1) (nR z' c e2),λz hz=> ?_,λz c hz=>(by cases hz),I3.ok.hd,I3.ok.frames, .inl rfl,λb hb=>⟨?_,λz c e=> ?_⟩,I3.bs, ?_,λb o e hb=> ?_,λb hb hf=> ?_,I3.stack,I3.pB⟩
  ·have:=l6 (env:=X.env) scope.names [] (.inl (z5 S.AV hz));exact abF.mp this
  ·obtain ⟨o,e,_⟩:=T.obj _ _ t3 b hb;exact aaM (aas e)
  ·exact (f2 b hb).2.2.2.2.1 z c (nR z c e)
  ·exact aak I3.ok.G8 I3.sz
  ·obtain ⟨_,_,_,hy,_⟩:=f2 b hb;have e0:=(I3.ok.bs b o e).1;rcases hy with hy | hy
   ·exact I3.ok.Gr b o e hy
   ·exact aaE (aaz (aas e0) hy) (abp _)
  ·obtain ⟨_,hl,Q3,_⟩:=f2 b hb;exact (aaO.mp (I3.qI b hf)).elim hl Q3
 have hlen:((List.replicate xs.length (none:Option V))++j6 Θ σ).length=(xs++ys).length:=by rw [aae,aae,aaT,S.len];unfold j6;rw [aab]
 have I4:Inv X δ σ H3 s4:=by rw [<-LK];exact I3.kept kp
 have Ic:Inv (Cx.comp X (xs++ys) scope s3.heap.objs.size s3 H3 fp) [] ((List.replicate xs.length (none:Option V))++j6 Θ σ) H3 s4:=by
  refine ⟨ok,by rw [<-LK];rfl,I4.bare,Un.kept (by rw [e4];exact kp),⟨_,by rw [e4];exact QN,λi z v e1 e2 e3=> ?_⟩,λz c e=>I4.cell z c (nR z c e),hC,λz c e=>I4.j7 z c (nR z c e),(λp hp=>nomatch hp),I4.aR,hlen⟩;have e1:(xs++ys)[i]? =some z:=e1;by_cases hi:i < xs.length
  ·rw [aay (by rw [aaT];exact hi),List.getElem?_replicate,aaP hi] at e2;cases e2
  ·obtain ⟨j,rfl⟩:∃j,i=xs.length+j:=⟨i - xs.length,by omega⟩;have e1:ys[j]? =some z:=by rw [aav (by omega),Nat.add_sub_cancel_left] at e1;exact e1
   have e2:(j6 Θ σ)[j]? =some (some v):=by rw [aav (by rw [aaT];omega),aaT,Nat.add_sub_cancel_left] at e2;exact e2
   unfold j6 at e2;rw [aaf] at e2;cases hi:Θ[j]? with
   | none=>rw [hi] at e2;cases e2
   | some i=>
    rw [hi] at e2;have e2:(σ[i]?).join=some v:=aat e2;have e2:σ[i]? =some (some v):=by
     cases q:σ[i]? with
     | none=>rw [q] at e2;cases e2
     | some o=>rw [q] at e2;exact aaX some e2
    obtain ⟨c1,c2,c3⟩:=S.PN (z,i) (zv e1 hi);have c4:=r9 (env:=X.env) I.ok.kind c2 c3;have c3:(z,NameKind.free)∈scope.names:=PySem.mem_of_lookup c3;obtain ⟨m,hn,hl⟩:=I4.loc;obtain ⟨u,r,lk⟩:=hl i z v c1 e2 (.inr (.inl c2));refine ⟨u,r, .inr ⟨.inl c4, ?_⟩⟩;rcases lk with ⟨k,_⟩ | ⟨_,c,KU,z'⟩
    ·exact aaE ((show X.env.scope.names.lookup z=some .local from k).symm.trans c2) (by decide)
    ·obtain ⟨d,hd⟩:=abF.mp (l6 (env:=X.env) scope.names [] (.inl c3));have:=nR z d hd;rw [KU] at this;cases this;exact ⟨c,hd,z'⟩
 have loop:codeAny (model X.prog X.w) X.A (.compLoop (.ListComp elt [⟨tg,iter,cs,0⟩] scope pos) 0 (.ref it) (.ref s2.heap.objs.size) (compEnvC scope (h_ X.env scope.names []) s3.heap.objs.size X.env)) (PQ (.ref s2.heap.objs.size) s3.heap.objs.size) s4:=by
  have K_:∀{H':Hp},(∀b∈fp,H' b=none)->∀b∈fp,nA (Cx.comp X (xs++ys) scope s3.heap.objs.size s3 H3 fp) [] H' b:=λhn b hb=>
   ⟨hn b hb,(ok.Od b hb).1,ok.EO b hb, .inl hb,(ok.Od b hb).2,(λp hp=>nomatch hp)⟩
  refine codeAny_loop rfl (λn s'=>∃(i:Nat) (zs:List V) (os:St) (H':Hp),os.length=xs.length/\Inv (Cx.comp X (xs++ys) scope s3.heap.objs.size s3 H3 fp) [] (os++j6 Θ σ) H' s'/\tn i s'.heap/\(∀b∈fp,H' b=none)/\W i n zs H') (λn s5 z=> ?_) m0 ⟨0,[],List.replicate xs.length none,H3,by rw [aaT],Ic,T.keep _ _ _ t3 (λb hb o e=>by rw [e4];exact kp b o e),NR,w0⟩;obtain ⟨i,zs,os,H5,l5,I5,t5,K4,w5⟩:=z;show wpAny _ _ ((compTurn _ 0 (.ref it) _ _).onRaise _) _ _ s5;refine wpAny_noted ?_;rw [nO (ht s3.heap.objs.size s3 H3 fp).1];refine aac (wpAny_standAt (aac ?_));obtain ⟨yn,stop | go⟩:=step i n zs H5 w5
  ·obtain ⟨stop,q⟩:=stop;refine a_ (T.done (Cx.comp X (xs++ys) scope s3.heap.objs.size s3 H3 fp) rfl rfl rfl hc i [] s5 _ H5 _ I5 (K_ K4) t5 stop) λr s6 ⟨hr,I6⟩=> ?_;subst hr;refine aai (Sk _ _ s6 H5 ?_ q ?_ I6.free ?_ RY BJ λp hp z=> ?_)
   ·refine I3.J1 I6.os I6.base I6.aR I6.bare λb hb=> ?_;obtain ⟨_,g1,_,g3,g4,g5⟩:=f2 b hb;exact ⟨g3,g1,g4,g5⟩
   ·obtain ⟨m,hn,_⟩:=I6.loc;exact ⟨m,hn⟩
   ·exact I3.sz
   ·exact aaM (aas (I3.pin p hp).1) z
  ·obtain ⟨go,turn⟩:=go;refine a_ (T.item (Cx.comp X (xs++ys) scope s3.heap.objs.size s3 H3 fp) rfl rfl rfl hc i [] s5 _ H5 _ I5 (K_ K4) t5 go) λr s6 ⟨u,hr,h6⟩=> ?_;subst hr;refine aac (a_ h6 λ_ s7 ⟨y,H7,I7,r7,y7,t7,Ro⟩=> ?_);have Pu:=I7.pinned (K_ Ro) (T.obj _ _ t7);refine aac (abK (hg _ _ _ _ _ s7 _ H7 y u _ Pu r7 (hk y os _ H7 _ l5 (turn y _ y7 os l5))) (λ_ s8 z8=> ?_) λ_ _ f=>f.elim);obtain ⟨σ8,H8,I8,⟨Oa,l8,e8⟩,q8⟩:=z8;subst e8;refine aac (abK ((ht _ _ _ _).2 _ s8 _ _ _ I8 q8) (λb s9 z9=> ?_) λ_ _ f=>f.elim);obtain ⟨H9,I9,q9⟩:=z9;cases b with
   | false=>
    obtain ⟨m9,QB,w9⟩:=q9;refine aai ⟨rfl,m9,QB,i+1,zs,Oa,_,l8,I9.fW,T.keep _ _ _ t7 λb hb o e=>(I9.pin (b,o) (aau _ (aau _ (cw hb e)))).1,λb hb=> ?_,w9⟩;obtain ⟨o,e,_⟩:=T.obj _ _ t7 b hb;exact (I9.pin (b,o) (aau _ (aau _ (cw hb e)))).2.1
   | true=>
    refine aac (aac (abK (he _ _ _ _ _ s9 _ _ _ I9 q9) (λR9 Rq Q2=> ?_) λ_ _ f=>f.elim));obtain ⟨v10,ON,QX,Qg,EJ,O8,RB,MB,Q0⟩:=Q2;refine aac (abK (ou (X:=Cx.comp X (xs++ys) scope s3.heap.objs.size s3 H3 fp) _ Rq _ ON (.ref s2.heap.objs.size) [v10] _ [R9] (λ_ H'=>H'=upd ON s2.heap.objs.size (.lst (zs++[v10]))) QX rfl (.cons Qg .nil) ⟨_,zs,v10,rfl,rfl,EJ,O8,rfl⟩) (λ_ T8 SN=> ?_) λ_ _ f=>f.elim);obtain ⟨_,Tz,MX,_,Th⟩:=SN;subst Th;refine aai (aai ⟨rfl,RB,MB,i+1,zs++[v10],Oa,_,l8,MX.fW,T.keep _ _ _ t7 λb hb o e=>(MX.pin (b,o) (aau _ (aau _ (cw hb e)))).1,λb hb=> ?_,Q0⟩);obtain ⟨o,e,_⟩:=T.obj _ _ t7 b hb;exact (MX.pin (b,o) (aau _ (aau _ (cw hb e)))).2.1
 exact codeAny_compStart_list loop (T.self X.A 0 _ _ _ (T.keep _ _ _ t3 (λb hb o e=>by rw [e4];exact kp b o e)) loop)
theorem zS(S:Ψ X scope xs ys Θ)(hc:X.calm=true)(hi:PI X tg iter wi)(hg:∀C s H fp,PG (Cx.comp X (xs++ys) scope C s H fp) tg gg)(hk:tq xs.length gg)(ht:∀C s H fp,Kv (Cx.comp X (xs++ys) scope C s H fp) cs tc)(he:∀C s H fp,PE (Cx.comp X (xs++ys) scope C s H fp) elt te)(hs:∀x,foldedSetIterable iter X.env x=pure x:=by intro _;rfl):
  PE X (.ListComp elt [⟨tg,iter,cs,0⟩] scope pos) (AH wi xs.length gg tc te Θ):=by
 intro δ s σ H Q I h;rw [eval_ListComp];refine wpAny_comprehension_free (use:=none) rfl hs (mz (S.has I.ok)) S.kind S.names (a_ (hi δ s σ H _ I h) λv s1 h1=>a_ h1 λKx s2 h2=> ?_);obtain ⟨it,fp,tn,J,H2,rfl,I2,T,t0,f2,q⟩:=h2;refine oI S hc hg hk ht he (Q:=Q) I2 T t0 f2 q λD C s' H' I' q' n' hC hz hL GF hp=> ?_;obtain ⟨m,n'⟩:=n';exact ⟨m,n',λh' sb=>⟨.ref D,H',I'.turned (it:=C) (t':=s'.toks) (λb o hb e=>(sb.2 b hb).trans e) hC hL (.inr hz) GF hp,rfl,q'⟩⟩
theorem sf{i:Nat}{y:Str}{py iO:Pos}(hN:X.N.Nodup)(Bo:X.N[i]? =some y)(hy:Loc X.env.scope y)(S:Ψ X scope xs ys Θ)(hc:X.calm=true)(hi:PI X tg iter wi)(hg:∀C s H fp,PG (Cx.comp X (xs++ys) scope C s H fp) tg gg)(hk:tq xs.length gg)(ht:∀C s H fp,Kv (Cx.comp X (xs++ys) scope C s H fp) cs tc)(he:∀C s H fp,PE (Cx.comp X (xs++ys) scope C s H fp) elt te)
  (BP:swapsWith (.ListComp elt [⟨tg,iter,cs,0⟩] scope pos) (some (.Name y py)) iO.line X.env=pure true) (hs:∀x,foldedSetIterable iter X.env x=pure x)
  (hf:X.fn y=true\/X.env.scope.names.lookup y=some .local):
  PS X (.Assign [.Name y py] (.ListComp elt [⟨tg,iter,cs,0⟩] scope pos) iO) (λD σ H=>AH wi xs.length gg tc te Θ σ H λv H1=>D.nx (σ.set i (some v)) H1):=by
 intro δ s σ H D I h;rw [exec_Assign_Name_used _ _ _ _ BP];refine aac (wpAny_standAt (aac ?_));show wpAny _ _ (do let _<-comprehension (.ListComp elt [⟨tg,iter,cs,0⟩] scope pos) scope X.env _ (newList []) false (eval iter X.env) (some (assign (.Name y py) X.env))) _ _ s;refine aac (abK (wpAny_comprehension_free (use:=some (assign (.Name y py) X.env)) (Q:=λ_ s'=>SP X δ D .next s') rfl hs (mz (S.has I.ok)) S.kind S.names (a_ (hi δ s σ H _ I h) λv s1 h1=>a_ h1 λKx s2 h2=> ?_)) (λ_ s' hq=>aai (aai hq)) λ_ _ e=>e);obtain ⟨it,fp,tn,J,H2,rfl,I2,T,t0,f2,q⟩:=h2;refine oI S hc hg hk ht he (Q:=λv H1=>D.nx (σ.set i (some v)) H1) I2 T t0 f2 q λDl C s' H' I' q' n' hC hz hL GF hp=> ?_;obtain ⟨m,n'⟩:=n';show wpAny _ _ (assign (.Name y py) X.env (.ref Dl)) _ _ s';refine wpAny_assign_Name (oO I' hN Bo hy (v:= .ref Dl) rfl (λs3 I3 Ln=> ?_) hf);obtain ⟨a,Ln,ha⟩:=Ln;have Sx:C≠a:=by
  rcases ha with rfl | ha
  ·exact hL
  ·exact (GF _ _ ha).symm
 exact ⟨m,n'.sameBut Ln Sx,λh' sb=>⟨_,H',I3.turned (it:=C) (t':=s3.toks) (λb o hb e=>(sb.2 b hb).trans e) hC hL (.inr hz) GF hp,q'⟩⟩
end
section
variable{K:fv}
theorem cY.RA{x:Str}{k:Nat}{sp:Sp}(F:cY K x qual st f fd)(S:χ N ps (ο st))(len:∀vs H Q E,sp vs H Q E->vs.length=ps.length)
  (s_:∀(bq:Value) (A:Around) (outer:List Env) (s:Shared) (H:Hp) (vs:List V) (Q:VK) (E:XK),aX k (A.deeper (envOfC qual (ο st) s.heap.objs.size f bq))->sp vs H Q E->
   ∃t,yc (pE (cq P w) P w K mg base N qual (ο st) f bq A outer s H E) (dY st) t/\t {nx:=λ_ H'=>Q .aW H',rt:=Q} (gk N vs) H):ao P w K mg base (cq P w) (k+1) f fd ps sp:=by
 obtain ⟨oc,od,kV,doc,pm,an,bq,ct,zX,rfl,lk,y4⟩:=F.ex;exact Hh lk y4 S len λA outer s H vs Q E hr Dj=>s_ bq A outer s H vs Q E hr Dj
end
theorem cT:bM (cq P w) X (λ_=>E0):=by intro δ σ H s e s' _ hx;obtain ⟨_,_,_,_,_,_,_,_,hE⟩:=hx;exact hE.elim
theorem log2_lt{n:Nat}{k:Nat}(h:n < 2 ^ k)(hk:0 < k):n.log2 < k:=by
 by_cases h0:n=0
 ·rw [h0,show Nat.log2 0=0 from rfl];exact hk
 ·exact (Nat.log2_lt h0).mpr h
def fc(i:Int):Prop:=i.natAbs < 2 ^ 8000
theorem xS{i j:Int}(hi:fc i)(hj:fc j):IntMulOk i j:=by
 have b:∀{i:Int},fc i->Builtin.Int.intBits i<=8000:=λ{i} h=>by
  unfold Builtin.Int.intBits;split
  ·exact abE _
  ·have:=log2_lt (k:=8000) h (by decide);omega
 have b1:=b hi;have b2:=b hj;have h3:Builtin.Int.intTooBig (Builtin.Int.intBits i+Builtin.Int.intBits j)=false:=by
  unfold Builtin.Int.intTooBig;refine aaF ?_;have:(bitsLine:Int)=134217728:=by decide
  omega
 unfold IntMulOk;rw [h3,Bool.and_false];exact aap
section
theorem Bv:gA X (binaryOp .Mult) (rI (λi j=>fc i/\fc j) λi j=> .int (i * j)):=K2 λ_ _ _ _ _ _ _ hc q=>mul_int q (xS hc.1 hc.2)
theorem sN:gA X (binaryOp .FloorDiv) (rI (λ_ j=>j≠0/\fc j) λi j=> .int (i.fdiv j)):=K2 λ_ _ _ _ _ _ _ hc q=>
 floordiv_int hc.1 q (.inl (PyProof.noPylong_of_log2 (aaz (log2_lt (k:=8000) hc.2 (by decide)) (by decide))))
end
def y6:V->Option Value
 | .ty T=>some (.type T)
 | .ref C=>some (.ref C)
 | _=>none
theorem B9{c:V}{u t:Value}(r:Τ c u)(h:y6 c=some t):u=t:=by
 cases c with
 | ty T=>cases r;exact aat h
 | ref C=>cases r;exact aat h
 | _=>cases h
section
theorem j9:cn X (.builtin "isinstance") (λxs H Q=>∃x c t t' b,xs=[x,c]/\gc X.K H x t/\y6 c=some t'/\PySem.W.kitOne X.K t t'=some b/\Q (.bl b) H):=by intro δ s σ H xs us Q I r h;obtain ⟨x,c,t,t',b,rfl,ty,hc,hk,q⟩:=h;obtain ⟨u,u',rfl,r1,r2⟩:=J_ r;cases B9 r2 hc;exact x9 I r1 ty hk λtk=>⟨.bl b,H,I.tok tk,rfl,q⟩
end
def lM:List V->List V->Bool
 | [],[]=>true
 | x::xs,y::ys=>fo x y&&lM xs ys
 | _,_=>false
theorem hX:∀(xs ys:List V) (e:Nat->Bool),(∀j x y,xs[j]? =some x->ys[j]? =some y->e j=fo x y)->((List.range (min xs.length ys.length)).all e&&xs.length==ys.length)=lM xs ys
 | [],[],e,_=>rfl
 | [],_::_,e,_=>by simp [lM]
 | _::_,[],e,_=>by simp [lM]
 | x::xs,y::ys,e,h=>by
  have ih:=hX xs ys (λj=>e (j+1)) λj x y h1 h2=>h (j+1) x y h1 h2;have h0:e 0=fo x y:=h 0 x y rfl rfl;show _=(fo x y&&lM xs ys);rw [<-ih,<-h0];have e1:min (x::xs).length (y::ys).length=min xs.length ys.length+1:=by simp only [List.length_cons];omega
  rw [e1,abe,abr,List.all_map];have e2:((x::xs).length==(y::ys).length)=(xs.length==ys.length):=by simp only [List.length_cons];rw [Bool.eq_iff_iff];simp
  rw [e2,Bool.and_assoc];rfl
def JV(K:fv):R2:=λx y H Q=>∃a b xs ys,x= .ref a/\y= .ref b/\gP K H a xs/\gP K H b ys/\xs.all cg=true/\ys.all cg=true/\Q (.bl (lM xs ys)) H
def IJ(K:fv):R2:=λx y H Q=>∃a b xs ys,x= .ref a/\y= .ref b/\gP K H a xs/\gP K H b ys/\xs.all cg=true/\ys.all cg=true/\Q (.bl (!lM xs ys)) H
theorem iP:∀{xs:List V} {j:Nat} {x:V},xs.all cg=true->xs[j]? =some x->cg x=true
 | _::_,0,_,h,e=>by rw [abr,aax] at h;cases e;exact h.1
 | _::_,j+1,_,h,e=>by rw [abr,aax] at h;exact iP h.2 e
section
theorem Fq(hu:X.A.units < cLine):gA X (compareOp .NotEq) (IJ X.K):=by
 intro δ s σ H x y v u Q I rx ry h;obtain ⟨a,b,xs,ys,rfl,rfl,h1,h2,f1,f2,q⟩:=h;cases rx;cases ry;obtain ⟨i1,v1,t1,_⟩:=I.tuple h1;obtain ⟨i2,v2,t2,_⟩:=I.tuple h2;have l1:=v1.length;have l2:=v2.length;refine SeqAt.RcNeAt.tuples (e:=λj=>match xs[j]?,ys[j]? with | some x,some y=>fo x y | _,_=>true) (show s.heap.IsTuple a i1.toArray from t1) (show s.heap.IsTuple b i2.toArray from t2) hu (λj h1 h2=> ?_) _ _ _ _ ?_
 ·have b1:j < i1.length:=by simpa using h1
  have b2:j < i2.length:=by simpa using h2
  have e1:xs[j]? =some (xs[j]'(by omega)):=aaa _;have e2:ys[j]? =some (ys[j]'(by omega)):=aaa _;obtain ⟨u1,g1,r1⟩:=v1.get e1;obtain ⟨u2,g2,r2⟩:=v2.get e2;rw [aaa b1] at g1;rw [aaa b2] at g2;have w1:i1.toArray[j]=u1:=by simpa using Option.some.inj g1
  have w2:i2.toArray[j]=u2:=by simpa using Option.some.inj g2
  rw [w1,w2];simp only [e1,e2];exact pF r1 r2 (iP f1 e1) (iP f2 e2)
 ·rw [List.size_toArray,List.size_toArray,<-l1,<-l2,hX xs ys _ (λj x y h1 h2=>by simp only [h1,h2])];exact ⟨.bl (!lM xs ys),H,I,rfl,q⟩
theorem zy(hu:X.A.units < cLine):gA X (compareOp .Eq) (JV X.K):=by
 intro δ s σ H x y v u Q I rx ry h;obtain ⟨a,b,xs,ys,rfl,rfl,h1,h2,f1,f2,q⟩:=h;cases rx;cases ry;obtain ⟨i1,v1,t1,_⟩:=I.tuple h1;obtain ⟨i2,v2,t2,_⟩:=I.tuple h2;have l1:=v1.length;have l2:=v2.length;refine SeqAt.eq_tupleAt (e:=λj=>match xs[j]?,ys[j]? with | some x,some y=>fo x y | _,_=>true) (show s.heap.IsTuple a i1.toArray from t1) (show s.heap.IsTuple b i2.toArray from t2) hu (λj h1 h2=> ?_) ?_
 ·have b1:j < i1.length:=by simpa using h1
  have b2:j < i2.length:=by simpa using h2
  have e1:xs[j]? =some (xs[j]'(by omega)):=aaa _;have e2:ys[j]? =some (ys[j]'(by omega)):=aaa _;obtain ⟨u1,g1,r1⟩:=v1.get e1;obtain ⟨u2,g2,r2⟩:=v2.get e2;rw [aaa b1] at g1;rw [aaa b2] at g2;have w1:i1.toArray[j]=u1:=by simpa using Option.some.inj g1
  have w2:i2.toArray[j]=u2:=by simpa using Option.some.inj g2
  rw [w1,w2];simp only [e1,e2];exact pF r1 r2 (iP f1 e1) (iP f2 e2)
 ·rw [List.size_toArray,List.size_toArray,<-l1,<-l2,hX xs ys _ (λj x y h1 h2=>by simp only [h1,h2])];exact ⟨.bl (lM xs ys),H,I,rfl,q⟩
end
theorem x_(bs:List Bool):(List.range bs.length).any (λi=>bs.getD i false)=bs.any id:=by
 induction bs with
 | nil=>rfl
 | cons b bs ih=>
  rw [aaD,abe,List.any_cons,List.any_map,List.any_cons,<-ih];rfl
theorem pk:∀{bs:List Bool} {us:List Value},Μ (bs.map V.bl) us->us=bs.map Value.bool
 | [],_,r=>by cases r;rfl
 | b::bs,_,r=>by
  cases r with
  | cons h t=>
   cases h;rw [pk t];rfl
theorem qV{prog:Program}{bs:List Bool}:TruthOf prog w A (λi v=>(bs.map Value.bool).toArray[i]? =some v) (λi=>bs.getD i false):=by
 intro i v s Q E h q;have h':(bs.map Value.bool)[i]? =some v:=by simpa using h
 rw [aaf] at h';cases e:bs[i]? with
 | none=>rw [e] at h';cases h'
 | some b=>
  rw [e] at h';cases h';have q':Q b s:=by
   have eb:bs.getD i false=b:=by rw [aaS,e];rfl
   exact eb▸q
  exact wpAny_truthy_bool q'
def Hk(K:fv):List V->Hp->VK->Prop:=λxs H Q=>∃(p:Addr) (bs:List Bool),xs=[.ref p]/\eN K H p (bs.map V.bl)/\Q (.bl (bs.any id)) H
section
theorem AK (hc : X.calm = true) : cn X (.builtin "any") (Hk X.K) := by
  intro δ s σ H xs us Q I r h;obtain ⟨p, bs, rfl, hq, q⟩ := h;obtain ⟨u, rfl, r1⟩ := jo r;cases r1;obtain ⟨its, rv, pl, hz⟩ := I.list hq;have GA := pk rv;subst GA;refine call_any_walk (wpAny_pyIter_list pl.isList ?_);have lp : p < s.heap.objs.size := by obtain ⟨o, e, _⟩ := pl.isList; exact aas e
  refine ⟨s.heap.objs.size, _, _, _, _, _, λi => bs.getD i false, rfl, Walks.list (show X.A.in1.handled = none from I.ok.hd hc) s.heap.objs.size p (aaM lp) (bs.map Value.bool).toArray, ⟨⟨_, aaG _ rfl, rfl, rfl⟩, pl.isList.at λo e => aag _ e⟩, qV, λh' tk hk => ?_⟩;refine ⟨.bl (bs.any id), H, I.kept λb o e => hk b o (λz => by have : b = s.heap.objs.size := (by simpa using z); exact Nat.lt_irrefl _ (this ▸ Heap.lt_size e)) (Heap.get?_push_of_some _ e), ?_, q⟩;rw [aaj, aab, x_];rfl
end
end L2
namespace PySem
open Sem (wp)
end PySem
namespace PySem.W
open PySem PySem.Builtin PySem.Builtin.ObjectAttr
end PySem.W
namespace PySem
open Sem (wp)
end PySem
namespace L2
open PySem PySem.Spec PyProof.Rows
def xO(a C:Addr)(od:Option Addr):HO:= .ext λh=>∃ob vs,h.get? a=some ob/\ob.cls= .ref C/\ob.dict=od/\ob.data= .fields vs
inductive Dt where
 | aW
 | bl (b:Bool)
 | int (i:Int)
 | str (x:Str)
 | tup (xs:List Dt)
 | lst (xs:List Dt)
 | obj (C:Addr) (ns:List Str) (xs:List Dt)
 | loc (k:Nat)
 | ref (a:Addr)
 | ty (n:String)
 | cE (ns:List Int)
 | kt (xs:List Dt)
 | exc (C:Addr) (ns:List Str) (xs:List Dt)
 | Hs (x C:Addr) (od:Option Addr) (ns:List Str) (xs:List Dt)
inductive MO where
 | lst (xs:List Dt)
 | ins (C:Addr) (ns:List Str) (xs:List Dt)
 | Bc (ks:List Key) (xs:List Dt)
 | raw (u:Addr->HO)
 | Fy (u:Addr->List V->HO) (ds:List Dt)
abbrev Ms:=List MO
abbrev En:=List (Option Dt)
mutual
def Den(K:fv)(G:Hp)(L:List Addr):Dt->V->Prop
 | .aW,v=>v= .aW
 | .bl b,v=>v= .bl b
 | .int i,v=>v= .int i
 | .str x,v=>v= .str x
 | .tup ds,v=>∃a vs,v= .ref a/\G a=some (.tup vs)/\Γ K G L ds vs
 | .lst ds,v=>∃a vs,v= .ref a/\G a=some (.lst vs)/\Γ K G L ds vs
 | .obj C ns ds,v=>∃a dx vs,v= .ref a/\G a=some (.ins C dx (ns.zip vs))/\ns.length=ds.length/\Γ K G L ds vs
 | .loc k,v=>∃a,v= .ref a/\L[k]? =some a
 | .ref a,v=>v= .ref a
 | .ty n,v=>v= .ty n
 | .cE ns,v=>∃a,v= .ref a/\eN K G a (ns.map V.int)
 | .kt ds,v=>∃a vs,v= .ref a/\gP K G a vs/\Γ K G L ds vs
 | .exc C ns ds,v=>∃a od vs,v= .ref a/\G a=some (xO a C od)/\((ns=[]/\od=none)\/∃dx,od=some dx/\G dx=some (.xd (ns.zip vs)))/\ns.length=ds.length/\Γ K G L ds vs
 | .Hs x _ od ns ds,v=>∃vs,v= .ref x/\((ns=[]/\od=none)\/∃dx,od=some dx/\G dx=some (.xd (ns.zip vs)))/\ns.length=ds.length/\Γ K G L ds vs
def Γ(K:fv)(G:Hp)(L:List Addr):List Dt->List V->Prop
 | [],vs=>vs=[]
 | d::ds,vs=>∃v r,vs=v::r/\Den K G L d v/\Γ K G L ds r
end
def Pre(L L':List Addr):Prop:=∃t,L'=L++t
theorem Pre.refl(L:List Addr):Pre L L:=⟨[],by simp⟩
theorem Pre.trans{a b c:List Addr}(h:Pre a b)(h':Pre b c):Pre a c:=by obtain ⟨t,rfl⟩:=h;obtain ⟨u,rfl⟩:=h';exact ⟨t++u,by simp⟩
theorem Pre.get{a b:List Addr}(h:Pre a b){k:Nat}{x:Addr}(e:a[k]? =some x):b[k]? =some x:=by obtain ⟨t,rfl⟩:=h;have hk:k < a.length:=(aad.mp e).1;rw [aay hk];exact e
theorem bH.rd{H H':Hp}{a:Addr}{u:HO}(e:bH H H')(h:Rd H a u):Rd H' a u:=by
 rcases h with h | ⟨o,h⟩
 ·exact .inl (e _ _ h)
 ·exact .inr ⟨o,e _ _ h⟩
theorem bH.Jx{K:fv}{H H':Hp}{a:Addr}{xs:List V}(e:bH H H')(h:gP K H a xs):gP K H' a xs:=by
 rcases h with h | h
 ·exact .inl (e.rd h)
 ·exact .inr h
section
variable{K:fv}{G G':Hp}{L L':List Addr}
mutual
theorem Den.mono(g:bH G G')(l:Pre L L'):∀(d:Dt) (v:V),Den K G L d v->Den K G' L' d v
 | .aW,_,h=>h
 | .bl _,_,h=>h
 | .int _,_,h=>h
 | .str _,_,h=>h
 | .tup ds,_,⟨a,vs,e,h1,h2⟩=>⟨a,vs,e,g _ _ h1,Γ.mono g l ds vs h2⟩
 | .lst ds,_,⟨a,vs,e,h1,h2⟩=>⟨a,vs,e,g _ _ h1,Γ.mono g l ds vs h2⟩
 | .obj C ns ds,_,⟨a,dx,vs,e,h1,hn,h2⟩=>⟨a,dx,vs,e,g _ _ h1,hn,Γ.mono g l ds vs h2⟩
 | .loc k,_,⟨a,e,h1⟩=>⟨a,e,l.get h1⟩
 | .ref _,_,h=>h
 | .ty _,_,h=>h
 | .cE _,_,⟨a,e,h1⟩=>⟨a,e,g.seq h1⟩
 | .kt ds,_,⟨a,vs,e,h1,h2⟩=>⟨a,vs,e,g.Jx h1,Γ.mono g l ds vs h2⟩
 | .exc _ _ ds,_,⟨a,od,vs,e,h1,h2,h3,h4⟩=>⟨a,od,vs,e,g _ _ h1,h2.imp (λz=>z) (λ⟨dx,z1,z2⟩=>⟨dx,z1,g _ _ z2⟩),h3,Γ.mono g l ds vs h4⟩
 | .Hs _ _ _ _ ds,_,⟨vs,e,h2,h3,h4⟩=>⟨vs,e,h2.imp (λz=>z) (λ⟨dx,z1,z2⟩=>⟨dx,z1,g _ _ z2⟩),h3,Γ.mono g l ds vs h4⟩
theorem Γ.mono(g:bH G G')(l:Pre L L'):∀(ds:List Dt) (vs:List V),Γ K G L ds vs->Γ K G' L' ds vs
 | [],_,h=>h
 | d::ds,_,⟨v,r,e,h1,h2⟩=>⟨v,r,e,Den.mono g l d v h1,Γ.mono g l ds r h2⟩
end
theorem Γ.pair:∀{ds:List Dt} {vs:List V},Γ K G L ds vs->Paired (Den K G L) ds vs
 | [],_,h=>by have h:_=_:=h;subst h;exact .nil
 | d::ds,_,⟨v,r,e,h1,h2⟩=>by subst e;exact .cons h1 (Γ.pair h2)
theorem Γ.of:∀{ds:List Dt} {vs:List V},Paired (Den K G L) ds vs->Γ K G L ds vs
 | _,_, .nil=>rfl
 | _,_, .cons h t=>⟨_,_,rfl,h,Γ.of t⟩
end
section
variable{α β:Type}{F:α->β->Prop}
theorem vM:∀{xs:List α} {us:List β} {i:Nat} {x:α},Paired F xs us->xs[i]? =some x->∃u,us[i]? =some u/\F x u
 | _,_,_,_, .nil,e=>by simp at e
 | _,_,0,_, .cons r _,e=>by simp at e;subst e;exact ⟨_,rfl,r⟩
 | _,_,i+1,x, .cons _ t,e=>by obtain ⟨u,h1,h2⟩:=vM (i:=i) (x:=x) t (by simpa using e);exact ⟨u,by simpa using h1,h2⟩
theorem vH{x:α}{u:β}(r:F x u):∀{xs:List α} {us:List β} (i:Nat),Paired F xs us->Paired F (xs.set i x) (us.set i u)
 | _,_,_, .nil=> .nil
 | _,_,0, .cons _ t=> .cons r t
 | _,_,i+1, .cons q t=> .cons q (vH r i t)
theorem qk:∀{xs ys:List α} {us ws:List β},Paired F xs us->Paired F ys ws->Paired F (xs++ys) (us++ws)
 | _,_,_,_, .nil,s=>s
 | _,_,_,_, .cons r t,s=> .cons r (qk t s)
theorem mH:∀{xs:List α} {us:List β} (n:Nat),Paired F xs us->Paired F (xs.take n) (us.take n)
 | _,_,0,_=> .nil
 | _,_,_+1, .nil=> .nil
 | _,_,n+1, .cons r t=> .cons r (mH n t)
theorem mf:∀{xs:List α} {us:List β} (n:Nat),Paired F xs us->Paired F (xs.drop n) (us.drop n)
 | _,_,0,r=>r
 | _,_,_+1, .nil=> .nil
 | _,_,n+1, .cons _ t=>mf n t
theorem wq{xs:List α}{us:List β}(h:Paired F xs us):∀k:Nat,Paired F (List.replicate k xs).flatten (List.replicate k us).flatten
 | 0=> .nil
 | k+1=>by rw [aa7,aa7,abm,abm];exact qk h (wq h k)
end
section
variable{K:fv}{G:Hp}{L:List Addr}
theorem Γ.length{ds:List Dt}{vs:List V}(h:Γ K G L ds vs):ds.length=vs.length:=Paired.length h.pair
theorem Γ.get{ds:List Dt}{vs:List V}{i:Nat}{d:Dt}(h:Γ K G L ds vs)(e:ds[i]? =some d):∃v,vs[i]? =some v/\Den K G L d v:=vM h.pair e
theorem Γ.app{ds es:List Dt}{vs us:List V}(h:Γ K G L ds vs)(h':Γ K G L es us):Γ K G L (ds++es) (vs++us):= .of (qk h.pair h'.pair)
theorem cX:∀{ns:List Int},Γ K G L (ns.map Dt.int) (ns.map V.int)
 | []=>rfl
 | n::ns=>⟨_,_,rfl,rfl,cX⟩
theorem aY{d:Dt}{vs:List V}(h:Γ K G L [d] vs):∃v,vs=[v]/\Den K G L d v:=by obtain ⟨v,r,rfl,h1,h2⟩:=h;have h2:r=[]:=h2;subst h2;exact ⟨v,rfl,h1⟩
theorem dq{d e:Dt}{vs:List V}(h:Γ K G L [d,e] vs):∃v u,vs=[v,u]/\Den K G L d v/\Den K G L e u:=by obtain ⟨v,r,rfl,h1,h2⟩:=h;obtain ⟨u,rfl,h3⟩:=aY h2;exact ⟨v,u,rfl,h1,h3⟩
end
def ya(K:fv)(G:Hp)(L:List Addr)(H:Hp)(a:Addr):MO->Prop
 | .lst ds=>∃vs,H a=some (.lst vs)/\Γ K G L ds vs
 | .ins C ns ds=>∃dx vs,H a=some (.ins C dx (ns.zip vs))/\ns.length=ds.length/\Γ K G L ds vs
 | .Bc ks ds=>∃vs,H a=some (.dK (ks.zip vs))/\ks.length=ds.length/\Γ K G L ds vs
 | .raw u=>H a=some (u a)
 | .Fy u ds=>∃vs,H a=some (u a vs)/\Γ K G L ds vs
structure Rl(K:fv)(G:Hp)(L:List Addr)(M:Ms)(H:Hp):Prop where
 sub:bH G H
 len:L.length=M.length
 nd:L.Nodup
 fG:∀(k:Nat) (a:Addr) (m:MO),L[k]? =some a->M[k]? =some m->G a=none/\ya K G L H a m
structure Ex(G:Hp)(L:List Addr)(H:Hp)(G':Hp)(L':List Addr)(H':Hp):Prop where
 g:bH G G'
 l:Pre L L'
 fr:∀b,G b=none->H b≠none->G' b=none
 out:∀b o,H b=some o->b∉L->H' b=some o
 new:∀b∈L',b∈L\/H b=none
 yf:∀b,H b≠none->H' b≠none
theorem Ex.refl(G:Hp)(L:List Addr)(H:Hp):Ex G L H G L H:=⟨.refl _, .refl _,λ_ h _=>h,λ_ _ h _=>h,λ_ h=> .inl h,λ_ h=>h⟩
theorem Ex.trans{G:Hp}{L:List Addr}{H G1:Hp}{L1:List Addr}{H1 G2:Hp}{L2:List Addr}{H2:Hp}(a:Ex G L H G1 L1 H1)(b:Ex G1 L1 H1 G2 L2 H2):Ex G L H G2 L2 H2 where
 g:=a.g.trans b.g
 l:=a.l.trans b.l
 fr:=λx h1 h2=>b.fr x (a.fr x h1 h2) (a.yf x h2)
 out:=λx o h1 h2=>b.out x o (a.out x o h1 h2) λz=>(a.new x z).elim h2 λq=>by rw [h1] at q;cases q
 new:=λx h=>by
  rcases b.new x h with z | z
  ·exact a.new x z
  ·right;cases q:H x with
   | none=>rfl
   | some o=>exact absurd z (a.yf x (by rw [q];simp))
 yf:=λx h=>b.yf x (a.yf x h)
theorem ya.there{K:fv}{G:Hp}{L:List Addr}{H:Hp}{a:Addr}{m:MO}(h:ya K G L H a m):H a≠none:=by
 cases m with
 | lst ds=>obtain ⟨vs,e,_⟩:=h;rw [e];simp
 | ins C ns ds=>obtain ⟨dx,vs,e,_⟩:=h;rw [e];simp
 | Bc ks ds=>obtain ⟨vs,e,_⟩:=h;rw [e];simp
 | raw u=>have h:H a=some (u a):=h;rw [h];simp
 | Fy u ds=>obtain ⟨vs,e,_⟩:=h;rw [e];simp
theorem ya.mono{K:fv}{G G':Hp}{L L':List Addr}{H H':Hp}{a:Addr}{m:MO}(g:bH G G')(l:Pre L L')(e:H' a=H a)(h:ya K G L H a m):ya K G' L' H' a m:=by
 cases m with
 | lst ds=>obtain ⟨vs,e1,h⟩:=h;exact ⟨vs,e.trans e1,Γ.mono g l _ _ h⟩
 | ins C ns ds=>obtain ⟨dx,vs,e1,h0,h⟩:=h;exact ⟨dx,vs,e.trans e1,h0,Γ.mono g l _ _ h⟩
 | Bc ks ds=>obtain ⟨vs,e1,h0,h⟩:=h;exact ⟨vs,e.trans e1,h0,Γ.mono g l _ _ h⟩
 | raw u=>exact e.trans h
 | Fy u ds=>obtain ⟨vs,e1,h⟩:=h;exact ⟨vs,e.trans e1,Γ.mono g l _ _ h⟩
section
variable{K:fv}{G:Hp}{L:List Addr}{M:Ms}{H:Hp}{p:Addr}{o:HO}
theorem Rl.oY(r:Rl K G L M H){a:Addr}(h:a∈L):∃(k:Nat) (m:MO),L[k]? =some a/\M[k]? =some m/\G a=none/\ya K G L H a m:=by
 obtain ⟨k,hk,e⟩:=List.getElem_of_mem h;have e1:L[k]? =some a:=by rw [aaa hk,e]
 have e2:M[k]? =some (M[k]'(by rw [<-r.len];exact hk)):=aaa _;exact ⟨k,_,e1,e2,r.fG k a _ e1 e2⟩
theorem Rl.HM(r:Rl K G L M H)(hp:H p=none):p∉L:=λz=>by obtain ⟨k,m,_,_,_,h⟩:=r.oY z;exact h.there hp
theorem Rl.CH(r:Rl K G L M H)(hp:H p=none):Rl K (upd G p o) L M (upd H p o) where
 sub:=λb u e=>by
  by_cases hb:b=p
  ·subst hb;rw [Ξ] at e⊢;exact e
  ·rw [Α hb] at e⊢;exact r.sub b u e
 len:=r.len
 nd:=r.nd
 fG:=λk a m h1 h2=>by obtain ⟨q1,q2⟩:=r.fG k a m h1 h2;have hb:a≠p:=λz=>q2.there (by rw [z];exact hp);exact ⟨by rw [Α hb];exact q1,q2.mono (λb u e=>by rw [Α (λz=>by rw [z,r.sub.free hp] at e;cases e)];exact e) (.refl _) (Α hb)⟩
theorem Rl.G7(r:Rl K G L M H)(hp:H p=none):Ex G L H (upd G p o) L (upd H p o) where
 g:=λb u e=>by rw [Α (λz=>by rw [z,r.sub.free hp] at e;cases e)];exact e
 l:= .refl _
 fr:=λb h1 h2=>by rw [Α (λz=>h2 (by rw [z];exact hp))];exact h1
 out:=λb u h1 _=>by rw [Α (λz=>by rw [z,hp] at h1;cases h1)];exact h1
 new:=λb h=> .inl h
 yf:=λb h=>by rw [Α (λz=>h (by rw [z];exact hp))];exact h
theorem Rl.Eb{m:MO}(r:Rl K G L M H)(hp:H p=none)(hm:ya K G (L++[p]) (upd H p o) p m):Rl K G (L++[p]) (M++[m]) (upd H p o) where
 sub:=λb u e=>by rw [Α (λz=>by rw [z,r.sub.free hp] at e;cases e)];exact r.sub b u e
 len:=by rw [aae,aae,r.len];rfl
 nd:=List.nodup_append.mpr ⟨r.nd,by simp,λa ha b hb=>by
  have e:b=p:=by simpa using hb
  rw [e];exact λz=>r.HM hp (z▸ha)⟩
 fG:=λk a m' h1 h2=>by
  by_cases hk:k < L.length
  ·rw [aay hk] at h1;rw [aay (by rw [<-r.len];exact hk)] at h2;obtain ⟨q1,q2⟩:=r.fG k a m' h1 h2;exact ⟨q1,q2.mono (.refl _) ⟨[p],rfl⟩ (Α λz=>q2.there (by rw [z];exact hp))⟩
  ·have e:k=L.length:=by have:=(aad.mp h1).1;rw [aae] at this;simp at this;omega
   rw [e,aav (aal _)] at h1;rw [e,r.len,aav (aal _)] at h2;simp at h1 h2;subst h1 h2;exact ⟨r.sub.free hp,hm⟩
theorem Rl.MG(r:Rl K G L M H)(hp:H p=none):Ex G L H G (L++[p]) (upd H p o) where
 g:= .refl _
 l:=⟨[p],rfl⟩
 fr:=λb h1 _=>h1
 out:=λb u h1 _=>by rw [Α (λz=>by rw [z,hp] at h1;cases h1)];exact h1
 new:=λb h=>by
  rcases aaI.mp h with z | z
  ·exact .inl z
  ·have e:b=p:=by simpa using z
   right;rw [e];exact hp
 yf:=λb h=>by rw [Α (λz=>h (by rw [z];exact hp))];exact h
theorem Rl.setM{k:Nat}{a:Addr}{m:MO}(r:Rl K G L M H)(hk:L[k]? =some a)(hm:ya K G L (upd H a o) a m):Rl K G L (M.set k m) (upd H a o) where
 sub:=λb u e=>by obtain ⟨k',m',e1,e2,q1,_⟩:=r.oY (aaw hk);rw [Α (λz=>by rw [z,q1] at e;cases e)];exact r.sub b u e
 len:=by rw [aa6];exact r.len
 nd:=r.nd
 fG:=λk' a' m' h1 h2=>by
  by_cases e:k'=k
  ·subst e;rw [hk] at h1;cases h1;have hl:k' < M.length:=by rw [<-r.len];exact (aad.mp hk).1
   rw [aa3 hl] at h2;cases h2;obtain ⟨_,_,_,_,q1,_⟩:=r.oY (aaw hk);exact ⟨q1,hm⟩
  ·rw [aaR (λz=>e z.symm)] at h2;obtain ⟨q1,q2⟩:=r.fG k' a' m' h1 h2;have ne:a'≠a:=λz=>by subst z;exact e ((List.getElem?_inj (aad.mp h1).1 r.nd).mp (h1.trans hk.symm))
   exact ⟨q1,q2.mono (.refl _) (.refl _) (Α ne)⟩
theorem Rl.Bq{k:Nat}{a:Addr}(r:Rl K G L M H)(hk:L[k]? =some a):Ex G L H G L (upd H a o) where
 g:= .refl _
 l:= .refl _
 fr:=λb h1 _=>h1
 out:=λb u h1 h2=>by rw [Α (λz=>h2 (by rw [z];exact aaw hk))];exact h1
 new:=λb h=> .inl h
 yf:=λb h=>by
  by_cases e:b=a
  ·rw [e,Ξ];simp
  ·rw [Α e];exact h
end
structure ia(K:fv)(G:Hp)(L:List Addr)(ρ:En)(σ:St):Prop where
 len:ρ.length=σ.length
 fG:∀(i:Nat) (d:Dt),ρ[i]? =some (some d)->∃v,σ[i]? =some (some v)/\Den K G L d v
section
variable{K:fv}{G G':Hp}{L L':List Addr}{H H':Hp}{ρ:En}{σ:St}
theorem ia.mono(h:ia K G L ρ σ)(e:Ex G L H G' L' H'):ia K G' L' ρ σ:=⟨h.len,λi d q=>let ⟨v,a,b⟩:=h.fG i d q;⟨v,a,Den.mono e.g e.l d v b⟩⟩
theorem ia.set(h:ia K G L ρ σ)(i:Nat){d:Dt}{v:V}(q:Den K G L d v):ia K G L (ρ.set i (some d)) (σ.set i (some v)):=by
 refine ⟨by rw [aa6,aa6];exact h.len,λj d' e=> ?_⟩;by_cases hj:i=j
 ·subst hj;have hl:i < ρ.length:=by have:=(aad.mp e).1;rwa [aa6] at this
  rw [aa3 hl] at e;cases e;exact ⟨v,aa3 (by rw [<-h.len];exact hl),q⟩
 ·rw [aaR hj] at e;obtain ⟨u,a,b⟩:=h.fG j d' e;exact ⟨u,by rw [aaR hj];exact a,b⟩
end
abbrev DQ:=Dt->Ms->Prop
abbrev DX:=En->Addr->List (Str×Dt)->Ms->Prop
def HZ(K:fv)(G:Hp)(L:List Addr)(H:Hp)(fs:List (Str×Dt))(od:Option Addr):Prop:=
 (fs=[]/\od=none)\/fs≠[]/\∃dx vs,od=some dx/\G dx=some (.xd ((fs.map (·.1)).zip vs))/\Γ K G L (fs.map (·.2)) vs
def nK(K:fv)(G:Hp)(L:List Addr)(H:Hp)(R:St->XK)(x:DX):Prop:=
 ∀σ ρ C fs M' G' L' H' od,x ρ C fs M'->Ex G L H G' L' H'->Rl K G' L' M' H'->ia K G' L' ρ σ->HZ K G' L' H' fs od->R σ (.ref C) od H'
theorem nK.on{K:fv}{G:Hp}{L:List Addr}{H G1:Hp}{L1:List Addr}{H1:Hp}{R:St->XK}{x:DX}(h:nK K G L H R x)(e:Ex G L H G1 L1 H1):nK K G1 L1 H1 R x:=
 λσ ρ C fs M' G' L' H' od q e' r n y=>h σ ρ C fs M' G' L' H' od q (e.trans e') r n y
def iC:DX:=λ_ _ _ _=>False
theorem zg{K:fv}{G:Hp}{L:List Addr}{H:Hp}{R:St->XK}:nK K G L H R iC:=λ_ _ _ _ _ _ _ _ _ q=>q.elim
abbrev DE:=En->Ms->DQ->DX->Prop
abbrev DT:=En->Ms->(Bool->Ms->Prop)->DX->Prop
abbrev DA:=En->Ms->(List Dt->Ms->Prop)->DX->Prop
structure i_ where
 nx:En->Ms->Prop
 rt:DQ
 bk:En->Ms->Prop:=λ_ _=>False
 ct:En->Ms->Prop:=λ_ _=>False
 x:DX:=iC
abbrev DS:=i_->En->Ms->Prop
inductive Fin(K:fv)(G0:Hp)(L0:List Addr)(H0:Hp)(q:DQ)(v:V)(H:Hp):Prop
 | mk (d:Dt) (G:Hp) (L:List Addr) (M:Ms) (e:Ex G0 L0 H0 G L H) (r:Rl K G L M H) (n:Den K G L d v) (h:q d M)
inductive nh(K:fv)(G0:Hp)(L0:List Addr)(H0:Hp)(q:Bool->Ms->Prop)(b:Bool)(H:Hp):Prop
 | mk (G:Hp) (L:List Addr) (M:Ms) (e:Ex G0 L0 H0 G L H) (r:Rl K G L M H) (h:q b M)
inductive GJ(K:fv)(G0:Hp)(L0:List Addr)(H0:Hp)(q:List Dt->Ms->Prop)(vs:List V)(H:Hp):Prop
 | mk (ds:List Dt) (G:Hp) (L:List Addr) (M:Ms) (e:Ex G0 L0 H0 G L H) (r:Rl K G L M H) (n:Γ K G L ds vs) (h:q ds M)
inductive cU(K:fv)(G0:Hp)(L0:List Addr)(H0:Hp)(q:En->Ms->Prop)(σ:St)(H:Hp):Prop
 | mk (ρ:En) (G:Hp) (L:List Addr) (M:Ms) (e:Ex G0 L0 H0 G L H) (r:Rl K G L M H) (n:ia K G L ρ σ) (h:q ρ M)
def p0(K:fv)(G0:Hp)(L0:List Addr)(H0:Hp)(Dn:i_):tj:=⟨cU K G0 L0 H0 Dn.nx,Fin K G0 L0 H0 Dn.rt,cU K G0 L0 H0 Dn.bk,cU K G0 L0 H0 Dn.ct⟩
inductive sM(K:fv)(R:St->XK)(t:DE)(σ:St)(H:Hp)(Q:VK):Prop
 | mk (G:Hp) (L:List Addr) (ρ:En) (M:Ms) (q:DQ) (x:DX) (r:Rl K G L M H) (n:ia K G L ρ σ) (h:t ρ M q x) (hx:nK K G L H R x) (hQ:∀v H1,Fin K G L H q v H1->Q v H1)
inductive xj(K:fv)(R:St->XK)(t:DT)(σ:St)(H:Hp)(Q:Bool->Hp->Prop):Prop
 | mk (G:Hp) (L:List Addr) (ρ:En) (M:Ms) (q:Bool->Ms->Prop) (x:DX) (r:Rl K G L M H) (n:ia K G L ρ σ) (h:t ρ M q x) (hx:nK K G L H R x) (hQ:∀b H1,nh K G L H q b H1->Q b H1)
inductive JH(K:fv)(R:St->XK)(t:DA)(σ:St)(H:Hp)(Q:List V->Hp->Prop):Prop
 | mk (G:Hp) (L:List Addr) (ρ:En) (M:Ms) (q:List Dt->Ms->Prop) (x:DX) (r:Rl K G L M H) (n:ia K G L ρ σ) (h:t ρ M q x) (hx:nK K G L H R x) (hQ:∀vs H1,GJ K G L H q vs H1->Q vs H1)
structure FH(A B:tj):Prop where
 nx:∀σ H,A.nx σ H->B.nx σ H
 rt:∀v H,A.rt v H->B.rt v H
 bk:∀σ H,A.bk σ H->B.bk σ H
 ct:∀σ H,A.ct σ H->B.ct σ H
inductive JX(K:fv)(R:St->XK)(t:DS)(De:tj)(σ:St)(H:Hp):Prop
 | mk (G:Hp) (L:List Addr) (ρ:En) (M:Ms) (Dn:i_) (r:Rl K G L M H) (n:ia K G L ρ σ) (h:t Dn ρ M) (hx:nK K G L H R Dn.x) (hQ:FH (p0 K G L H Dn) De)
def JE(X:Cx)(R:St->XK)(e:Expr)(t:DE):Prop:=PE X e (sM X.K R t)
def JT(X:Cx)(R:St->XK)(e:Expr)(t:DT):Prop:=PT X e (xj X.K R t)
def JW(X:Cx)(R:St->XK)(e:Expr)(t:DT):Prop:=PW X e (xj X.K R t)
def JA(X:Cx)(R:St->XK)(es:List Expr)(t:DA):Prop:=PA X es (JH X.K R t)
def JS(X:Cx)(R:St->XK)(st:Stmt)(t:DS):Prop:=PS X st (JX X.K R t)
def xM(X:Cx)(R:St->XK)(st:List Stmt)(t:DS):Prop:=yc X st (JX X.K R t)
section
variable{K:fv}{G0:Hp}{L0:List Addr}{H0 G1:Hp}{L1:List Addr}{H1:Hp}
theorem Fin.back{q:DQ}(e:Ex G0 L0 H0 G1 L1 H1){v:V}{H:Hp}(h:Fin K G1 L1 H1 q v H):Fin K G0 L0 H0 q v H:=let ⟨d,G,L,M,a,b,c,f⟩:=h;⟨d,G,L,M,e.trans a,b,c,f⟩
theorem cU.back{q:En->Ms->Prop}(e:Ex G0 L0 H0 G1 L1 H1){v:St}{H:Hp}(h:cU K G1 L1 H1 q v H):cU K G0 L0 H0 q v H:=let ⟨d,G,L,M,a,b,c,f⟩:=h;⟨d,G,L,M,e.trans a,b,c,f⟩
theorem nh.back{q:Bool->Ms->Prop}(e:Ex G0 L0 H0 G1 L1 H1){v:Bool}{H:Hp}(h:nh K G1 L1 H1 q v H):nh K G0 L0 H0 q v H:=let ⟨G,L,M,a,b,f⟩:=h;⟨G,L,M,e.trans a,b,f⟩
theorem p0.back{Dn:i_}(e:Ex G0 L0 H0 G1 L1 H1):FH (p0 K G1 L1 H1 Dn) (p0 K G0 L0 H0 Dn):=⟨λ_ _ h=>cU.back e h,λ_ _ h=>Fin.back e h,λ_ _ h=>cU.back e h,λ_ _ h=>cU.back e h⟩
theorem SP.imp{X:Cx}{δ:List (Addr×Obj)}{A B:tj}(e:FH A B){f:Flow}{s:Shared}(h:SP X δ A f s):SP X δ B f s:=by
 cases f with
 | next=>obtain ⟨a,b,I,q⟩:=h;exact ⟨a,b,I,e.nx _ _ q⟩
 | brk=>obtain ⟨a,b,I,q⟩:=h;exact ⟨a,b,I,e.bk _ _ q⟩
 | cont=>obtain ⟨a,b,I,q⟩:=h;exact ⟨a,b,I,e.ct _ _ q⟩
 | ret u=>obtain ⟨v,a,b,I,r,q⟩:=h;exact ⟨v,a,b,I,r,e.rt _ _ q⟩
end
section
variable{X:Cx}{R:St->XK}{e:Expr}
theorem JE.of{te:TE}{t:DE}(h:PE X e te)(hw:∀σ H G L ρ M q x,Rl X.K G L M H->ia X.K G L ρ σ->t ρ M q x->nK X.K G L H R x->te σ H (Fin X.K G L H q)):JE X R e t:=by intro δ s σ H Q I ⟨G,L,ρ,M,q,x,r,n,ht,hx,hQ⟩;refine a_ (h δ s σ H _ I (hw σ H G L ρ M q x r n ht hx)) λu s1 ⟨v,H1,I1,rv,f⟩=>⟨v,H1,I1,rv,hQ v H1 f⟩
theorem JT.of{te:TT}{t:DT}(h:PT X e te)(hw:∀σ H G L ρ M q x,Rl X.K G L M H->ia X.K G L ρ σ->t ρ M q x->nK X.K G L H R x->te σ H (nh X.K G L H q)):JT X R e t:=by intro δ s σ H Q I ⟨G,L,ρ,M,q,x,r,n,ht,hx,hQ⟩;refine a_ (h δ s σ H _ I (hw σ H G L ρ M q x r n ht hx)) λu s1 ⟨H1,I1,f⟩=>⟨H1,I1,hQ u H1 f⟩
theorem JW.of{te:TT}{t:DT}(h:PW X e te)(hw:∀σ H G L ρ M q x,Rl X.K G L M H->ia X.K G L ρ σ->t ρ M q x->nK X.K G L H R x->te σ H (nh X.K G L H q)):JW X R e t:=by intro wh δ s σ H Q I ⟨G,L,ρ,M,q,x,r,n,ht,hx,hQ⟩;refine a_ (h wh δ s σ H _ I (hw σ H G L ρ M q x r n ht hx)) λu s1 ⟨H1,I1,f⟩=>⟨H1,I1,hQ u H1 f⟩
theorem JA.of{es:List Expr}{te:TA}{t:DA}(h:PA X es te)(hw:∀σ H G L ρ M q x,Rl X.K G L M H->ia X.K G L ρ σ->t ρ M q x->nK X.K G L H R x->te σ H (GJ X.K G L H q)):JA X R es t:=by intro pos δ s σ H Q I ⟨G,L,ρ,M,q,x,r,n,ht,hx,hQ⟩;refine a_ (h pos δ s σ H _ I (hw σ H G L ρ M q x r n ht hx)) λu s1 ⟨v,H1,I1,rv,f⟩=>⟨v,H1,I1,rv,hQ v H1 f⟩
theorem JS.of{st:Stmt}{te:TS}{t:DS}(h:PS X st te)(hw:∀σ H G L ρ M Dn,Rl X.K G L M H->ia X.K G L ρ σ->t Dn ρ M->nK X.K G L H R Dn.x->te (p0 X.K G L H Dn) σ H):JS X R st t:=by intro δ s σ H De I ⟨G,L,ρ,M,Dn,r,n,ht,hx,hQ⟩;exact a_ (h δ s σ H _ I (hw σ H G L ρ M Dn r n ht hx)) λu s1 f=>SP.imp hQ f
theorem xM.of{st:List Stmt}{te:TS}{t:DS}(h:yc X st te)(hw:∀σ H G L ρ M Dn,Rl X.K G L M H->ia X.K G L ρ σ->t Dn ρ M->nK X.K G L H R Dn.x->te (p0 X.K G L H Dn) σ H):xM X R st t:=by intro δ s σ H De I ⟨G,L,ρ,M,Dn,r,n,ht,hx,hQ⟩;exact a_ (h δ s σ H _ I (hw σ H G L ρ M Dn r n ht hx)) λu s1 f=>SP.imp hQ f
end
def ee(i:Nat):DE:=λρ M q _=>match ρ[i]? with
 | some (some d)=>q d M
 | _=>False
def dC(d:Dt):DE:=λ_ M q _=>q d M
def gC(f:Dt->Dt->Ms->DQ->Prop)(a b:DE):DE:=λρ M q x=>a ρ M (λd1 M1=>b ρ M1 (λd2 M2=>f d1 d2 M2 q) x) x
def Kt(f:Dt->Ms->DQ->Prop)(a:DE):DE:=λρ M q x=>a ρ M (λd1 M1=>f d1 M1 q) x
def kL:DA:=λ_ M q _=>q [] M
def fj(a:DE)(r:DA):DA:=λρ M q x=>a ρ M (λd M1=>r ρ M1 (λds M2=>q (d::ds) M2) x) x
def u0(f:List Dt->Ms->DQ->Prop)(a:DA):DE:=λρ M q x=>a ρ M (λds M1=>f ds M1 q) x
def mY(K:fv)(r:R2)(f:Dt->Dt->Ms->DQ->Prop):Prop:=
 ∀G0 L0 H0 G L M H v1 v2 d1 d2 q,Ex G0 L0 H0 G L H->Rl K G L M H->Den K G L d1 v1->Den K G L d2 v2->f d1 d2 M q->r v1 v2 H (Fin K G0 L0 H0 q)
def Nq(K:fv)(r:V->Hp->VK->Prop)(f:Dt->Ms->DQ->Prop):Prop:=
 ∀G0 L0 H0 G L M H v1 d1 q,Ex G0 L0 H0 G L H->Rl K G L M H->Den K G L d1 v1->f d1 M q->r v1 H (Fin K G0 L0 H0 q)
def yk(K:fv)(r:List V->Hp->VK->Prop)(f:List Dt->Ms->DQ->Prop):Prop:=
 ∀G0 L0 H0 G L M H vs ds q,Ex G0 L0 H0 G L H->Rl K G L M H->Γ K G L ds vs->f ds M q->r vs H (Fin K G0 L0 H0 q)
section
variable{K:fv}{R:St->XK}{ta tb:DE}{tc:DA}{σ:St}{H G:Hp}{L:List Addr}{ρ:En}{M:Ms}{q:DQ}{x:DX}
theorem tX{r:R2}{f:Dt->Dt->Ms->DQ->Prop}(od:mY K r f)(rl:Rl K G L M H)(n:ia K G L ρ σ)(h:gC f ta tb ρ M q x)(hx:nK K G L H R x):J6 r (sM K R ta) (sM K R tb) σ H (Fin K G L H q):=by refine ⟨G,L,ρ,M,_,x,rl,n,h,hx,λv H1 ⟨d1,G1,L1,M1,e1,r1,n1,h1⟩=> ?_⟩;refine ⟨G1,L1,ρ,M1,_,x,r1,n.mono e1,h1,hx.on e1,λv2 H2 ⟨d2,G2,L2,M2,e2,r2,n2,h2⟩=> ?_⟩;exact od G L H G2 L2 M2 H2 v v2 d1 d2 q (e1.trans e2) r2 (Den.mono e2.g e2.l _ _ n1) n2 h2
theorem HH{r:V->Hp->VK->Prop}{f:Dt->Ms->DQ->Prop}(od:Nq K r f)(rl:Rl K G L M H)(n:ia K G L ρ σ)(h:Kt f ta ρ M q x)(hx:nK K G L H R x):Ob r (sM K R ta) σ H (Fin K G L H q):=by refine ⟨G,L,ρ,M,_,x,rl,n,h,hx,λv H1 ⟨d1,G1,L1,M1,e1,r1,n1,h1⟩=> ?_⟩;exact od G L H G1 L1 M1 H1 v d1 q e1 r1 n1 h1
theorem C1{r:List V->Hp->VK->Prop}{f:List Dt->Ms->DQ->Prop}(od:yk K r f)(rl:Rl K G L M H)(n:ia K G L ρ σ)(h:u0 f tc ρ M q x)(hx:nK K G L H R x):Lb r (JH K R tc) σ H (Fin K G L H q):=by refine ⟨G,L,ρ,M,_,x,rl,n,h,hx,λv H1 ⟨d1,G1,L1,M1,e1,r1,n1,h1⟩=> ?_⟩;exact od G L H G1 L1 M1 H1 v d1 q e1 r1 n1 h1
end
section
variable{X:Cx}{R:St->XK}{a b c:Expr}{ta tb:DE}{pos:Pos}
theorem jv(i:Nat){x:Str}{pos:Pos}(hN:X.N[i]? =some x:=by rfl)(hv:Ng X.env.scope x:=by first | exact Or.inl rfl | exact Or.inr (Or.inl rfl) | exact Or.inr (Or.inr rfl))(hd:(x==("__debug__":Str))=false:=by decide)
  (y4:(x==("__classdict__":Str))=false:=by decide):JE X R (.Name x pos) (ee i):= .of (Ed hN hv hd y4) λσ H G L ρ M q x r n h hx=>by
 unfold ee at h;split at h
 ·rename_i d e;obtain ⟨v,e1,h1⟩:=n.fG i d e;exact ⟨v,e1,d,G,L,M, .refl _ _ _,r,h1,h⟩
 ·exact h.elim
theorem Fe{d:Dt}{v:V}{e:Expr}(h:PE X e (tC v))(hd:∀G L,Den X.K G L d v):JE X R e (dC d):= .of h λσ H G L ρ M q x r n h hx=>⟨d,G,L,M, .refl _ _ _,r,hd G L,h⟩
theorem ι{i j pos}:JE X R (.Constant (.int i) j pos) (dC (.int i)):=Fe Eh λ_ _=>rfl
theorem wU{b j pos}:JE X R (.Constant (.bool b) j pos) (dC (.bl b)):=Fe IV λ_ _=>rfl
theorem Mq{j pos}:JE X R (.Constant .none j pos) (dC .aW):=Fe E_ λ_ _=>rfl
theorem gH{x j pos}:JE X R (.Constant (.str x) j pos) (dC (.str x)):=Fe Fs λ_ _=>rfl
theorem uz{op:Operator}{r:R2}{f:Dt->Dt->Ms->DQ->Prop}(ho:gA X (binaryOp op) r)(od:mY X.K r f)(ja:JE X R a ta)(jb:JE X R b tb):JE X R (.BinOp a op b pos) (gC f ta tb):=
 .of (Ip ho ja jb) λσ H G L ρ M q x r n h hx=>tX od r n h hx
theorem Lp{op:UnaryOp}{r:V->Hp->VK->Prop}{f:Dt->Ms->DQ->Prop}(ho:K0 X (unaryOp op) r)(od:Nq X.K r f)(ja:JE X R a ta):JE X R (.UnaryOp op a pos) (Kt f ta):=
 .of (I0 ho ja) λσ H G L ρ M q x r n h hx=>HH od r n h hx
theorem rH{op:CmpOp}{r:R2}{f:Dt->Dt->Ms->DQ->Prop}(ho:gA X (compareOp op) r)(od:mY X.K r f)(ja:JE X R a ta)(jb:JE X R b tb)(hm:behindInMarks op b=false):JE X R (.Compare a [op] [b] pos) (gC f ta tb):=
 .of (Ci ho ja jb hm) λσ H G L ρ M q x r n h hx=>tX od r n h hx
theorem JO{r:R2}{f:Dt->Dt->Ms->DQ->Prop}(hr:Bd X r)(od:mY X.K r f)(ja:JE X R a ta)(jb:JE X R b tb)(hs:pA b):JE X R (.Subscript a b pos) (gC f ta tb):=
 .of (HU hr ja jb hs) λσ H G L ρ M q x r n h hx=>tX od r n h hx
theorem aU{env:Env}{es:List Expr}{c j p}:starEach (.Constant c j p::es) env=(false,eval (.Constant c j p) env)::starEach es env:=rfl
theorem DP{env:Env}{es:List Expr}{c p}:starEach (.Name c p::es) env=(false,eval (.Name c p) env)::starEach es env:=rfl
theorem aF{env:Env}{es:List Expr}{a o b p}:starEach (.BinOp a o b p::es) env=(false,eval (.BinOp a o b p) env)::starEach es env:=rfl
theorem bc{env:Env}{es:List Expr}{a b c p}:starEach (.Call a b c p::es) env=(false,eval (.Call a b c p) env)::starEach es env:=rfl
theorem aI{env:Env}{es:List Expr}{a b p}:starEach (.Subscript a b p::es) env=(false,eval (.Subscript a b p) env)::starEach es env:=rfl
theorem fq{env:Env}{es:List Expr}{a b p}:starEach (.Tuple a b p::es) env=(false,eval (.Tuple a b p) env)::starEach es env:=rfl
theorem Dz{env:Env}{es:List Expr}{a b p}:starEach (.UnaryOp a b p::es) env=(false,eval (.UnaryOp a b p) env)::starEach es env:=rfl
theorem ε:JA X R [] kL:= .of zA λσ H G L ρ M q x r n h hx=>⟨[],G,L,M, .refl _ _ _,r,rfl,h⟩
theorem η{e:Expr}{es:List Expr}{te:DE}{t:DA}(ha:JE X R e te)(hr:JA X R es t)(hs:starEach (e::es) X.env=(false,eval e X.env)::starEach es X.env:=by first | exact aU | exact DP | exact aF | exact bc | exact aI | exact fq | exact OB | exact Dz | rfl):JA X R (e::es) (fj te t):=
 .of (vi ha hr hs) λσ H G L ρ M q x rl n h hx=>by refine ⟨G,L,ρ,M,_,x,rl,n,h,hx,λv H1 ⟨d1,G1,L1,M1,e1,r1,n1,h1⟩=> ?_⟩;refine ⟨G1,L1,ρ,M1,_,x,r1,n.mono e1,h1,hx.on e1,λv2 H2 ⟨d2,G2,L2,M2,e2,r2,n2,h2⟩=> ?_⟩;exact ⟨d1::d2,G2,L2,M2,e1.trans e2,r2,⟨_,_,rfl,Den.mono e2.g e2.l _ _ n1,n2⟩,h2⟩
theorem Ο{c:Str}{p:Pos}{es:List Expr}{te:DE}{t:DA}(ha:JE X R (.Name c p) te)(hr:JA X R es t):JA X R (.Name c p::es) (fj te t):=η ha hr DP
def Cc(t:DA):DE:=λρ M q x=>t ρ M (λds M1=>ds.length<=sizeLine/\q (.tup ds) M1) x
def Eo(t:DA):DE:=λρ M q x=>t ρ M (λds M1=>ds.length<=sizeLine/\q (.lst ds) M1) x
def DC(t:DA):DE:=λρ M q x=>t ρ M (λds M1=>ds.length<=sizeLine/\q (.loc M1.length) (M1++[.lst ds])) x
theorem eS{K:fv}{G0:Hp}{L0:List Addr}{H0 G:Hp}{L:List Addr}{M:Ms}{H:Hp}{p:Addr}{o:HO}{d:Dt}{q:DQ}(e:Ex G0 L0 H0 G L H)(r:Rl K G L M H)(hp:H p=none)(hd:Den K (upd G p o) L d (.ref p))(h:q d M):Fin K G0 L0 H0 q (.ref p) (upd H p o):=
 ⟨d,upd G p o,L,M,e.trans (r.G7 hp),r.CH hp,hd,h⟩
theorem jj{K:fv}{G:Hp}{L:List Addr}{M:Ms}{H:Hp}{p:Addr}{ds:List Dt}{vs:List V}(r:Rl K G L M H)(hp:H p=none)(h:Γ K G L ds vs):Den K (upd G p (.tup vs)) L (.tup ds) (.ref p):=
 ⟨p,vs,rfl,Ξ,Γ.mono (r.G7 hp).g (.refl _) _ _ h⟩
theorem p9{K:fv}{G:Hp}{L:List Addr}{M:Ms}{H:Hp}{p:Addr}{ds:List Dt}{vs:List V}(r:Rl K G L M H)(hp:H p=none)(h:Γ K G L ds vs):Den K (upd G p (.lst vs)) L (.lst ds) (.ref p):=
 ⟨p,vs,rfl,Ξ,Γ.mono (r.G7 hp).g (.refl _) _ _ h⟩
theorem jm{K:fv}{G0:Hp}{L0:List Addr}{H0 G:Hp}{L:List Addr}{M:Ms}{H:Hp}{p:Addr}{q:DQ}{ds:List Dt}{vs:List V}(e:Ex G0 L0 H0 G L H)(r:Rl K G L M H)(hp:H p=none)(hd:Γ K G L ds vs)(h:q (.loc M.length) (M++[.lst ds])):Fin K G0 L0 H0 q (.ref p) (upd H p (.lst vs)):=
 ⟨.loc M.length,G,L++[p],M++[.lst ds],e.trans (r.MG hp),r.Eb (m:= .lst ds) hp ⟨vs,Ξ,Γ.mono (.refl _) ⟨[p],rfl⟩ _ _ hd⟩,⟨p,rfl,by rw [<-r.len,List.getElem?_append_right (Nat.le_refl _)];simp⟩,h⟩
variable{es:List Expr}{t:DA}
theorem aA{x1}(h:JA X R es t):JE X R (.Tuple es x1 pos) (Cc t):= .of (DZ h) λσ H G L ρ M q x rl n h hx=>by refine ⟨G,L,ρ,M,_,x,rl,n,h,hx,λv H1 ⟨d1,G1,L1,M1,e1,r1,n1,h1⟩=>⟨by rw [<-n1.length];exact h1.1,λp hp=> ?_⟩⟩;exact eS e1 r1 hp (jj r1 hp n1) h1.2
theorem fB(h:JA X R es t):JE X R (.List es pos) (Eo t):= .of (AY h) λσ H G L ρ M q x rl n h hx=>by refine ⟨G,L,ρ,M,_,x,rl,n,h,hx,λv H1 ⟨d1,G1,L1,M1,e1,r1,n1,h1⟩=>⟨by rw [<-n1.length];exact h1.1,λp hp=> ?_⟩⟩;exact eS e1 r1 hp (p9 r1 hp n1) h1.2
theorem gS(h:JA X R es t):JE X R (.List es pos) (DC t):= .of (AY h) λσ H G L ρ M q x rl n h hx=>by refine ⟨G,L,ρ,M,_,x,rl,n,h,hx,λv H1 ⟨d1,G1,L1,M1,e1,r1,n1,h1⟩=>⟨by rw [<-n1.length];exact h1.1,λp hp=> ?_⟩⟩;exact jm e1 r1 hp n1 h1.2
def l_(t:DE):DT:=λρ M q x=>t ρ M (λd M1=>match d with
 | .bl b=>q b M1
 | _=>False) x
def Hq(t u:DT):DT:=λρ M q x=>t ρ M (λc M1=>(c=true->u ρ M1 q x)/\(c=false->q false M1)) x
def OF(t u:DT):DT:=λρ M q x=>t ρ M (λc M1=>(c=true->q true M1)/\(c=false->u ρ M1 q x)) x
def JU(t:DT):DT:=λρ M q x=>t ρ M (λc M1=>q (!c) M1) x
theorem FA{K:fv}{t:DE}{σ:St}{H G:Hp}{L:List Addr}{ρ:En}{M:Ms}{q:Bool->Ms->Prop}{x:DX}(rl:Rl K G L M H)(n:ia K G L ρ σ)(h:l_ t ρ M q x)(hx:nK K G L H R x):tB (sM K R t) σ H (nh K G L H q):=by
 refine ⟨G,L,ρ,M,_,x,rl,n,h,hx,λv H1 ⟨d1,G1,L1,M1,e1,r1,n1,h1⟩=> ?_⟩
 (try dsimp only at h1)
 split at h1
 ·rename_i b;exact ⟨b,n1,G1,L1,M1,e1,r1,h1⟩
 ·exact h1.elim
theorem cL{e:Expr}{t:DE}(h:JE X R e t)(he:∀whole,isTrue e X.env whole=(do let v<-whole;standAt e.pos;holding [v] (truthy v)):=by intro _;rfl):JT X R e (l_ t):=
 .of (D6 h he) λσ H G L ρ M q x rl n h hx=>FA rl n h hx
theorem ie{op:CmpOp}{r:R2}{f:Dt->Dt->Ms->DQ->Prop}(ho:gA X (compareOp op) r)(od:mY X.K r f)(ja:JE X R a ta)(jb:JE X R b tb)(hm:behindInMarks op b=false):JT X R (.Compare a [op] [b] pos) (l_ (gC f ta tb)):=
 .of (Ck ho ja jb hm) λσ H G L ρ M q x rl n h hx=>by
  have h:gC f ta tb ρ M (λd M1=>match d with | .bl b=>q b M1 | _=>False) x:=h;refine ⟨G,L,ρ,M,_,x,rl,n,h,hx,λv H1 ⟨d1,G1,L1,M1,e1,r1,n1,h1⟩=> ?_⟩;refine ⟨G1,L1,ρ,M1,_,x,r1,n.mono e1,h1,hx.on e1,λv2 H2 ⟨d2,G2,L2,M2,e2,r2,n2,h2⟩=> ?_⟩;have:=od G L H G2 L2 M2 H2 v v2 d1 d2 _ (e1.trans e2) r2 (Den.mono e2.g e2.l _ _ n1) n2 h2;have e:(λx H'=>∃k,x=V.bl k/\nh X.K G L H q k H')=Fin X.K G L H (λd M1=>match d with | .bl b=>q b M1 | _=>False):=by
   funext y H'
   apply propext;constructor
   ·rintro ⟨k,rfl,G3,L3,M3,e3,r3,h3⟩;exact ⟨.bl k,G3,L3,M3,e3,r3,rfl,h3⟩
   ·rintro ⟨d,G3,L3,M3,e3,r3,n3,h3⟩;split at h3
    ·rename_i k;exact ⟨k,n3,G3,L3,M3,e3,r3,h3⟩
    ·exact h3.elim
  rw [e];exact this
theorem JW.jt{e:Expr}{t:DT}(h:JW X R e t):JT X R e t:=h _
variable{t1 t2:DT}{Δ:List Expr}
theorem BF(ha:JT X R a t1):JW X R (.BoolOp .And [a] pos) t1:=pw_and1 ha
theorem lL(ha:JT X R a t1):JW X R (.BoolOp .Or [a] pos) t1:=pw_or1 ha
theorem Fz(ha:JT X R a t1)(hb:JW X R (.BoolOp .And (b::Δ) pos) t2):JW X R (.BoolOp .And (a::b::Δ) pos) (Hq t1 t2):= .of (pw_and ha hb) λσ H G L ρ M q x rl n h hx=>by
 refine ⟨G,L,ρ,M,_,x,rl,n,h,hx,λc H1 ⟨G1,L1,M1,e1,r1,h1⟩=> ?_⟩;cases c with
 | true=>exact uK ⟨G1,L1,ρ,M1,_,x,r1,n.mono e1,h1.1 rfl,hx.on e1,λb H2 f=>nh.back e1 f⟩
 | false=>exact u9 ⟨G1,L1,M1,e1,r1,h1.2 rfl⟩
theorem sg(ha:JT X R a t1)(hb:JW X R (.BoolOp .Or (b::Δ) pos) t2):JW X R (.BoolOp .Or (a::b::Δ) pos) (OF t1 t2):= .of (pw_or ha hb) λσ H G L ρ M q x rl n h hx=>by
 refine ⟨G,L,ρ,M,_,x,rl,n,h,hx,λc H1 ⟨G1,L1,M1,e1,r1,h1⟩=> ?_⟩;cases c with
 | true=>exact uK ⟨G1,L1,M1,e1,r1,h1.1 rfl⟩
 | false=>exact u9 ⟨G1,L1,ρ,M1,_,x,r1,n.mono e1,h1.2 rfl,hx.on e1,λb H2 f=>nh.back e1 f⟩
theorem g7(ha:JT X R a t1):JT X R (.UnaryOp .Not a pos) (JU t1):= .of (Fo ha) λσ H G L ρ M q x rl n h hx=>
 ⟨G,L,ρ,M,_,x,rl,n,h,hx,λ_ _ ⟨G,L,M,e,r,h⟩=>⟨G,L,M,e,r,h⟩⟩
def Hf(t u:DE):DE:=λρ M q x=>t ρ M (λd M1=>match d with
 | .bl c=>(c=true->u ρ M1 q x)/\(c=false->q (.bl false) M1)
 | _=>False) x
def OV(t u:DE):DE:=λρ M q x=>t ρ M (λd M1=>match d with
 | .bl c=>(c=true->q (.bl true) M1)/\(c=false->u ρ M1 q x)
 | _=>False) x
def J5(t:DE):DE:=λρ M q x=>t ρ M (λd M1=>match d with
 | .bl c=>q (.bl (!c)) M1
 | _=>False) x
def Oz(t:DT)(u v:DE):DE:=λρ M q x=>t ρ M (λc M1=>(c=true->u ρ M1 q x)/\(c=false->v ρ M1 q x)) x
theorem eU{op}{t:DE}(h:JE X R a t):JE X R (.BoolOp op [a] pos) t:=F_ h
theorem d_(ha:JE X R a ta)(hb:JE X R (.BoolOp .And (b::Δ) pos) tb):JE X R (.BoolOp .And (a::b::Δ) pos) (Hf ta tb):= .of (Fh ha hb) λσ H G L ρ M q x rl n h hx=>by
 refine ⟨G,L,ρ,M,_,x,rl,n,h,hx,λv H1 ⟨d1,G1,L1,M1,e1,r1,n1,h1⟩=> ?_⟩
 (try dsimp only at h1)
 split at h1
 ·rename_i c;refine ⟨c,n1, ?_⟩;cases c with
  | true=>exact uK ⟨G1,L1,ρ,M1,_,x,r1,n.mono e1,h1.1 rfl,hx.on e1,λb H2 f=>Fin.back e1 f⟩
  | false=>exact u9 ⟨.bl false,G1,L1,M1,e1,r1,rfl,h1.2 rfl⟩
 ·exact h1.elim
theorem G_(ha:JE X R a ta)(hb:JE X R (.BoolOp .Or (b::Δ) pos) tb):JE X R (.BoolOp .Or (a::b::Δ) pos) (OV ta tb):= .of (J0 ha hb) λσ H G L ρ M q x rl n h hx=>by
 refine ⟨G,L,ρ,M,_,x,rl,n,h,hx,λv H1 ⟨d1,G1,L1,M1,e1,r1,n1,h1⟩=> ?_⟩
 (try dsimp only at h1)
 split at h1
 ·rename_i c;refine ⟨c,n1, ?_⟩;cases c with
  | true=>exact uK ⟨.bl true,G1,L1,M1,e1,r1,rfl,h1.1 rfl⟩
  | false=>exact u9 ⟨G1,L1,ρ,M1,_,x,r1,n.mono e1,h1.2 rfl,hx.on e1,λb H2 f=>Fin.back e1 f⟩
 ·exact h1.elim
theorem Fd(ha:JE X R a ta):JE X R (.UnaryOp .Not a pos) (J5 ta):= .of (EZ ha) λσ H G L ρ M q x rl n h hx=>by
 refine ⟨G,L,ρ,M,_,x,rl,n,h,hx,λv H1 ⟨d1,G1,L1,M1,e1,r1,n1,h1⟩=> ?_⟩
 (try dsimp only at h1)
 split at h1
 ·rename_i c;exact ⟨c,n1, .bl (!c),G1,L1,M1,e1,r1,rfl,h1⟩
 ·exact h1.elim
theorem Dh{c:Expr}(hc:JT X R c t1)(ha:JE X R a ta)(hb:JE X R b tb):JE X R (.IfExp c a b pos) (Oz t1 ta tb):= .of (A1 hc ha hb) λσ H G L ρ M q x rl n h hx=>by
 refine ⟨G,L,ρ,M,_,x,rl,n,h,hx,λc H1 ⟨G1,L1,M1,e1,r1,h1⟩=> ?_⟩;cases c with
 | true=>exact uK ⟨G1,L1,ρ,M1,_,x,r1,n.mono e1,h1.1 rfl,hx.on e1,λb H2 f=>Fin.back e1 f⟩
 | false=>exact u9 ⟨G1,L1,ρ,M1,_,x,r1,n.mono e1,h1.2 rfl,hx.on e1,λb H2 f=>Fin.back e1 f⟩
end
def C_:DS:=λDn ρ M=>Dn.nx ρ M
def He(t u:DS):DS:=λDn ρ M=>t {Dn with nx:=u Dn} ρ M
def O3(c:DT)(t u:DS):DS:=λDn ρ M=>c ρ M (λb M1=>(b=true->t Dn ρ M1)/\(b=false->u Dn ρ M1)) Dn.x
def F0(t:DE):DS:=λDn ρ M=>t ρ M Dn.rt Dn.x
def xp(i:Nat)(t:DE):DS:=λDn ρ M=>t ρ M (λd M1=>Dn.nx (ρ.set i (some d)) M1) Dn.x
def DB(t:DE):DS:=λDn ρ M=>t ρ M (λ_ M1=>Dn.nx ρ M1) Dn.x
def Lu(t:DS):DS:=λDn ρ M=>∃J:En->Ms->Prop,t {Dn with nx:=J} ρ M/\∀ρ' M',J ρ' M'->Dn.nx ρ' M'
section
variable{X:Cx}{R:St->XK}{st:Stmt}{Δ:List Stmt}{t u:DS}{e:Expr}{te:DE}{pos:Pos}
theorem Ζ:xM X R [] C_:= .of Cr λσ H G L ρ M Dn rl n h hx=>⟨ρ,G,L,M, .refl _ _ _,rl,n,h⟩
theorem θ(h1:JS X R st t):xM X R [st] t:=B3 h1
theorem ζ(h1:JS X R st t)(h2:xM X R Δ u):xM X R (st::Δ) (He t u):= .of (yO h1 h2) λσ H G L ρ M Dn rl n h hx=>by refine ⟨G,L,ρ,M,_,rl,n,h,hx,⟨λσ1 H1 ⟨ρ1,G1,L1,M1,e1,r1,n1,h1⟩=> ?_,λ_ _ f=>f,λ_ _ f=>f,λ_ _ f=>f⟩⟩;exact ⟨G1,L1,ρ1,M1,Dn,r1,n1,h1,hx.on e1,p0.back e1⟩
theorem υ(he:JE X R e te):JS X R (.Return (some e) pos) (F0 te):= .of (GI he) λσ H G L ρ M Dn rl n h hx=>⟨G,L,ρ,M,_,_,rl,n,h,hx,λ_ _ f=>f⟩
theorem fb(he:JE X R e te)(hs:swapsWith e none pos.line X.env=pure false:=by rfl):JS X R (.Expr e pos) (DB te):= .of (BA he hs) λσ H G L ρ M Dn rl n h hx=>by refine ⟨G,L,ρ,M,_,_,rl,n,h,hx,λv H1 ⟨d1,G1,L1,M1,e1,r1,n1,h1⟩=>⟨ρ,G1,L1,M1,e1,r1,n.mono e1,h1⟩⟩
theorem aj{c:Expr}{a b:List Stmt}{tc:DT}(hc:JT X R c tc)(ha:xM X R a t)(hb:xM X R b u):JS X R (.If c a b pos) (O3 tc t u):= .of (HJ hc ha hb) λσ H G L ρ M Dn rl n h hx=>by
 refine ⟨G,L,ρ,M,_,_,rl,n,h,hx,λc H1 ⟨G1,L1,M1,e1,r1,h1⟩=> ?_⟩;cases c with
 | true=>exact uK ⟨G1,L1,ρ,M1,Dn,r1,n.mono e1,h1.1 rfl,hx.on e1,p0.back e1⟩
 | false=>exact u9 ⟨G1,L1,ρ,M1,Dn,r1,n.mono e1,h1.2 rfl,hx.on e1,p0.back e1⟩
theorem π(i:Nat){x:Str}{pos':Pos}(hN:X.N.Nodup)(he:JE X R e te)(hi:X.N[i]? =some x:=by rfl)(hx:Loc X.env.scope x:=by first | exact .inl rfl | exact .inr rfl)(hs:swapsWith e (some (.Name x pos')) pos.line X.env=pure false:=by rfl)(hf:X.fn x=true\/X.env.scope.names.lookup x=some .local:=by first | exact .inl rfl | exact .inr rfl | assumption):
  JS X R (.Assign [.Name x pos'] e pos) (xp i te):= .of (FL hN hi hx he hs hf) λσ H G L ρ M Dn rl n h hx=>by
 refine ⟨G,L,ρ,M,_,_,rl,n,h,hx,λv H1 ⟨d1,G1,L1,M1,e1,r1,n1,h1⟩=>⟨_,G1,L1,M1,e1,r1,(n.mono e1).set i n1,h1⟩⟩
theorem eY(h:JS X R st t):JS X R st (Lu t):= .of h λσ H G L ρ M Dn rl n h hx=>by obtain ⟨J,h1,h2⟩:=h;refine ⟨G,L,ρ,M,_,rl,n,h1,hx,⟨λσ1 H1 ⟨ρ1,G1,L1,M1,e1,r1,n1,h1⟩=>⟨ρ1,G1,L1,M1,e1,r1,n1,h2 _ _ h1⟩,λ_ _ f=>f,λ_ _ f=>f,λ_ _ f=>f⟩⟩
end
abbrev Oe:=Addr->List (Str×Dt)->Ms->Prop
abbrev DF:=List Dt->Ms->DQ->Oe->Prop
inductive cQ(K:fv)(T:DF)(vs:List V)(H:Hp)(Q:VK)(E:XK):Prop
 | mk (G:Hp) (L:List Addr) (ds:List Dt) (M:Ms) (q:DQ) (x:Oe) (r:Rl K G L M H) (n:Γ K G L ds vs) (h:T ds M q x) (hQ:∀v H1,Fin K G L H q v H1->Q v H1) (hE:∀C fs M1 G1 L1 H1 od,x C fs M1->Ex G L H G1 L1 H1->Rl K G1 L1 M1 H1->HZ K G1 L1 H1 fs od->E (.ref C) od H1)
def jI(N:List Str)(ds:List Dt):En:=ds.map some++List.replicate (N.length - ds.length) none
theorem ym{K:fv}{G:Hp}{L:List Addr}{N:List Str}{ds:List Dt}{vs:List V}(h:Γ K G L ds vs):ia K G L (jI N ds) (gk N vs):=by
 have hl:=h.length;refine ⟨by unfold jI gk;simp [hl],λi d e=> ?_⟩;unfold jI at e;unfold gk;by_cases hi:i < ds.length
 ·rw [List.getElem?_append_left (by simpa using hi),List.getElem?_map] at e;rw [List.getElem?_append_left (by simpa [<-hl] using hi),List.getElem?_map];cases q:ds[i]? with
  | none=>rw [q] at e;cases e
  | some d'=>
   rw [q] at e;cases e;obtain ⟨v,e1,h1⟩:=h.get q;exact ⟨v,by rw [e1];rfl,h1⟩
 ·rw [List.getElem?_append_right (by simpa using Nat.le_of_not_lt hi),List.getElem?_replicate] at e;split at e <;> cases e
section
variable{P:Program}{w:World}{K:fv}{mg:Str->Option Value}{base:Heap}
theorem cY.fi{x qual:Str}{st:Stmt}{f:Addr}{fd:FuncData}{N ps:List Str}{k:Nat}{T:DF}(F:cY K x qual st f fd)(S:χ N ps (ο st))(len:∀ds M q x,T ds M q x->ds.length=ps.length)
  (s_:∀(bq:Value) (A:Around) (outer:List Env) (s:Shared) (H:Hp) (E:XK),aX k (A.deeper (envOfC qual (ο st) s.heap.objs.size f bq))->
   ∃t,xM (pE (cq P w) P w K mg base N qual (ο st) f bq A outer s H E) (λ_=>E) (dY st) t/\∀ds M q x,T ds M q x->t {nx:=λ_ M'=>q .aW M',rt:=q,x:=λ_=>x} (jI N ds) M):
  ao P w K mg base (cq P w) (k+1) f fd ps (cQ K T):=by
 refine F.RA S (λvs H Q E h=> ?_) (λbq A outer s H vs Q E hr h=> ?_)
 ·obtain ⟨G,L,ds,M,q,x,rl,n,hT,_⟩:=h;rw [<-n.length];exact len _ _ _ _ hT
 ·obtain ⟨t,j,ht⟩:=s_ bq A outer s H E hr;obtain ⟨G,L,ds,M,q,x,rl,n,hT,hQ,hE⟩:=h;refine ⟨_,j,G,L,jI N ds,M,_,rl,ym n,ht ds M q x hT,λσ ρ C fs M' G' L' H' od hx e r _ y=>hE C fs M' G' L' H' od hx e r y,⟨λσ' H' ⟨ρ',G',L',M',e,r,_,h⟩=>hQ _ _ ⟨.aW,G',L',M',e,r,rfl,h⟩,λv H' f=>hQ v H' f,λ_ _ ⟨_,_,_,_,_,_,_,h⟩=>h.elim,λ_ _ ⟨_,_,_,_,_,_,_,h⟩=>h.elim⟩⟩
structure aD(P:Program)(w:World)(K:fv)(mg:Str->Option Value)(base:Heap)(k:Nat)(x:Str)(ps:List Str)(T:DF)(f:Addr)(fd:FuncData):Prop where
 ok:ao P w K mg base (cq P w) k f fd ps (cQ K T)
 b:fD K fd ps []
 m:mg x=some (.ref f)
 kp:PySem.W.keepIn K (.ref f)=true
end
def zq(T:DF)(t:DA):DE:=λρ M q x=>t ρ M (λds M1=>T ds M1 q (λC fs M'=>x ρ C fs M')) x
section
variable{X:Cx}{R:St->XK}{T:DF}{k k':Nat}{f:Addr}{fd:FuncData}{ps:List Str}{x:Str}{p pos:Pos}{e:Expr}{es:List Expr}{t:DA}
theorem Ω(C:aD X.prog X.w X.K X.mg X.base k x ps T f fd)(hr:aX k' X.A)(hx:bM (cq X.prog X.w) X R)(ha:JA X R (e::es) t)(hk:k<=k':=by decide)(hg:Gl X x:=by rfl)(m_:(x==("__debug__":Str))=false:=by decide)
  (he:starEach (e::es) X.env=(false,eval e X.env)::starEach es X.env:=by rfl) (dE:(backTo pos (starEach es X.env)).any (·.1)=false:=by rfl):JE X R (.Call (.Name x p) (e::es) [] pos) (zq T t):=
 .of (zQ C.ok (hr.mono hk) hg C.m C.kp C.b .nil hx ha m_ he dE) λσ H G L ρ M q x rl n h hx=>by refine ⟨G,L,ρ,M,_,x,rl,n,h,hx,λvs H1 ⟨ds,G1,L1,M1,e1,r1,n1,h1⟩=> ?_⟩;show cQ X.K T (vs++[]) H1 _ _;rw [aaY];exact ⟨G1,L1,ds,M1,q,_,r1,n1,h1,λv H' f=>Fin.back e1 f,λC fs M' G' L' H' od hq e' r' y=>hx σ ρ C fs M' G' L' H' od hq (e1.trans e') r' (n.mono (e1.trans e')) y⟩
end
structure Yl(K:fv)(J:It)(xs:List Dt)(G0:Hp)(L0:List Addr):Prop where
 go:∀(i:Nat) G L M H (d:Dt),bH G0 G->Pre L0 L->Rl K G L M H->xs[i]? =some d->J.go i H/\∀v H',J.HI i H v H'->∃G',Ex G L H G' L H'/\Rl K G' L M H'/\Den K G' L d v
 stop:∀(i:Nat) G L M H,bH G0 G->Pre L0 L->Rl K G L M H->xs.length<=i->J.stop i H
inductive IL(K:fv)(G0:Hp)(L0:List Addr)(H0:Hp)(q:List Dt->Ms->Prop)(J:It)(H:Hp):Prop
 | mk (xs:List Dt) (G:Hp) (L:List Addr) (M:Ms) (e:Ex G0 L0 H0 G L H) (r:Rl K G L M H) (y:Yl K J xs G L) (h:q xs M)
inductive K7(K:fv)(R:St->XK)(t:DA)(σ:St)(H:Hp)(Q:It->Hp->Prop):Prop
 | mk (G:Hp) (L:List Addr) (ρ:En) (M:Ms) (q:List Dt->Ms->Prop) (x:DX) (r:Rl K G L M H) (n:ia K G L ρ σ) (h:t ρ M q x) (hx:nK K G L H R x) (hQ:∀J H1,IL K G L H q J H1->Q J H1)
def JI(X:Cx)(R:St->XK)(tg iter:Expr)(t:DA):Prop:=PI X tg iter (K7 X.K R t)
theorem BR.imp{X:Cx}{δ:List (Addr×Obj)}{σ:St}{tg:Expr}{R R':It->Hp->Prop}(hR:∀J H,R J H->R' J H){v:Value}{s:Shared}(h:BR X δ σ tg R v s):BR X δ σ tg R' v s:=by obtain ⟨it,fp,tn,J,H',a,b,c,d,e,f⟩:=h;exact ⟨it,fp,tn,J,H',a,b,c,d,e,hR J H' f⟩
theorem vo{K:fv}{G:Hp}{L:List Addr}{a:Addr}{ds:List Dt}{vs:List V}(h:∀G':Hp,bH G G'->eN K G' a vs)(n:Γ K G L ds vs):Yl K (Ka K a) ds G L where
 go:=λi G1 L1 M1 H1 d g l r e=>by
  obtain ⟨v,e1,n1⟩:=n.get e;have hs:=h H1 (g.trans r.sub)
  exact ⟨⟨vs,v,hs,e1⟩,λv' H' ⟨eH,y⟩=>by
   subst eH;have e2:=y vs hs;rw [e1] at e2;cases e2
   exact ⟨G1, .refl _ _ _,r,Den.mono g l _ _ n1⟩⟩
 stop:=λi G1 L1 M1 H1 g l r e=>⟨vs,h H1 (g.trans r.sub),by rw [<-n.length];exact e⟩
theorem zF{K:fv}{G:Hp}{L:List Addr}{a:Addr}{ds:List Dt}{vs:List V}(h:∀G':Hp,bH G G'->gP K G' a vs)(n:Γ K G L ds vs):Yl K (Mn K a) ds G L where
 go:=λi G1 L1 M1 H1 d g l r e=>by
  obtain ⟨v,e1,n1⟩:=n.get e;have hs:=h H1 (g.trans r.sub)
  exact ⟨⟨vs,v,hs,e1⟩,λv' H' ⟨eH,y⟩=>by
   subst eH;have e2:=y vs hs;rw [e1] at e2;cases e2
   exact ⟨G1, .refl _ _ _,r,Den.mono g l _ _ n1⟩⟩
 stop:=λi G1 L1 M1 H1 g l r e=>⟨vs,h H1 (g.trans r.sub),by rw [<-n.length];exact e⟩
def bf(lo:Int)(n:Nat):List Dt:=(List.range n).map λk:Nat=>Dt.int (lo+(k:Int))
theorem Gx{K:fv}{G:Hp}{L:List Addr}{lo:Int}{n:Nat}:Yl K (Ko lo n) (bf lo n) G L where
 go :=λi G1 L1 M1 H1 d g l r e=>by
  unfold bf at e;rw [aaf] at e;have hi:i < n:=by
   cases q:(List.range n)[i]? with
   | none=>rw [q] at e;cases e
   | some j=>
    have:=(aad.mp q).1;rwa [abn] at this
  rw [aaZ hi] at e;cases e;exact ⟨hi,λv' H' ⟨eH,y⟩=>by subst eH y;exact ⟨G1, .refl _ _ _,r,rfl⟩⟩
 stop:=λi G1 L1 M1 H1 g l r e=>by show n<=i;unfold bf at e;simpa using e
section
variable{X:Cx}{R:St->XK}{tg iter:Expr}
theorem JI.of{wi:TI}{t:DA}(h:PI X tg iter wi)(hw:∀σ H G L ρ M q x,Rl X.K G L M H->ia X.K G L ρ σ->t ρ M q x->nK X.K G L H R x->wi σ H (IL X.K G L H q)):JI X R tg iter t:=by intro δ s σ H Q I ⟨G,L,ρ,M,q,x,r,n,ht,hx,hQ⟩;exact a_ (h δ s σ H _ I (hw σ H G L ρ M q x r n ht hx)) λu s1 f=>a_ f λu2 s2 f2=>BR.imp hQ f2
def rg(t:DA):DA:=λρ M q x=>t ρ M (λds M1=>match ds with
 | [.int j]=>(-(2 ^ 62)<=j/\j < 2 ^ 62)/\q (bf 0 j.toNat) M1
 | _=>False) x
theorem aB{a:Expr}{t:DA}{p pos:Pos}(hm:X.mg "range"=none)(ha:JA X R [a] t)(hg:Gl X "range":=by rfl)(hs:starEach [a] X.env=[(false,eval a X.env)]:=by rfl):JI X R tg (.Call (.Name "range" p) [a] [] pos) (rg t):=
 .of (xa hg hm ha hs) λσ H G L ρ M q x rl n h hx=>by
  refine ⟨G,L,ρ,M,_,x,rl,n,h,hx,λvs H1 ⟨ds,G1,L1,M1,e1,r1,n1,h1⟩=> ?_⟩
  (try dsimp only at h1)
  split at h1
  ·rename_i j;obtain ⟨v,rfl,n2⟩:=aY n1;have n2:v= .int j:=n2;subst n2;exact ⟨j,rfl,h1.1.1,h1.1.2,_,G1,L1,M1,e1,r1,Gx,h1.2⟩
  ·exact h1.elim
end
def GD(K:fv)(gg:TG)(g:Dt->En->(En->Prop)->Prop):Prop:=
 ∀G L M H d v ρ σ (k:En->Prop) (Q:St->Hp->Prop),Rl K G L M H->Den K G L d v->ia K G L ρ σ->g d ρ k->(∀ρ' σ',ia K G L ρ' σ'->k ρ'->Q σ' H)->gg v σ H Q
def gN(i:Nat):Dt->En->(En->Prop)->Prop:=λd ρ k=>k (ρ.set i (some d))
theorem aC{K:fv}{i:Nat}:GD K (fm i) (gN i):=λG L M H d v ρ σ k Q rl n en h hQ=>hQ _ _ (en.set i n) h
def g2(i j:Nat):Dt->En->(En->Prop)->Prop:=λd ρ k=>match d with
 | .tup [a,b]=>k ((ρ.set i (some a)).set j (some b))
 | _=>False
theorem FR{K:fv}{i j:Nat}:GD K (CF K 2 (kn (fm i) (kn (fm j) BI))) (g2 i j):=λG L M H d v ρ σ k Q rl n en h hQ=>by
 unfold g2 at h;split at h
 ·rename_i a b;obtain ⟨p,vs,rfl,e,n⟩:=n;obtain ⟨v1,v2,rfl,n1,n2⟩:=dq n;exact ⟨p,_,rfl, .inl (.inl (rl.sub _ _ e)),rfl,v1,_,rfl,v2,_,rfl,rfl,hQ _ _ ((en.set i n1).set j n2) h⟩
 ·exact h.elim
def g_(g:Dt->En->(En->Prop)->Prop)(tb:DS)(Dn:i_):List Dt->En->Ms->Prop
 | [],ρ,M=>Dn.nx ρ M
 | x::xs,ρ,M=>g x ρ λρ'=>tb {Dn with nx:=g_ g tb Dn xs,ct:=g_ g tb Dn xs,bk:=Dn.nx} ρ' M
def JC(ti:DA)(g:Dt->En->(En->Prop)->Prop)(tb:DS):DS:=λDn ρ M=>ti ρ M (λxs M1=>g_ g tb Dn xs ρ M1) Dn.x
section
variable{X:Cx}{R:St->XK}{tg iter:Expr}{body:List Stmt}{ti:DA}{gg:TG}{g:Dt->En->(En->Prop)->Prop}{tb:DS}{pos:Pos}
theorem fU(hi:JI X R tg iter ti)(hg:PG X tg gg)(gd:GD X.K gg g)(hb:xM X R body tb)(hp:PassesOwn (model X.prog X.w) X.A X.env X.xe:=by first | exact PassesOwn.never | exact PassesOwn.leaving)(hc:X.calm=true:=by rfl)(hs:∀x,foldedSetIterable iter X.env x=pure x:=by intro _;rfl):
  JS X R (.For tg iter body [] pos) (JC ti g tb):= .of (Aq hp hc hi hg hb hs) λσ H G L ρ M Dn rl n h hx=>by
 refine ⟨G,L,ρ,M,_,_,rl,n,h,hx,λJ H1 ⟨xs,G1,L1,M1,e1,r1,y,h1⟩=> ?_⟩;refine ⟨λi m σ' H'=>m+i=xs.length/\cU X.K G1 L1 H1 (λρ' M'=>g_ g tb Dn (xs.drop i) ρ' M') σ' H',⟨xs.length,rfl,ρ,G1,L1,M1, .refl _ _ _,r1,n.mono e1,by rw [List.drop_zero];exact h1⟩, ?_⟩;rintro i m σ' H' ⟨hm,ρ',G',L',M',e',r',n',h'⟩;by_cases hi:i < xs.length
 ·right;have hd:xs[i]? =some xs[i]:=aaa hi;obtain ⟨go,yl⟩:=y.go i G' L' M' H' _ e'.g e'.l r' hd;rw [abl hi] at h';refine ⟨go,cU X.K G1 L1 H1 (λρ' M'=>g_ g tb Dn (xs.drop (i+1)) ρ' M'),λσ2 H2 f=>⟨m - 1,by omega,by omega,f⟩,λv H2 hy=> ?_⟩;obtain ⟨G2,e2,r2,n2⟩:=yl v H2 hy;refine gd G2 L' M' H2 _ v ρ' σ' _ _ r2 n2 (n'.mono e2) h' λρ3 σ3 n3 h3=> ?_;refine ⟨G2,L',ρ3,M',_,r2,n3,h3,hx.on (e1.trans (e'.trans e2)),⟨λ_ _ f=>cU.back (e'.trans e2) f,λ_ _ f=>Fin.back (e1.trans (e'.trans e2)) f,λ_ _ f=>cU.back (e1.trans (e'.trans e2)) f,λ_ _ f=>cU.back (e'.trans e2) f⟩⟩
 ·left;refine ⟨y.stop i G' L' M' H' e'.g e'.l r' (by omega),ρ',G',L',M',e1.trans e',r',n', ?_⟩;rw [List.drop_eq_nil_of_le (by omega)] at h';exact h'
end
abbrev DK:=En->Ms->(List Dt->(Ms->Prop)->Ms->Prop)->DX->Prop
structure GL(K:fv)(J:It)(xs:List Dt)(ok:Ms->Prop)(G0:Hp)(L0:List Addr):Prop where
 go:∀(i:Nat) G L M H (d:Dt),bH G0 G->Pre L0 L->Rl K G L M H->ok M->xs[i]? =some d->J.go i H/\∀v H',J.HI i H v H'->∃G',Ex G L H G' L H'/\Rl K G' L M H'/\Den K G' L d v
 stop:∀(i:Nat) G L M H,bH G0 G->Pre L0 L->Rl K G L M H->ok M->xs.length<=i->J.stop i H
inductive NC(K:fv)(G0:Hp)(L0:List Addr)(H0:Hp)(q:List Dt->(Ms->Prop)->Ms->Prop)(J:It)(H:Hp):Prop
 | mk (xs:List Dt) (ok:Ms->Prop) (G:Hp) (L:List Addr) (M:Ms) (e:Ex G0 L0 H0 G L H) (r:Rl K G L M H) (y:GL K J xs ok G L) (h:q xs ok M)
inductive La(K:fv)(R:St->XK)(t:DK)(σ:St)(H:Hp)(Q:It->Hp->Prop):Prop
 | mk (G:Hp) (L:List Addr) (ρ:En) (M:Ms) (q:List Dt->(Ms->Prop)->Ms->Prop) (x:DX) (r:Rl K G L M H) (n:ia K G L ρ σ) (h:t ρ M q x) (hx:nK K G L H R x) (hQ:∀J H1,NC K G L H q J H1->Q J H1)
def JK(X:Cx)(R:St->XK)(tg iter:Expr)(t:DK):Prop:=PI X tg iter (La X.K R t)
def Ke(t:DA):DK:=λρ M q x=>t ρ M (λxs M1=>q xs (λ_=>True) M1) x
theorem sX{X:Cx}{R:St->XK}{tg iter:Expr}{t:DA}(h:JI X R tg iter t):JK X R tg iter (Ke t):=by intro δ s σ H Q I ⟨G,L,ρ,M,q,x,r,n,ht,hx,hQ⟩;refine h δ s σ H Q I ⟨G,L,ρ,M,_,x,r,n,ht,hx,λJ H1 ⟨xs,G1,L1,M1,e1,r1,y,hq⟩=>hQ J H1 ⟨xs,_,G1,L1,M1,e1,r1,⟨λi G L M H d g l r _ e=>y.go i G L M H d g l r e,λi G L M H g l r _ e=>y.stop i G L M H g l r e⟩,hq⟩⟩
def kI(Θ:List Nat)(ρ:En):En:=Θ.map λi=>(ρ[i]?).join
def fV(g:Dt->En->(En->Prop)->Prop)(tc:DT)(te:DE)(ρ0:En)(ok:Ms->Prop):List Dt->List Dt->Ms->(List Dt->Ms->Prop)->Prop
 | [],ae,M,k=>ok M/\k ae M
 | x::xs,ae,M,k=>ok M/\g x ρ0 λρ'=>tc ρ' M (λb M1=>match b with
  | true=>te ρ' M1 (λd M2=>fV g tc te ρ0 ok xs (ae++[d]) M2 k) iC
  | false=>fV g tc te ρ0 ok xs ae M1 k) iC
def mR(n:Nat)(ti:DK)(g:Dt->En->(En->Prop)->Prop)(tc:DT)(te:DE)(Θ:List Nat):DE:=λρ M q x=>ti ρ M (λxs ok M1=>xs.length<=sizeLine/\fV g tc te (List.replicate n none++kI Θ ρ) ok xs [] M1 (λys M2=>q (.lst ys) M2)) x
theorem Bw{K:fv}{G:Hp}{L:List Addr}{ρ:En}{σ os:St}{n:Nat}(h:ia K G L ρ σ)(Θ:List Nat)(hl:os.length=n):ia K G L (List.replicate n none++kI Θ ρ) (os++j6 Θ σ):=by
 have lc:(kI Θ ρ).length=(j6 Θ σ).length:=by unfold kI j6;simp
 refine ⟨by rw [aae,aae,aaT,hl,lc],λi d' e=> ?_⟩;by_cases hi:i < n
 ·rw [aay (by rw [aaT];exact hi),List.getElem?_replicate,aaP hi] at e;cases e
 ·rw [aav (by rw [aaT];omega),aaT] at e;rw [aav (by omega),hl];unfold kI at e;unfold j6;rw [aaf] at e⊢;cases q:Θ[i - n]? with
  | none=>rw [q] at e;cases e
  | some j=>
   rw [q] at e;have e:(ρ[j]?).join=some d':=aat e;have e:ρ[j]? =some (some d'):=by
    cases z:ρ[j]? with
    | none=>rw [z] at e;cases e
    | some o=>rw [z] at e;exact aaX some e
   obtain ⟨v,hv,dn⟩:=h.fG j d' e;exact ⟨v,by show some ((σ[j]?).join)=_;rw [hv];rfl,dn⟩
theorem sJ{K:fv}{J:It}{gg:TG}{g:Dt->En->(En->Prop)->Prop}{tc:DT}{te:DE}{Θ:List Nat}{nn:Nat}{ρ:En}{σ:St}{G1:Hp}{L1:List Addr}{M1:Ms}{H1:Hp}{xs:List Dt}{ok:Ms->Prop}{Dl:Addr}{Q:VK}{k:List Dt->Ms->Prop}(gd:GD K gg g)(r1:Rl K G1 L1 M1 H1)(n:ia K G1 L1 ρ σ)(y:GL K J xs ok G1 L1)(hD:H1 Dl=none)(hz:xs.length<=sizeLine)
  (h:fV g tc te (List.replicate nn none++kI Θ ρ) ok xs [] M1 k)
  (fin:∀G2 L2 M2 H2 ds vs,Ex G1 L1 H1 G2 L2 H2->Rl K G2 L2 M2 H2->G2 Dl=none->Dl∉L2->H2 Dl=some (.lst vs)->Γ K G2 L2 ds vs->k ds M2->Q (.ref Dl) H2):
  tZ J nn gg (xj K (λ_=>E0) tc) (sM K (λ_=>E0) te) (j6 Θ σ) Q H1 Dl:=by
 refine ⟨λi m ys H2=>m+i=xs.length/\H2 Dl=some (.lst ys)/\∃ae G2 L2 M2,Ex G1 L1 H1 G2 L2 H2/\Rl K G2 L2 M2 H2/\G2 Dl=none/\Dl∉L2/\Γ K G2 L2 ae ys/\ae.length<=i/\fV g tc te (List.replicate nn none++kI Θ ρ) ok (xs.drop i) ae M2 k,⟨xs.length,rfl,Ξ,[],G1,L1,M1, ?_⟩, ?_⟩
 ·have gn:G1 Dl=none:=r1.sub.free hD;refine ⟨⟨.refl _, .refl _,λ_ h _=>h,λb u h1 _=>by rw [Α (λz=>by rw [z,hD] at h1;cases h1)];exact h1,λ_ h=> .inl h,λb h=>by rw [Α (λz=>h (by rw [z];exact hD))];exact h⟩,⟨λb u e=>by rw [Α (λz=>by rw [z,gn] at e;cases e)];exact r1.sub b u e,r1.len,r1.nd,λi a m h1 h2=> ?_⟩,gn,r1.HM hD,rfl,aal _,by rw [List.drop_zero];exact h⟩;obtain ⟨q1,q2⟩:=r1.fG i a m h1 h2;exact ⟨q1,q2.mono (.refl _) (.refl _) (Α λz=>q2.there (by rw [z];exact hD))⟩
 ·rintro i m ys H2 ⟨hm,yn,ae,G2,L2,M2,e2,r2,g2,l2,n2,la,h2⟩;refine ⟨yn, ?_⟩;have ne1:∀{b:Addr} {u:HO},H1 b=some u->b≠Dl:=λe z=>by rw [z,hD] at e;cases e
  by_cases hi:i < xs.length
  ·right;have hd:xs[i]? =some xs[i]:=aaa hi;rw [abl hi] at h2;obtain ⟨aR,h2⟩:=h2;obtain ⟨go,yl⟩:=y.go i G2 L2 M2 H2 _ e2.g e2.l r2 aR hd;refine ⟨go,λv H3 hy os ER=> ?_⟩;obtain ⟨G3,e3,r3,n3⟩:=yl v H3 hy;have h3:H3 Dl=some (.lst ys):=e3.out _ _ yn l2;have g3:G3 Dl=none:=e3.fr _ g2 (by rw [yn];simp);refine gd G3 L2 M2 H3 _ v _ _ _ _ r3 n3 (Bw ((n.mono e2).mono e3) Θ ER) h2 λρ' σ' n' h'=> ?_;refine ⟨G3,L2,ρ',M2,_,iC,r3,n',h',zg,λb H4 ⟨G4,L4,M4,e4,r4,h4⟩=> ?_⟩;have Kf:H4 Dl=some (.lst ys):=e4.out _ _ h3 l2;have g4:G4 Dl=none:=e4.fr _ g3 (by rw [h3];simp);have l4:Dl∉L4:=λz=>(e4.new _ z).elim l2 λq=>by rw [h3] at q;cases q
   have KL:=e3.trans e4;cases b with
   | false=>
    exact ⟨m - 1,by omega,by omega,Kf,ae,G4,L4,M4,e2.trans KL,r4,g4,l4,Γ.mono KL.g KL.l _ _ n2,by omega,h4⟩
   | true=>
    refine ⟨G4,L4,ρ',M4,_,iC,r4,n'.mono e4,h4,zg,λv5 H5 ⟨d5,G5,L5,M5,e5,r5,n5,h5⟩=> ?_⟩;have Pq:H5 Dl=some (.lst ys):=e5.out _ _ Kf l4;have g5:G5 Dl=none:=e5.fr _ g4 (by rw [Kf];simp);have l5:Dl∉L5:=λz=>(e5.new _ z).elim l4 λq=>by rw [Kf] at q;cases q
    have LO:=KL.trans e5;have O4:ys.length=ae.length:=by rw [<-n2.length]
    refine ⟨Pq,by omega,m - 1,by omega,by omega,Ξ,ae++[d5],G5,L5,M5, ?_, ?_,g5,l5,(Γ.mono LO.g LO.l _ _ n2).app ⟨_,_,rfl,n5,rfl⟩,by rw [aae];show ae.length+1<=i+1;omega,h5⟩
    ·have GS:=e2.trans LO
     exact ⟨GS.g,GS.l,GS.fr,λb u h1 h2=>by rw [Α (ne1 h1)];exact GS.out b u h1 h2,GS.new,λb h=>by
      by_cases hb:b=Dl
      ·rw [hb,Ξ];simp
      ·rw [Α hb];exact GS.yf b h⟩
    ·refine ⟨λb u e=>by rw [Α (λz=>by rw [z,g5] at e;cases e)];exact r5.sub b u e,r5.len,r5.nd,λi a m h1 h2=> ?_⟩;obtain ⟨q1,q2⟩:=r5.fG i a m h1 h2;exact ⟨q1,q2.mono (.refl _) (.refl _) (Α λz=>l5 (by rw [<-z];exact aaw h1))⟩
  ·left;rw [List.drop_eq_nil_of_le (by omega)] at h2;exact ⟨y.stop i G2 L2 M2 H2 e2.g e2.l r2 h2.1 (by omega),fin G2 L2 M2 H2 ae ys e2 r2 g2 l2 yn n2 h2.2⟩
section
variable{K:fv}{G1:Hp}{L1:List Addr}{H1 G:Hp}{L:List Addr}{M:Ms}{H:Hp}{p:Addr}{ds:List Dt}{vs:List V}{q:DQ}
theorem BV(e:Ex G1 L1 H1 G L H)(r:Rl K G L M H)(GK:H1 p=none)(hg:G p=none)(hl:p∉L)(h:H p=some (.lst vs))(n:Γ K G L ds vs)(k:q (.lst ds) M):Fin K G1 L1 H1 q (.ref p) H:=by
 have g1:bH G (upd G p (.lst vs)):=λb u e=>by rw [Α (λz=>by rw [z,hg] at e;cases e)];exact e
 refine ⟨.lst ds,upd G p (.lst vs),L,M,⟨e.g.trans g1,e.l,λb h1 h2=> ?_,e.out,e.new,e.yf⟩,⟨λb u e=> ?_,r.len,r.nd,λk a m h1 h2=> ?_⟩,⟨p,vs,rfl,Ξ,Γ.mono g1 (.refl _) _ _ n⟩,k⟩
 ·rw [Α (λz=>h2 (by rw [z];exact GK))];exact e.fr b h1 h2
 ·by_cases hb:b=p
  ·rw [hb,Ξ] at e;rw [hb];cases e;exact h
  ·rw [Α hb] at e;exact r.sub b u e
 ·obtain ⟨q1,q2⟩:=r.fG k a m h1 h2;have hb:a≠p:=λz=>hl (by rw [<-z];exact aaw h1);exact ⟨by rw [Α hb];exact q1,q2.mono g1 (.refl _) rfl⟩
theorem BZ(e:Ex G1 L1 H1 G L H)(r:Rl K G L M H)(GK:H1 p=none)(hg:G p=none)(hl:p∉L)(h:H p=some (.lst vs))(n:Γ K G L ds vs)(k:q (.loc M.length) (M++[.lst ds])):Fin K G1 L1 H1 q (.ref p) H:=by
 refine ⟨.loc M.length,G,L++[p],M++[.lst ds],⟨e.g,e.l.trans ⟨[p],rfl⟩,e.fr,e.out,λb hb=> ?_,e.yf⟩,⟨r.sub,by rw [List.length_append,List.length_append,r.len];rfl,List.nodup_append.mpr ⟨r.nd,by simp,λa ha b hb=> ?_⟩,λk a m h1 h2=> ?_⟩,⟨p,rfl,by rw [<-r.len,List.getElem?_append_right (Nat.le_refl _)];simp⟩,k⟩
 ·rcases aaI.mp hb with z | z
  ·exact e.new b z
  ·have e:b=p:=by simpa using z
   right;rw [e];exact GK
 ·have e:b=p:=by simpa using hb
  rw [e];exact λz=>hl (z▸ha)
 ·by_cases hk:k < L.length
  ·rw [aay hk] at h1;rw [aay (by rw [<-r.len];exact hk)] at h2;obtain ⟨q1,q2⟩:=r.fG k a m h1 h2;exact ⟨q1,q2.mono (.refl _) ⟨[p],rfl⟩ rfl⟩
  ·have e:k=L.length:=by have:=(aad.mp h1).1;rw [aae] at this;simp at this;omega
   rw [e,aav (aal _)] at h1;rw [e,r.len,aav (aal _)] at h2;simp at h1 h2;subst h1 h2;exact ⟨hg,vs,h,Γ.mono (.refl _) ⟨[p],rfl⟩ _ _ n⟩
def J'(b:Bool)(q:DQ)(ys:List Dt)(M:Ms):Prop:=match b with
 | false=>q (.lst ys) M
 | true=>q (.loc M.length) (M++[.lst ys])
theorem v_{b:Bool}(e:Ex G1 L1 H1 G L H)(r:Rl K G L M H)(GK:H1 p=none)(hg:G p=none)(hl:p∉L)(h:H p=some (.lst vs))(n:Γ K G L ds vs)(k:J' b q ds M):Fin K G1 L1 H1 q (.ref p) H:=by
 cases b
 ·exact BV e r GK hg hl h n k
 ·exact BZ e r GK hg hl h n k
end
theorem cu{n i:Nat}(h:i < n):tq n (fm i):=λv os cs H Q hl hq=>⟨⟨os.set i (some v),by rw [aa6];exact hl,List.set_append_left _ _ (by omega)⟩,hq⟩
section
variable{X:Cx}{elt iter tg:Expr}{xs:List Str}{scope:Scope}{pos:Pos}{ys:List Str}{Θ:List Nat}
theorem eI{i:Nat}{x:Str}{px:Pos}(S:Ψ X scope xs ys Θ)(h:xs[i]? =some x)(C:Addr)(s:Shared)(H:Hp)(fp:List Addr):PG (Cx.comp X (xs++ys) scope C s H fp) (.Name x px) (fm i):=by
 have hm:x∈xs:=aaw h;have hi:(xs++ys)[i]? =some x:=by rw [aay (aad.mp h).1];exact h
 exact Χ S.nd hi (.inl (lookup_relabel_local (S.own x hm))) (.inr (lookup_relabel_local (S.own x hm)))
end
def rn:DT:=λ_ M q _=>q true M
def Lh(X:Cx)(cs:List Expr)(t:DT):Prop:=Kv X cs (xj X.K (λ_=>E0) t)
theorem i5{X:Cx}:Lh X [] rn:=⟨.inl rfl,λδ s σ H Q I ⟨G,L,ρ,M,q,x,r,n,h,hx,hQ⟩=>aai ⟨H,I,hQ true H ⟨G,L,M, .refl _ _ _,r,h⟩⟩⟩
theorem BY{X:Cx}{c:Expr}{t:DT}(h:JT X (λ_=>E0) c t):Lh X [c] t:=⟨.inr ⟨c,rfl⟩,h⟩
def Dd(b:Bool)(g:Dt->En->(En->Prop)->Prop)(tc:DT)(te:DE)(cs:En)(q:DQ):List Dt->(Ms->Prop)->Ms->Prop:=λzs ok M1=>zs.length<=sizeLine/\fV g tc te cs ok zs [] M1 (J' b q)
section
variable{X:Cx}{R:St->XK}{elt iter tg:Expr}{cs:List Expr}{xs:List Str}{scope:Scope}{pos:Pos}{gg:TG}{g:Dt->En->(En->Prop)->Prop}{ti:DK}{tc:DT}{te:DE}{ys:List Str}{Θ:List Nat}(b:Bool)(S:Ψ X scope xs ys Θ)(hi:JK X R tg iter ti)(hg:∀C s H fp,PG (Cx.comp X (xs++ys) scope C s H fp) tg gg)(gd:GD X.K gg g)(hk:tq xs.length gg)(ht:∀C s H fp,Lh (Cx.comp X (xs++ys) scope C s H fp) cs tc)(he:∀C s H fp,JE (Cx.comp X (xs++ys) scope C s H fp) (λ_=>E0) elt te)(hc:X.calm=true)(hs:∀x,foldedSetIterable iter X.env x=pure x)
include S hi hg gd hk ht he hc hs
theorem LY{t:DE}(e:∀ρ M q x,t ρ M q x->ti ρ M (Dd b g tc te (List.replicate xs.length none++kI Θ ρ) q) x):JE X R (.ListComp elt [⟨tg,iter,cs,0⟩] scope pos) t:=
 .of (zS (tc:=xj X.K (λ_=>E0) tc) (te:=sM X.K (λ_=>E0) te) S hc hi hg hk ht he hs) λσ H G L ρ M q x rl n h hx=>⟨G,L,ρ,M,_,x,rl,n,e _ _ _ _ h,hx,λJ H1 ⟨xs,ok,G1,L1,M1,e1,r1,y,hz,h1⟩ D hD=>sJ gd r1 (n.mono e1) y hD hz h1 λG2 L2 M2 H2 ds vs e2 r2 g2 l2 h2 n2 k=>Fin.back e1 (v_ e2 r2 hD g2 l2 h2 n2 k)⟩
theorem MD{i:Nat}{y:Str}{py iO:Pos}(hN:X.N.Nodup)(Bo:X.N[i]? =some y)(hy:Loc X.env.scope y)(BP:swapsWith (.ListComp elt [⟨tg,iter,cs,0⟩] scope pos) (some (.Name y py)) iO.line X.env=pure true)(hf:X.fn y=true\/X.env.scope.names.lookup y=some .local){t:DE}(e:∀ρ M q x,t ρ M q x->ti ρ M (Dd b g tc te (List.replicate xs.length none++kI Θ ρ) q) x):
  JS X R (.Assign [.Name y py] (.ListComp elt [⟨tg,iter,cs,0⟩] scope pos) iO) (xp i t):= .of (sf (tc:=xj X.K (λ_=>E0) tc) (te:=sM X.K (λ_=>E0) te) hN Bo hy S hc hi hg hk ht he BP hs hf) λσ H G L ρ M Dn rl n h hx=>by
 refine ⟨G,L,ρ,M,_,_,rl,n,e _ _ _ _ h,hx,λJ H1 ⟨xs,ok,G1,L1,M1,e1,r1,y,hz,h1⟩ D hD=>sJ gd r1 (n.mono e1) y hD hz h1 λG2 L2 M2 H2 ds vs e2 r2 g2 l2 h2 n2 k=> ?_⟩;obtain ⟨d,G3,L3,M3,e3,r3,n3,h3⟩:=v_ (q:=λd M=>Dn.nx (ρ.set i (some d)) M) e2 r2 hD g2 l2 h2 n2 k;exact ⟨_,G3,L3,M3,e1.trans e3,r3,((n.mono e1).mono e3).set i n3,h3⟩
end
def kz(te:DE)(cs:En):List Dt->List Dt->Ms->(List Dt->Ms->Prop)->Prop
 | [],ae,M,k=>k ae M
 | x::xs,ae,M,k=>te (some x::cs) M (λd M1=>kz te cs xs (ae++[d]) M1 k) iC
def lX(ti:DA)(te:DE)(Θ:List Nat):DE:=λρ M q x=>ti ρ M (λxs M1=>xs.length<=sizeLine/\kz te (kI Θ ρ) xs [] M1 (λys M2=>q (.lst ys) M2)) x
theorem pM{te:DE}{cs:En}:∀xs,kz te cs xs=fV (gN 0) rn te (none::cs) (λ_=>True) xs
 | []=>funext λae=>funext λM=>funext λk=>(true_and _).symm
 | x::xs=>funext λae=>funext λM=>funext λk=>by show te (some x::cs) M (λd M1=>kz te cs xs (ae++[d]) M1 k) iC=(True/\te (some x::cs) M (λd M1=>fV (gN 0) rn te (none::cs) (λ_=>True) xs (ae++[d]) M1 k) iC);rw [pM xs,true_and]
section
variable{X:Cx}{R:St->XK}{elt iter:Expr}{x:Str}{px:Pos}{scope:Scope}{pos:Pos}{ti:DA}{te:DE}{ys:List Str}{Θ:List Nat}
theorem tM(S:Ψ X scope [x] ys Θ)(hi:JI X R (.Name x px) iter ti)(he:∀C s H fp,JE (Cx.comp X (x::ys) scope C s H fp) (λ_=>E0) elt te)(hc:X.calm=true:=by rfl)(hs:∀x,foldedSetIterable iter X.env x=pure x:=by intro _;rfl):JE X R (.ListComp elt [⟨.Name x px,iter,[],0⟩] scope pos) (lX ti te Θ):=LY false S (sX hi) (eI S (i:=0) rfl) aC (cu (Nat.zero_lt_succ 0)) (λ_ _ _ _=>i5) he hc hs λρ M q x h=>by unfold lX at h;simp only [pM] at h;exact h
theorem mv{i:Nat}{y:Str}{py iO:Pos}(hN:X.N.Nodup)(Bo:X.N[i]? =some y)(hy:Loc X.env.scope y)(S:Ψ X scope [x] ys Θ)(hi:JI X R (.Name x px) iter ti)(he:∀C s H fp,JE (Cx.comp X (x::ys) scope C s H fp) (λ_=>E0) elt te)(hc:X.calm=true:=by rfl)(BP:swapsWith (.ListComp elt [⟨.Name x px,iter,[],0⟩] scope pos) (some (.Name y py)) iO.line X.env=pure true:=by rfl)(hs:∀x,foldedSetIterable iter X.env x=pure x:=by intro _;rfl)(hf:X.fn y=true\/X.env.scope.names.lookup y=some .local:=by first | exact .inl rfl | exact .inr rfl | assumption):JS X R (.Assign [.Name y py] (.ListComp elt [⟨.Name x px,iter,[],0⟩] scope pos) iO) (xp i (lX ti te Θ)):=MD false S (sX hi) (eI S (i:=0) rfl) aC (cu (Nat.zero_lt_succ 0)) (λ_ _ _ _=>i5) he hc hs hN Bo hy BP hf λρ M q x h=>by unfold lX at h;simp only [pM] at h;exact h
end
theorem fin_same{K:fv}{G0:Hp}{L0:List Addr}{H0 G:Hp}{L:List Addr}{M:Ms}{H:Hp}{d:Dt}{v:V}{q:DQ}(e:Ex G0 L0 H0 G L H)(r:Rl K G L M H)(n:Den K G L d v)(h:q d M):Fin K G0 L0 H0 q v H:=⟨d,G,L,M,e,r,n,h⟩
theorem bp{K:fv}{G0:Hp}{L0:List Addr}{H0 G:Hp}{L:List Addr}{M:Ms}{H:Hp}{d:Dt}{v:V}{q:DQ}(e:Ex G0 L0 H0 G L H)(r:Rl K G L M H)(h:q d M)(n:Den K G L d v:=by rfl):Fin K G0 L0 H0 q v H:=⟨d,G,L,M,e,r,n,h⟩
def iV:Dt->Dt->Ms->DQ->Prop
 | .int i, .int j,M,q=>q (.int (i+j)) M
 | .str a, .str b,M,q=>a.length+b.length<=sizeLine/\q (.str (a++b)) M
 | .lst a, .lst b,M,q=>a.length+b.length<=sizeLine/\q (.lst (a++b)) M
 | .tup a, .tup b,M,q=>(a≠[]/\a.length+b.length<=sizeLine)/\q (.tup (a++b)) M
 | _,_,_,_=>False
def B':Dt->Dt->Ms->DQ->Prop
 | .int i, .int j,M,q=>q (.int (i - j)) M
 | _,_,_,_=>False
def FU:Dt->Dt->Ms->DQ->Prop
 | .int i, .int j,M,q=>(fc i/\fc j)/\q (.int (i * j)) M
 | .lst a, .int k,M,q=>(-(2 ^ 63)<=k/\k < 2 ^ 63/\a.length * k.toNat<=sizeLine)/\q (.lst (List.replicate k.toNat a).flatten) M
 | _,_,_,_=>False
def EK:Dt->Dt->Ms->DQ->Prop
 | .int i, .int j,M,q=>(0 < j/\fc j)/\q (.int (i / j)) M
 | _,_,_,_=>False
def AX:Dt->Dt->Ms->DQ->Prop
 | .int i, .int j,M,q=>(j≠0/\fc j)/\q (.int (i.fdiv j)) M
 | _,_,_,_=>False
def EI:Dt->Dt->Ms->DQ->Prop
 | .int i, .int j,M,q=>0 < j/\q (.int (i % j)) M
 | _,_,_,_=>False
def E7:Dt->Dt->Ms->DQ->Prop
 | .int i, .int j,M,q=>mO i j/\q (.int (i ^ j.toNat)) M
 | _,_,_,_=>False
def zZ:Dt->Ms->DQ->Prop
 | .int i,M,q=>q (.int (-i)) M
 | _,_,_=>False
section
variable{K:fv}
theorem L7:mY K (λx y H Q=>(∃i j,x=V.int i/\y= .int j/\Q (.int (i+j)) H)\/(∃i j,x=V.str i/\y= .str j/\i.length+j.length<=sizeLine/\Q (.str (i++j)) H)\/Ij x y H Q\/Dm K x y H Q) iV:=by
 intro G0 L0 H0 G L M H v1 v2 d1 d2 q e r n1 n2 h;unfold iV at h;split at h
 ·rename_i i j;exact .inl ⟨i,j,n1,n2,bp e r h⟩
 ·rename_i a b;exact .inr (.inl ⟨a,b,n1,n2,h.1,bp e r h.2⟩)
 ·rename_i a b;obtain ⟨p1,w1,rfl,e1,m1⟩:=n1;obtain ⟨p2,w2,rfl,e2,m2⟩:=n2;refine .inr (.inr (.inl ⟨p1,p2,w1,w2,rfl,rfl,r.sub _ _ e1,r.sub _ _ e2,by rw [<-m1.length,<-m2.length];exact h.1,λp hp=> ?_⟩));exact eS e r hp (p9 r hp (m1.app m2)) h.2
 ·rename_i a b;obtain ⟨p1,w1,rfl,e1,m1⟩:=n1;obtain ⟨p2,w2,rfl,e2,m2⟩:=n2;have ne:w1≠[]:=λz=>h.1.1 (by have:=m1.length;rw [z] at this;exact List.eq_nil_of_length_eq_zero this);refine .inr (.inr (.inr ⟨p1,p2,w1,w2,rfl,rfl, .inl (.inl (r.sub _ _ e1)), .inl (.inl (r.sub _ _ e2)),ne,by rw [<-m1.length,<-m2.length];exact h.1.2,λz=> ?_,λ_ p hp=> ?_⟩))
  ·have hb:b=[]:=by have:=m2.length;rw [z] at this;exact List.eq_nil_of_length_eq_zero this
   subst hb;rw [aaY] at h;exact fin_same (d:= .tup a) e r ⟨p1,w1,rfl,e1,m1⟩ h.2
  ·exact eS e r hp (jj r hp (m1.app m2)) h.2
 ·exact h.elim
theorem Mt:mY K (wI λi j=> .int (i - j)) B':=by
 intro G0 L0 H0 G L M H v1 v2 d1 d2 q e r n1 n2 h;unfold B' at h;split at h
 ·exact ⟨_,_,n1,n2,bp e r h⟩
 ·exact h.elim
theorem N3:mY K (λx y H Q=>(rI (λi j=>fc i/\fc j) λi j=> .int (i * j)) x y H Q\/IZ x y H Q) FU:=by
 intro G0 L0 H0 G L M H v1 v2 d1 d2 q e r n1 n2 h;unfold FU at h;split at h
 ·exact .inl ⟨_,_,n1,n2,h.1,bp e r h.2⟩
 ·rename_i a k;obtain ⟨p1,w1,rfl,e1,m1⟩:=n1;refine .inr ⟨p1,k,w1,rfl,n2,r.sub _ _ e1,h.1.1,h.1.2.1,by rw [<-m1.length];exact h.1.2.2,λp hp=> ?_⟩;exact eS e r hp (p9 r hp (.of (wq m1.pair k.toNat))) h.2
 ·exact h.elim
theorem Me:mY K (rI (λ_ j=>j≠0/\fc j) λi j=> .int (i.fdiv j)) EK:=by
 intro G0 L0 H0 G L M H v1 v2 d1 d2 q e r n1 n2 h;unfold EK at h;split at h
 ·rename_i i j;have h0:=h.1.1;refine ⟨_,_,n1,n2,⟨by omega,h.1.2⟩,fin_same (d:= .int (i.fdiv j)) e r rfl ?_⟩;rw [abA i (aaN h0)];exact h.2
 ·exact h.elim
theorem Ha:mY K (rI (λ_ j=>j≠0/\fc j) λi j=> .int (i.fdiv j)) AX:=by
 intro G0 L0 H0 G L M H v1 v2 d1 d2 q e r n1 n2 h;unfold AX at h;split at h
 ·exact ⟨_,_,n1,n2,h.1,bp e r h.2⟩
 ·exact h.elim
theorem M9:mY K (rI (λ_ j=>0 < j) λi j=> .int (i % j)) EI:=by
 intro G0 L0 H0 G L M H v1 v2 d1 d2 q e r n1 n2 h;unfold EI at h;split at h
 ·exact ⟨_,_,n1,n2,h.1,bp e r h.2⟩
 ·exact h.elim
theorem MU:mY K (rI mO λi j=> .int (i ^ j.toNat)) E7:=by
 intro G0 L0 H0 G L M H v1 v2 d1 d2 q e r n1 n2 h;unfold E7 at h;split at h
 ·exact ⟨_,_,n1,n2,h.1,bp e r h.2⟩
 ·exact h.elim
theorem N2:Nq K (rU λi=> .int (-i)) zZ:=by
 intro G0 L0 H0 G L M H v1 d1 q e r n1 h;unfold zZ at h;split at h
 ·exact ⟨_,n1,bp e r h⟩
 ·exact h.elim
end
section
variable{X:Cx}{R:St->XK}{a b c:Expr}{ta tb:DE}{pos:Pos}
theorem Υ(ja:JE X R a ta)(jb:JE X R b tb):JE X R (.BinOp a .Add b pos) (gC iV ta tb):=uz (Ff.or (uU.or (FF.or Bx))) L7 ja jb
theorem kh(ja:JE X R a ta)(jb:JE X R b tb):JE X R (.BinOp a .Sub b pos) (gC B' ta tb):=uz GC Mt ja jb
theorem aQ(ja:JE X R a ta)(jb:JE X R b tb):JE X R (.BinOp a .Mult b pos) (gC FU ta tb):=uz (Bv.or D0) N3 ja jb
theorem bG(ja:JE X R a ta)(jb:JE X R b tb):JE X R (.BinOp a .FloorDiv b pos) (gC EK ta tb):=uz sN Me ja jb
theorem Al(ja:JE X R a ta)(jb:JE X R b tb):JE X R (.BinOp a .FloorDiv b pos) (gC AX ta tb):=uz sN Ha ja jb
theorem ar(ja:JE X R a ta)(jb:JE X R b tb):JE X R (.BinOp a .Mod b pos) (gC EI ta tb):=uz FD M9 ja jb
theorem eu(ja:JE X R a ta)(jb:JE X R b tb):JE X R (.BinOp a .Pow b pos) (gC E7 ta tb):=uz E9 MU ja jb
theorem rY(ja:JE X R a ta):JE X R (.UnaryOp .USub a pos) (Kt zZ ta):=Lp EC N2 ja
end
def Kw:Dt->Dt->Ms->DQ->Prop
 | .int i, .int j,M,q=>q (.bl (decide (i < j))) M
 | _,_,_,_=>False
def Lz:Dt->Dt->Ms->DQ->Prop
 | .int i, .int j,M,q=>q (.bl (decide (i<=j))) M
 | _,_,_,_=>False
def Lj:Dt->Dt->Ms->DQ->Prop
 | .int i, .int j,M,q=>q (.bl (decide (j < i))) M
 | _,_,_,_=>False
def NP:Dt->Dt->Ms->DQ->Prop
 | .int i, .int j,M,q=>q (.bl (decide (j<=i))) M
 | _,_,_,_=>False
def sE:Dt->Option V
 | .aW=>some .aW
 | .bl b=>some (.bl b)
 | .int i=>some (.int i)
 | .str x=>some (.str x)
 | _=>none
def fZ:List Dt->Option (List V)
 | []=>some []
 | d::ds=>match sE d,fZ ds with
  | some v,some vs=>some (v::vs)
  | _,_=>none
section
variable{K:fv}{G:Hp}{L:List Addr}
theorem iS{d:Dt}{v u:V}(h:sE d=some u)(n:Den K G L d v):v=u/\cg u=true:=by cases d <;> first | (cases h;exact ⟨n,rfl⟩) | cases h
theorem cW:∀{ds:List Dt} {vs us:List V},fZ ds=some us->Γ K G L ds vs->vs=us/\us.all cg=true
 | [],vs,us,h,n=>by cases h;exact ⟨n,rfl⟩
 | d::ds,_,us,h,⟨v,r,e,n1,n2⟩=>by
  subst e;unfold fZ at h;split at h
  ·rename_i u1 u2 h1 h2;cases h;obtain ⟨a1,a2⟩:=iS h1 n1;obtain ⟨b1,b2⟩:=cW h2 n2;subst a1 b1;exact ⟨rfl,by rw [abr,a2,b2];rfl⟩
  ·cases h
end
def Ca:Dt->Dt->Ms->DQ->Prop
 | .int i, .int j,M,q=>q (.bl (decide (i=j))) M
 | .str i, .str j,M,q=>q (.bl (decide (i=j))) M
 | .bl i, .bl j,M,q=>q (.bl (decide (i=j))) M
 | .tup a, .tup b,M,q=>match fZ a,fZ b with
  | some us,some vs=>q (.bl (lM us vs)) M
  | _,_=>False
 | _,_,_,_=>False
def Fl:Dt->Dt->Ms->DQ->Prop
 | .int i, .int j,M,q=>q (.bl (!decide (i=j))) M
 | .str i, .str j,M,q=>q (.bl (!decide (i=j))) M
 | .bl i, .bl j,M,q=>q (.bl (!decide (i=j))) M
 | .tup a, .tup b,M,q=>match fZ a,fZ b with
  | some us,some vs=>q (.bl (!lM us vs)) M
  | _,_=>False
 | _,_,_,_=>False
section
variable{K:fv}
theorem N':mY K (wI λi j=> .bl (decide (i < j))) Kw:=by
 intro G0 L0 H0 G L M H v1 v2 d1 d2 q e r n1 n2 h;unfold Kw at h;split at h
 ·exact ⟨_,_,n1,n2,bp e r h⟩
 ·exact h.elim
theorem Qn:mY K (wI λi j=> .bl (decide (i<=j))) Lz:=by
 intro G0 L0 H0 G L M H v1 v2 d1 d2 q e r n1 n2 h;unfold Lz at h;split at h
 ·exact ⟨_,_,n1,n2,bp e r h⟩
 ·exact h.elim
theorem Sn:mY K (wI λi j=> .bl (decide (j < i))) Lj:=by
 intro G0 L0 H0 G L M H v1 v2 d1 d2 q e r n1 n2 h;unfold Lj at h;split at h
 ·exact ⟨_,_,n1,n2,bp e r h⟩
 ·exact h.elim
theorem QF:mY K (wI λi j=> .bl (decide (j<=i))) NP:=by
 intro G0 L0 H0 G L M H v1 v2 d1 d2 q e r n1 n2 h;unfold NP at h;split at h
 ·exact ⟨_,_,n1,n2,bp e r h⟩
 ·exact h.elim
theorem gs{p q:Prop} [Decidable p] [Decidable q](h:p↔q):decide p=decide q:=decide_eq_decide.mpr h
theorem JJ:mY K (λx y H Q=>Oy x y H Q\/JV K x y H Q) Ca:=by
 intro G0 L0 H0 G L M H v1 v2 d1 d2 q e r n1 n2 h;unfold Ca at h;split at h
 ·rename_i i j;cases n1;cases n2;exact .inl ⟨rfl,fin_same (d:= .bl _) e r (by show V.bl _=V.bl _;rw [gs (p:=V.int i=V.int j) (q:=i=j) ⟨λz=>V.int.inj z,λz=>by rw [z]⟩]) h⟩
 ·rename_i i j;cases n1;cases n2;exact .inl ⟨rfl,fin_same (d:= .bl _) e r (by show V.bl _=V.bl _;rw [gs (p:=V.str i=V.str j) (q:=i=j) ⟨λz=>V.str.inj z,λz=>by rw [z]⟩]) h⟩
 ·rename_i i j;cases n1;cases n2;exact .inl ⟨rfl,fin_same (d:= .bl _) e r (by show V.bl _=V.bl _;rw [gs (p:=V.bl i=V.bl j) (q:=i=j) ⟨λz=>V.bl.inj z,λz=>by rw [z]⟩]) h⟩
 ·rename_i a b;obtain ⟨p1,w1,rfl,e1,m1⟩:=n1;obtain ⟨p2,w2,rfl,e2,m2⟩:=n2;split at h
  ·rename_i us vs h1 h2;obtain ⟨rfl,a2⟩:=cW h1 m1;obtain ⟨rfl,b2⟩:=cW h2 m2;exact .inr ⟨p1,p2,_,_,rfl,rfl, .inl (.inl (r.sub _ _ e1)), .inl (.inl (r.sub _ _ e2)),a2,b2,bp e r h⟩
  ·exact h.elim
 ·exact h.elim
theorem NX:mY K (λx y H Q=>Oh x y H Q\/IJ K x y H Q) Fl:=by
 intro G0 L0 H0 G L M H v1 v2 d1 d2 q e r n1 n2 h;unfold Fl at h;split at h
 ·rename_i i j;cases n1;cases n2;exact .inl ⟨rfl,fin_same (d:= .bl _) e r (by show V.bl _=V.bl _;rw [gs (p:=V.int i=V.int j) (q:=i=j) ⟨λz=>V.int.inj z,λz=>by rw [z]⟩]) h⟩
 ·rename_i i j;cases n1;cases n2;exact .inl ⟨rfl,fin_same (d:= .bl _) e r (by show V.bl _=V.bl _;rw [gs (p:=V.str i=V.str j) (q:=i=j) ⟨λz=>V.str.inj z,λz=>by rw [z]⟩]) h⟩
 ·rename_i i j;cases n1;cases n2;exact .inl ⟨rfl,fin_same (d:= .bl _) e r (by show V.bl _=V.bl _;rw [gs (p:=V.bl i=V.bl j) (q:=i=j) ⟨λz=>V.bl.inj z,λz=>by rw [z]⟩]) h⟩
 ·rename_i a b;obtain ⟨p1,w1,rfl,e1,m1⟩:=n1;obtain ⟨p2,w2,rfl,e2,m2⟩:=n2;split at h
  ·rename_i us vs h1 h2;obtain ⟨rfl,a2⟩:=cW h1 m1;obtain ⟨rfl,b2⟩:=cW h2 m2;exact .inr ⟨p1,p2,_,_,rfl,rfl, .inl (.inl (r.sub _ _ e1)), .inl (.inl (r.sub _ _ e2)),a2,b2,bp e r h⟩
  ·exact h.elim
 ·exact h.elim
end
section
variable{X:Cx}{R:St->XK}{a b c:Expr}{ta tb:DE}{pos:Pos}
theorem BE(ja:JE X R a ta)(jb:JE X R b tb):JE X R (.Compare a [.Lt] [b] pos) (gC Kw ta tb):=rH Dr N' ja jb (fH _)
theorem uq(ja:JE X R a ta)(jb:JE X R b tb):JE X R (.Compare a [.LtE] [b] pos) (gC Lz ta tb):=rH JN Qn ja jb (fH _)
theorem NH(ja:JE X R a ta)(jb:JE X R b tb):JE X R (.Compare a [.GtE] [b] pos) (gC NP ta tb):=rH JB QF ja jb (fH _)
theorem Hg{k:Nat}(hr:aX k X.A)(ja:JE X R a ta)(jb:JE X R b tb):JE X R (.Compare a [.Eq] [b] pos) (gC Ca ta tb):=rH (Du.or (zy hr.uQ)) JJ ja jb (fH _)
theorem oz(ja:JE X R a ta)(jb:JE X R b tb):JT X R (.Compare a [.Lt] [b] pos) (l_ (gC Kw ta tb)):=ie Dr N' ja jb (fH _)
theorem DW(ja:JE X R a ta)(jb:JE X R b tb):JT X R (.Compare a [.Gt] [b] pos) (l_ (gC Lj ta tb)):=ie Iq Sn ja jb (fH _)
theorem bF{k:Nat}(hr:aX k X.A)(ja:JE X R a ta)(jb:JE X R b tb):JT X R (.Compare a [.Eq] [b] pos) (l_ (gC Ca ta tb)):=ie (Du.or (zy hr.uQ)) JJ ja jb (fH _)
theorem sV{k:Nat}(hr:aX k X.A)(ja:JE X R a ta)(jb:JE X R b tb):JT X R (.Compare a [.NotEq] [b] pos) (l_ (gC Fl ta tb)):=ie (Ie.or (Fq hr.uQ)) NX ja jb (fH _)
end
def eW(M:Ms):Dt->Option (List Dt)
 | .lst xs=>some xs
 | .tup xs=>some xs
 | .cE ns=>some (ns.map .int)
 | .kt xs=>some xs
 | .loc k=>match M[k]? with
  | some (.lst xs)=>some xs
  | _=>none
 | _=>none
theorem kU{K:fv}{G:Hp}{L:List Addr}{M:Ms}{H:Hp}{d:Dt}{v:V}{xs:List Dt}(r:Rl K G L M H)(n:Den K G L d v)(h:eW M d=some xs):∃a vs,v= .ref a/\(eN K H a vs\/gP K H a vs)/\Γ K G L xs vs:=by
 cases d with
 | lst ds=>cases h;obtain ⟨a,vs,rfl,e,m⟩:=n;exact ⟨a,vs,rfl, .inl (.of (r.sub _ _ e)),m⟩
 | tup ds=>cases h;obtain ⟨a,vs,rfl,e,m⟩:=n;exact ⟨a,vs,rfl, .inr (.of (r.sub _ _ e)),m⟩
 | kt ds=>cases h;obtain ⟨a,vs,rfl,e,m⟩:=n;exact ⟨a,vs,rfl, .inr (r.sub.Jx e),m⟩
 | cE ns=>cases h;obtain ⟨a,rfl,e⟩:=n;exact ⟨a,_,rfl, .inl (r.sub.seq e),cX⟩
 | loc k=>
  obtain ⟨a,rfl,e⟩:=n;have h:(match M[k]? with | some (.lst xs)=>some xs | _=>none)=some xs:=h;split at h
  ·rename_i ys hm;cases h;obtain ⟨_,vs,e1,m1⟩:=r.fG k a _ e hm;exact ⟨a,vs,rfl, .inl (.of e1),m1⟩
  ·cases h
 | _=>cases h
theorem B1{K:fv}{G:Hp}{L:List Addr}{ds:List Dt}{vs:List V}{i:Int}{d:Dt}(n:Γ K G L ds vs)(h:fF ds i=some d):∃v,fF vs i=some v/\Den K G L d v:=by
 unfold fF at h⊢;rw [<-n.length];cases q:xJ ds.length i with
 | none=>rw [q] at h;cases h
 | some j=>
  rw [q] at h;obtain ⟨v,e,m⟩:=n.get h;exact ⟨v,e,m⟩
def dF:Dt->Dt->Ms->DQ->Prop
 | .str z, .int i,M,q=>z.length<=sizeLine/\match fF z.cps.toList i with
  | some c=>q (.str ⟨#[c]⟩) M
  | none=>False
 | d, .int i,M,q=>match eW M d with
  | some xs=>(match fF xs i with
   | some y=>q y M
   | none=>False)
  | none=>False
 | _,_,_,_=>False
def c7:List Dt->Ms->DQ->Prop
 | [.str z],M,q=>z.length<=sizeLine/\q (.int z.length) M
 | [d],M,q=>match eW M d with
  | some xs=>q (.int xs.length) M
  | none=>False
 | _,_,_=>False
section
variable{K:fv}
theorem RJ:mY K (Of K) dF:=by
 intro G0 L0 H0 G L M H v1 v2 d1 d2 q e r n1 n2 h;unfold dF at h;split at h
 ·rename_i z i;split at h
  ·rename_i c hc;exact .inr (.inr ⟨z,i,c,n1,n2,h.1,hc,bp e r h.2⟩)
  ·exact h.2.elim
 ·rename_i d i _;split at h
  ·rename_i xs hx;split at h
   ·rename_i y hy;obtain ⟨a,vs,rfl,hs,m⟩:=kU r n1 hx;obtain ⟨v,e1,m1⟩:=B1 m hy;rcases hs with hs | hs
    ·exact .inl ⟨a,vs,i,v,rfl,n2,hs,e1,fin_same e r m1 h⟩
    ·exact .inr (.inl ⟨a,vs,i,v,rfl,n2,hs,e1,fin_same e r m1 h⟩)
   ·exact h.elim
  ·exact h.elim
 ·exact h.elim
theorem NJ:yk K (λxs H Q=>(∃z,xs=[V.str z]/\z.length<=sizeLine/\Q (.int z.length) H)\/(∃p ys,xs=[V.ref p]/\(eN K H p ys\/gP K H p ys)/\Q (.int ys.length) H)) c7:=by
 intro G0 L0 H0 G L M H vs ds q e r n h;unfold c7 at h;split at h
 ·rename_i z;obtain ⟨v,rfl,n1⟩:=aY n;cases n1;exact .inl ⟨z,rfl,h.1,bp e r h.2⟩
 ·rename_i d _;obtain ⟨v,rfl,n1⟩:=aY n;split at h
  ·rename_i xs hx;obtain ⟨a,ws,rfl,hs,m⟩:=kU r n1 hx;exact .inr ⟨a,ws,rfl,hs,fin_same (d:= .int xs.length) e r (by show V.int _=V.int _;rw [m.length]) h⟩
  ·exact h.elim
 ·exact h.elim
end
section
variable{X:Cx}{R:St->XK}{a b c:Expr}{ta tb:DE}{pos:Pos}
theorem ω(ja:JE X R a ta)(jb:JE X R b tb)(hs:pA b:=by exact λ_ _=>rfl):JE X R (.Subscript a b pos) (gC dF ta tb):=JO EU RJ ja jb hs
variable{x:Str}{p:Pos}{e:Expr}{es:List Expr}{t:DA}{id T:String}{r:List V->Hp->VK->Prop}{f:List Dt->Ms->DQ->Prop}
theorem e_(hc:cn X (.builtin id) r)(cd:yk X.K r f)(hm:X.mg x=none)(hv:bootBuiltins x=some (.builtin id))(ha:JA X R (e::es) t)(hg:Gl X x:=by rfl)(hn:x≠"__name__":=by decide)(m_:(x==("__debug__":Str))=false:=by decide)
  (he:starEach (e::es) X.env=(false,eval e X.env)::starEach es X.env:=by rfl) (dE:(backTo pos (starEach es X.env)).any (·.1)=false:=by rfl):JE X R (.Call (.Name x p) (e::es) [] pos) (u0 f t):=
 .of (AI hc hg hm hv ha hn m_ he dE) λσ H G L ρ M q x r n h hx=>C1 cd r n h hx
theorem z0(hc:cn X (.type T) r)(cd:yk X.K r f)(hm:X.mg x=none)(hv:bootBuiltins x=some (.type T))(ha:JA X R (e::es) t)(hg:Gl X x:=by rfl)(hn:x≠"__name__":=by decide)(m_:(x==("__debug__":Str))=false:=by decide)
  (he:starEach (e::es) X.env=(false,eval e X.env)::starEach es X.env:=by rfl) (dE:(backTo pos (starEach es X.env)).any (·.1)=false:=by rfl):JE X R (.Call (.Name x p) (e::es) [] pos) (u0 f t):=
 .of (jC hc hg hm hv ha hn m_ he dE) λσ H G L ρ M q x r n h hx=>C1 cd r n h hx
theorem bB(hm:X.mg "len"=none)(ha:JA X R [e] t)(he:starEach [e] X.env=(false,eval e X.env)::starEach [] X.env:=by rfl)(dE:(backTo pos (starEach [] X.env)).any (·.1)=false:=by rfl)(hg:Gl X "len":=by rfl):JE X R (.Call (.Name "len" p) [e] [] pos) (u0 c7 t):=
 e_ (qg.or ql) NJ hm PySem.boot_len ha hg (by decide) (by decide) he dE
end
def Gy:List Dt->Ms->DQ->Prop
 | [.int i],M,q=>q (.int (if i < 0 then -i else i)) M
 | _,_,_=>False
def Fj:List Dt->Ms->DQ->Prop
 | [d],M,q=>∃bs:List Bool,eW M d=some (bs.map Dt.bl)/\(∀k,d≠ .kt k)/\(∀k,d≠ .tup k)/\q (.bl (bs.any id)) M
 | _,_,_=>False
def qW:Dt->Option Value
 | .aW=>some (.type "NoneType")
 | .bl _=>some (.type "bool")
 | .int _=>some (.type "int")
 | .str _=>some (.type "str")
 | .lst _=>some (.type "list")
 | .tup _=>some (.type "tuple")
 | _=>none
def yW:Dt->Option Value
 | .ty T=>some (.type T)
 | .ref C=>some (.ref C)
 | _=>none
def x8(K:fv):List Dt->Ms->DQ->Prop
 | [d,c],M,q=>match qW d,yW c with
  | some t,some t'=>(match PySem.W.kitOne K t t' with
   | some b=>q (.bl b) M
   | none=>False)
  | _,_=>False
 | _,_,_=>False
section
variable{K:fv}
theorem oG{G:Hp}{L:List Addr}:∀{l:List Str},Γ K G L (l.map Dt.str) (l.map V.str)
 | []=>rfl
 | _::_=>⟨_,_,rfl,rfl,oG⟩
theorem i7{G:Hp}{L:List Addr}:∀{bs:List Bool} {vs:List V},Γ K G L (bs.map Dt.bl) vs->vs=bs.map V.bl
 | [],_,h=>h
 | b::bs,_,⟨v,r,e,h1,h2⟩=>by subst e;rw [i7 h2,show v=V.bl b from h1];rfl
theorem Mp:yk K (λxs H Q=>∃i,xs=[V.int i]/\Q (.int (if i < 0 then -i else i)) H) Gy:=by
 intro G0 L0 H0 G L M H vs ds q e r n h;unfold Gy at h;split at h
 ·rename_i i;obtain ⟨v,rfl,n1⟩:=aY n;cases n1;exact ⟨i,rfl,bp e r h⟩
 ·exact h.elim
theorem Ni:yk K (Hk K) Fj:=by
 intro G0 L0 H0 G L M H vs ds q e r n h;unfold Fj at h;split at h
 ·rename_i d;obtain ⟨bs,hs,nk,nt,h⟩:=h;obtain ⟨v,rfl,n1⟩:=aY n;cases d with
  | lst xs=>
   cases hs;obtain ⟨a,ws,rfl,e1,m⟩:=n1;exact ⟨a,bs,rfl,by rw [<-i7 m];exact .of (r.sub _ _ e1),bp e r h⟩
  | loc k=>
   obtain ⟨a,rfl,e1⟩:=n1;have hs:(match M[k]? with | some (.lst xs)=>some xs | _=>none)=some (bs.map Dt.bl):=hs;split at hs
   ·rename_i ys hm;cases hs;obtain ⟨_,ws,e2,m⟩:=r.fG k a _ e1 hm;exact ⟨a,bs,rfl,by rw [<-i7 m];exact .of e2,bp e r h⟩
   ·cases hs
  | tup xs=>exact aaE rfl (nt xs)
  | kt xs=>exact aaE rfl (nk xs)
  | cE ns=>
   have e0:ns.map Dt.int=bs.map Dt.bl:=aat hs;cases ns with
   | nil=>
    cases bs with
    | nil=>obtain ⟨a,rfl,e1⟩:=n1;exact ⟨a,[],rfl,r.sub.seq e1,bp e r h⟩
    | cons _ _=>cases e0
   | cons _ _=>
    cases bs with
    | nil=>cases e0
    | cons _ _=>cases e0
  | _=>cases hs
 ·exact h.elim
theorem oy{G:Hp}{L:List Addr}{M:Ms}{H:Hp}{d:Dt}{v:V}{t:Value}(r:Rl K G L M H)(n:Den K G L d v)(h:qW d=some t):gc K H v t:=by
 cases d with
 | aW=>cases h;cases n;exact .aW
 | bl b=>cases h;cases n;exact .bl _
 | int i=>cases h;cases n;exact .int _
 | str x=>cases h;cases n;exact .str _
 | lst xs=>cases h;obtain ⟨a,ws,rfl,e,_⟩:=n;exact .lst (r.sub _ _ e)
 | tup xs=>cases h;obtain ⟨a,ws,rfl,e,_⟩:=n;exact .tup (r.sub _ _ e)
 | _=>cases h
theorem wk{G:Hp}{L:List Addr}{d:Dt}{v:V}{t:Value}(n:Den K G L d v)(h:yW d=some t):y6 v=some t:=by
 cases d with
 | ty T=>cases n;exact h
 | ref C=>cases n;exact h
 | _=>cases h
theorem Lr:yk K (λxs H Q=>∃x c t t' b,xs=[x,c]/\gc K H x t/\y6 c=some t'/\PySem.W.kitOne K t t'=some b/\Q (.bl b) H) (x8 K):=by
 intro G0 L0 H0 G L M H vs ds q e r n h;unfold x8 at h;split at h
 ·rename_i d c;obtain ⟨v,u,rfl,n1,n2⟩:=dq n;split at h
  ·rename_i t t' h1 h2;split at h
   ·rename_i b hb;exact ⟨v,u,t,t',b,rfl,oy r n1 h1,wk n2 h2,hb,bp e r h⟩
   ·exact h.elim
  ·exact h.elim
 ·exact h.elim
end
section
variable{X:Cx}{R:St->XK}{o a e e1 e2:Expr}{es:List Expr}{to ta te:DE}{t:DA}{name:Str}{apos aE pos p p2:Pos}{T id:String}
theorem xQ:bootBuiltins "int"=some (.type "int"):=by decide+kernel
theorem x4:bootBuiltins "abs"=some (.builtin "abs"):=by decide+kernel
theorem xI:bootBuiltins "any"=some (.builtin "any"):=by decide+kernel
theorem eA:bootBuiltins "isinstance"=some (.builtin "isinstance"):=by decide+kernel
theorem uA:bootBuiltins "bool"=some (.type "bool"):=by decide+kernel
theorem fe:bootBuiltins "list"=some (.type "list"):=by decide+kernel
theorem Bf{x:Str}{T:String}(hm:X.mg x=none)(hv:bootBuiltins x=some (.type T))(hg:Gl X x:=by rfl)(hn:x≠"__name__":=by decide)(hd:(x==("__debug__":Str))=false:=by decide):JE X R (.Name x p) (dC (.ty T)):=Fe (Bj (v:= .ty T) hg hm hv rfl hn hd) λ_ _=>rfl
theorem mM{x:Str}{z:Int}(hm:∃tk,X.mg x=some (.int z tk))(hg:Gl X x:=by rfl)(hd:(x==("__debug__":Str))=false:=by decide):JE X R (.Name x p) (dC (.int z)):=let ⟨tk,hm⟩:=hm;Fe (vh (v:= .int z) hg hm ⟨tk,rfl⟩ hd) λ_ _=>rfl
end
def Kq(x:Str):It:=⟨λi _=>i < x.cps.size,λi H v H'=>H'=H/\∃c,x.cps[i]? =some c/\v= .str ⟨#[c]⟩,λi _=>x.cps.size<=i⟩
theorem xC{P:Program}{w:World}{K:fv}{tg:Expr}(x:Str)(t:Tok)(it:Addr):tm P w K tg (Kq x) [it] it (λi h=>h.IsStrIter it "str_ascii_iterator" x t i) where
 mem:=by simp
 obj:=λi h st b hb=>by
  have e:b=it:=by simpa using hb
  subst e;obtain ⟨o,e,c,d⟩:=st;exact ⟨o,e,λv z=>by rw [d] at z;cases z⟩
 keep:=λi h h' st k=>let ⟨o,ho,r⟩:=st;⟨o,k it (by simp) o ho,r⟩
 item:=by intro X hP hw hK hc i δ s σ H E I hf st hg;subst hP hw hK;obtain ⟨f0,f1,f2,f3,f4,f5⟩:=hf it (by simp);have hg:i < x.cps.size:=hg;refine wpAny_pyNext_ascii_item st (c:=x.cps[i]) (by simp [hg]) λh' tE sb=> ?_;have I1:Inv X δ σ H {s with heap:=h',toks:=s.toks+1}:=I.turned (λb o hb e=>(sb.2 b hb).trans e) f0 f1 f3 f4 f5;obtain ⟨o,e,c,d⟩:=id tE;exact ⟨_,rfl,sk (s:={s with heap:=h',toks:=s.toks+1}) e c d (by decide) ⟨.str ⟨#[x.cps[i]]⟩,H,I1,⟨_,rfl⟩,⟨rfl,_,by simp [hg],rfl⟩,tE,λb hb=>(hf b hb).1⟩⟩
 done:=by intro X hP hw hK hc i δ s σ H E I hf st hg;subst hP hw hK;obtain ⟨f0,f1,f2,f3,f4,f5⟩:=hf it (by simp);have hg:x.cps.size<=i:=hg;exact wpAny_pyNext_ascii_end (I.ok.hd hc) st (by simp;omega) λh' eb=>⟨rfl,I.turned (t':=s.toks) (λb o hb e=>eb b o hb e) f0 f1 f3 f4 f5⟩
 self:=λ_ _ _ _ _ st h=>wpAny_pyIter_striter_ascii st h
theorem xN{P:Program}{w:World}{K:fv}{tg:Expr}(x:Str)(t:Tok)(it:Addr):tm P w K tg (Kq x) [it] it (λi h=>h.IsStrIter it "str_iterator" x t i) where
 mem:=by simp
 obj:=λi h st b hb=>by
  have e:b=it:=by simpa using hb
  subst e;obtain ⟨o,e,c,d⟩:=st;exact ⟨o,e,λv z=>by rw [d] at z;cases z⟩
 keep:=λi h h' st k=>let ⟨o,ho,r⟩:=st;⟨o,k it (by simp) o ho,r⟩
 item:=by intro X hP hw hK hc i δ s σ H E I hf st hg;subst hP hw hK;obtain ⟨f0,f1,f2,f3,f4,f5⟩:=hf it (by simp);have hg:i < x.cps.size:=hg;refine wpAny_pyNext_wide_item st (c:=x.cps[i]) (by simp [hg]) λh' tE sb=> ?_;have I1:Inv X δ σ H {s with heap:=h',toks:=s.toks+1}:=I.turned (λb o hb e=>(sb.2 b hb).trans e) f0 f1 f3 f4 f5;obtain ⟨o,e,c,d⟩:=id tE;exact ⟨_,rfl,sk (s:={s with heap:=h',toks:=s.toks+1}) e c d (by decide) ⟨.str ⟨#[x.cps[i]]⟩,H,I1,⟨_,rfl⟩,⟨rfl,_,by simp [hg],rfl⟩,tE,λb hb=>(hf b hb).1⟩⟩
 done:=by intro X hP hw hK hc i δ s σ H E I hf st hg;subst hP hw hK;obtain ⟨f0,f1,f2,f3,f4,f5⟩:=hf it (by simp);have hg:x.cps.size<=i:=hg;exact wpAny_pyNext_wide_end (I.ok.hd hc) st (by simp;omega) λh' eb=>⟨rfl,I.turned (t':=s.toks) (λb o hb e=>eb b o hb e) f0 f1 f3 f4 f5⟩
 self:=λ_ _ _ _ _ st h=>wpAny_pyIter_striter_wide st h
def qA(z:Str):List Dt:=z.cps.toList.map λc=>Dt.str ⟨#[c]⟩
theorem D1{K:fv}{G:Hp}{L:List Addr}{z:Str}:Yl K (Kq z) (qA z) G L where
 go :=λi G1 L1 M1 H1 d g l r e=>by
  unfold qA at e;rw [aaf] at e;cases q:z.cps.toList[i]? with
  | none=>rw [q] at e;cases e
  | some c=>
   rw [q] at e;cases e;have hi:i < z.cps.size:=by have:=(aad.mp q).1;simpa using this
   refine ⟨hi,λv' H' ⟨eH,c',e',y⟩=> ?_⟩;subst eH y;have:c'=c:=by rw [<-Array.getElem?_toList,q] at e';exact (aat e').symm
   subst this;exact ⟨G1, .refl _ _ _,r,rfl⟩
 stop:=λi G1 L1 M1 H1 g l r e=>by unfold qA at e;show z.cps.size<=i;simpa using e
def HY(M:Ms):Dt->Option (List Dt)
 | .lst xs=>some xs
 | .tup xs=>some xs
 | .cE ns=>some (ns.map .int)
 | .kt xs=>some xs
 | .str z=>some (qA z)
 | _=>none
section
variable{X:Cx}{R:St->XK}{tg e:Expr}{te:DE}
theorem pq{δ:List (Addr×Obj)}{σ:St}{H:Hp}{s:Shared}{a:Addr}{vs:List V}{Q:It->Hp->Prop}{E:Value->Shared->Prop}(I:Inv X δ σ H s)(hq:eN X.K H a vs)(q:Q (Ka X.K a) H):wpAny (model X.prog X.w) X.A (pyIter (.ref a)) (BR X δ σ tg Q) E s:=by
 obtain ⟨its,rv,p,hz⟩:=I.list hq;refine wpAny_pyIter_list p.isList ?_;refine ⟨s.heap.objs.size,[s.heap.objs.size],_,_,H,rfl,I.kept (t':=s.toks) λb o e=>aag _ e,wZ a _,⟨_,aaG _ rfl,rfl,rfl⟩,λb hb=> ?_,q⟩;have e:b=s.heap.objs.size:=by simpa using hb
 subst e;exact I.yo (aal _) (I.aR.fresh (aal _))
theorem zY{δ:List (Addr×Obj)}{σ:St}{H:Hp}{s:Shared}{a:Addr}{vs:List V}{Q:It->Hp->Prop}{E:Value->Shared->Prop}(I:Inv X δ σ H s)(hq:gP X.K H a vs)(q:Q (Mn X.K a) H):wpAny (model X.prog X.w) X.A (pyIter (.ref a)) (BR X δ σ tg Q) E s:=by
 obtain ⟨its,rv,p,hz⟩:=I.tuple hq;refine wpAny_pyIter_tuple (show s.heap.IsTuple a its.toArray from p) ?_;refine ⟨s.heap.objs.size,[s.heap.objs.size],_,_,H,rfl,I.kept (t':=s.toks) λb o e=>aag _ e,ux a _,⟨_,aaG _ rfl,rfl,rfl⟩,λb hb=> ?_,q⟩;have e:b=s.heap.objs.size:=by simpa using hb
 subst e;exact I.yo (aal _) (I.aR.fresh (aal _))
theorem Ea{δ:List (Addr×Obj)}{σ:St}{H:Hp}{s:Shared}{z:Str}{t:Tok}{Q:It->Hp->Prop}{E:Value->Shared->Prop}(I:Inv X δ σ H s)(q:Q (Kq z) H):wpAny (model X.prog X.w) X.A (pyIter (.str z t)) (BR X δ σ tg Q) E s:=by
 have fp:∀b∈[s.heap.objs.size],nA X δ H b:=λb hb=>by
  have e:b=s.heap.objs.size:=by simpa using hb
  subst e;exact I.yo (aal _) (I.aR.fresh (aal _))
 cases ha:z.cps.all (· < 128)
 ·exact wpAny_pyIter_wide ha ⟨s.heap.objs.size,[s.heap.objs.size],_,_,H,rfl,I.kept (t':=s.toks) λb o e=>aag _ e,xN z t _,⟨_,aaG _ rfl,rfl,rfl⟩,fp,q⟩
 ·exact wpAny_pyIter_ascii ha ⟨s.heap.objs.size,[s.heap.objs.size],_,_,H,rfl,I.kept (t':=s.toks) λb o e=>aag _ e,xC z t _,⟨_,aaG _ rfl,rfl,rfl⟩,fp,q⟩
end
def Fp:DF:=λds _ q _=>∃ns:List Int,ds=[.cE ns]/\ns.length<=63/\∀M',q (.bl true) M'
def sC(K:fv):Sp:=λvs H Q _=>∃(a:Addr) (ns:List Int),vs=[.ref a]/\eN K H a (ns.map V.int)/\ns.length<=63/\∀H',Q (.bl true) H'
theorem FW{P:Program}{w:World}{K:fv}{mg:Str->Option Value}{base:Heap}{k:Nat}{f:Addr}{fd:FuncData}{x:Str}(F:ao P w K mg base (cq P w) k f fd [x] (cQ K Fp)):ao P w K mg base Kz k f fd [x] (sC K):=by
 have sp:∀vs H Q E,sC K vs H Q E->cQ K Fp vs H Q E0:=by rintro vs H Q E ⟨a,ns,rfl,hS,hl,hQ⟩;refine ⟨H,[],[.cE ns],[],λd _=>d= .bl true,λ_ _ _=>False,⟨.refl _,rfl,List.nodup_nil,λk a m h=>by simp at h⟩,⟨_,_,rfl,⟨a,rfl,hS⟩,rfl⟩,⟨ns,rfl,hl,λ_=>rfl⟩,λv H' ⟨d,G',L',M',_,_,n,e⟩=> ?_,λ_ _ _ _ _ _ _ h=>h.elim⟩;subst e;rw [show v=V.bl true from n];exact hQ H'
 refine ⟨λvs H Q E h=>F.len vs H Q E0 (sp vs H Q E h),λA outer s H args us vs Q E hr he hb hv h=>codeAny_mono (F.run A outer s H args us vs Q E0 hr he hb hv (sp vs H Q E h)) λr s' hq=> ?_⟩;cases r with
 | error e=>
  obtain ⟨_,_,_,_,_,_,_,_,hE⟩:=hq;exact hE.elim
 | ok fl=>cases fl <;> exact hq
def Ge(c:DT)(tb:DS):DS:=λDn ρ M=>∃W:Nat->En->Ms->Prop,(∃m,W m ρ M)/\∀m ρ M,W m ρ M->
 c ρ M (λb M1=>(b=true->∃N:En->Ms->Prop,(∀ρ' M',N ρ' M'->∃m',m' < m/\W m' ρ' M')/\tb {Dn with nx:=N,ct:=N,bk:=Dn.nx} ρ M1)/\(b=false->Dn.nx ρ M1)) Dn.x
def MT(i j:Nat)(t:DA):DS:=λDn ρ M=>t ρ M (λds M1=>match ds with
 | [a,b]=>Dn.nx ((ρ.set i (some a)).set j (some b)) M1
 | _=>False) Dn.x
section
variable{X:Cx}{R:St->XK}{c a b:Expr}{body:List Stmt}{tc:DT}{tb:DS}{pos:Pos}
theorem mN(hc:JT X R c tc)(hb:xM X R body tb)(hp:PassesOwn (model X.prog X.w) X.A X.env X.xe:=by first | exact PassesOwn.never | exact PassesOwn.leaving):JS X R (.While c body [] pos) (Ge tc tb):= .of (An hp hc hb) λσ H G L ρ M Dn rl n h hx=>by
 obtain ⟨W,⟨m0,w0⟩,turn⟩:=h;refine ⟨λm σ' H'=>cU X.K G L H (W m) σ' H',⟨m0,ρ,G,L,M, .refl _ _ _,rl,n,w0⟩,λm σ' H' ⟨ρ',G',L',M',e',r',n',w'⟩=> ?_⟩;refine ⟨G',L',ρ',M',_,_,r',n',turn m ρ' M' w',hx.on e',λv H1 ⟨G1,L1,M1,e1,r1,h1⟩=> ?_⟩;cases v with
 | true=>
  obtain ⟨N,hN,hb⟩:=h1.1 rfl;refine uK ⟨cU X.K G L H N,λσ2 H2 ⟨ρ2,G2,L2,M2,e2,r2,n2,h2⟩=> ?_, ?_⟩
  ·obtain ⟨m',hm,w2⟩:=hN ρ2 M2 h2;exact ⟨m',hm,ρ2,G2,L2,M2,e2,r2,n2,w2⟩
  ·have JD:=e'.trans e1;exact ⟨G1,L1,ρ',M1,_,r1,n'.mono e1,hb,hx.on JD,⟨λ_ _ f=>cU.back JD f,λ_ _ f=>Fin.back JD f,λ_ _ f=>cU.back JD f,λ_ _ f=>cU.back JD f⟩⟩
 | false=>exact u9 ⟨ρ',G1,L1,M1,e'.trans e1,r1,n'.mono e1,h1.2 rfl⟩
theorem ET{i j:Nat}{x y:Str}{t:DA}{px py pt:Pos}{kt k2 EV}(hN:X.N.Nodup)(hi:X.N[i]? =some x)(hj:X.N[j]? =some y)(ha:JA X R [a,b] t)(Ih:i≠j:=by decide)
  (hx:X.env.scope.names.lookup x=some .local:=by rfl) (hy:X.env.scope.names.lookup y=some .local:=by rfl)
  (hw:swappedStores [.Tuple [.Name x px, .Name y py] kt pt] (.Tuple [a,b] k2 EV) X.env=pure (some [x,y]):=by rfl) (hc:X.calm=true:=by rfl)
  (hs:swapsWithSole [.Tuple [.Name x px, .Name y py] kt pt] (.Tuple [a,b] k2 EV) pos.line X.env=pure false:=by rfl):
  JS X R (.Assign [.Tuple [.Name x px, .Name y py] kt pt] (.Tuple [a,b] k2 EV) pos) (MT i j t):= .of (Ga hc hN hi hj Ih hx hy ha hw hs) λσ H G L ρ M Dn rl n h hx=>by
 refine ⟨G,L,ρ,M,_,_,rl,n,h,hx,λvs H1 ⟨ds,G1,L1,M1,e1,r1,n1,h1⟩=> ?_⟩
 (try dsimp only at h1)
 split at h1
 ·obtain ⟨v,u,rfl,m1,m2⟩:=dq n1;exact ⟨v,u,rfl,_,G1,L1,M1,e1,r1,((n.mono e1).set i m1).set j m2,h1⟩
 ·exact h1.elim
end
section
variable{X:Cx}{R:St->XK}{e e2 o:Expr}{es:List Expr}{t:DA}{to ta tb:DE}{a b:Expr}{p pos apos aE:Pos}
theorem wd(hm:X.mg "abs"=none)(ha:JA X R [e] t)(he:starEach [e] X.env=(false,eval e X.env)::starEach [] X.env:=by rfl)(dE:(backTo pos (starEach [] X.env)).any (·.1)=false:=by rfl)(hg:Gl X "abs":=by rfl):JE X R (.Call (.Name "abs" p) [e] [] pos) (u0 Gy t):=
 e_ Az Mp hm x4 ha hg (by decide) (by decide) he dE
theorem HA(hm:X.mg "any"=none)(ha:JA X R [e] t)(hc:X.calm=true:=by rfl)(he:starEach [e] X.env=(false,eval e X.env)::starEach [] X.env:=by rfl)(dE:(backTo pos (starEach [] X.env)).any (·.1)=false:=by rfl)(hg:Gl X "any":=by rfl):JE X R (.Call (.Name "any" p) [e] [] pos) (u0 Fj t):=
 e_ (AK hc) Ni hm xI ha hg (by decide) (by decide) he dE
theorem C9(K:fv)(hm:X.mg "isinstance"=none)(ha:JA X R [e,e2] t)(he:starEach [e,e2] X.env=(false,eval e X.env)::starEach [e2] X.env:=by rfl)(dE:(backTo pos (starEach [e2] X.env)).any (·.1)=false:=by rfl)(hg:Gl X "isinstance":=by rfl)(hK:X.K=K:=by rfl):JE X R (.Call (.Name "isinstance" p) [e,e2] [] pos) (u0 (x8 K) t):=by subst hK;exact e_ j9 Lr hm eA ha hg (by decide) (by decide) he dE
end
theorem jL{te:DE}{cs:En}{f:Dt->Dt}{M:Ms}{k:List Dt->Ms->Prop}:∀(xs ae:List Dt),(∀x∈xs,∀q:DQ,q (f x) M->te (some x::cs) M q iC)->k (ae++xs.map f) M->kz te cs xs ae M k
 | [],ae,_,h=>by rw [List.map_nil,aaY] at h;exact h
 | x::xs,ae,ht,h=>ht x List.mem_cons_self _ (jL xs (ae++[f x]) (λy hy=>ht y (List.mem_cons_of_mem _ hy)) (by simpa using h))
theorem τ{d y:Dt}{xs:List Dt}{i:Int}{M:Ms}{q:DQ}(hs:eW M d=some xs)(h:fF xs i=some y)(k:q y M):dF d (.int i) M q:=by
 cases d with
 | str z=>cases hs
 | _=>
  unfold dF;simp only [hs,h];exact k
theorem Ρ{d:Dt}{xs:List Dt}{M:Ms}{q:DQ}(hs:eW M d=some xs)(k:q (.int xs.length) M):c7 [d] M q:=by
 cases d with
 | str z=>cases hs
 | _=>
  unfold c7;simp only [hs];exact k
theorem vY{K:fv}{d c:Dt}{t t':Value}{b:Bool}{M:Ms}{q:DQ}(h1:qW d=some t)(h2:yW c=some t')(h3:PySem.W.kitOne K t t'=some b)(k:q (.bl b) M):x8 K [d,c] M q:=by show (match qW d,yW c with | some t,some t'=>(match PySem.W.kitOne K t t' with | some b=>q (.bl b) M | none=>False) | _,_=>False);rw [h1,h2];show (match PySem.W.kitOne K t t' with | some b=>q (.bl b) M | none=>False);rw [h3];exact k
theorem az{α:Type}{x:α}{xs:List α}:fF (x::xs) 0=some x:=Η (j:=0) rfl
theorem x'(bs:List Bool):(List.range bs.length).all (λi=>bs.getD i false)=bs.all id:=by
 induction bs with
 | nil=>rfl
 | cons b bs ih=>
  rw [aaD,abe,abr,List.all_map,abr,<-ih];rfl
def Jd(K:fv):List V->Hp->VK->Prop:=λxs H Q=>∃(p:Addr) (bs:List Bool),xs=[.ref p]/\eN K H p (bs.map V.bl)/\Q (.bl (bs.all id)) H
section
variable{X:Cx}
theorem zD (hc : X.calm = true) : cn X (.builtin "all") (Jd X.K) := by
  intro δ s σ H xs us Q I r h;obtain ⟨p, bs, rfl, hq, q⟩ := h;obtain ⟨u, rfl, r1⟩ := jo r;cases r1;obtain ⟨its, rv, pl, hz⟩ := I.list hq;have GA := pk rv;subst GA;refine call_all_walk (wpAny_pyIter_list pl.isList ?_);have lp : p < s.heap.objs.size := by obtain ⟨o, e, _⟩ := pl.isList; exact aas e
  refine ⟨s.heap.objs.size, _, _, _, _, _, λi => bs.getD i false, rfl, Walks.list (show X.A.in1.handled = none from I.ok.hd hc) s.heap.objs.size p (aaM lp) (bs.map Value.bool).toArray, ⟨⟨_, aaG _ rfl, rfl, rfl⟩, pl.isList.at λo e => aag _ e⟩, qV, λh' tk hk => ?_⟩;refine ⟨.bl (bs.all id), H, I.kept λb o e => hk b o (λz => by have : b = s.heap.objs.size := (by simpa using z); exact Nat.lt_irrefl _ (this ▸ Heap.lt_size e)) (Heap.get?_push_of_some _ e), ?_, q⟩;rw [aaj, aab, x'];rfl
end
def Ez:List Dt->Ms->DQ->Prop
 | [.lst xs],M,q=>∃bs:List Bool,xs=bs.map Dt.bl/\q (.bl (bs.all id)) M
 | _,_,_=>False
theorem NW{K:fv}:yk K (Jd K) Ez:=by
 intro G0 L0 H0 G L M H vs ds q e r n h;unfold Ez at h;split at h
 ·rename_i xs;obtain ⟨bs,rfl,h⟩:=h;obtain ⟨v,rfl,n1⟩:=aY n;obtain ⟨a,ws,rfl,e1,m⟩:=n1;exact ⟨a,bs,rfl,by rw [<-i7 m];exact .of (r.sub _ _ e1),bp e r h⟩
 ·exact h.elim
def Df(i j k:Nat)(t:DE):DS:=λDn ρ M=>t ρ M (λd M1=>match d with
 | .tup [a,b,c]=>Dn.nx (((ρ.set i (some a)).set j (some b)).set k (some c)) M1
 | _=>False) Dn.x
def vz(i j:Nat)(t:DE):DS:=λDn ρ M=>t ρ M (λd M1=>match d with
 | .tup [a,b]=>Dn.nx ((ρ.set i (some a)).set j (some b)) M1
 | _=>False) Dn.x
section
variable{X:Cx}{R:St->XK}{e o:Expr}{es:List Expr}{t:DA}{to te:DE}{p pos apos aE:Pos}
theorem xh:bootBuiltins "all"=some (.builtin "all"):=by decide+kernel
theorem Dy(hm:X.mg "all"=none)(ha:JA X R [e] t)(hc:X.calm=true:=by rfl)(he:starEach [e] X.env=(false,eval e X.env)::starEach [] X.env:=by rfl)(dE:(backTo pos (starEach [] X.env)).any (·.1)=false:=by rfl)(hg:Gl X "all":=by rfl):JE X R (.Call (.Name "all" p) [e] [] pos) (u0 Ez t):=
 e_ (zD hc) NW hm xh ha hg (by decide) (by decide) he dE
variable{i j k:Nat}{tg:Expr}
theorem B8(he:JE X R e te)(hg:PG X tg (CF X.K 3 (kn (fm i) (kn (fm j) (kn (fm k) BI)))))(hs:swapsWithSole [tg] e pos.line X.env=pure false:=by rfl)(hw:swappedStores [tg] e X.env=pure none:=by rfl)
  (h1:(assignEach [tg] X.env).map (·.2)=[assign tg X.env]:=by rfl):JS X R (.Assign [tg] e pos) (Df i j k te):= .of (uv he hg hs hw h1) λσ H G L ρ M Dn rl n h hx=>by
 refine ⟨G,L,ρ,M,_,_,rl,n,h,hx,λv H1 ⟨d1,G1,L1,M1,e1,r1,n1,h1⟩=> ?_⟩
 (try dsimp only at h1)
 split at h1
 ·rename_i a b c;obtain ⟨p,vs,rfl,e,m⟩:=n1;obtain ⟨v1,r',rfl,m1,m'⟩:=m;obtain ⟨v2,v3,rfl,m2,m3⟩:=dq m';exact ⟨p,_,rfl, .inl (.inl (r1.sub _ _ e)),rfl,v1,_,rfl,v2,_,rfl,v3,_,rfl,rfl,_,G1,L1,M1,e1,r1,(((n.mono e1).set i m1).set j m2).set k m3,h1⟩
 ·exact h1.elim
theorem qf(he:JE X R e te)(hg:PG X tg (CF X.K 2 (kn (fm i) (kn (fm j) BI))))(hs:swapsWithSole [tg] e pos.line X.env=pure false:=by rfl)(hw:swappedStores [tg] e X.env=pure none:=by rfl)
  (h1:(assignEach [tg] X.env).map (·.2)=[assign tg X.env]:=by rfl):JS X R (.Assign [tg] e pos) (vz i j te):= .of (uv he hg hs hw h1) λσ H G L ρ M Dn rl n h hx=>by
 refine ⟨G,L,ρ,M,_,_,rl,n,h,hx,λv H1 ⟨d1,G1,L1,M1,e1,r1,n1,h1⟩=> ?_⟩
 (try dsimp only at h1)
 split at h1
 ·rename_i a b;obtain ⟨p,vs,rfl,e,m⟩:=n1;obtain ⟨v1,v2,rfl,m1,m2⟩:=dq m;exact ⟨p,_,rfl, .inl (.inl (r1.sub _ _ e)),rfl,v1,_,rfl,v2,_,rfl,rfl,_,G1,L1,M1,e1,r1,((n.mono e1).set i m1).set j m2,h1⟩
 ·exact h1.elim
end
mutual
def Dt.under(n:Nat):Dt->Prop
 | .aW=>True
 | .bl _=>True
 | .int _=>True
 | .str _=>True
 | .tup ds=>Dt.aL n ds
 | .lst ds=>Dt.aL n ds
 | .obj _ _ ds=>Dt.aL n ds
 | .loc k=>k < n
 | .ref _=>True
 | .ty _=>True
 | .cE _=>True
 | .kt ds=>Dt.aL n ds
 | .exc _ _ ds=>Dt.aL n ds
 | .Hs _ _ _ _ ds=>Dt.aL n ds
def Dt.aL(n:Nat):List Dt->Prop
 | []=>True
 | d::ds=>Dt.under n d/\Dt.aL n ds
end
def MO.under(n:Nat):MO->Prop
 | .lst ds=>Dt.aL n ds
 | .ins _ _ ds=>Dt.aL n ds
 | .Bc _ ds=>Dt.aL n ds
 | .raw _=>True
 | .Fy _ ds=>Dt.aL n ds
mutual
inductive w6(n:Nat)(E:Ms):Dt->Dt->Prop
 | old {d:Dt} (h:d.under n):w6 n E d d
 | tup {ds es:List Dt} (h:fM n E ds es):w6 n E (.tup ds) (.tup es)
 | lst {ds es:List Dt} (h:fM n E ds es):w6 n E (.lst ds) (.lst es)
 | obj {C:Addr} {ns:List Str} {ds es:List Dt} (h:fM n E ds es):w6 n E (.obj C ns ds) (.obj C ns es)
 | Cp {k:Nat} {ds es:List Dt} (hk:n<=k) (e:E[k - n]? =some (.lst ds)) (h:fM n E ds es):w6 n E (.loc k) (.lst es)
 | Mx {k:Nat} {C:Addr} {ns:List Str} {ds es:List Dt} (hk:n<=k) (e:E[k - n]? =some (.ins C ns ds)) (h:fM n E ds es):w6 n E (.loc k) (.obj C ns es)
inductive fM(n:Nat)(E:Ms):List Dt->List Dt->Prop
 | nil:fM n E [] []
 | cons {d e:Dt} {ds es:List Dt} (h:w6 n E d e) (t:fM n E ds es):fM n E (d::ds) (e::es)
end
theorem fM.length{n:Nat}{E:Ms}:∀{ds es:List Dt},fM n E ds es->ds.length=es.length
 | [],es,h=>by cases h;rfl
 | d::ds,es,h=>by
  cases h with
  | cons h t=>rw [aaD,aaD,fM.length t]
theorem fM.old{n:Nat}{E:Ms}:∀{ds:List Dt},Dt.aL n ds->fM n E ds ds
 | [],_=> .nil
 | _::_,h=> .cons (.old h.1) (fM.old h.2)
section
variable{K:fv}{G G':Hp}{L0 t:List Addr}{n:Nat}
mutual
theorem n8(hn:L0.length=n)(g:bH G G'):∀(d:Dt) (v:V),d.under n->Den K G (L0++t) d v->Den K G' L0 d v
 | .aW,_,_,h=>h
 | .bl _,_,_,h=>h
 | .int _,_,_,h=>h
 | .str _,_,_,h=>h
 | .tup ds,_,u,⟨a,vs,e,h1,h2⟩=>⟨a,vs,e,g _ _ h1,aJ hn g ds vs u h2⟩
 | .lst ds,_,u,⟨a,vs,e,h1,h2⟩=>⟨a,vs,e,g _ _ h1,aJ hn g ds vs u h2⟩
 | .obj C ns ds,_,u,⟨a,dx,vs,e,h1,hl,h2⟩=>⟨a,dx,vs,e,g _ _ h1,hl,aJ hn g ds vs u h2⟩
 | .loc k,_,u,⟨a,e,h1⟩=>⟨a,e,by
   have u:k < n:=u
   rwa [aay (by rw [hn];exact u)] at h1⟩
 | .ref _,_,_,h=>h
 | .ty _,_,_,h=>h
 | .cE _,_,_,⟨a,e,h1⟩=>⟨a,e,g.seq h1⟩
 | .kt ds,_,u,⟨a,vs,e,h1,h2⟩=>⟨a,vs,e,g.Jx h1,aJ hn g ds vs u h2⟩
 | .exc _ _ ds,_,u,⟨a,od,vs,e,h1,h2,h3,h4⟩=>⟨a,od,vs,e,g _ _ h1,h2.imp (λz=>z) (λ⟨dx,z1,z2⟩=>⟨dx,z1,g _ _ z2⟩),h3,aJ hn g ds vs u h4⟩
 | .Hs _ _ _ _ ds,_,u,⟨vs,e,h2,h3,h4⟩=>⟨vs,e,h2.imp (λz=>z) (λ⟨dx,z1,z2⟩=>⟨dx,z1,g _ _ z2⟩),h3,aJ hn g ds vs u h4⟩
theorem aJ(hn:L0.length=n)(g:bH G G'):∀(ds:List Dt) (vs:List V),Dt.aL n ds->Γ K G (L0++t) ds vs->Γ K G' L0 ds vs
 | [],_,_,h=>h
 | d::ds,_,u,⟨v,r,e,h1,h2⟩=>⟨v,r,e,n8 hn g d v u.1 h1,aJ hn g ds r u.2 h2⟩
end
theorem xG{H:Hp}{a:Addr}(hn:L0.length=n)(g:bH G G'){m:MO}(u:m.under n)(h:ya K G (L0++t) H a m):ya K G' L0 H a m:=by
 cases m with
 | lst ds=>obtain ⟨vs,e,h⟩:=h;exact ⟨vs,e,aJ hn g _ _ u h⟩
 | ins C ns ds=>obtain ⟨dx,vs,e,hl,h⟩:=h;exact ⟨dx,vs,e,hl,aJ hn g _ _ u h⟩
 | Bc ks ds=>obtain ⟨vs,e,hl,h⟩:=h;exact ⟨vs,e,hl,aJ hn g _ _ u h⟩
 | raw u=>exact h
 | Fy u' ds=>obtain ⟨vs,e,h⟩:=h;exact ⟨vs,e,aJ hn g _ _ u h⟩
end
open Classical in
noncomputable def kQ(G H:Hp)(t:List Addr):Hp:=λb=>if b∈t then H b else G b
theorem wx{G H:Hp}{t:List Addr}{b:Addr}(h:b∈t):kQ G H t b=H b:=by unfold kQ;rw [if_pos h]
theorem iQ{G H:Hp}{t:List Addr}{b:Addr}(h:b∉t):kQ G H t b=G b:=by unfold kQ;rw [if_neg h]
section
variable{K:fv}{G:Hp}{L0 t:List Addr}{M0 E:Ms}{H:Hp}
theorem eD(r:Rl K G (L0++t) (M0++E) H):bH G (kQ G H t):=λb u e=>by
 by_cases hb:b∈t
 ·obtain ⟨_,_,_,_,g,_⟩:=r.oY (a:=b) (aau _ hb);rw [g] at e;cases e
 ·rw [iQ hb];exact e
theorem As(r:Rl K G (L0++t) (M0++E) H)(hn:L0.length=M0.length){k:Nat}{a:Addr}{m:MO}(hk:M0.length<=k)(e:(L0++t)[k]? =some a)(em:E[k - M0.length]? =some m):kQ G H t a=H a/\ya K G (L0++t) H a m:=by
 have e2:(M0++E)[k]? =some m:=by rw [aav hk];exact em
 obtain ⟨_,q⟩:=r.fG k a m e e2;rw [aav (by rw [hn];exact hk)] at e;exact ⟨wx (aaw e),q⟩
theorem CL(r:Rl K G (L0++t) (M0++E) H)(hn:L0.length=M0.length){d d':Dt}(f:w6 M0.length E d d'):∀v,Den K G (L0++t) d v->Den K (kQ G H t) L0 d' v:=by
 refine w6.rec (motive_1:=λd d' _=>∀v,Den K G (L0++t) d v->Den K (kQ G H t) L0 d' v) (motive_2:=λds es _=>∀vs,Γ K G (L0++t) ds vs->Γ K (kQ G H t) L0 es vs) ?_ ?_ ?_ ?_ ?_ ?_ ?_ ?_ f
 ·exact λ{d} u v h=>n8 hn (eD r) d v u h
 ·exact λ{ds es} f ih v ⟨a,vs,e,h1,h2⟩=>⟨a,vs,e,eD r _ _ h1,ih vs h2⟩
 ·exact λ{ds es} f ih v ⟨a,vs,e,h1,h2⟩=>⟨a,vs,e,eD r _ _ h1,ih vs h2⟩
 ·exact λ{C ns ds es} f ih v ⟨a,dx,vs,e,h1,hl,h2⟩=>⟨a,dx,vs,e,eD r _ _ h1,hl.trans f.length,ih vs h2⟩
 ·intro k ds es hk em f ih v ⟨a,e,h1⟩;obtain ⟨o,vs,e1,h2⟩:=As r hn hk h1 em;exact ⟨a,vs,e,o.trans e1,ih vs h2⟩
 ·intro k C ns ds es hk em f ih v ⟨a,e,h1⟩;obtain ⟨o,dx,vs,e1,hl,h2⟩:=As r hn hk h1 em;exact ⟨a,dx,vs,e,o.trans e1,hl.trans f.length,ih vs h2⟩
 ·exact λvs h=>h
 ·exact λ{d e ds es} f t Q5 Pl vs ⟨v,r,e,h1,h2⟩=>⟨v,r,e,Q5 v h1,Pl r h2⟩
end
def MN(n:Nat)(q:DQ):DQ:=λd M=>∃M' E d',M=M'++E/\M'.length=n/\(∀m∈M',MO.under n m)/\w6 n E d d'/\q d' M'
theorem Fin.qS{K:fv}{G0:Hp}{L0:List Addr}{M0:Ms}{H0:Hp}{q:DQ}{v:V}{H:Hp}(r0:Rl K G0 L0 M0 H0)(f:Fin K G0 L0 H0 (MN M0.length q) v H):Fin K G0 L0 H0 q v H:=by
 obtain ⟨d,G,L,M,ex,r,dn,M',E,d',rfl,hl,hu,fz,hq⟩:=f;obtain ⟨t,rfl⟩:=ex.l;have hn:L0.length=M'.length:=by rw [hl];exact r0.len
 have Oj:∀b,b∈L0->b∉t:=λb h1 h2=>(List.nodup_append.mp r.nd).2.2 b h1 b h2 rfl;have sm:=eD r;refine ⟨d',kQ G H t,L0,M',⟨ex.g.trans sm, .refl _,λb h1 h2=> ?_,ex.out,λb h=> .inl h,ex.yf⟩,⟨λb u e=> ?_,hn,(List.nodup_append.mp r.nd).1,λk a m h1 h2=> ?_⟩,CL r hn (hl▸fz) v dn,hq⟩
 ·have hb:b∉t:=λz=>(ex.new b (aau _ z)).elim (λy=>Oj b y z) h2;rw [iQ hb];exact ex.fr b h1 h2
 ·by_cases hb:b∈t
  ·rw [wx hb] at e;exact e
  ·rw [iQ hb] at e;exact r.sub b u e
 ·have k1:k < L0.length:=(aad.mp h1).1;have e1:(L0++t)[k]? =some a:=by rw [aay k1];exact h1
  have e2:(M'++E)[k]? =some m:=by rw [aay (by rw [<-hn];exact k1)];exact h2
  obtain ⟨g,q⟩:=r.fG k a m e1 e2;exact ⟨by rw [iQ (Oj a (aaw h1))];exact g,xG (n:=M'.length) hn sm (by rw [hl];exact hu m (aaw h2)) q⟩
section
variable{X:Cx}{R:St->XK}{e:Expr}{t:DE}
theorem iT{st:Stmt}:JS X R st (λ_ _ _=>False):=λ_ _ _ _ _ _ ⟨_,_,_,_,_,_,_,h,_,_⟩=>h.elim
end
def AD(C:Addr)(m:Str)(sp:Sp)(lr:List V)(R:St->XK)(ta:TE)(t:TA):TE:=λσ H Q=>ta σ H λx H1=>∃a dx fs,x= .ref a/\H1 a=some (.ins C dx fs)/\fs.lookup m=none/\
 t σ H1 λvs H2=>sp (x::(vs++lr)) H2 Q (R σ)
def ED(C:Addr)(sp:Sp)(lr:List V)(R:St->XK)(t:TA):TE:=λσ H Q=>t σ H λvs H1=>∀x dx,H1 x=none->H1 dx=none->dx≠x->
 sp (.ref x::(vs++lr)) (upd (upd H1 dx (.own x)) x (.ins C dx [])) (λv H2=>v= .aW/\Q (.ref x) H2) (R σ)
section
variable{X:Cx}{CX:tG}{k:Nat}{f C:Addr}{fd:FuncData}{ps:List Str}{sp:Sp}{lr:List V}{ds:List Value}{R:St->XK}{x m:Str}{p pos apos:Pos}{e o:Expr}{es:List Expr}{ta:TE}{t:TA}
theorem yv{pl:Sem Bool}(he:PE X o ta)(c:vQ X.K C)(hm:CS X.K C m f)(F:ao X.prog X.w X.K X.mg X.base CX k f fd ps sp)(hr:aX k X.A)(hb:fD X.K fd ps ds)(hd:Μ lr ds)(hx:bM CX X R)(ha:PA X (e::es) t)
  (BD:starEach (e::es) X.env=(false,eval e X.env)::starEach es X.env:=by rfl) (dE:(backTo pos (starEach es X.env)).any (·.1)=false:=by rfl)
  (ht:eval (.Call (.Attribute o m apos) (e::es) [] pos) X.env=(do
   let ov<-eval o X.env
   standAt apos.atName
   let (f,first)<-holding [ov] (getMethod ov m pl)
   callWith pos f first (backTo pos (starEach (e::es) X.env)) (backToKw pos (keywordEach [] X.env))):=by rfl):
  PE X (.Call (.Attribute o m apos) (e::es) [] pos) (AD C m sp lr R ta t):=by
 intro δ s σ H Q I h;refine PySem.W.methodCall_KW (pl:=pl) (a_ (he δ s σ H _ I h) λu s1 ⟨x,H1,I1,rx,a,dx,fs,ex,ea,l,q⟩=> ?_) ht;subst ex;obtain rfl:u=Value.ref a:=rx;refine lH I1 ea c hm l ?_;refine PySem.W.callWith_K (first:=[.ref a]) (h₀:=X.base) I.ok.mod.Ia hm.kp (a_ (ha pos δ s1 σ H1 _ I1 q) λus s2 ⟨vs,H2,I2,r,q2⟩=>⟨I2.kJ, ?_⟩) BD dE;exact pD (us:= .ref a::us) (vs:= .ref a::vs) F hr hb hd hx I2 (.cons rfl r) q2
theorem wL{pl:Sem Bool}(he:PE X o ta)(c:vQ X.K C)(hm:CS X.K C m f)(F:ao X.prog X.w X.K X.mg X.base CX k f fd ps sp)(hr:aX k X.A)(hb:fD X.K fd ps ds)(hd:Μ lr ds)(hx:bM CX X R)
  (ht:eval (.Call (.Attribute o m apos) [] [] pos) X.env=(do
   let ov<-eval o X.env
   standAt apos.atName
   let (f,first)<-holding [ov] (getMethod ov m pl)
   callWith pos f first (backTo pos (starEach [] X.env)) (backToKw pos (keywordEach [] X.env))):=by rfl):
  PE X (.Call (.Attribute o m apos) [] [] pos) (AD C m sp lr R ta JP):=by
 intro δ s σ H Q I h;refine PySem.W.methodCall_KW (pl:=pl) (a_ (he δ s σ H _ I h) λu s1 ⟨x,H1,I1,rx,a,dx,fs,ex,ea,l,q⟩=> ?_) ht;subst ex;obtain rfl:u=Value.ref a:=rx;refine lH I1 ea c hm l ?_;exact PySem.W.callWith_K0 (first:=[.ref a]) I1.kJ hm.kp (pD (us:=[.ref a]) (vs:=[.ref a]) F hr hb hd hx I1 (.cons rfl .nil) q)
theorem w4{δ:List (Addr×Obj)}{σ:St}{H:Hp}{s:Shared}{Q:VK}{us:List Value}{vs:List V}(M:Mk X.K C f)(F:ao X.prog X.w X.K X.mg X.base CX k f fd ps sp)(hr:aX (k+1) X.A)(hb:fD X.K fd ps ds)(hd:Μ lr ds)
  (hx:bM CX X R) (I:Inv X δ σ H s) (r:Μ vs us)
  (h:∀x dx,H x=none->H dx=none->dx≠x->sp (.ref x::(vs++lr)) (upd (upd H dx (.own x)) x (.ins C dx [])) (λv H2=>v= .aW/\Q (.ref x) H2) (R σ)):
  wpAny (model X.prog X.w) X.A (call (.ref C) us) (EP X δ σ Q) X.xe s:=by
 have hq:=h (s.heap.objs.size+1) s.heap.objs.size (I.aR.fresh (Nat.le_succ _)) (I.aR.fresh (aal _)) (aaM (Nat.lt_succ_self _));have I2:=Inv.made (C:=C) I;have r2:Μ (V.ref (s.heap.objs.size+1)::(vs++lr)) (Value.ref (s.heap.objs.size+1)::(us++ds)):= .cons rfl (r.append hd);have hl:(Value.ref (s.heap.objs.size+1)::us++ds).length=ps.length:=by have e:=r2.length;rw [F.len _ _ _ _ hq] at e;exact e.symm
 refine wpAny_call (yM (f:=f) I.kJ M.makes M.init (beq_iff_eq.mp M.fn) (codeAny_mono (F.run _ X.stack _ _ ⟨Value.ref (s.heap.objs.size+1)::us,[]⟩ (Value.ref (s.heap.objs.size+1)::(us++ds)) _ _ (R σ) (hr.make C us [])
  (I2.Iu.make C us []) (hb _ (Value.ref (s.heap.objs.size+1)::us) I2.kJ hl) r2 hq) λr s' yd=> ?_))
 cases r with
 | error e=>exact hx δ σ _ _ e s' I2 yd
 | ok fl=>
  cases fl with
  | ret u=>
   obtain ⟨v,H',I3,rv,ev,q3⟩:=I2.after yd;subst ev;exact ⟨rv,⟨V.ref (s.heap.objs.size+1),H',I3,rfl,q3⟩⟩
  | next=>exact False.elim yd
  | brk=>exact False.elim yd
  | cont=>exact False.elim yd
theorem yJ(M:Mk X.K C f)(F:ao X.prog X.w X.K X.mg X.base CX k f fd ps sp)(hr:aX (k+1) X.A)(hg:Gl X x)(hm:X.mg x=some (.ref C))(hb:fD X.K fd ps ds)(hd:Μ lr ds)(hx:bM CX X R)
  (ha:PA X (e::es) t) (m_:(x==("__debug__":Str))=false:=by decide) (he:starEach (e::es) X.env=(false,eval e X.env)::starEach es X.env:=by rfl) (dE:(backTo pos (starEach es X.env)).any (·.1)=false:=by rfl):
  PE X (.Call (.Name x p) (e::es) [] pos) (ED C sp lr R t):=by
 intro δ s σ H Q I h;refine wpAny_Call_Name_kw (pX I hg hm ?_ m_);refine PySem.W.callWith_K (h₀:=X.base) I.ok.mod.Ia M.kp (a_ (ha pos δ s σ H _ I h) λus s1 ⟨vs,H1,I1,r,q⟩=>⟨I1.kJ, ?_⟩) he dE;exact w4 M F hr hb hd hx I1 r q
end
def Gi(C:Addr)(M:Ms)(d:Dt)(ns:List Str)(ds:List Dt):Prop:=d= .obj C ns ds\/∃k,d= .loc k/\M[k]? =some (.ins C ns ds)
section
variable{K:fv}{G:Hp}{L:List Addr}{M:Ms}{H:Hp}{C:Addr}{d:Dt}{v:V}{ns:List Str}{ds:List Dt}
theorem AL(r:Rl K G L M H)(n:Den K G L d v)(o:Gi C M d ns ds):∃a dx vs,v= .ref a/\H a=some (.ins C dx (ns.zip vs))/\ns.length=ds.length/\Γ K G L ds vs:=by
 rcases o with rfl | ⟨k,rfl,hm⟩
 ·obtain ⟨a,dx,vs,e,h1,hl,h2⟩:=n;exact ⟨a,dx,vs,e,r.sub _ _ h1,hl,h2⟩
 ·obtain ⟨a,e,h1⟩:=n;obtain ⟨_,dx,vs,h2,hl,h3⟩:=r.fG k a _ h1 hm;exact ⟨a,dx,vs,e,h2,hl,h3⟩
theorem rJ{f:Str}:∀{ns:List Str} {ds:List Dt} {vs:List V} {d:Dt},Γ K G L ds vs->(ns.zip ds).lookup f=some d->∃v,(ns.zip vs).lookup f=some v/\Den K G L d v
 | [],_,_,_,_,h=>by simp at h
 | _::_,[],_,_,_,h=>by simp at h
 | g::ns,d::ds,_,d',⟨v,r,rfl,h1,h2⟩,h=>by
  rw [aa2,abi] at h;rw [aa2,abi];cases q:f==g with
  | true=>rw [q] at h;cases h;exact ⟨v,rfl,h1⟩
  | false=>rw [q] at h;exact rJ h2 h
theorem lU{f:Str}:∀{ns:List Str} {ds:List Dt} {vs:List V},Γ K G L ds vs->(ns.zip ds).lookup f=none->(ns.zip vs).lookup f=none
 | [],_,_,_,_=>by simp
 | _::_,[],_,h,_=>by have h:_=_:=h;subst h;simp
 | g::ns,d::ds,_,⟨v,r,rfl,h1,h2⟩,h=>by
  rw [aa2,abi] at h;rw [aa2,abi];cases q:f==g with
  | true=>rw [q] at h;cases h
  | false=>rw [q] at h;exact lU h2 h
theorem su{f:Str}{v:V}:∀{ns:List Str} {vs:List V},ns.length=vs.length->f∉ns->fE f v (ns.zip vs)=(ns++[f]).zip (vs++[v])
 | [],[],_,_=>rfl
 | g::ns,x::vs,hl,h=>by have hg:¬g=f:=λz=>h (by rw [z];exact aam);show (if g=f then (g,v)::ns.zip vs else (g,x)::fE f v (ns.zip vs))=(g,x)::(ns++[f]).zip (vs++[v]);rw [if_neg hg,su (by simpa using hl) λz=>h (List.mem_cons_of_mem _ z)]
 | [],_::_,hl,_=>by simp at hl
 | _::_,[],hl,_=>by simp at hl
end
def LD(C:Addr)(f:Str)(t:DE):DE:=λρ M q x=>t ρ M (λd M1=>∃ns ds v,Gi C M1 d ns ds/\(ns.zip ds).lookup f=some v/\q v M1) x
def r6(C:Addr)(m:Str)(T:DF)(to:DE)(ta:DA):DE:=λρ M q x=>to ρ M (λd M1=>(∃ns ds,Gi C M1 d ns ds/\(ns.zip ds).lookup m=none)/\ta ρ M1 (λds M2=>T (d::ds) M2 q (λC fs M'=>x ρ C fs M')) x) x
def HG(C:Addr)(T:DF)(ta:DA):DE:=λρ M q x=>ta ρ M (λds M1=>T (.loc M1.length::ds) (M1++[.ins C [] []]) (λd M2=>d= .aW/\q (.loc M1.length) M2) (λC fs M'=>x ρ C fs M')) x
def DG(C:Addr)(f:Str)(to tv:DE):DS:=λDn ρ M=>tv ρ M (λy M1=>to ρ M1 (λd M2=>∃k ns ds,d= .loc k/\M2[k]? =some (.ins C ns ds)/\f∉ns/\ns.length < 1000/\Dn.nx ρ (M2.set k (.ins C (ns++[f]) (ds++[y])))) Dn.x) Dn.x
structure i0(P:Program)(w:World)(K:fv)(mg:Str->Option Value)(base:Heap)(k:Nat)(C:Addr)(m:Str)(ps:List Str)(T:DF)(f:Addr)(fd:FuncData):Prop where
 ok:ao P w K mg base (cq P w) k f fd ps (cQ K T)
 b:fD K fd ps []
 c:vQ K C
 m:CS K C m f
structure FJ(P:Program)(w:World)(K:fv)(mg:Str->Option Value)(base:Heap)(k:Nat)(x:Str)(C:Addr)(ps:List Str)(T:DF)(f:Addr)(fd:FuncData):Prop where
 ok:ao P w K mg base (cq P w) k f fd ps (cQ K T)
 b:fD K fd ps []
 k:Mk K C f
 m:mg x=some (.ref C)
section
variable{X:Cx}{R:St->XK}{C:Addr}{f m x:Str}{T:DF}{k k':Nat}{a:Addr}{fd:FuncData}{ps:List Str}{e o value:Expr}{es:List Expr}{pos pos' apos p:Pos}{to te tv:DE}{ta:DA}
theorem vA(c:vQ X.K C)(n:d7 X.K C f)(he:JE X R e te)(hb:attributeBase e f X.env (eval e X.env)=eval e X.env:=by rfl):JE X R (.Attribute e f pos) (LD C f te):=
 .of (Fv he hb) λσ H G L ρ M q x rl en h hx=>by refine ⟨G,L,ρ,M,_,x,rl,en,h,hx,λv H1 ⟨d1,G1,L1,M1,e1,r1,n1,ns,ds,y,ob,hl,h1⟩=> ?_⟩;obtain ⟨p,dx,vs,rfl,hp,_,dn⟩:=AL r1 n1 ob;obtain ⟨u,hu,du⟩:=rJ dn hl;exact ⟨p,C,dx,_,u,rfl,hp,c,n,hu,y,G1,L1,M1,e1,r1,du,h1⟩
theorem j0{pl:Sem Bool}(D:i0 X.prog X.w X.K X.mg X.base k C m ps T a fd)(hr:aX k' X.A)(hx:bM (cq X.prog X.w) X R)(ho:JE X R o to)(ha:JA X R (e::es) ta)(hk:k<=k':=by decide)
  (BD:starEach (e::es) X.env=(false,eval e X.env)::starEach es X.env:=by rfl) (dE:(backTo pos (starEach es X.env)).any (·.1)=false:=by rfl)
  (ht:eval (.Call (.Attribute o m apos) (e::es) [] pos) X.env=(do
   let ov<-eval o X.env
   standAt apos.atName
   let (f,first)<-holding [ov] (getMethod ov m pl)
   callWith pos f first (backTo pos (starEach (e::es) X.env)) (backToKw pos (keywordEach [] X.env))):=by rfl):
  JE X R (.Call (.Attribute o m apos) (e::es) [] pos) (r6 C m T to ta):=
 .of (yv (pl:=pl) ho D.c D.m D.ok (hr.mono hk) D.b .nil hx ha BD dE ht) λσ H G L ρ M q x rl en h hx=>by refine ⟨G,L,ρ,M,_,x,rl,en,h,hx,λv H1 ⟨d1,G1,L1,M1,e1,r1,n1,⟨ns,ds,ob,hl⟩,h1⟩=> ?_⟩;obtain ⟨p,dx,vs,rfl,hp,_,dn⟩:=AL r1 n1 ob;refine ⟨p,dx,_,rfl,hp,lU dn hl,G1,L1,ρ,M1,_,x,r1,en.mono e1,h1,hx.on e1,λus H2 ⟨wF,G2,L2,M2,e2,r2,n2,h2⟩=> ?_⟩;show cQ X.K T (V.ref p::(us++[])) H2 _ _;rw [aaY];have E4:=e1.trans e2;exact ⟨G2,L2,d1::wF,M2,q,_,r2,⟨_,_,rfl,Den.mono e2.g e2.l _ _ n1,n2⟩,h2,λv H' f=>Fin.back E4 f,λC fs M' G' L' H' od hq e' r' y=>hx σ ρ C fs M' G' L' H' od hq (E4.trans e') r' (en.mono (E4.trans e')) y⟩
theorem v7{pl:Sem Bool}(D:i0 X.prog X.w X.K X.mg X.base k C m ps T a fd)(hr:aX k' X.A)(hx:bM (cq X.prog X.w) X R)(ho:JE X R o to)(hk:k<=k':=by decide)
  (ht:eval (.Call (.Attribute o m apos) [] [] pos) X.env=(do
   let ov<-eval o X.env
   standAt apos.atName
   let (f,first)<-holding [ov] (getMethod ov m pl)
   callWith pos f first (backTo pos (starEach [] X.env)) (backToKw pos (keywordEach [] X.env))):=by rfl):
  JE X R (.Call (.Attribute o m apos) [] [] pos) (r6 C m T to kL):=
 .of (wL (pl:=pl) ho D.c D.m D.ok (hr.mono hk) D.b .nil hx ht) λσ H G L ρ M q x rl en h hx=>by refine ⟨G,L,ρ,M,_,x,rl,en,h,hx,λv H1 ⟨d1,G1,L1,M1,e1,r1,n1,⟨ns,ds,ob,hl⟩,h1⟩=> ?_⟩;obtain ⟨p,dx,vs,rfl,hp,_,dn⟩:=AL r1 n1 ob;refine ⟨p,dx,_,rfl,hp,lU dn hl, ?_⟩;show cQ X.K T (V.ref p::([]++[])) H1 _ _;exact ⟨G1,L1,[d1],M1,q,_,r1,⟨_,_,rfl,n1,rfl⟩,h1,λv H' f=>Fin.back e1 f,λC fs M' G' L' H' od hq e' r' y=>hx σ ρ C fs M' G' L' H' od hq (e1.trans e') r' (en.mono (e1.trans e')) y⟩
theorem AA(D:FJ X.prog X.w X.K X.mg X.base k x C ps T a fd)(hr:aX k' X.A)(hx:bM (cq X.prog X.w) X R)(ha:JA X R (e::es) ta)(hk:k+1<=k':=by decide)(hg:Gl X x:=by rfl)(m_:(x==("__debug__":Str))=false:=by decide)
  (he:starEach (e::es) X.env=(false,eval e X.env)::starEach es X.env:=by rfl) (dE:(backTo pos (starEach es X.env)).any (·.1)=false:=by rfl):JE X R (.Call (.Name x p) (e::es) [] pos) (HG C T ta):=
 .of (yJ D.k D.ok (hr.mono hk) hg D.m D.b .nil hx ha m_ he dE) λσ H G L ρ M q x rl en h hx=>by
  refine ⟨G,L,ρ,M,_,x,rl,en,h,hx,λvs H1 ⟨ds,G1,L1,M1,e1,r1,n1,h1⟩ y dx hy OR iB=> ?_⟩;show cQ X.K T (V.ref y::(vs++[])) _ _ _;rw [aaY];have ra:=r1.CH (o:= .own y) OR;have ea:=r1.G7 (o:= .own y) OR;have N8:upd H1 dx (HO.own y) y=none:=by rw [Α (Ne.symm iB)];exact hy
  have rb:=ra.Eb (p:=y) (o:= .ins C dx []) (m:= .ins C [] []) N8 ⟨dx,[],Ξ,rfl,rfl⟩;have eb:=ra.MG (p:=y) (o:= .ins C dx []) N8;have e2:=ea.trans eb;have E4:=e1.trans e2;refine ⟨_,_, .loc M1.length::ds,_,_,_,rb,⟨_,_,rfl,⟨y,rfl, ?_⟩,Γ.mono e2.g e2.l _ _ n1⟩,h1,λv H' ⟨d,G',L',M',e',r',dn,hd,hq⟩=> ?_,λC fs M' G' L' H' od hq e' r' z=>hx σ ρ C fs M' G' L' H' od hq (E4.trans e') r' (en.mono (E4.trans e')) z⟩
  ·rw [<-r1.len,List.getElem?_append_right (Nat.le_refl _)];simp
  ·subst hd;refine ⟨dn, .loc M1.length,G',L',M',E4.trans e',r',⟨y,rfl,e'.l.get ?_⟩,hq⟩;rw [<-r1.len,List.getElem?_append_right (Nat.le_refl _)];simp
theorem vF(c:vQ X.K C)(n:d7 X.K C f)(ho:JE X R o to)(hv:JE X R value tv)(hs:swapsWith value (some (.Attribute o f pos')) pos.line X.env=pure false:=by rfl):JS X R (.Assign [.Attribute o f pos'] value pos) (DG C f to tv):=
 .of (FY ho hv hs) λσ H G L ρ M Dn rl en h hx=>by refine ⟨G,L,ρ,M,_,_,rl,en,h,hx,λy H1 ⟨dy,G1,L1,M1,e1,r1,n1,h1⟩=> ?_⟩;refine ⟨G1,L1,ρ,M1,_,_,r1,en.mono e1,h1,hx.on e1,λu H2 ⟨du,G2,L2,M2,e2,r2,n2,k,ns,ds,ed,hm,hf,hz,h2⟩=> ?_⟩;subst ed;obtain ⟨p,rfl,hp⟩:=n2;obtain ⟨_,dx,vs,hH,hl,dn⟩:=r2.fG k p _ hp hm;have Gf:ns.length=vs.length:=hl.trans dn.length;refine ⟨p,C,dx,_,rfl,hH,c,n,by rw [List.length_zip,<-Gf,Nat.min_self];exact hz, ?_⟩;rw [su Gf hf];exact ⟨ρ,G2,L2,_,(e1.trans e2).trans (r2.Bq hp),r2.setM (m:= .ins C (ns++[f]) (ds++[dy])) hp ⟨dx,_,Ξ,by rw [aae,aae,hl];rfl,dn.app ⟨_,_,rfl,Den.mono e2.g e2.l _ _ n1,rfl⟩⟩,(en.mono (e1.trans e2)).mono (r2.Bq (o:= .own p) hp),h2⟩
end
def rM:List Dt->Ms->DQ->Prop
 | [d],M,q=>match eW M d with
  | some xs=>q (.loc M.length) (M++[.lst xs])
  | none=>False
 | _,_,_=>False
section
variable{K:fv}
theorem Hx:yk K (λxs H Q=>∃p ys,xs=[V.ref p]/\(eN K H p ys\/gP K H p ys)/\∀l,H l=none->Q (.ref l) (upd H l (.lst ys))) rM:=by
 intro G0 L0 H0 G L M H vs ds q e r n h;unfold rM at h;split at h
 ·rename_i d;obtain ⟨v,rfl,n1⟩:=aY n;split at h
  ·rename_i xs hs;obtain ⟨a,us,rfl,hq,dn⟩:=kU r n1 hs;exact ⟨a,us,rfl,hq,λl hl=>jm e r hl dn h⟩
  ·exact h.elim
 ·exact h.elim
end
section
variable{X:Cx}{R:St->XK}{e o i value:Expr}{t:DA}{to ti tv:DE}{p pos apos aE nG:Pos}
theorem my(hm:X.mg "list"=none)(ha:JA X R [e] t)(hg:Gl X "list":=by rfl)(he:starEach [e] X.env=(false,eval e X.env)::starEach [] X.env:=by rfl)(dE:(backTo pos (starEach [] X.env)).any (·.1)=false:=by rfl):JE X R (.Call (.Name "list" p) [e] [] pos) (u0 rM t):=
 z0 pI Hx hm fe ha hg (by decide) (by decide) he dE
def Gd(to:DE)(t:DA):DE:=λρ M q x=>to ρ M (λd M1=>(∃k xs,d= .loc k/\M1[k]? =some (.lst xs))/\t ρ M1 (λds M2=>∃k xs y,d= .loc k/\ds=[y]/\M2[k]? =some (.lst xs)/\xs.length < sizeLine/\q .aW (M2.set k (.lst (xs++[y])))) x) x
theorem eB(ho:JE X R o to)(ha:JA X R [e] t)(jf:attributeBase o "append" X.env (eval o X.env)=eval o X.env:=by rfl)
  (yP:((backTo aE (starEach [e] X.env)).all (λx=> !x.1)&&(backToKw aE (keywordEach [] X.env)).all (λx=>x.1.isSome)
   &&decide (([e]:List Expr).length+([]:List Keyword).length+(if ([]:List Keyword).isEmpty then 0 else 1) < 30))=true:=by rfl)
  (iF:(apos.endLine==aE.line)=true:=by rfl) (hs:starEach [e] X.env=(false,eval e X.env)::starEach [] X.env:=by rfl) (lS:(backTo aE (starEach [] X.env)).any (·.1)=false:=by rfl):
  JE X R (.Call (.Attribute o "append" apos) [e] [] aE) (Gd to t):=
 .of (Dv PySem.F.plainAttrs_list PySem.F.slot_list_append PySem.F.type_list_append (r:=vX) ou ho ha jf yP iF hs lS) λσ H G L ρ M q x rl n h hx=>by refine ⟨G,L,ρ,M,_,x,rl,n,h,hx,λv H1 ⟨d1,G1,L1,M1,e1,r1,n1,⟨k,xs,ed,hm⟩,h1⟩=> ?_⟩;subst ed;obtain ⟨a,rfl,hk⟩:=n1;obtain ⟨_,vs,hH,_⟩:=r1.fG k a _ hk hm;refine ⟨.inl ⟨rfl,vs, .of hH⟩,G1,L1,ρ,M1,_,x,r1,n.mono e1,h1,hx.on e1,λus H2 ⟨ds,G2,L2,M2,e2,r2,n2,k',xs',y,ek,ed,JM,hz,h2⟩=> ?_⟩;cases ek;subst ed;obtain ⟨u,rfl,n3⟩:=aY n2;have Jh:=e2.l.get hk;obtain ⟨_,Jb,Hn,Dq⟩:=r2.fG k a _ Jh JM;refine ⟨a,Jb,u,rfl,rfl,Hn,by rw [<-Dq.length];exact hz, .aW,G2,L2,_,(e1.trans e2).trans (r2.Bq Jh),r2.setM (m:= .lst (xs'++[y])) Jh ⟨_,Ξ,Dq.app ⟨_,_,rfl,n3,rfl⟩⟩,rfl,h2⟩
def A7(to ti tv:DE):DS:=λDn ρ M=>tv ρ M (λy M1=>to ρ M1 (λd M2=>ti ρ M2 (λdi M3=>∃k i xs j,d= .loc k/\di= .int i/\M3[k]? =some (.lst xs)/\xJ xs.length i=some j/\Dn.nx ρ (M3.set k (.lst (xs.set j y)))) Dn.x) Dn.x) Dn.x
theorem Aw(ho:JE X R o to)(hi:JE X R i ti)(hv:JE X R value tv)(hs:swapsWithSole [.Subscript o i nG] value pos.line X.env=pure false:=by rfl)(hw:swappedStores [.Subscript o i nG] value X.env=pure none:=by rfl)
  (h1:(assignEach [.Subscript o i nG] X.env).map (·.2)=[assign (.Subscript o i nG) X.env]:=by rfl)
  (ha:∀v,assign (.Subscript o i nG) X.env v=(do
   let ov<-holding [v] (eval o X.env)
   let iv<-holding [v,ov] (eval i X.env)
   standAt nG
   holding [v,ov,iv] (setItem ov iv v)
   release [v,ov,iv] []):=by intro _;rfl):JS X R (.Assign [.Subscript o i nG] value pos) (A7 to ti tv):=
 .of (uv hv (D9 (t:=Dc) ho hi A' ha) hs hw h1) λσ H G L ρ M Dn rl n h hx=>by refine ⟨G,L,ρ,M,_,_,rl,n,h,hx,λv H1 ⟨dv,G1,L1,M1,e1,r1,n1,h1⟩=> ?_⟩;refine ⟨G1,L1,ρ,M1,_,_,r1,n.mono e1,h1,hx.on e1,λov H2 ⟨d,G2,L2,M2,e2,r2,n2,h2⟩=> ?_⟩;refine ⟨G2,L2,ρ,M2,_,_,r2,(n.mono e1).mono e2,h2,(hx.on e1).on e2,λiv H3 ⟨di,G3,L3,M3,e3,r3,n3,k,i,xs,j,ed,ei,hm,hj,h3⟩=> ?_⟩;subst ed ei;obtain ⟨a,rfl,hk⟩:=n2;have n3:iv= .int i:=n3;subst n3;have AM:=e3.l.get hk;obtain ⟨_,vs,hH,dn⟩:=r3.fG k a _ AM hm;have BO:=e2.trans e3;have Kc:=Den.mono BO.g BO.l _ _ n1;refine ⟨a,vs,i,j,rfl,rfl,hH,by rw [<-dn.length];exact hj,ρ,G3,L3,_,((e1.trans e2).trans e3).trans (r3.Bq AM),r3.setM (m:= .lst (xs.set j dv)) AM ⟨_,Ξ, .of (vH Kc j dn.pair)⟩,(((n.mono e1).mono e2).mono e3).mono (r3.Bq (o:= .own a) AM),h3⟩
end
structure Src(K:fv)(a:Addr)(xs:List Dt)(ok:Ms->Prop)(G0:Hp)(L0:List Addr):Prop where
 at_:∀G L M H,bH G0 G->Pre L0 L->Rl K G L M H->ok M->∃vs,eN K H a vs/\Γ K G L xs vs
def iz(M:Ms):Dt->Option (List Dt×(Ms->Prop))
 | .lst xs=>some (xs,λ_=>True)
 | .cE ns=>some (ns.map .int,λ_=>True)
 | .loc k=>match M[k]? with
  | some (.lst xs)=>some (xs,λM'=>M'[k]? =some (.lst xs))
  | _=>none
 | _=>none
theorem ud{K:fv}{G:Hp}{L:List Addr}{M:Ms}{H:Hp}{d:Dt}{v:V}{xs:List Dt}{ok:Ms->Prop}(r:Rl K G L M H)(n:Den K G L d v)(h:iz M d=some (xs,ok)):∃a vs,v= .ref a/\eN K H a vs/\Src K a xs ok G L/\ok M:=by
 cases d with
 | lst ds=>
  cases h;obtain ⟨a,vs,rfl,e,m⟩:=n;exact ⟨a,vs,rfl, .of (r.sub _ _ e),⟨λG' L' M' H' g l r' _=>⟨vs, .of (r'.sub _ _ (g _ _ e)),Γ.mono g l _ _ m⟩⟩,trivial⟩
 | cE ns=>
  cases h;obtain ⟨a,rfl,e⟩:=n;exact ⟨a,_,rfl,r.sub.seq e,⟨λG' L' M' H' g l r' _=>⟨_,r'.sub.seq (g.seq e),cX⟩⟩,trivial⟩
 | loc k=>
  obtain ⟨a,rfl,e⟩:=n;have h:(match M[k]? with | some (.lst xs)=>some (xs,λM':Ms=>M'[k]? =some (.lst xs)) | _=>none)=some (xs,ok):=h;split at h
  ·rename_i ys hm;cases h;obtain ⟨_,vs,e1,m1⟩:=r.fG k a _ e hm;refine ⟨a,vs,rfl, .of e1,⟨λG' L' M' H' g l r' hk=> ?_⟩,hm⟩;obtain ⟨_,Jb,e2,m2⟩:=r'.fG k a _ (l.get e) hk;exact ⟨Jb, .of e2,m2⟩
  ·cases h
 | _=>cases h
theorem yQ{K:fv}{G:Hp}{L:List Addr}{a:Addr}{xs:List Dt}{ok:Ms->Prop}(s:Src K a xs ok G L):GL K (Ka K a) xs ok G L where
 go:=λi G1 L1 M1 H1 d g l r k e=>by
  obtain ⟨vs,hs,n⟩:=s.at_ G1 L1 M1 H1 g l r k;obtain ⟨v,e1,n1⟩:=n.get e
  exact ⟨⟨vs,v,hs,e1⟩,λv' H' ⟨eH,y⟩=>by
   subst eH;have e2:=y vs hs;rw [e1] at e2;cases e2
   exact ⟨G1, .refl _ _ _,r,n1⟩⟩
 stop:=λi G1 L1 M1 H1 g l r k e=>by obtain ⟨vs,hs,n⟩:=s.at_ G1 L1 M1 H1 g l r k;exact ⟨vs,hs,by rw [<-n.length];exact e⟩
def kv(M:Ms):Dt->Option (List Dt×(Ms->Prop))
 | .loc k=>iz M (.loc k)
 | d=>(HY M d).map λxs=>(xs,λ_=>True)
def cN(t:DE):DK:=λρ M q x=>t ρ M (λd M1=>match kv M1 d with
 | some (xs,ok)=>q xs ok M1
 | none=>False) x
theorem bz{X:Cx}{R:St->XK}{tg e:Expr}{te:DE}(h:JE X R e te):JK X R tg e (cN te):=by
 intro δ s σ H Q I ⟨G,L,ρ,M,q,x,rl,n,ht,hx,hQ⟩;refine a_ (h δ s σ H (Fin X.K G L H _) I ⟨G,L,ρ,M,_,x,rl,n,ht,hx,λ_ _ f=>f⟩) λu s1 ⟨v,H1,I1,rv,d,G1,L1,M1,e1,r1,n1,h1⟩=> ?_
 (try dsimp only at h1)
 cases hi:kv M1 d with
 | none=>rw [hi] at h1;exact h1.elim
 | some p=>
  obtain ⟨xs,ok⟩:=p;rw [hi] at h1;have fin:∀J,GL X.K J xs ok G1 L1->Q J H1:=λJ y=>hQ J H1 ⟨xs,ok,G1,L1,M1,e1,r1,y,h1⟩;have up:∀{J},ok=(λ_=>True)->Yl X.K J xs G1 L1->GL X.K J xs ok G1 L1:=λeo y=>by subst eo;exact ⟨λi G L M H d g l r _ e=>y.go i G L M H d g l r e,λi G L M H g l r _ e=>y.stop i G L M H g l r e⟩
  cases d with
  | loc k=>
   obtain ⟨a,vs,rfl,hs,sr,_⟩:=ud r1 n1 hi;cases rv;exact pq I1 hs (fin _ (yQ sr))
  | lst ds=>
   cases hi;obtain ⟨a,vs,rfl,e,m⟩:=n1;cases rv;exact pq I1 (vs:=vs) (.of (r1.sub _ _ e)) (fin _ (up rfl (vo (λG' g=> .of (g _ _ e)) m)))
  | cE ns=>
   cases hi;obtain ⟨a,rfl,e⟩:=n1;cases rv;exact pq I1 (r1.sub.seq e) (fin _ (up rfl (vo (λG' g=>g.seq e) cX)))
  | tup ds=>
   cases hi;obtain ⟨a,vs,rfl,e,m⟩:=n1;cases rv;exact zY I1 (vs:=vs) (.of (r1.sub _ _ e)) (fin _ (up rfl (zF (λG' g=> .of (g _ _ e)) m)))
  | kt ds=>
   cases hi;obtain ⟨a,vs,rfl,e,m⟩:=n1;cases rv;exact zY I1 (r1.sub.Jx e) (fin _ (up rfl (zF (λG' g=>g.Jx e) m)))
  | str z=>
   cases hi;cases n1;obtain ⟨t,rfl⟩:=rv;exact Ea I1 (fin _ (up rfl D1))
  | _=>cases hi
def gG(g:Dt->En->(En->Prop)->Prop)(tb:DS)(Dn:i_)(ok:Ms->Prop):List Dt->En->Ms->Prop
 | [],ρ,M=>ok M/\Dn.nx ρ M
 | x::xs,ρ,M=>ok M/\g x ρ λρ'=>tb {Dn with nx:=gG g tb Dn ok xs,ct:=gG g tb Dn ok xs,bk:=Dn.nx} ρ' M
def vj(ti:DK)(g:Dt->En->(En->Prop)->Prop)(tb:DS):DS:=λDn ρ M=>ti ρ M (λxs ok M1=>gG g tb Dn ok xs ρ M1) Dn.x
section
variable{X:Cx}{R:St->XK}{tg iter:Expr}{body:List Stmt}{ti:DK}{gg:TG}{g:Dt->En->(En->Prop)->Prop}{tb:DS}{pos:Pos}
theorem gy(hi:JK X R tg iter ti)(hg:PG X tg gg)(gd:GD X.K gg g)(hb:xM X R body tb)(hp:PassesOwn (model X.prog X.w) X.A X.env X.xe:=by first | exact PassesOwn.never | exact PassesOwn.leaving)(hc:X.calm=true:=by rfl)(hs:∀x,foldedSetIterable iter X.env x=pure x:=by intro _;rfl):
  JS X R (.For tg iter body [] pos) (vj ti g tb):= .of (Aq hp hc hi hg hb hs) λσ H G L ρ M Dn rl n h hx=>by
 refine ⟨G,L,ρ,M,_,_,rl,n,h,hx,λJ H1 ⟨xs,ok,G1,L1,M1,e1,r1,y,h1⟩=> ?_⟩;refine ⟨λi m σ' H'=>m+i=xs.length/\cU X.K G1 L1 H1 (λρ' M'=>gG g tb Dn ok (xs.drop i) ρ' M') σ' H',⟨xs.length,rfl,ρ,G1,L1,M1, .refl _ _ _,r1,n.mono e1,by rw [List.drop_zero];exact h1⟩, ?_⟩;rintro i m σ' H' ⟨hm,ρ',G',L',M',e',r',n',h'⟩;by_cases hi:i < xs.length
 ·right;have hd:xs[i]? =some xs[i]:=aaa hi;rw [abl hi] at h';obtain ⟨aR,h'⟩:=h';obtain ⟨go,yl⟩:=y.go i G' L' M' H' _ e'.g e'.l r' aR hd;refine ⟨go,cU X.K G1 L1 H1 (λρ' M'=>gG g tb Dn ok (xs.drop (i+1)) ρ' M'),λσ2 H2 f=>⟨m - 1,by omega,by omega,f⟩,λv H2 hy=> ?_⟩;obtain ⟨G2,e2,r2,n2⟩:=yl v H2 hy;refine gd G2 L' M' H2 _ v ρ' σ' _ _ r2 n2 (n'.mono e2) h' λρ3 σ3 n3 h3=> ?_;refine ⟨G2,L',ρ3,M',_,r2,n3,h3,hx.on (e1.trans (e'.trans e2)),⟨λ_ _ f=>cU.back (e'.trans e2) f,λ_ _ f=>Fin.back (e1.trans (e'.trans e2)) f,λ_ _ f=>cU.back (e1.trans (e'.trans e2)) f,λ_ _ f=>cU.back (e'.trans e2) f⟩⟩
 ·left;rw [List.drop_eq_nil_of_le (by omega)] at h';exact ⟨y.stop i G' L' M' H' e'.g e'.l r' h'.1 (by omega),ρ',G',L',M',e1.trans e',r',n',h'.2⟩
end
def jc(te:DE)(cs:En)(ok:Ms->Prop):List Dt->List Dt->Ms->(List Dt->Ms->Prop)->Prop
 | [],ae,M,k=>ok M/\k ae M
 | x::xs,ae,M,k=>ok M/\te (some x::cs) M (λd M1=>jc te cs ok xs (ae++[d]) M1 k) iC
def mw(ti:DK)(te:DE)(Θ:List Nat):DE:=λρ M q x=>ti ρ M (λxs ok M1=>xs.length<=sizeLine/\jc te (kI Θ ρ) ok xs [] M1 (λys M2=>q (.lst ys) M2)) x
def pd(ti:DK)(te:DE)(Θ:List Nat):DE:=λρ M q x=>ti ρ M (λxs ok M1=>xs.length<=sizeLine/\jc te (kI Θ ρ) ok xs [] M1 (λys M2=>q (.loc M2.length) (M2++[.lst ys]))) x
theorem k9{te:DE}{cs:En}{ok:Ms->Prop}:∀xs,jc te cs ok xs=fV (gN 0) rn te (none::cs) ok xs
 | []=>rfl
 | x::xs=>funext λae=>funext λM=>funext λk=>by show (ok M/\te (some x::cs) M (λd M1=>jc te cs ok xs (ae++[d]) M1 k) iC)=(ok M/\te (some x::cs) M (λd M1=>fV (gN 0) rn te (none::cs) ok xs (ae++[d]) M1 k) iC);rw [k9 xs]
section
variable{X:Cx}{R:St->XK}{elt iter:Expr}{x:Str}{px:Pos}{scope:Scope}{pos:Pos}{ti:DK}{te:DE}{ys:List Str}{Θ:List Nat}
theorem eZ(S:Ψ X scope [x] ys Θ)(hi:JK X R (.Name x px) iter ti)(he:∀C s H fp,JE (Cx.comp X (x::ys) scope C s H fp) (λ_=>E0) elt te)(hc:X.calm=true:=by rfl)(hs:∀x,foldedSetIterable iter X.env x=pure x:=by intro _;rfl):JE X R (.ListComp elt [⟨.Name x px,iter,[],0⟩] scope pos) (mw ti te Θ):=LY false S hi (eI S (i:=0) rfl) aC (cu (Nat.zero_lt_succ 0)) (λ_ _ _ _=>i5) he hc hs λρ M q x h=>by unfold mw at h;simp only [k9] at h;exact h
theorem zR(S:Ψ X scope [x] ys Θ)(hi:JK X R (.Name x px) iter ti)(he:∀C s H fp,JE (Cx.comp X (x::ys) scope C s H fp) (λ_=>E0) elt te)(hc:X.calm=true:=by rfl)(hs:∀x,foldedSetIterable iter X.env x=pure x:=by intro _;rfl):JE X R (.ListComp elt [⟨.Name x px,iter,[],0⟩] scope pos) (pd ti te Θ):=LY true S hi (eI S (i:=0) rfl) aC (cu (Nat.zero_lt_succ 0)) (λ_ _ _ _=>i5) he hc hs λρ M q x h=>by unfold pd at h;simp only [k9] at h;exact h
theorem kB{i:Nat}{y:Str}{py iO:Pos}(hN:X.N.Nodup)(Bo:X.N[i]? =some y)(hy:Loc X.env.scope y)(S:Ψ X scope [x] ys Θ)(hi:JK X R (.Name x px) iter ti)(he:∀C s H fp,JE (Cx.comp X (x::ys) scope C s H fp) (λ_=>E0) elt te)(hc:X.calm=true:=by rfl)(BP:swapsWith (.ListComp elt [⟨.Name x px,iter,[],0⟩] scope pos) (some (.Name y py)) iO.line X.env=pure true:=by rfl)(hs:∀x,foldedSetIterable iter X.env x=pure x:=by intro _;rfl)(hf:X.fn y=true\/X.env.scope.names.lookup y=some .local:=by first | exact .inl rfl | exact .inr rfl | assumption):JS X R (.Assign [.Name y py] (.ListComp elt [⟨.Name x px,iter,[],0⟩] scope pos) iO) (xp i (mw ti te Θ)):=MD false S hi (eI S (i:=0) rfl) aC (cu (Nat.zero_lt_succ 0)) (λ_ _ _ _=>i5) he hc hs hN Bo hy BP hf λρ M q x h=>by unfold mw at h;simp only [k9] at h;exact h
end
theorem og:∀{ns:List Int} {us:List Value},Μ (ns.map V.int) us->∃ts:List (Int×Tok),us=ts.map (λp=>Value.int p.1 p.2)/\ts.map (·.1)=ns
 | [],_,h=>by cases h;exact ⟨[],rfl,rfl⟩
 | n::ns,_,h=>by
  cases h with
  | cons r t=>
   obtain ⟨tk,rfl⟩:=r;obtain ⟨ts,rfl,rfl⟩:=og t;exact ⟨(n,tk)::ts,rfl,rfl⟩
def IG(K:fv):List V->Hp->VK->Prop:=λxs H Q=>∃(p:Addr) (ns:List Int),xs=[.ref p]/\eN K H p (ns.map V.int)/\Q (.int ns.sum) H
theorem Av{X:Cx}(hc:X.calm=true):cn X (.builtin "sum") (IG X.K):=by
 intro δ s σ H xs us Q I r h;obtain ⟨p,ns,rfl,hq,q⟩:=h;obtain ⟨u,rfl,r1⟩:=jo r;cases r1;obtain ⟨its,rv,pl,hz⟩:=I.list hq;obtain ⟨ts,rfl,rfl⟩:=og rv;have e:(ts.map λp=>Value.int p.1 p.2).toArray=intItems ts.toArray:=by simp [intItems]
 have hl:=pl.isList;rw [e] at hl;refine sum_intListG (I.ok.hd hc) hl λh' tk t' hk=> ?_;refine ⟨.int (ts.map (·.1)).sum,H,I.kept hk,⟨t', ?_⟩,q⟩;rw [preSum_eq,List.take_of_length_le (by simp)]
def EY:List Dt->Ms->DQ->Prop
 | [d],M,q=>∃ns:List Int,eW M d=some (ns.map .int)/\(∃xs ok,iz M d=some (xs,ok))/\q (.int ns.sum) M
 | _,_,_=>False
theorem mi{K:fv}{G:Hp}{L:List Addr}:∀{ns:List Int} {vs:List V},Γ K G L (ns.map Dt.int) vs->vs=ns.map V.int
 | [],_,h=>h
 | _::_,_,⟨v,r,e,h1,h2⟩=>by have h1:v=_:=h1;rw [e,h1,mi h2];rfl
theorem jk{M:Ms}{d:Dt}{xs:List Dt}{ok:Ms->Prop}(h:iz M d=some (xs,ok)):eW M d=some xs:=by
 cases d with
 | lst ds=>cases h;rfl
 | cE ns=>cases h;rfl
 | loc k=>
  have h:(match M[k]? with | some (.lst xs)=>some (xs,λM':Ms=>M'[k]? =some (.lst xs)) | _=>none)=some (xs,ok):=h;show (match M[k]? with | some (.lst xs)=>some xs | _=>none)=some xs;split at h
  ·rename_i ys hm;cases h;rfl
  ·cases h
 | _=>cases h
theorem Nr{K:fv}:yk K (IG K) EY:=by
 intro G0 L0 H0 G L M H vs ds q e r n h;unfold EY at h;split at h
 ·rename_i d;obtain ⟨v,rfl,n1⟩:=aY n;obtain ⟨ns,hs,⟨xs,ok,hl⟩,hq⟩:=h;obtain ⟨a,us,rfl,sq,sr,aR⟩:=ud r n1 hl;rw [jk hl] at hs;cases hs;obtain ⟨ws,KW,dn⟩:=sr.at_ G L M H (.refl _) (.refl _) r aR;rw [mi dn] at KW;exact ⟨a,ns,rfl,KW, .int ns.sum,G,L,M,e,r,rfl,hq⟩
 ·exact h.elim
theorem xw:bootBuiltins "sum"=some (.builtin "sum"):=by decide+kernel
theorem uw:bootBuiltins "enumerate"=some (.type "enumerate"):=by decide+kernel
section
variable{X:Cx}{R:St->XK}{e a b:Expr}{t:DA}{ta tb:DE}{p pos:Pos}
theorem Di(hm:X.mg "sum"=none)(ha:JA X R [e] t)(hc:X.calm=true:=by rfl)(hg:Gl X "sum":=by rfl)(he:starEach [e] X.env=(false,eval e X.env)::starEach [] X.env:=by rfl)(dE:(backTo pos (starEach [] X.env)).any (·.1)=false:=by rfl):JE X R (.Call (.Name "sum" p) [e] [] pos) (u0 EY t):=
 e_ (Av hc) Nr hm xw ha hg (by decide) (by decide) he dE
def Ji:Dt->Dt->Ms->DQ->Prop:=λd e M q=>∃u xs us,sE d=some u/\eW M e=some xs/\fZ xs=some us/\q (.bl (Kh u us)) M
theorem LJ{K:fv}:mY K (OY K false) Ji:=by intro G0 L0 H0 G L M H v1 v2 d1 d2 q e r n1 n2 ⟨u,xs,us,h1,h2,h3,hq⟩;obtain ⟨rfl,fu⟩:=iS h1 n1;obtain ⟨a,vs,rfl,sq,dn⟩:=kU r n2 h2;obtain ⟨rfl,fs⟩:=cW h3 dn;exact ⟨a,vs,rfl,sq,fu,fs, .bl _,G,L,M,e,r,rfl,hq⟩
theorem D7(ja:JE X R a ta)(jb:JE X R b tb)(hm:behindInMarks .In b=false:=by rfl):JT X R (.Compare a [.In] [b] pos) (l_ (gC Ji ta tb)):=ie xY LJ ja jb hm
end
theorem Inv.xy{X:Cx}{δ:List (Addr×Obj)}{σ:St}{H:Hp}{s:Shared}{h':Heap}{its:List Addr}{T:Addr}{o:HO}{t':Nat}(I:Inv X δ σ H s)(k:∀b u,b∉its->s.heap.get? b=some u->h'.get? b=some u)(f:∀b∈its,nA X δ H b)(hT:s.heap.objs.size<=T)(new:aT X.prog X.w (upd H T o) h' T o):
  Inv X δ σ (upd H T o) {s with heap:=h',toks:=t'}:=by
 have hn:=I.aR.fresh hT;have OE:∀b u,H b=some u->b∉its:=λb u e z=>by rw [(f b z).1] at e;cases e
 refine I.call (ch:=its) (g':=s.gens) (d':=s.drawn) (t':=t') ⟨λb u q _ _ hb=>k b u hb q,λb u q _ _ hb=>⟨u.slots,k b u hb q⟩,λb u q n _=> ?_,λb u q hb=>⟨u,k b u hb q⟩,λb xs q=> ?_,λb u xs q=> ?_,λb ps q=>⟨#[], ?_⟩⟩ (λb u e=> ?_) I.bare λb hb=> ?_
 ·rw [Α (aaM (aaz (aas q) hT))];exact n
 ·rw [Α (aV q hn)];exact q
 ·rw [Α (aV q hn)];exact q
 ·rw [Α (aV q hn),q];simp
 ·by_cases hb:b=T
  ·subst hb;rw [Ξ] at e;cases e;exact new
  ·rw [Α hb] at e;refine (I.aR b u e).w8 (λc v hc q=>k c v ?_ q) (λc q=>by rw [Α (aV q hn)];exact q) λc xs q=>by rw [Α (aV q hn)];exact q
   rcases hc with z | z
   ·rw [z];exact OE b u e
   ·exact OE c _ z
 ·obtain ⟨f0,f1,f2,f3,f4,f5⟩:=f b hb;exact ⟨f3,f1,f4,f5⟩
def N9(K:fv)(l:Addr):It:=
 ⟨λi H=>∃xs x,eN K H l xs/\xs[i]? =some x,λi H v H'=>∃p x,H p=none/\v= .ref p/\H'=upd H p (.tup [.int i,x])/\∀xs,eN K H l xs->xs[i]? =some x,λi H=>∃xs,eN K H l xs/\xs.length<=i⟩
theorem xB{P:Program}{w:World}{K:fv}{elts:List Expr}{x1:Nat}{tp:Pos}(l it e:Addr)(iB:e≠it):tm P w K (.Tuple elts x1 tp) (N9 K l) [e,it] e (λi h=>(∃old,IsEnum h e it i old)/\h.IsListIter it l i) where
 mem:=by simp
 obj:=λi h st b hb=>by
  obtain ⟨⟨old,he⟩,hi⟩:=st;rcases aaO.mp hb with rfl | hb
  ·exact ⟨_,he,λv z=>by
    have z':Data.fields _=Data.cell v:=z
    cases z'⟩
  ·have e:b=it:=by simpa using hb
   subst e;obtain ⟨o,e,c,d⟩:=hi;exact ⟨o,e,λv z=>by rw [d] at z;cases z⟩
 keep:=λi h h' st k=>by obtain ⟨⟨old,he⟩,hi⟩:=st;exact ⟨⟨old,k e (by simp) _ he⟩,hi.at λo q=>k it (by simp) o q⟩
 item:=by
  intro X hP hw hK hc i δ s σ H E I hf st hg;subst hP hw hK;obtain ⟨⟨old,he⟩,hi⟩:=st;obtain ⟨xs,x,hq,hx⟩:=hg;obtain ⟨its,rv,p,hz⟩:=I.list hq;obtain ⟨u,hu,ru⟩:=rv.get hx;refine wpAny_pyNext_enum_item he hi p.isList (x:=u) (by simpa using hu) iB λh' ho MC hT hsz hk=> ?_;refine ⟨_,rfl,wpAny_letOwnedTupleGo_enum (s:={s with heap:=h',toks:=s.toks+1}) ho λh2 Pr sb=> ?_⟩;have sb:Heap.SameBut e h' h2:=sb;have elt:e < s.heap.objs.size:=aas he;have RP:it < s.heap.objs.size:=by obtain ⟨o,q,_⟩:=hi;exact aas q
  have neT:s.heap.objs.size≠e:=Nat.ne_of_gt elt;have PJ:h2.get? s.heap.objs.size=some {cls:= .type "tuple",data:= .seq #[.int i s.toks,u]}:=(sb.2 _ neT).trans hT;have I2:Inv X δ σ (upd H s.heap.objs.size (.tup [.int i,x])) {s with heap:=h2,toks:=s.toks+1}:=by
   refine I.xy (its:=[e,it]) (λb o hb q=> ?_) hf (aal _) ?_
   ·have h1:b≠e:=λz=>hb (by simp [z]);have h3:b≠it:=λz=>hb (by simp [z]);exact (sb.2 b h1).trans (hk b o h1 h3 q)
   ·refine ⟨by simp [sizeLine_eq],[.int i s.toks,u], .cons ⟨_,rfl⟩ (.cons ru .nil), ?_⟩;exact ⟨_,PJ,rfl,0,rfl⟩
  have iter:h2.IsListIter it l (i+1):=MC.at λo q=>(sb.2 it (Ne.symm iB)).trans q;refine ⟨.ref s.heap.objs.size,_,I2,rfl,⟨s.heap.objs.size,x,I.aR.fresh (Nat.le_refl _),rfl,rfl,λys hy=>by rw [I.fJ hy hq];exact hx⟩,⟨⟨u,by simpa using Pr⟩,iter⟩,λb hb=> ?_⟩;have nb:b≠s.heap.objs.size:=by
   rcases aaO.mp hb with rfl | hb
   ·exact aaM elt
   ·have:b=it:=by simpa using hb
    subst this;exact aaM RP
  rw [Α nb];exact (hf b hb).1
 done:=by intro X hP hw hK hc i δ s σ H E I hf st hg;subst hP hw hK;obtain ⟨⟨old,he⟩,hi⟩:=st;obtain ⟨xs,hq,hx⟩:=hg;obtain ⟨its,rv,p,hz⟩:=I.list hq;have hl:=rv.length;obtain ⟨f0,f1,f2,f3,f4,f5⟩:=hf it (by simp);refine wpAny_pyNext_enum_end (I.ok.hd hc) he hi p.isList (by simp;omega) λh' ext=>⟨rfl,I.turned (t':=s.toks) (λb o hb q=>ext b o hb q) f0 f1 f3 f4 f5⟩
 self:=λ_ _ _ _ _ st h=>by obtain ⟨⟨old,he⟩,_⟩:=st;exact wpAny_pyIter_enum he h
def gK:Nat->List Dt->List Dt
 | _,[]=>[]
 | n,x::xs=> .tup [.int n,x]::gK (n+1) xs
theorem i9:∀(n:Nat) (xs:List Dt),(gK n xs).length=xs.length
 | _,[]=>rfl
 | n,_::xs=>by unfold gK;rw [List.length_cons,List.length_cons,i9]
theorem ow:∀{n i:Nat} {xs:List Dt} {d:Dt},(gK n xs)[i]? =some d->∃x,xs[i]? =some x/\d= .tup [.int ((n+i:Nat):Int),x]
 | n,i,[],d,h=>by simp [gK] at h
 | n,0,x::xs,d,h=>by unfold gK at h;simp at h;exact ⟨x,rfl,by rw [<-h];simp⟩
 | n,i+1,x::xs,d,h=>by unfold gK at h;obtain ⟨y,h1,h2⟩:=ow (n:=n+1) (i:=i) (xs:=xs) (d:=d) (by simpa using h);exact ⟨y,by simpa using h1,by rw [h2,show n+1+i=n+(i+1) by omega]⟩
theorem zJ{K:fv}{G:Hp}{L:List Addr}{a:Addr}{xs:List Dt}{ok:Ms->Prop}(s:Src K a xs ok G L):GL K (N9 K a) (gK 0 xs) ok G L where
 go:=λi G1 L1 M1 H1 d g l r k e=>by obtain ⟨vs,hs,n⟩:=s.at_ G1 L1 M1 H1 g l r k;obtain ⟨y,ey,rfl⟩:=ow e;obtain ⟨v,e1,n1⟩:=n.get ey;refine ⟨⟨vs,v,hs,e1⟩,λv' H' ⟨p,x,hp,ev,eH,hx⟩=> ?_⟩;subst ev eH;have e2:=hx vs hs;rw [e1] at e2;cases e2;refine ⟨_,r.G7 hp,r.CH hp,jj (ds:=[.int ((0+i:Nat):Int),y]) r hp ⟨_,_,rfl, ?_,_,_,rfl,n1,rfl⟩⟩;show V.int i=V.int _;rw [Nat.zero_add]
 stop:=λi G1 L1 M1 H1 g l r k e=>by obtain ⟨vs,hs,n⟩:=s.at_ G1 L1 M1 H1 g l r k;exact ⟨vs,hs,by rw [<-n.length,<-i9 0];exact e⟩
def Ju(t:DA):DK:=λρ M q x=>t ρ M (λds M1=>∃d xs ok,ds=[d]/\iz M1 d=some (xs,ok)/\q (gK 0 xs) ok M1) x
theorem Cb{X:Cx}{R:St->XK}{elts:List Expr}{x1:Nat}{tp:Pos}{a:Expr}{t:DA}{p pos:Pos}(hm:X.mg "enumerate"=none)(ha:JA X R [a] t)(hg:Gl X "enumerate":=by rfl)(hs:starEach [a] X.env=[(false,eval a X.env)]:=by rfl):JK X R (.Tuple elts x1 tp) (.Call (.Name "enumerate" p) [a] [] pos) (Ju t):=by
 intro δ s σ H Q I ⟨G,L,ρ,M,q,x,rl,n,ht,hx,hQ⟩;refine Call_ (mU I hg hm uw (PyProof.Rows.callWith_type1 (a_ (ha pos δ s σ H (GJ X.K G L H _) I ⟨G,L,ρ,M,_,x,rl,n,ht,hx,λ_ _ f=>f⟩) λus s1 ⟨vs,H1,I1,rv,ds,G1,L1,M1,e1,r1,n1,d,xs,ok,ed,hl,h1⟩=> ?_) hs rfl));subst ed;obtain ⟨v,rfl,n2⟩:=aY n1;obtain ⟨b,ws,rfl,sq,sr,_⟩:=ud r1 n2 hl;obtain ⟨u,rfl,ru⟩:=Μ.one rv;cases ru;obtain ⟨its,_,pl,_⟩:=I1.list sq;refine call_enumerate_list pl.isList λh' he hi hz hk=> ?_;have I2:Inv X δ σ H1 {s1 with heap:=h'}:=I1.kept (t':=s1.toks) hk;refine wpAny_pyIter_enum (s:={s1 with heap:=h'}) he ⟨s1.heap.objs.size+1,[s1.heap.objs.size+1,s1.heap.objs.size],_,_,H1,rfl,I2,xB b s1.heap.objs.size (s1.heap.objs.size+1) (Nat.ne_of_gt (Nat.lt_succ_self _)),⟨⟨_,he⟩,hi⟩,λc hc=> ?_,hQ _ _ ⟨_,ok,G1,L1,M1,e1,r1,zJ sr,h1⟩⟩;have hc:s1.heap.objs.size<=c:=by
  rcases aaO.mp hc with rfl | hc
  ·exact Nat.le_succ _
  ·have:c=s1.heap.objs.size:=by simpa using hc
   rw [this];exact aal _
 have f:=I1.yo (H':=H1) hc (I1.aR.fresh hc);exact f
def yN(M:Ms):Dt->Option Value
 | .loc k=>match M[k]? with
  | some (.lst _)=>some (.type "list")
  | _=>none
 | d=>qW d
def C8(K:fv):List Dt->Ms->DQ->Prop:=λds M q=>∃d c t t' b,ds=[d,c]/\yN M d=some t/\yW c=some t'/\PySem.W.kitOne K t t'=some b/\q (.bl b) M
section
variable{K:fv}
theorem uh{G:Hp}{L:List Addr}{M:Ms}{H:Hp}{d:Dt}{v:V}{t:Value}(r:Rl K G L M H)(n:Den K G L d v)(h:yN M d=some t):gc K H v t:=by
 by_cases hd:∃k,d= .loc k
 ·obtain ⟨k,rfl⟩:=hd;obtain ⟨a,rfl,e⟩:=n;have h:(match M[k]? with | some (.lst _)=>some (Value.type "list") | _=>none)=some t:=h;split at h
  ·rename_i xs hm;cases h;obtain ⟨_,vs,e1,_⟩:=r.fG k a _ e hm;exact .lst e1
  ·cases h
 ·refine oy r n ?_;cases d with
  | loc k=>exact aaE ⟨k,rfl⟩ hd
  | _=>exact h
theorem Hi:yk K (λxs H Q=>∃x c t t' b,xs=[x,c]/\gc K H x t/\y6 c=some t'/\PySem.W.kitOne K t t'=some b/\Q (.bl b) H) (C8 K):=by intro G0 L0 H0 G L M H vs ds q e r n ⟨d,c,t,t',b,ed,h1,h2,hb,h⟩;subst ed;obtain ⟨v,u,rfl,n1,n2⟩:=dq n;exact ⟨v,u,t,t',b,rfl,uh r n1 h1,wk n2 h2,hb,bp e r h⟩
end
section
variable{X:Cx}{R:St->XK}{e e2:Expr}{t:DA}{p pos:Pos}
theorem zI(K:fv)(hm:X.mg "isinstance"=none)(ha:JA X R [e,e2] t)(he:starEach [e,e2] X.env=(false,eval e X.env)::starEach [e2] X.env:=by rfl)(dE:(backTo pos (starEach [e2] X.env)).any (·.1)=false:=by rfl)(hg:Gl X "isinstance":=by rfl)(hK:X.K=K:=by rfl):JE X R (.Call (.Name "isinstance" p) [e,e2] [] pos) (u0 (C8 K) t):=by subst hK;exact e_ j9 Hi hm eA ha hg (by decide) (by decide) he dE
theorem nV:∀{zs:List Str} {us:List Value},Paired (λ(z:Str) (u:Value)=>∃tk,u= .str z tk) zs us->Μ (zs.map V.str) us
 | _,_, .nil=> .nil
 | _,_, .cons h t=> .cons h (nV t)
theorem J8{x:Str}{zs:List Str}(hm:∃a o its n,X.mg x=some (.ref a)/\X.K.lookup a=some o/\o.cls= .type "tuple"/\o.data= .seq its n/\its.size<=sizeLine/\Paired (λ(z:Str) (u:Value)=>∃tk,u= .str z tk) zs its.toList)(hg:Gl X x:=by rfl)(hd:(x==("__debug__":Str))=false:=by decide):JE X R (.Name x pos) (dC (.kt (zs.map .str))):=by obtain ⟨a,o,its,n,h1,h2,h3,h4,h5,h6⟩:=hm;exact Fe (v:= .ref a) (vh hg h1 rfl hd) λG L=>⟨a,zs.map V.str,rfl, .inr ⟨o,its,n,h2,h3,h4,h5,nV h6⟩,oG⟩
end
theorem bX{te:DE}{cs:En}{ok:Ms->Prop}{f:Dt->Dt}:∀{xs ae:List Dt} {M:Ms} {k:List Dt->Ms->Prop},ok M->(∀x∈xs,∀q:DQ,q (f x) M->te (some x::cs) M q iC)->k (ae++xs.map f) M->jc te cs ok xs ae M k
 | [],ae,M,k,ho,_,h=>⟨ho,by simpa using h⟩
 | x::xs,ae,M,k,ho,hf,h=>⟨ho,hf x List.mem_cons_self _ (bX ho (λy hy=>hf y (List.mem_cons_of_mem _ hy)) (by simpa using h))⟩
theorem dz{g:Dt->En->(En->Prop)->Prop}{tb:DS}{Dn:i_}{ok:Ms->Prop}(J:List Dt->En->Ms->Prop)(aR:∀xs ρ M,J xs ρ M->ok M)
  (step:∀x xs ρ M,J (x::xs) ρ M->(∀ρ M,J xs ρ M->gG g tb Dn ok xs ρ M)->g x ρ λρ'=>tb {Dn with nx:=gG g tb Dn ok xs,ct:=gG g tb Dn ok xs,bk:=Dn.nx} ρ' M)
  (fin:∀ρ M,J [] ρ M->Dn.nx ρ M):∀(xs:List Dt) (ρ:En) (M:Ms),J xs ρ M->gG g tb Dn ok xs ρ M
 | [],ρ,M,h=>⟨aR _ _ _ h,fin _ _ h⟩
 | x::xs,ρ,M,h=>⟨aR _ _ _ h,step x xs ρ M h λρ' M' h'=>dz J aR step fin xs ρ' M' h'⟩
section
variable{K:fv}{G:Hp}{L:List Addr}
mutual
theorem D4:∀(d:Dt) (v:V),Den K G L d v->d.under L.length
 | .aW,_,_=>trivial
 | .bl _,_,_=>trivial
 | .int _,_,_=>trivial
 | .str _,_,_=>trivial
 | .tup ds,_,⟨a,vs,e,h1,h2⟩=>b8 ds vs h2
 | .lst ds,_,⟨a,vs,e,h1,h2⟩=>b8 ds vs h2
 | .obj C ns ds,_,⟨a,dx,vs,e,h1,hl,h2⟩=>b8 ds vs h2
 | .loc k,_,⟨a,e,h1⟩=>(aad.mp h1).1
 | .ref _,_,_=>trivial
 | .ty _,_,_=>trivial
 | .cE _,_,_=>trivial
 | .kt ds,_,⟨a,vs,e,h1,h2⟩=>b8 ds vs h2
 | .exc _ _ ds,_,⟨a,od,vs,e,h1,h2,h3,h4⟩=>b8 ds vs h4
 | .Hs _ _ _ _ ds,_,⟨vs,e,h2,h3,h4⟩=>b8 ds vs h4
theorem b8:∀(ds:List Dt) (vs:List V),Γ K G L ds vs->Dt.aL L.length ds
 | [],_,_=>trivial
 | d::ds,_,⟨v,r,e,h1,h2⟩=>⟨D4 d v h1,b8 ds r h2⟩
end
theorem Rl.un{M:Ms}{H:Hp}(r:Rl K G L M H):∀m∈M,MO.under M.length m:=λm hm=>by
 obtain ⟨k,hk,e⟩:=List.getElem_of_mem hm;have em:M[k]? =some m:=by rw [aaa hk,e]
 have el:L[k]? =some (L[k]'(by rw [r.len];exact hk)):=aaa _;obtain ⟨_,q⟩:=r.fG k _ m el em;rw [<-r.len];cases m with
 | lst ds=>obtain ⟨vs,_,h⟩:=q;exact b8 _ _ h
 | ins C ns ds=>obtain ⟨dx,vs,_,_,h⟩:=q;exact b8 _ _ h
 | Bc ks ds=>obtain ⟨vs,_,_,h⟩:=q;exact b8 _ _ h
 | raw u=>trivial
 | Fy u ds=>obtain ⟨vs,_,h⟩:=q;exact b8 _ _ h
end
def kD(M0:Ms)(q:DQ):DQ:=λd M=>∃E d',M=M0++E/\w6 M0.length E d d'/\q d' M0
theorem Fin.kD{K:fv}{G0:Hp}{L0:List Addr}{M0:Ms}{H0:Hp}{q:DQ}{v:V}{H:Hp}(r0:Rl K G0 L0 M0 H0)(f:Fin K G0 L0 H0 (kD M0 q) v H):Fin K G0 L0 H0 q v H:=by obtain ⟨d,G,L,M,ex,r,dn,E,d',e,fz,hq⟩:=f;exact Fin.qS r0 ⟨d,G,L,M,ex,r,dn,M0,E,d',e,rfl,r0.un,fz,hq⟩
def Kp(t:DE):DE:=λρ M q x=>t ρ M (kD M q) x
theorem cm{X:Cx}{R:St->XK}{e:Expr}{t:DE}(h:JE X R e t):JE X R e (Kp t):= .of h λσ H G L ρ M q x rl n ht hx=>⟨G,L,ρ,M,_,x,rl,n,ht,hx,λv H1 f=>Fin.kD rl f⟩
theorem Cg{M0:Ms}{q:DQ}{d:Dt}(hu:d.under M0.length)(h:q d M0):kD M0 q d M0:=⟨[],d,by simp, .old hu,h⟩
theorem qz{M0 E:Ms}{q:DQ}{d d':Dt}(f:w6 M0.length E d d')(h:q d' M0):kD M0 q d (M0++E):=⟨E,d',rfl,f,h⟩
def cV(f:Expr->Option Dt):List Expr->Option (List Dt)
 | []=>some []
 | e::es=>match f e,cV f es with
  | some d,some ds=>some (d::ds)
  | _,_=>none
def c6:Nat->Expr->Option Dt
 | 0,e=>match e with
  | .Constant (.int i) _ _=>some (.int i)
  | .Constant (.str x) _ _=>some (.str x)
  | _=>none
 | n+1,e=>match e with
  | .Constant (.int i) _ _=>some (.int i)
  | .Constant (.str x) _ _=>some (.str x)
  | .Tuple es _ _=>if es.length<=100 then (cV (c6 n) es).map .tup else none
  | .List es _=>if es.length<=100 then (cV (c6 n) es).map .lst else none
  | _=>none
theorem uR{n:Nat}{e:Expr}{d:Dt}{es:List Expr}{env:Env}(h:c6 n e=some d):starEach (e::es) env=(false,eval e env)::starEach es env:=by cases n <;> (unfold c6 at h;split at h <;> first | rfl | cases h)
theorem fX{f:Expr->Option Dt}:∀{es:List Expr} {ds:List Dt},cV f es=some ds->ds.length=es.length
 | [],ds,h=>by cases h;rfl
 | e::es,ds,h=>by
  unfold cV at h;split at h
  ·rename_i d C6 h1 h2;cases h;rw [aaD,aaD,fX h2]
  ·cases h
section
variable{X:Cx}{R:St->XK}
theorem mC{n:Nat}(ih:∀(e:Expr) (d:Dt),c6 n e=some d->JE X R e (dC d)):∀(es:List Expr) (ds:List Dt),cV (c6 n) es=some ds->JA X R es (λ_ M q _=>q ds M)
 | [],ds,h=>by cases h;exact ε
 | e::es,ds,h=>by
  unfold cV at h;split at h
  ·rename_i d C6 h1 h2;cases h;exact η (ih e d h1) (mC ih es C6 h2) (hs:=uR h1)
  ·cases h
theorem vm{n:Nat}(h:n<=100):n<=sizeLine:=aak h (by decide)
theorem JE.imp{e:Expr}{t t':DE}(h:JE X R e t)(hi:∀ρ M q x,t' ρ M q x->t ρ M q x):JE X R e t':= .of h λσ H G L ρ M q x rl n ht hx=>⟨G,L,ρ,M,q,x,rl,n,hi _ _ _ _ ht,hx,λ_ _ f=>f⟩
theorem lB:∀(n:Nat) {e:Expr} {d:Dt},c6 n e=some d->JE X R e (dC d)
 | 0,e,d,h=>by
  unfold c6 at h;split at h
  ·cases h;exact ι
  ·cases h;exact gH
  ·cases h
 | n +1,e,d,h=>by
  unfold c6 at h;split at h
  ·cases h;exact ι
  ·cases h;exact gH
  ·split at h
   ·rename_i es _ _ hl;cases hc:cV (c6 n) es with
    | none=>rw [hc] at h;cases h
    | some ds=>
     rw [hc] at h;cases h;exact (aA (mC (λe d=>lB n) es ds hc)).imp λρ M q x hq=>⟨vm (by rw [fX hc];exact hl),hq⟩
   ·cases h
  ·split at h
   ·rename_i es _ hl;cases hc:cV (c6 n) es with
    | none=>rw [hc] at h;cases h
    | some ds=>
     rw [hc] at h;cases h;exact (fB (mC (λe d=>lB n) es ds hc)).imp λρ M q x hq=>⟨vm (by rw [fX hc];exact hl),hq⟩
   ·cases h
  ·cases h
end
theorem bo{g:Dt->En->(En->Prop)->Prop}{tc:DT}{te:DE}{ρ0:En}{ok:Ms->Prop}{M:Ms}{k:List Dt->Ms->Prop}(ho:ok M)(b:Dt->Bool)(f:Dt->Dt):∀(xs ae:List Dt),(∀x∈xs,∀(q:DQ) (p:Ms->Prop),(b x=true->q (f x) M)->(b x=false->p M)->g x ρ0 λρ'=>tc ρ' M (λb' M1=>match b' with | true=>te ρ' M1 q iC | false=>p M1) iC)->
  k (ae++(xs.filter b).map f) M->fV g tc te ρ0 ok xs ae M k
 | [],ae,_,h=>⟨ho,by simpa using h⟩
 | x::xs,ae,ht,h=>⟨ho,ht x List.mem_cons_self _ _ (λhb=>bo ho b f xs _ (λy hy=>ht y (List.mem_cons_of_mem _ hy)) (by simpa [hb] using h)) λhb=>bo ho b f xs _ (λy hy=>ht y (List.mem_cons_of_mem _ hy)) (by simpa [hb] using h)⟩
theorem nY(xs:List V)(k:Nat):nH xs (some (k:Int)) none=xs.drop k:=by
 unfold nH;rw [HT.k7,HT.rS];by_cases h:k<=xs.length
 ·rw [Nat.min_eq_left h,List.take_of_length_le (by rw [abh];omega)]
 ·rw [Nat.min_eq_right (by omega),List.drop_eq_nil_of_le (Nat.le_refl _),List.drop_eq_nil_of_le (by omega)];simp
def EF(te tl:DE):DE:=λρ M q x=>te ρ M (λd M1=>tl ρ M1 (λdi M2=>∃ds n,d= .tup ds/\di= .int (n:Nat)/\1<=n/\1<=ds.length/\q (.tup (ds.drop n)) M2) x) x
theorem ot{X:Cx}{R:St->XK}{e l:Expr}{te tl:DE}{pos p2:Pos}(he:JE X R e te)(hl:JE X R l tl):JE X R (.Subscript e (.Slice (some l) none none p2) pos) (EF te tl):=
 .of (i6 zw he (kR hl) lD) λσ H G L ρ M q x rl n h hx=>by
  refine ⟨G,L,ρ,M,_,x,rl,n,h,hx,λv H1 ⟨d1,G1,L1,M1,e1,r1,n1,h1⟩=> ?_⟩;refine ⟨G1,L1,ρ,M1,_,x,r1,n.mono e1,h1,hx.on e1,λv2 H2 ⟨d2,G2,L2,M2,e2,r2,n2,ds,k,ed,ei,k1,l1,h2⟩=> ?_⟩;subst ed ei;obtain ⟨a,vs,rfl,ea,m⟩:=Den.mono e2.g e2.l _ _ n1;have n2:v2= .int k:=n2;subst n2;have lv:=m.length;refine ⟨k,rfl,a,vs,rfl, .of (r2.sub _ _ ea),λz=> ?_,λp hp=> ?_⟩
  ·rw [HT.k7] at z;omega
  ·rw [nY];exact eS (e1.trans e2) r2 hp (jj r2 hp (Γ.of (mf k m.pair))) h2
section
variable{κ:Type} [DecidableEq κ]
theorem iy.xK{o:Option V}{u:Option Value}(r:iy o u):o.isSome=u.isSome:=by
 cases o with
 | none=>cases u with
  | none=>rfl
  | some _=>exact (show False from r).elim
 | some _=>cases u with
  | none=>exact (show False from r).elim
  | some _=>rfl
theorem iy.getD{o:Option V}{u:Option Value}{d:V}{d':Value}(r:iy o u)(rd:Τ d d'):Τ (o.getD d) (u.getD d'):=by
 cases o with
 | none=>cases u with
  | none=>exact rd
  | some _=>exact (show False from r).elim
 | some _=>cases u with
  | none=>exact (show False from r).elim
  | some _=>exact r
end
theorem CW{P:Program}{w:World}{k:Key}{u:Value}(r:Τ (kV k) u):(bh P w).is k u=true:=by
 cases k with
 | inl i=>obtain ⟨t,e⟩:=(show∃t,u=Value.int i t from r);subst e;exact q_ P w i t
 | inr x=>obtain ⟨t,e⟩:=(show∃t,u=Value.str x t from r);subst e;exact sP P w x t
theorem oN{P:Program}{w:World}:∀{ks:List Key} {us:List Value},Μ (ks.map kV) us->ItemsAre (bh P w) ks us
 | [],_,r=>by rw [List.map_nil] at r;cases r;exact .nil
 | k::ks,_,r=>by
  rw [aaQ] at r;cases r with
  | cons h t=>exact .cons (CW h) (oN t)
section
variable{P:Program}{w:World}{H:Hp}{h:Heap}{a:Addr}
theorem HR{u:HO}(ok:gI P w H h)(e:Rd H a u):aT P w H h a u:=e.ok ok
theorem ID{af:List (Key×V)}(ok:gI P w H h)(e:Rd H a (.dK af)):af.length<=sizeLine/\(a==sysModules)=false/\∃vs,KV af vs/\h.DictOf (bh P w) a vs:=
 show aT P w H h a (.dK af) from HR ok e
theorem Hb{af:List (Key×V)}(ok:gI P w H h)(e:H a=some (.dK af)):af.length<=sizeLine/\(a==sysModules)=false/\∃vs,KV af vs/\h.DictOf (bh P w) a vs:=ID ok (.inl e)
theorem Gg{ks:List Key}(ok:gI P w H h)(e:H a=some (.tup (ks.map kV))):(tupleKind (bh P w)).is h ks a:=by obtain ⟨_,its,r,o,h1,h2,n,h3⟩:=(show aT P w H h a (.tup (ks.map kV)) from ok a _ e);exact ⟨o,its.toArray,n,h1,h2,h3,by simpa using oN r⟩
end
section
variable{X:Cx}{δ:List (Addr×Obj)}{σ:St}{H:Hp}{s:Shared}{a:Addr}{y v:V}{u r:Value}{o:Option V}{A:Around}{E:Value->Shared->Prop}
theorem Inv.big(I:Inv X δ σ H s):sysModules < s.heap.objs.size:=by have h:mainGlobals < s.heap.objs.size:=(I.mod.glob.keeps I.bk).lt;exact Nat.lt_trans (by decide) h
theorem Co{h':Heap}{t':Nat}{ob:HO}(I:Inv X δ σ H s)(mu:JR (H a))(hs:Heap.SameBut a s.heap h')(he:∃q,h'.get? a=some q)(new:aT X.prog X.w (upd H a ob) h' a ob):
  Inv X δ σ (upd H a ob) {s with heap:=h',toks:=t'}:=
 I.write (x:=a) (e:=a) mu (.inl rfl) (λb q hb z=>(hs.2 b hb).trans z) he new
end
theorem yA{P:Program}{w:World}{H:Hp}(h:Heap)(hb:sysModules < h.objs.size):aT P w H (h.push {cls:= .type "dict",data:= .dict #[]}) h.objs.size (.dK []):=
 ⟨abE _,beq_eq_false_iff_ne.mpr (Ne.symm (aaM hb)),[], .nil,Heap.DictOf.new h⟩
def Gk:TE:=λ_ H Q=>∀p,H p=none->Q (.ref p) (upd H p (.dK []))
section
variable{X:Cx}{pos:Pos}
theorem yq:PE X (.Dict [] [] pos) Gk:=λδ s σ H Q I h=>
 wpAny_Dict_empty ⟨.ref s.heap.objs.size,_,I.laid (a:=s.heap.objs.size) (o:= .dK []) (t':=s.toks) (λ_ _ q=>aag _ q) (aal _) (yA s.heap I.big),rfl,h _ (I.aR.fresh (aal _))⟩
end
structure M2(X:Cx)(o:Expr)(m:Str)(apos:Pos)(e f:Expr)(aE:Pos):Prop where
 base:attributeBase o m X.env (eval o X.env)=eval o X.env
 E8:((backTo aE (starEach [e,f] X.env)).all (λx=> !x.1)&&(backToKw aE (keywordEach [] X.env)).all (λx=>x.1.isSome)
  &&decide (([e,f]:List Expr).length+([]:List Keyword).length+(if ([]:List Keyword).isEmpty then 0 else 1) < 30))=true
 line:(apos.endLine==aE.line)=true
 trees:backTo aE (starEach [e,f] X.env)=[(false,eval e X.env),(false,eval f X.env)]
end L2
namespace Att
open PySem PySem.W PySem.Calls PyProof.Rows
end Att
namespace L2
open PySem PySem.Spec PyProof.Rows
end L2
/- Qu MS BC (shape;S_,My.* are HC):
  My.QR:a structure of Cw addresses Mr Nu Hj names (classes,xV);My.Txt K t:a structure (Prop) of Cw equations kQ K;
  My.um:{K} {implicit addresses ..} (e1:nsIn K mainGlobals "law"=some (some (.ref f))) (e2:K.lookup f=some ⟨oc,od, .func (fnOf "law" "law" params body scope dV kV doc pm an bq ct),sl⟩) (e3:codeIn K bq "law"=true) .. :∃t,My.Txt K t
set_option maxRecDepth 100000 in
set_option maxHeartbeats 0 in
theorem PySem.Challenge.cw_LID_holds : PySem.Challenge.rw_LID.Holds := by
 w_on;o_law;k_head;(case hw=>w_witness2)
 k_fill
 refine L2.pb (l:=PySem.Challenge.rw_LID) (n:=63) (k:=40) (x:="script") (CX:=fun w=> ..) (sp:=fun _=>My.Ft) rfl (by decide) rfl ⟨rfl,by decide,by decide⟩ (fun w h Y=>PySem.W.kIn_of Y) ?F ?S ?C
 case F=>
  intro w mg fa h KX G BG;have T:∃t,My.Txt (L2.NS KX) t:=by
   dsimp only [L2.NS]
   refine' My.um ?e1 ?e2 ?e3 ..
   (case e1=>PySem.W.k_is)
   (case e2=>PySem.W.k_is)
   ..
  obtain ⟨t,T⟩:=T;have e0:=BG.symm.trans (PySem.W.mg_of KX G T.Sr);cases e0;exact ⟨_,λs u=> .of_eq rfl,λbase kb nb=>My.uH T kb nb⟩
 case S=>exact λw H a ns hl hO hS=> ..
 case C=>exact ..
(Cw tactic k_is has no namespace:write k_is) -/
namespace L2
open PySem PySem.Spec PyProof.Rows
variable{X:Cx}{n k':Nat}{b:Bool}{G:Hp}{L:List Addr}{R:St->XK}{te:DE}{pos:Pos}
inductive xX(K:fv)(H:Hp):Nat->V->V->Bool->Prop
 | flat {n:Nat} {x y:V} (h1:cg x=true) (h2:cg y=true):xX K H n x y (fo x y)
 | tup {n:Nat} {a b:Addr} {xs ys:List V} {f:Nat->Bool} (h1:gP K H a xs) (h2:gP K H b ys) (h:∀j x y,xs[j]? =some x->ys[j]? =some y->xX K H n x y (f j)):xX K H (n+1) (.ref a) (.ref b) ((List.range (min xs.length ys.length)).all f&&xs.length==ys.length)
 | lst {n:Nat} {a b:Addr} {xs ys:List V} {f:Nat->Bool} (h1:eN K H a xs) (h2:eN K H b ys) (hl:xs.length=ys.length) (h:∀j x y,xs[j]? =some x->ys[j]? =some y->xX K H n x y (f j)):xX K H (n+1) (.ref a) (.ref b) ((List.range xs.length).all f)
 | len {n:Nat} {a b:Addr} {xs ys:List V} (h1:eN K H a xs) (h2:eN K H b ys) (hl:xs.length≠ys.length):xX K H (n+1) (.ref a) (.ref b) false
theorem Ak{x:V}(h:cg x=true):fo x x=true:=by cases x <;> first | rfl | (show (_==_)=true;simp) | cases h
section
variable{δ:List (Addr×Obj)}{σ:St}{H:Hp}{s:Shared}
theorem lT(I:Inv X δ σ H s){x y:V}(h:xX X.K H n x y b):x=y->b=true:=by
 induction h with
 | flat h1 h2=>intro e;subst e;exact Ak h1
 | @tup n a b xs ys f h1 h2 h ih=>
  intro e;cases e;cases I.j3 h1 h2;rw [Nat.min_self,beq_self_eq_true,Bool.and_true];refine aa4.mpr λj hj=> ?_;have hj:=aaC.mp hj;exact ih j _ _ (aaa hj) (aaa hj) rfl
 | @lst n a b xs ys f h1 h2 hl h ih=>
  intro e;cases e;cases I.fJ h1 h2;refine aa4.mpr λj hj=> ?_;have hj:=aaC.mp hj;exact ih j _ _ (aaa hj) (aaa hj) rfl
 | len h1 h2 hl=>
  intro e;cases e;cases I.fJ h1 h2;exact aaE rfl hl
theorem aK{xs:List V}{its:List Value}(r:Μ xs its){j:Nat}(h:j < its.toArray.size):∃x,xs[j]? =some x/\Τ x its.toArray[j]:=by
 have hj:j < its.length:=by simpa using h
 have hx:j < xs.length:=by rw [r.length];exact hj
 obtain ⟨u,g,ru⟩:=r.get (aaa hx);rw [aaa hj] at g;cases g;exact ⟨_,List.getElem?_eq_getElem hx,by simpa using ru⟩
theorem jO(I:Inv X δ σ H s){x y:V}(h:xX X.K H n x y b):∀{A:Around} {u v:Value},Τ x u->Τ y v->A.units+n < cLine->SeqAt.EqAt A s u v b:=by
 induction h with
 | flat h1 h2=>exact λru rv _=>pF ru rv h1 h2
 | @tup n a b xs ys f h1 h2 h ih=>
  intro A u v ru rv hu;cases ru;cases rv;by_cases e:a=b
  ·have:=lT I (.tup h1 h2 h) (aaX V.ref e);rw [this,e];exact SeqAt.EqAt.same _
  ·obtain ⟨i1,v1,t1,_⟩:=I.tuple h1;obtain ⟨i2,v2,t2,_⟩:=I.tuple h2
   have:=SeqAt.RcAt.tuples (A:=A) (e:=f) (show s.heap.IsTuple a i1.toArray from t1) (show s.heap.IsTuple b i2.toArray from t2) (by omega) (λj g1 g2=>by
    obtain ⟨x,hx,rx⟩:=aK v1 g1;obtain ⟨y,hy,ry⟩:=aK v2 g2
    exact ih j x y hx hy rx ry (by show A.units+1+n < cLine;omega))
   rw [aaj,aaj,<-v1.length,<-v2.length] at this;exact SeqAt.EqAt.of_refs e this
 | @lst n a b xs ys f h1 h2 hl h ih=>
  intro A u v ru rv hu;cases ru;cases rv;by_cases e:a=b
  ·have:=lT I (.lst h1 h2 hl h) (aaX V.ref e);rw [this,e];exact SeqAt.EqAt.same _
  ·obtain ⟨i1,v1,t1,_⟩:=I.list h1;obtain ⟨i2,v2,t2,_⟩:=I.list h2
   have:=SeqAt.RcAt.lists (A:=A) (e:=f) t1.isList t2.isList (by rw [aaj,aaj,<-v1.length,<-v2.length];exact hl) (by omega) (λj g1 g2=>by
    obtain ⟨x,hx,rx⟩:=aK v1 g1;obtain ⟨y,hy,ry⟩:=aK v2 g2
    exact ih j x y hx hy rx ry (by show A.units+1+n < cLine;omega))
   rw [aaj,<-v1.length] at this;exact SeqAt.EqAt.of_refs e this
 | @len n a b xs ys h1 h2 hl=>
  intro A u v ru rv hu;cases ru;cases rv;have e:a≠b:=λe=>by subst e;cases I.fJ h1 h2;exact hl rfl
  obtain ⟨i1,v1,t1,_⟩:=I.list h1;obtain ⟨i2,v2,t2,_⟩:=I.list h2;exact SeqAt.EqAt.of_refs e (SeqAt.RcAt.lists_lengths t1.isList t2.isList (by rw [List.size_toArray,List.size_toArray,<-v1.length,<-v2.length];simpa using hl) (by omega))
end
def Ib(K:fv)(n:Nat):R2:=λx y H Q=>∃a b c,x= .ref a/\y= .ref b/\xX K H n x y c/\Q (.bl c) H
def J2(K:fv)(n:Nat):R2:=λx y H Q=>∃a b c,x= .ref a/\y= .ref b/\xX K H n x y c/\Q (.bl (!c)) H
section
theorem Ad(hu:X.A.units+n < cLine):gA X (compareOp .Eq) (Ib X.K n):=by
 intro δ s σ H x y v u Q I rx ry h;obtain ⟨a,b,c,rfl,rfl,h,q⟩:=h;cases rx;cases ry;cases h with
 | flat h1 h2=>cases h1
 | @tup n _ _ xs ys f h1 h2 h=>
  obtain ⟨i1,v1,t1,_⟩:=I.tuple h1;obtain ⟨i2,v2,t2,_⟩:=I.tuple h2;refine SeqAt.eq_tupleAt (e:=f) (show s.heap.IsTuple a i1.toArray from t1) (show s.heap.IsTuple b i2.toArray from t2) (by omega) (λj g1 g2=> ?_) ?_
  ·obtain ⟨x,hx,rx⟩:=aK v1 g1;obtain ⟨y,hy,ry⟩:=aK v2 g2;exact jO I (h j x y hx hy) rx ry (by show X.A.units+1+n < cLine;omega)
  ·rw [aaj,aaj,<-v1.length,<-v2.length];exact ⟨.bl _,H,I,rfl,q⟩
 | @lst n _ _ xs ys f h1 h2 hl h=>
  obtain ⟨i1,v1,t1,_⟩:=I.list h1;obtain ⟨i2,v2,t2,_⟩:=I.list h2;refine SeqAt.eq_listAt (e:=f) t1.isList t2.isList (by rw [aaj,aaj,<-v1.length,<-v2.length];exact hl) (by omega) (λj g1 g2=> ?_) ?_
  ·obtain ⟨x,hx,rx⟩:=aK v1 g1;obtain ⟨y,hy,ry⟩:=aK v2 g2;exact jO I (h j x y hx hy) rx ry (by show X.A.units+1+n < cLine;omega)
  ·rw [aaj,<-v1.length];exact ⟨.bl _,H,I,rfl,q⟩
 | @len n _ _ xs ys h1 h2 hl=>
  obtain ⟨i1,v1,t1,_⟩:=I.list h1;obtain ⟨i2,v2,t2,_⟩:=I.list h2;exact SeqAt.eq_list_lengthsAt t1.isList t2.isList (by rw [List.size_toArray,List.size_toArray,<-v1.length,<-v2.length];simpa using hl) (by omega) ⟨.bl _,H,I,rfl,q⟩
theorem FN(hu:X.A.units+n < cLine):gA X (compareOp .NotEq) (J2 X.K n):=by
 intro δ s σ H x y v u Q I rx ry h;obtain ⟨a,b,c,rfl,rfl,h,q⟩:=h;cases rx;cases ry;cases h with
 | flat h1 h2=>cases h1
 | @tup n _ _ xs ys f h1 h2 h=>
  obtain ⟨i1,v1,t1,_⟩:=I.tuple h1;obtain ⟨i2,v2,t2,_⟩:=I.tuple h2;refine SeqAt.RcNeAt.tuples (e:=f) (show s.heap.IsTuple a i1.toArray from t1) (show s.heap.IsTuple b i2.toArray from t2) (by omega) (λj g1 g2=> ?_) _ _ _ _ ?_
  ·obtain ⟨x,hx,rx⟩:=aK v1 g1;obtain ⟨y,hy,ry⟩:=aK v2 g2;exact jO I (h j x y hx hy) rx ry (by show X.A.units+1+n < cLine;omega)
  ·rw [aaj,aaj,<-v1.length,<-v2.length];exact ⟨.bl _,H,I,rfl,q⟩
 | @lst n _ _ xs ys f h1 h2 hl h=>
  obtain ⟨i1,v1,t1,_⟩:=I.list h1;obtain ⟨i2,v2,t2,_⟩:=I.list h2;refine SeqAt.RcNeAt.lists (e:=f) t1.isList t2.isList (by rw [aaj,aaj,<-v1.length,<-v2.length];exact hl) (by omega) (λj g1 g2=> ?_) _ _ _ _ ?_
  ·obtain ⟨x,hx,rx⟩:=aK v1 g1;obtain ⟨y,hy,ry⟩:=aK v2 g2;exact jO I (h j x y hx hy) rx ry (by show X.A.units+1+n < cLine;omega)
  ·rw [aaj,<-v1.length];exact ⟨.bl _,H,I,rfl,q⟩
 | @len n _ _ xs ys h1 h2 hl=>
  obtain ⟨i1,v1,t1,_⟩:=I.list h1;obtain ⟨i2,v2,t2,_⟩:=I.list h2;exact SeqAt.RcNeAt.lists_lengths t1.isList t2.isList (by rw [List.size_toArray,List.size_toArray,<-v1.length,<-v2.length];simpa using hl) (by omega) _ _ _ _ ⟨.bl _,H,I,rfl,q⟩
end
def gB(M:Ms):Dt->Option (List Dt)
 | .lst xs=>some xs
 | .cE ns=>some (ns.map .int)
 | .loc k=>match M[k]? with
  | some (.lst xs)=>some xs
  | _=>none
 | _=>none
inductive nI(M:Ms):Nat->Dt->Dt->Bool->Prop
 | flat {n:Nat} {d e:Dt} {x y:V} (h1:sE d=some x) (h2:sE e=some y):nI M n d e (fo x y)
 | tup {n:Nat} {ds es:List Dt} {f:Nat->Bool} (h:∀j d e,ds[j]? =some d->es[j]? =some e->nI M n d e (f j)):nI M (n+1) (.tup ds) (.tup es) ((List.range (min ds.length es.length)).all f&&ds.length==es.length)
 | lst {n:Nat} {d e:Dt} {ds es:List Dt} {f:Nat->Bool} (h1:gB M d=some ds) (h2:gB M e=some es) (hl:ds.length=es.length) (h:∀j d e,ds[j]? =some d->es[j]? =some e->nI M n d e (f j)):nI M (n+1) d e ((List.range ds.length).all f)
 | len {n:Nat} {d e:Dt} {ds es:List Dt} (h1:gB M d=some ds) (h2:gB M e=some es) (hl:ds.length≠es.length):nI M (n+1) d e false
theorem cR{K:fv}{M:Ms}{H:Hp}{d:Dt}{v:V}{xs:List Dt}(r:Rl K G L M H)(n:Den K G L d v)(h:gB M d=some xs):∃a vs,v= .ref a/\eN K H a vs/\Γ K G L xs vs:=by
 cases d with
 | lst ds=>cases h;obtain ⟨a,vs,rfl,e,m⟩:=n;exact ⟨a,vs,rfl, .of (r.sub _ _ e),m⟩
 | cE ns=>cases h;obtain ⟨a,rfl,e⟩:=n;exact ⟨a,_,rfl,r.sub.seq e,cX⟩
 | loc k=>
  obtain ⟨a,rfl,e⟩:=n;have h:(match M[k]? with | some (.lst xs)=>some xs | _=>none)=some xs:=h;split at h
  ·rename_i ys hm;cases h;obtain ⟨_,vs,e1,m1⟩:=r.fG k a _ e hm;exact ⟨a,vs,rfl, .of e1,m1⟩
  ·cases h
 | _=>cases h
theorem Γ.back{K:fv}{ds:List Dt}{vs:List V}{i:Nat}{v:V}(h:Γ K G L ds vs)(e:vs[i]? =some v):∃d,ds[i]? =some d/\Den K G L d v:=by
 have hi:i < ds.length:=by rw [h.length];exact (aad.mp e).1
 obtain ⟨v',e',n⟩:=h.get (aaa hi);rw [e] at e';cases e';exact ⟨_,aaa hi,n⟩
theorem vI{K:fv}{M:Ms}{H:Hp}(r:Rl K G L M H){d e:Dt}(h:nI M n d e b):∀{v u:V},Den K G L d v->Den K G L e u->xX K H n v u b:=by
 induction h with
 | flat h1 h2=>
  intro v u n1 n2;obtain ⟨rfl,f1⟩:=iS h1 n1;obtain ⟨rfl,f2⟩:=iS h2 n2;exact .flat f1 f2
 | @tup n ds es f h ih=>
  intro v u n1 n2;obtain ⟨a,vs,rfl,e1,m1⟩:=n1;obtain ⟨b,us,rfl,e2,m2⟩:=n2;rw [m1.length,m2.length];refine .tup (.of (r.sub _ _ e1)) (.of (r.sub _ _ e2)) λj x y hx hy=> ?_;obtain ⟨d,hd,dn⟩:=m1.back hx;obtain ⟨e,he,en⟩:=m2.back hy;exact ih j d e hd he dn en
 | @lst n d e ds es f h1 h2 hl h ih=>
  intro v u n1 n2;obtain ⟨a,vs,rfl,s1,m1⟩:=cR r n1 h1;obtain ⟨b,us,rfl,s2,m2⟩:=cR r n2 h2;rw [m1.length];refine .lst s1 s2 (by rw [<-m1.length,<-m2.length];exact hl) λj x y hx hy=> ?_;obtain ⟨d,hd,dn⟩:=m1.back hx;obtain ⟨e,he,en⟩:=m2.back hy;exact ih j d e hd he dn en
 | @len n d e ds es h1 h2 hl=>
  intro v u n1 n2;obtain ⟨a,vs,rfl,s1,m1⟩:=cR r n1 h1;obtain ⟨b,us,rfl,s2,m2⟩:=cR r n2 h2;exact .len s1 s2 (by rw [<-m1.length,<-m2.length];exact hl)
def AN(M:Ms)(d:Dt):Prop:=(∃ds,d= .tup ds)\/∃xs,gB M d=some xs
theorem k_{K:fv}{M:Ms}{H:Hp}{d:Dt}{v:V}(r:Rl K G L M H)(n:Den K G L d v)(h:AN M d):∃a,v= .ref a:=by
 rcases h with ⟨ds,rfl⟩ | ⟨xs,h⟩
 ·obtain ⟨a,vs,rfl,_⟩:=n;exact ⟨a,rfl⟩
 ·obtain ⟨a,vs,rfl,_⟩:=cR r n h;exact ⟨a,rfl⟩
def Fm(n:Nat):Dt->Dt->Ms->DQ->Prop:=λd e M q=>∃b,AN M d/\AN M e/\nI M n d e b/\q (.bl b) M
def Jp(n:Nat):Dt->Dt->Ms->DQ->Prop:=λd e M q=>∃b,AN M d/\AN M e/\nI M n d e b/\q (.bl (!b)) M
theorem Jv{K:fv}:mY K (Ib K n) (Fm n):=by intro G0 L0 H0 G L M H v1 v2 d1 d2 q e r n1 n2 ⟨b,h1,h2,h,hq⟩;obtain ⟨a,rfl⟩:=k_ r n1 h1;obtain ⟨a',rfl⟩:=k_ r n2 h2;exact ⟨a,a',b,rfl,rfl,vI r h n1 n2,bp e r hq⟩
theorem LR{K:fv}:mY K (J2 K n) (Jp n):=by intro G0 L0 H0 G L M H v1 v2 d1 d2 q e r n1 n2 ⟨b,h1,h2,h,hq⟩;obtain ⟨a,rfl⟩:=k_ r n1 h1;obtain ⟨a',rfl⟩:=k_ r n2 h2;exact ⟨a,a',b,rfl,rfl,vI r h n1 n2,bp e r hq⟩
section
variable{a b e l u:Expr}{ta tb tl tu:DE}{t:DA}{p p2:Pos}
theorem xD{A:Around}{k:Nat}(hr:aX k A)(hn:n<=64):A.units+n < cLine:=aaH (Nat.add_le_add_left hn _) hr.units
theorem AF(n:Nat)(hr:aX k' X.A)(ja:JE X R a ta)(jb:JE X R b tb)(hn:n<=64:=by decide)(hm:behindInMarks .Eq b=false:=by rfl):JE X R (.Compare a [.Eq] [b] pos) (gC (Fm n) ta tb):=rH (Ad (xD hr hn)) Jv ja jb hm
theorem tI(n:Nat)(hr:aX k' X.A)(ja:JE X R a ta)(jb:JE X R b tb)(hn:n<=64:=by decide)(hm:behindInMarks .Eq b=false:=by rfl):JT X R (.Compare a [.Eq] [b] pos) (l_ (gC (Fm n) ta tb)):=ie (Ad (xD hr hn)) Jv ja jb hm
theorem pU(n:Nat)(hr:aX k' X.A)(ja:JE X R a ta)(jb:JE X R b tb)(hn:n<=64:=by decide)(hm:behindInMarks .NotEq b=false:=by rfl):JT X R (.Compare a [.NotEq] [b] pos) (l_ (gC (Jp n) ta tb)):=ie (FN (xD hr hn)) LR ja jb hm
theorem nQ(xs:List V)(k:Nat):nH xs none (some (k:Int))=xs.take k:=by
 unfold nH;rw [HT.k7,HT.rS,List.drop_zero,Nat.sub_zero];by_cases h:k<=xs.length
 ·rw [Nat.min_eq_left h]
 ·rw [Nat.min_eq_right (by omega),List.take_of_length_le (aal _),List.take_of_length_le (by omega)]
def J9(te tl:DE):DE:=λρ M q x=>te ρ M (λd M1=>tl ρ M1 (λdi M2=>∃ds n,gB M2 d=some ds/\di= .int (n:Nat)/\q (.loc M2.length) (M2++[.lst (ds.drop n)])) x) x
theorem gq(he:JE X R e te)(hl:JE X R l tl):JE X R (.Subscript e (.Slice (some l) none none p2) pos) (J9 te tl):=
 .of (i6 vp he (kR hl) lD) λσ H G L ρ M q x rl n h hx=>by refine ⟨G,L,ρ,M,_,x,rl,n,h,hx,λv H1 ⟨d1,G1,L1,M1,e1,r1,n1,h1⟩=> ?_⟩;refine ⟨G1,L1,ρ,M1,_,x,r1,n.mono e1,h1,hx.on e1,λv2 H2 ⟨d2,G2,L2,M2,e2,r2,n2,ds,k,ed,ei,h2⟩=> ?_⟩;subst ei;obtain ⟨a,vs,rfl,sq,m⟩:=cR r2 (Den.mono e2.g e2.l _ _ n1) ed;have n2:v2= .int k:=n2;subst n2;refine ⟨k,rfl,a,vs,rfl,sq,λp hp=> ?_⟩;rw [nY];exact jm (e1.trans e2) r2 hp (Γ.of (mf k m.pair)) h2
end
open PySem PySem.SeqAt
def ik(prog:Program)(w:World)(A:Around)(s:Shared)(y x:Value)(b:Bool):Prop:=
 ∀(E:Value->Shared->Prop) (Q:Bool->Shared->Prop),Q b s->wpAny (model prog w) A (eqBool y x) Q E s
section
variable{K:Type} [DecidableEq K]{prog:Program}{w:World}{knd:KeyKind prog w K}{A:Around}{E:Value->Shared->Prop}{s:Shared}{a b:Addr}{af jG:List (K×Value)}
theorem ik.same(v:Value):ik prog w A s v v true:=λE Q h=>SeqAt.EqAt.same v prog w E Q h
theorem ik.of_refs{k:Bool}(iB:a≠b)(h:∀(E:Value->Shared->Prop) (Q:Value->Shared->Prop),Q (.bool k) s->wpAny (model prog w) A (richCompare .Eq (.ref a) (.ref b)) Q E s):ik prog w A s (.ref a) (.ref b) k:=λE Q hq=>by unfold eqBool;refine wpAny_holding ?_;refine wpAny_ite_split (λGP=>aaE (by have:=eq_of_beq GP;injection this) iB) (λ_=> ?_);exact aac (h E _ (wpAny_truthy_bool hq))
end
section
variable{a b e f o:Expr}{ta tb tf to:DE}{t:DA}{p apos aE:Pos}
def FP(to:DE):DE:=λρ M q x=>to ρ M (λd M1=>∃k xs,d= .loc k/\M1[k]? =some (.lst xs)/\q .aW (M1.set k (.lst []))) x
theorem Cy(ho:JE X R o to)(jf:attributeBase o "clear" X.env (eval o X.env)=eval o X.env:=by rfl)(iF:(apos.endLine==aE.line)=true:=by rfl):JE X R (.Call (.Attribute o "clear" apos) [] [] aE) (FP to):=
 .of (E5 PySem.F.plainAttrs_list PySem.F.slot_list_clear PySem.F.type_list_clear (r:=zH) zt ho jf iF) λσ H G L ρ M q x rl n h hx=>by refine ⟨G,L,ρ,M,_,x,rl,n,h,hx,λv H1 ⟨d1,G1,L1,M1,e1,r1,n1,k,xs,ed,hm,h1⟩=> ?_⟩;subst ed;obtain ⟨a,rfl,hk⟩:=n1;obtain ⟨_,vs,hH,dn⟩:=r1.fG k a _ hk hm;exact ⟨.inl ⟨rfl,vs, .of hH⟩,a,vs,rfl,rfl,hH, .aW,G1,L1,_,e1.trans (r1.Bq hk),r1.setM (m:= .lst []) hk ⟨[],Ξ,rfl⟩,rfl,h1⟩
end
section
variable{elt iter c:Expr}{x z:Str}{px pz tp:Pos}{scope:Scope}{ti:DK}{tc:DT}{ys:List Str}{Θ:List Nat}{kk:Nat}
theorem cj{i:Nat}{y:Str}{py iO:Pos}(hN:X.N.Nodup)(Bo:X.N[i]? =some y)(hy:Loc X.env.scope y)(S:Ψ X scope [x] ys Θ)(hi:JK X R (.Name x px) iter ti)(ht:∀C s H fp,JT (Cx.comp X (x::ys) scope C s H fp) (λ_=>E0) c tc)(he:∀C s H fp,JE (Cx.comp X (x::ys) scope C s H fp) (λ_=>E0) elt te)(hc:X.calm=true:=by rfl)(BP:swapsWith (.ListComp elt [⟨.Name x px,iter,[c],0⟩] scope pos) (some (.Name y py)) iO.line X.env=pure true:=by rfl)(hs:∀x,foldedSetIterable iter X.env x=pure x:=by intro _;rfl)(hf:X.fn y=true\/X.env.scope.names.lookup y=some .local:=by first | exact .inl rfl | exact .inr rfl | assumption):JS X R (.Assign [.Name y py] (.ListComp elt [⟨.Name x px,iter,[c],0⟩] scope pos) iO) (xp i (mR 1 ti (gN 0) tc te Θ)):=MD false S hi (eI S (i:=0) rfl) aC (cu (Nat.zero_lt_succ 0)) (λC s H fp=>BY (ht C s H fp)) he hc hs hN Bo hy BP hf λ_ _ _ _ h=>h
end
section
variable{e l:Expr}{tl:DE}{p2:Pos}
def zE(te tl:DE):DE:=λρ M q x=>te ρ M (λd M1=>tl ρ M1 (λdi M2=>∃ds n,gB M2 d=some ds/\di= .int (n:Nat)/\q (.loc M2.length) (M2++[.lst (ds.take n)])) x) x
theorem ll(he:JE X R e te)(hl:JE X R l tl):JE X R (.Subscript e (.Slice none (some l) none p2) pos) (zE te tl):=
 .of (i6 vp he lD (kR hl)) λσ H G L ρ M q x rl n h hx=>by refine ⟨G,L,ρ,M,_,x,rl,n,h,hx,λv H1 ⟨d1,G1,L1,M1,e1,r1,n1,h1⟩=> ?_⟩;refine ⟨G1,L1,ρ,M1,_,x,r1,n.mono e1,h1,hx.on e1,λv2 H2 ⟨d2,G2,L2,M2,e2,r2,n2,ds,k,ed,ei,h2⟩=> ?_⟩;subst ei;obtain ⟨a,vs,rfl,sq,m⟩:=cR r2 (Den.mono e2.g e2.l _ _ n1) ed;have n2:v2= .int k:=n2;subst n2;refine ⟨k,rfl,a,vs,rfl,sq,λp hp=> ?_⟩;rw [nQ];exact jm (e1.trans e2) r2 hp (Γ.of (mH k m.pair)) h2
end
section
variable{o i e a b:Expr}{to ti ta tb:DE}{p:Pos}
theorem Gs:JE X R (.Dict [] [] pos) (λ_ M q _=>q (.loc M.length) (M++[.Bc [] []])):=
 .of yq λσ H G L ρ M q x rl n h hx=>by intro p hp;exact ⟨.loc M.length,G,L++[p],_,rl.MG hp,rl.Eb (m:= .Bc [] []) hp ⟨[],Ξ,rfl,rfl⟩,⟨p,rfl,by rw [<-rl.len,List.getElem?_append_right (Nat.le_refl _)];simp⟩,h⟩
end
def vn:Key->Dt
 | .inl i=> .int i
 | .inr x=> .str x
end L2
namespace PySem
open Sem (wp)
section
variable{prog:Program}{w:World}{K:Type} [DecidableEq K](knd:KeyKind prog w K)
def aq(h:Heap)(k:List K×K)(a:Addr):Prop:=
 ∃o n b v,h.get? a=some o/\o.cls= .type "tuple"/\o.data= .seq #[.ref b,v] n/\IsTupleKey knd h k.1 b/\knd.is k.2 v=true
def lK(k:List K×K):Int:=reduceHash (Builtin.Tuple.tupleHashOf [tupleKeyHash knd k.1,knd.hash k.2])
variable{knd}
theorem aq.typeIs{s:Shared}{k:List K×K}{a:Addr}(x:aq knd s.heap k a):s.TypeIs (.ref a) "tuple":=let ⟨o,_,_,_,ho,hc,_⟩:=x;⟨o,ho,hc⟩
theorem aq.inj{h:Heap}{a:Addr}{x y:List K×K}(hx:aq knd h x a)(hy:aq knd h y a):x=y:=by
 obtain ⟨o,n,b,v,ho,_,hd,hi,hv⟩:=hx;obtain ⟨o',n',b',v',qT,_,f_,MC,JQ⟩:=hy;obtain rfl:o=o':=aat (ho.symm.trans qT);rw [hd] at f_;injection f_ with h1 _
 injection h1 with h1
 injection h1 with h1 h2
 injection h1 with h1
 injection h2 with h2 _
 subst h1 h2;exact Prod.ext (hi.inj MC) (knd.inj _ _ _ hv JQ)
theorem aq.keeps{h h':Heap}{k:List K×K}{a d:Addr}{o:Obj}{es ep}(x:aq knd h k a)(ho:h.get? d=some o)(hd:o.data= .dict es ep)(hs:Heap.SameBut d h h'):
  aq knd h' k a:=by
 obtain ⟨o',n,b,v,qT,hc,f_,hi,hv⟩:=x;have iB:a≠d:=by rintro rfl;obtain rfl:o'=o:=aat (qT.symm.trans ho);rw [hd] at f_;exact nomatch f_
 exact ⟨o',n,b,v,(hs.2 a iB).trans qT,hc,f_,hi.keeps ho hd hs,hv⟩
variable{A:Around}{E:Value->Shared->Prop}{s:Shared}
theorem iN{k:List K×K}{a:Addr}{Q:Int->Shared->Prop}(hu:A.units < cLine)(IK:A.in1.units < cLine)(hk:aq knd s.heap k a)(h:Q (lK knd k) {s with toks:=s.toks+(k.1.length+3)}):
  wpAny (model prog w) A (pyHash (.ref a)) Q E s:=by
 have hT:=hk.typeIs;obtain ⟨o,n,b,v,ho,_,hd,hi,hv⟩:=hk;unfold pyHash
 first | unfold pyHashByItsType | skip
 first | refine aac (wpAny_cRoomFor_or (.inr hu) ?_) | skip
 refine aac (wpAny_specialOf hT F.slot_tuple_hash.lookup ?_);show wpAny _ _ (if (some (Value.builtin "tuple.__hash__")==some Value.none)=true then _ else _) Q E s;rw [aaJ (by rw [beq_builtin_none];exact aap)];refine aac (wpAny_specialOf hT F.slot_tuple_hash.lookup ?_);show wpAny _ _ (callSpecialIfBoundUnlessNone? (.ref a) "__hash__" _ >>= _) Q E s;refine aac (wpAny_callSpecialIfBoundUnlessNone?_slot hT F.slot_tuple_hash (wpAny_call_entry F.slot_tuple_hash hT F.entry_tuple_hash ?_ (F.args_tuple_hash_1 _)));show wpAny _ _ (Builtin.Tuple.tupleItemsOf (.ref a) >>= _) _ _ s;refine aac (wpAny_tupleItemsOf ho hd ?_);refine aac ?_;rw [<-Array.forIn_toList]
 refine wpAny_forIn_list _
  (λΔ (c:Array Int) s'=>(Δ=[.ref b,v]/\c.toList=[]/\s'=s)\/(Δ=[v]/\c.toList=[tupleKeyHash knd k.1]/\s'={s with toks:=s.toks+(k.1.length+1)})\/
   (Δ=[]/\c.toList=[tupleKeyHash knd k.1,knd.hash k.2]/\s'={s with toks:=s.toks+(k.1.length+2)}))
  _ ?_ ?_ _ _ (.inl ⟨rfl,rfl,rfl⟩)
 ·rintro x Δ c s' (⟨e,hc,rfl⟩ | ⟨e,hc,rfl⟩ | ⟨e,_⟩)
  ·injection e with e1 e2;subst e1 e2
   refine aac (wpAny_pyHash_tuple IK hi ?_)
   first
    | exact wpAny_pure (.inr (.inl ⟨rfl,by simp [hc],rfl⟩))
    | exact wpAny_bind (wpAny_pure (wpAny_pure (.inr (.inl ⟨rfl,by simp [hc],rfl⟩))))
  ·injection e with e1 e2;subst e1 e2
   refine aac (knd.pyHash hv ?_)
   first
    | exact wpAny_pure (.inr (.inr ⟨rfl,by simp [hc],by simp [Nat.add_assoc]⟩))
    | exact wpAny_bind (wpAny_pure (wpAny_pure (.inr (.inr ⟨rfl,by simp [hc],by simp [Nat.add_assoc]⟩))))
  ·exact nomatch e
 ·rintro c s' (⟨e,_⟩ | ⟨e,_⟩ | ⟨_,hc,rfl⟩)
  ·exact nomatch e
  ·exact nomatch e
  show wpAny _ _ (retInt (Builtin.Tuple.tupleHashOf c.toList)) _ _ _;rw [hc];refine wpAny_ret_mkInt ?_;show wpAny _ _ (if (decide (-(2:Int) ^ 63<=Builtin.Tuple.tupleHashOf [tupleKeyHash knd k.1,knd.hash k.2])&&decide (Builtin.Tuple.tupleHashOf [tupleKeyHash knd k.1,knd.hash k.2] < 2 ^ 63))=true then _ else _) Q E _;unfold lK reduceHash at h;by_cases hr:(decide (-(2:Int) ^ 63<=Builtin.Tuple.tupleHashOf [tupleKeyHash knd k.1,knd.hash k.2])&&decide (Builtin.Tuple.tupleHashOf [tupleKeyHash knd k.1,knd.hash k.2] < 2 ^ 63))=true
  ·rw [aaP hr];rw [aaP hr] at h;exact wpAny_pure (by simpa [Nat.add_assoc] using h)
  ·rw [aaJ hr];rw [aaJ hr] at h;exact wpAny_bind (wpAny_rule (wpAny_pure (by simpa [Nat.add_assoc] using h)))
theorem pw{x y:List K×K}{a b:Addr}{P:Fin->Shared->Prop}(hu:A.units < cLine)(hx:aq knd s.heap x a)(hy:aq knd s.heap y b)(h:P (.done (.ret (.bool (decide (x=y))))) s):
  wpAny (model prog w) A (Builtin.«tuple.__eq__» ⟨[.ref a, .ref b],[]⟩) P E s:=by
 have QC:=hy.typeIs;obtain ⟨oa,na,b1,v1,Ph,_,Ir,RL,Tb⟩:=hx;obtain ⟨ob,nb,b2,v2,Qo,_,m_,Pm,S8⟩:=hy;show wpAny _ _ (isInstance (.ref b) (.type "tuple") >>= _) _ _ s;refine aac (wpAny_isInstance QC isSubtype_tuple_tuple ?_);simp only [Bool.not_true,Bool.false_eq_true,if_false];refine aac (wpAny_tupleItemsOf Ph Ir ?_);refine aac (wpAny_tupleItemsOf Qo m_ ?_);refine aac ?_;have e0:(#[Value.ref b1,v1]:Array Value).toList.zip (#[Value.ref b2,v2]:Array Value).toList=[(.ref b1, .ref b2),(v1,v2)]:=rfl
 refine wpAny_forIn_list _
  (λΔ r s'=>r.1=none/\s'=s/\(Δ=[(.ref b1, .ref b2),(v1,v2)]\/(Δ=[(v1,v2)]/\x.1=y.1)\/(Δ=[]/\x.1=y.1/\x.2=y.2)))
  _ ?_ ?_ _ _ ⟨rfl,rfl, .inl rfl⟩
 ·rintro ⟨u,v⟩ Δ r s' ⟨hr,rfl,(e | ⟨e,h1⟩ | ⟨e,_⟩)⟩
  ·injection e with e1 e2;injection e1 with e1 e3;subst e1 e2 e3
   refine aac (wpAny_eqBool_tuple hu RL Pm ?_);by_cases hk:x.1=y.1
   ·rw [aaq hk];simp only [Bool.not_true,Bool.false_eq_true,if_false];exact aai ⟨rfl,rfl, .inr (.inl ⟨trivial,hk⟩)⟩
   ·rw [aaF hk];simp only [Bool.not_false,if_true];rw [aaF (λe=>hk (aaX Prod.fst e))] at h;exact aac (aai (aai (aai h)))
  ·injection e with e1 e2;injection e1 with e1 e3;subst e1 e2 e3
   refine aac (knd.eqBool Tb S8 ?_);by_cases hk:x.2=y.2
   ·rw [aaq hk];simp only [Bool.not_true,Bool.false_eq_true,if_false];exact aai ⟨rfl,rfl, .inr (.inr ⟨trivial,h1,hk⟩)⟩
   ·rw [aaF hk];simp only [Bool.not_false,if_true];rw [aaF (λe=>hk (aaX Prod.snd e))] at h;exact aac (aai (aai (aai h)))
  ·exact nomatch e
 ·rintro ⟨r1,r2⟩ s' ⟨hr,rfl,(e | ⟨e,_⟩ | ⟨_,h1,h2⟩)⟩
  ·exact nomatch e
  ·exact nomatch e
  simp only at hr;subst hr;refine aai ?_;rw [aaq (Prod.ext h1 h2)] at h;exact h
theorem iL{x y:List K×K}{a b:Addr}{Q:Bool->Shared->Prop}(hu:A.units < cLine)(IK:A.in1.units < cLine)(hx:aq knd s.heap x a)(hy:aq knd s.heap y b)(h:Q (decide (x=y)) s):
  wpAny (model prog w) A (eqBool (.ref a) (.ref b)) Q E s:=by
 unfold eqBool
 try with_reducible refine wpAny_holding ?_
 show wpAny _ _ (if (Value.ref a==Value.ref b)=true then _ else _) Q E s;by_cases GP:(Value.ref a==Value.ref b)=true
 ·rw [aaP GP];have e:a=b:=by have:=eq_of_beq GP;injection this
  subst e;obtain rfl:=hx.inj hy;exact wpAny_bind (wpAny_rule (wpAny_pure (by simpa using h)))
 ·rw [aaJ GP]
  exact aac (wpAny_richCompare_same_room (op:= .Eq) hx.typeIs hy.typeIs F.slot_tuple_eq
   (wpAny_call_entry F.slot_tuple_eq hx.typeIs F.entry_tuple_eq (pw IK hx hy ⟨_,rfl,(λe=>nomatch e),wpAny_truthy_bool h⟩) (F.args_tuple_eq_2 _ _)) hu)
theorem eX(m:Nat){ks:List K}{a:Addr}{Q:Bool->Shared->Prop}(hk:IsTupleKey knd s.heap ks a)(h:Q true s):wpAny (model prog w) A (eqIsQuiet (m+1) (.ref a)) Q E s:=by
 have hT:=hk.typeIs;obtain ⟨o,items,n,ho,_,hd,hi⟩:=hk;unfold eqIsQuiet;refine aac (wpAny_specialOf hT F.slot_tuple_eq.lookup ?_);show wpAny _ _ (isInstance (.ref a) (.type "tuple") >>= _) _ _ s;refine aac (wpAny_isInstance hT isSubtype_tuple_tuple ?_);simp only [Bool.not_true,Bool.false_eq_true,if_false];refine aac (wpAny_seqItems ho hd ?_);refine aac ?_;show wpAny _ _ (forIn items _ _) _ _ s;rw [<-Array.forIn_toList];refine wpAny_forIn_list _ (λΔ r s'=>r.1=none/\s'=s/\∀v∈Δ,carriedByValue v=true) _ ?_ ?_ _ _ ⟨rfl,rfl,hi.byValue⟩
 ·rintro v Δ r s' ⟨hr,rfl,i8⟩;rw [eqIsQuiet_byValue _ (i8 v aam)];refine aac (aai ?_);simp only [Bool.not_true,Bool.false_eq_true,if_false];exact aai ⟨rfl,rfl,λu IK=>i8 u (aah _ IK)⟩
 ·rintro ⟨r1,r2⟩ s' ⟨hr,rfl,_⟩;simp only at hr;subst hr;exact aai h
theorem fN{k:List K×K}{a:Addr}{Q:Bool->Shared->Prop}(hk:aq knd s.heap k a)(h:Q true s):wpAny (model prog w) A (eqIsQuiet 8 (.ref a)) Q E s:=by
 have hT:=hk.typeIs;obtain ⟨o,n,b,v,ho,_,hd,hi,hv⟩:=hk;unfold eqIsQuiet;refine aac (wpAny_specialOf hT F.slot_tuple_eq.lookup ?_);show wpAny _ _ (isInstance (.ref a) (.type "tuple") >>= _) _ _ s;refine aac (wpAny_isInstance hT isSubtype_tuple_tuple ?_);simp only [Bool.not_true,Bool.false_eq_true,if_false];refine aac (wpAny_seqItems ho hd ?_);refine aac ?_;show wpAny _ _ (forIn (#[Value.ref b,v]:Array Value) _ _) _ _ s;rw [<-Array.forIn_toList];refine wpAny_forIn_list _ (λΔ r s'=>r.1=none/\s'=s/\(Δ=[.ref b,v]\/Δ=[v]\/Δ=[])) _ ?_ ?_ _ _ ⟨rfl,rfl, .inl rfl⟩
 ·rintro u Δ r s' ⟨hr,rfl,(e | e | e)⟩
  ·injection e with e1 e2;subst e1 e2
   refine aac (eX _ hi ?_);simp only [Bool.not_true,Bool.false_eq_true,if_false];exact aai ⟨rfl,rfl, .inr (.inl trivial)⟩
  ·injection e with e1 e2;subst e1 e2
   rw [eqIsQuiet_byValue _ (knd.byValue _ _ hv)];refine aac (aai ?_);simp only [Bool.not_true,Bool.false_eq_true,if_false];exact aai ⟨rfl,rfl, .inr (.inr trivial)⟩
  ·exact nomatch e
 ·rintro ⟨r1,r2⟩ s' ⟨hr,rfl,_⟩;simp only at hr;subst hr;exact aai h
end
def eK{prog:Program}{w:World}{K:Type} [DecidableEq K](knd:KeyKind prog w K):HeapKind prog w (List K×K) where
 is:=aq knd
 hash:=lK knd
 draws:=λk=>k.1.length+3
 room:=λA=>A.units < cLine/\A.in1.units < cLine
 inj:=λhx hy=>hx.inj hy
 keeps:=λx ho hd hs=>x.keeps ho hd hs
 pyHash:=λhu hk h=>iN hu.1 hu.2 hk h
 eqBool:=λhu hx hy h=>iL hu.1 hu.2 hx hy h
 quiet:=λhk h=>fN hk h
end PySem
namespace L2
open PySem PySem.Spec PyProof.Rows
variable{P prog:Program}{w:World}{a b:Addr}{u:Value}{A:Around}{X:Cx}{δ:List (Addr×Obj)}{s:Shared}{v:V}{E Q:Value->Shared->Prop}{pos:Pos}{c:Bool}{n:Nat}{L as:List Addr}{us:List V}{R:St->XK}
abbrev NK:=List Key×Key
variable{k:NK}{xs:List (NK×Addr×Value)}{ks:List NK}
abbrev NL:=List (NK×Addr×V)
variable{af:NL}
abbrev NT:NL->List (NK×Addr×Value)->Prop:=Paired λp q=>p.1=q.1/\p.2.1=q.2.1/\Τ p.2.2 q.2.2
def EA(P:Program)(w:World)(a:Addr)(af:NL)(h:Heap):Prop:=af.length<=sizeLine/\(a==sysModules)=false/\∃xs,NT af xs/\
 ∃o es ep,h.get? a=some o/\o.ExactDict/\o.data= .dict es ep/\es.toList=xs.map (entryOfKey (eK (bh P w)))/\(xs.map (·.1)).Nodup
def oP(P:Program)(w:World)(a:Addr)(af:NL):HO:= .ext (EA P w a af)
def ju(H:Hp)(k:NK)(b:Addr):Prop:=∃c,H b=some (.tup [.ref c,kV k.2])/\H c=some (.tup (k.1.map kV))
def eE(H:Hp)(af:NL):Prop:=∀x∈af,ju H x.1 x.2.1
def eh(af:NL)(k:NK):Option V:=(af.find? λx=>decide (x.1=k)).map (·.2.2)
def qQ(af:NL)(k:NK)(b:Addr)(v:V):NL:=if (af.find? λx=>decide (x.1=k)).isSome then af.map (λx=>if x.1=k then (x.1,x.2.1,v) else x) else af++[(k,b,v)]
theorem rL(af:NL)(k:NK)(b:Addr)(v:V):(qQ af k b v).length<=af.length+1:=by
 unfold qQ;split
 ·rw [aab];omega
 ·simp
section
variable{H:Hp}{h:Heap}
theorem y8{H':Hp}{P':Program}{w':World}(x:EA P' w' a af h):aT P w H' h a (oP P' w' a af):=by
 refine ⟨x, ?_,λh1 h2 y k=> ?_⟩
 ·obtain ⟨_,_,_,_,o,_,_,e,_⟩:=x;exact ⟨o,e⟩
 ·obtain ⟨z,hd,xs,r,o,es,ep,e,c⟩:=y;exact ⟨z,hd,xs,r,o,es,ep,k _ e,c⟩
theorem qx(ok:gI P w H h)(e:ju H k b):(eK (bh P w)).is h k b:=by
 obtain ⟨c,e1,e2⟩:=e;obtain ⟨_,its,r,o,h1,h2,n,h3⟩:=(show aT P w H h b (.tup [.ref c,kV k.2]) from ok b _ e1);cases r with
 | cons r1 r2=>
  cases r2 with
  | cons r2 r3=>
   cases r3;cases r1;exact ⟨o,n,c,_,h1,h2,h3,Gg ok e2,CW r2⟩
theorem NT.val(r:NT af xs)(k:NK):iy (eh af k) ((atKey xs k).map (·.2)):=by
 induction r with
 | nil=>exact True.intro
 | @cons p q ps qs h t ih=>
  obtain ⟨h1,_,h2⟩:=h;by_cases e:p.1=k
  ·have e':q.1=k:=h1.symm.trans e;have b:atKey (q::qs) k=some q.2:=by simp [atKey,List.find?_cons,e']
   have c:eh (p::ps) k=some p.2.2:=by simp [eh,List.find?_cons,e]
   rw [c,b];exact h2
  ·have e':¬q.1=k:=λz=>e (h1.trans z);have b:atKey (q::qs) k=atKey qs k:=by simp [atKey,List.find?_cons,e']
   have c:eh (p::ps) k=eh ps k:=by simp [eh,List.find?_cons,e]
   rw [c,b];exact ih
theorem NT.LZ(r:NT af xs)(k:NK){y:V}(ry:Τ y u):NT (af.map λx=>if x.1=k then (x.1,x.2.1,y) else x) (xs.map (putAt k u)):=by
 induction r with
 | nil=>exact .nil
 | @cons p q ps qs h t ih=>
  rw [aaQ,aaQ];refine .cons ?_ ih;obtain ⟨h1,h2,h3⟩:=h;unfold putAt;by_cases e:p.1=k
  ·rw [aaP e,aaP (h1.symm.trans e)];exact ⟨h1,h2,ry⟩
  ·rw [aaJ e,aaJ (λz=>e (h1.trans z))];exact ⟨h1,h2,h3⟩
theorem NT.put(r:NT af xs)(k:NK){y:V}(ry:Τ y u):NT (qQ af k b y) (storedH xs k b u):=by
 have e:(af.find? λx=>decide (x.1=k)).isSome=(atKey xs k).isSome:=by have q:=(r.val k).xK;unfold eh at q;rw [Option.isSome_map,Option.isSome_map] at q;exact q
 unfold qQ storedH;rw [e];by_cases q:(atKey xs k).isSome=true
 ·rw [aaP q,aaP q];exact r.LZ k ry
 ·rw [aaJ q,aaJ q];exact Paired.snoc r ⟨rfl,rfl,ry⟩
theorem mE(ok:gI P w H h)(e:H a=some (oP P w a af))(nk:eE H af):af.length<=sizeLine/\(a==sysModules)=false/\∃xs,NT af xs/\h.DictOfH (eK (bh P w)) a xs:=by
 obtain ⟨z,y,xs,r,o,es,ep,h1,h2,h3,h4,h5⟩:=(show EA P w a af h from (ok a _ e).1);refine ⟨z,y,xs,r,o,es,ep,h1,h2,h3,h4,λx hx=> ?_,h5⟩;have all:∀{l:NL} {m:List (NK×Addr×Value)},NT l m->eE H l->∀x∈m,(eK (bh P w)).is h x.1 x.2.1:=by
  intro l m q
  induction q with
  | nil=>intro _ x hx;exact nomatch hx
  | @cons p q ps qs hq t ih=>
   intro nk x hx;rcases aaO.mp hx with e | hx
   ·subst e;have:=nk p aam;rw [hq.1,hq.2.1] at this;exact qx ok this
   ·exact ih (λy hy=>nk y (aah _ hy)) x hx
 exact all r nk x hx
end
theorem nest_room(hu:A.units+2 < cLine):(eK (bh P w)).room A.in1:=⟨Nat.lt_of_succ_lt hu,hu⟩
section
variable{σ:St}{H:Hp}{d:V}{r:Value}
theorem Inv.Fx(I:Inv X δ σ H s)(e:H a=some (.dK [])):Inv X δ σ (upd H a (oP X.prog X.w a [])) s:=by obtain ⟨z,hd,vs,rel,o,es,ep,e1,c,e2,e3,e4⟩:=Hb I.aR e;cases rel;refine I.write (x:=a) (e:=a) (h':=s.heap) (t':=s.toks) (by rw [e];exact True.intro) (.inl rfl) (λb u _ q=>q) ⟨o,e1⟩ (y8 ⟨z,hd,[], .nil,o,es,ep,e1,c,e2, ?_,List.nodup_nil⟩);obtain ⟨e4,_⟩:=e4;generalize es.toList=l at e4;cases e4;rfl
theorem Fw(hu:A.units+2 < cLine)(I:Inv X δ σ H s)(e:H a=some (oP X.prog X.w a af))(nk:eE H af)(eb:ju H k b)(rd:Τ d r)
  (h:∀w' s',Inv X δ σ H s'->Τ ((eh af k).getD d) w'->Q w' s'):wpAny (model X.prog X.w) A (call (.builtin "dict.get") [.ref a, .ref b,r]) Q E s:=by
 obtain ⟨z,hd,xs,rel,dd⟩:=mE I.aR e nk;exact call_meetsIn PySem.F.slot_dict_get dd.typeIs PySem.F.entry_dict_get (PySem.F.args_dict_get_3 _ _ _) (meetsH_dict_get_default (eK (bh X.prog X.w)) a b hd r) ⟨nest_room hu,k,xs,qx I.aR eb,dd,h _ _ (I.tok _) ((rel.val k).getD rd)⟩
theorem xi{Q:Unit->Shared->Prop}(hu:A.units+2 < cLine)(I:Inv X δ σ H s)(e:H a=some (oP X.prog X.w a af))(nk:eE H af)(eb:ju H k b)(l:af.length < sizeLine)(rv:Τ v r)
  (h:∀s',Inv X δ σ (upd H a (oP X.prog X.w a (qQ af k b v))) s'->Q () s'):wpAny (model X.prog X.w) A (setItem (.ref a) (.ref b) r) Q E s:=by
 obtain ⟨z,hd,xs,rel,dd⟩:=mE I.aR e nk;have hz:xs.length<=sizeLine:=by rw [<-Paired.length rel];exact z
 have hl:(qQ af k b v).length<=sizeLine:=by have:=rL af k b v;omega
 refine wpAny_setItem_heap (hsz:=hz) (nest_room hu) (qx I.aR eb) dd λh' Pz hs=>h _ ?_;obtain ⟨q,es,ep,hq,h2,h3,h4,_,h5⟩:=Pz;exact Co I (by rw [e];exact True.intro) hs ⟨q,hq⟩ (y8 ⟨hl,hd,_,rel.put k rv,q,es,ep,hq,h2,h3,h4,h5⟩)
end
def GH(P:Program)(w:World)(td ty tx:TE):TE:=λσ H Q=>td σ H λx H1=>∃a,x= .ref a/\(∃af,H1 a=some (oP P w a af)/\eE H1 af)/\ty σ H1 λy H2=>tx σ H2 λz H3=>
 ∃b af k,y= .ref b/\H3 a=some (oP P w a af)/\eE H3 af/\ju H3 k b/\Q ((eh af k).getD z) H3
def HS(P:Program)(w:World)(td ty tv:TE):TS:=λD σ H=>tv σ H λv H1=>td σ H1 λx H2=>ty σ H2 λy H3=>∃a b af k,x= .ref a/\y= .ref b/\H3 a=some (oP P w a af)/\eE H3 af/\ju H3 k b/\af.length < sizeLine/\
 D.nx σ (upd H3 a (oP P w a (qQ af k b v)))
section
variable{o i e f value:Expr}{apos aE pos':Pos}{td ty tx tv:TE}
theorem ze(hu:X.A.units+2 < cLine)(ho:PE X o td)(he:PE X e ty)(hf:PE X f tx)(m:M2 X o "get" apos e f aE):PE X (.Call (.Attribute o "get" apos) [e,f] [] aE) (GH X.prog X.w td ty tx):=by
 intro δ s σ H Q I h;refine wpAny_Call_method m.base m.E8 m.line PySem.F.plainAttrs_dict PySem.F.slot_dict_get PySem.F.type_dict_get (a_ (ho δ s σ H _ I h) λu s1 ⟨x,H1,I1,rx,a,ex,⟨TJ,d,SM⟩,q1⟩=> ?_);subst ex;obtain rfl:u=Value.ref a:=rx;obtain ⟨_,hd,xs,_,dd⟩:=mE I1.aR d SM;refine ⟨dd.typeIs,λb q=> ?_, ?_⟩
 ·cases q;obtain ⟨ob,_,_,h1,h2,_⟩:=dd;exact ⟨ob,h1,h2.2.1⟩
 rw [m.trees]
 refine Calls.callWith_builtin rfl (Calls.evalArgs_plain (Calls.spliced_cons (a_ (he δ s1 σ H1 _ I1 q1) λiv s2 ⟨y,H2,I2,ry,q2⟩=>
  Calls.spliced_cons (a_ (hf δ s2 σ H2 _ I2 q2) λfv s3 ⟨z,H3,I3,rz,b,af,k,ey,e,nk,eb,q3⟩=>Calls.spliced_nil ?_))))
 subst ey;obtain rfl:iv=Value.ref b:=ry;exact Fw hu I3 e nk eb rz λw' s4 I4 FO=>⟨_,H3,I4,FO,q3⟩
theorem B4(hu:X.A.units+2 < cLine)(ho:PE X o td)(hi:PE X i ty)(hv:PE X value tv)(hs:swapsWith value (some (.Subscript o i pos')) pos.line X.env=pure false):
  PS X (.Assign [.Subscript o i pos'] value pos) (HS X.prog X.w td ty tv):=by
 intro δ s σ H D I h;refine wpAny_Assign_Subscript (a_ (hv δ s σ H _ I h) λr s1 ⟨v,H1,I1,rv,q1⟩=>a_ (ho δ s1 σ H1 _ I1 q1) λu s2 ⟨x,H2,I2,rx,q2⟩=>a_ (hi δ s2 σ H2 _ I2 q2) λiv s3 ⟨y,H3,I3,ry,a,b,af,k,ex,ey,e,nk,eb,l,q3⟩=> ?_) hs;subst ex ey;obtain rfl:u=Value.ref a:=rx;obtain rfl:iv=Value.ref b:=ry;exact xi hu I3 e nk eb l rv λs4 I4=>⟨σ,_,I4,q3⟩
def Hw(P:Program)(w:World)(t:TE):TE:=λσ H Q=>t σ H λx H1=>∃a,x= .ref a/\H1 a=some (.dK [])/\Q x (upd H1 a (oP P w a []))
theorem Cz(he:PE X e ty):PE X e (Hw X.prog X.w ty):=by intro δ s σ H Q I h;refine a_ (he δ s σ H _ I h) λu s1 ⟨x,H1,I1,rx,a,ex,e1,q1⟩=> ?_;subst ex;exact ⟨.ref a,_,I1.Fx e1,rx,q1⟩
end
open PySem PySem.SeqAt
section
variable{K:Type} [DecidableEq K]{knd:HeapKind prog w K}{xs ys:List (K×Addr×Value)}
theorem v9{es:Array DictEntry}(he:es.toList=xs.map (entryOfKey knd))(j:Nat):es[j]? =xs[j]?.map (entryOfKey knd):=by rw [<-Array.getElem?_toList,he,aaf]
theorem xA{xs:List (K×Addr×Value)}{k:K}{q:Addr×Value}(h:atKey xs k=some q):∃j:Nat,xs[j]? =some (k,q):=by unfold atKey at h;obtain ⟨p,h1,h2⟩:=aaL.mp h;have h3:=List.find?_some h1;have h4:=List.mem_of_find?_eq_some h1;obtain ⟨j,hj⟩:=aa5.mp h4;have h5:p.1=k:=aar h3;exact ⟨j,by rw [hj,<-h5,<-h2]⟩
theorem uy{id:String}(hu:knd.room A)(ha:s.heap.DictOfH knd a xs)(hb:s.heap.DictOfH knd b ys)(Ir:(a==sysModules)=false)(m_:(b==sysModules)=false)(hl:xs.length=ys.length)
  {e:Nat->Bool} (he:∀j k p,xs[j]? =some (k,p)->(atKey ys k=none/\e j=false)\/∃q,atKey ys k=some q/\ik prog w A s p.2 q.2 (e j)) {Q:Bool->Shared->Prop} (h:Q ((List.range xs.length).all e) s):
  wpAny (model prog w) A (Builtin.Dict.samePairs id a b) Q E s:=by
 obtain ⟨o1,yi,SU,g1,x1,d1,k1,i1,n1⟩:=ha;obtain ⟨o2,Mh,Sg,g2,x2,d2,k2,i2,n2⟩:=hb;have sa:∀{c:Addr} {Q:Unit->Shared->Prop},(c==sysModules)=false->Q () s->wpAny (model prog w) A (Builtin.Dict.showsAll c) Q E s:=λhc hq=>by unfold Builtin.Dict.showsAll;rw [aaJ (by rw [hc];decide)];exact aai hq
 unfold Builtin.Dict.samePairs;refine aac (sa Ir (aac (sa m_ (aac (wpAny_dictEntries g1 d1 (aac (wpAny_dictEntries g2 d2 ?_)))))));have z1:yi.size=xs.length:=by rw [<-abq,k1,aab]
 have z2:Mh.size=ys.length:=by rw [<-abq,k2,aab]
 rw [if_neg (by rw [z1,z2,hl];simp)];refine aac (wpAny_dictEpoch g1 d1 ?_);refine aac ?_;rw [Std.Legacy.Range.forIn_eq_forIn_range'];have sz:[:yi.size].size=yi.size:=by simp [Std.Legacy.Range.size]
 rw [sz];refine wpAny_forIn_list _ (λΔ b s'=>s'=s/\b.1=none/\∃i,Δ=List.range' i (yi.size - i)/\i<=yi.size/\((List.range i).all e=true)) _ ?_ ?_ _ _ ⟨rfl,rfl,0,by simp,Nat.zero_le _,rfl⟩
 ·rintro x Δ b s' ⟨rfl,hb,i,hr,hi,i8⟩;have Be:i < yi.size:=by
   rcases abo i yi.size with h' | h'
   ·exact h'
   ·rw [Nat.sub_eq_zero_of_le h'] at hr;cases hr
  rw [show yi.size - i=(yi.size - (i+1))+1 by omega,List.range'_succ] at hr;injection hr with hx Aa
  subst hx;refine aac (wpAny_dictEntries g1 d1 ?_);have K3:x < xs.length:=by omega
  obtain ⟨⟨k,ka,v⟩,hk⟩:∃p,xs[x]? =some p:=⟨_,aaa K3⟩;rw [v9 k1 x,hk];dsimp only [Option.map,entryOfKey];have hm:(k,ka,v)∈xs:=aaw hk;refine aac (abK (Q:=λr GW=>GW=s'/\r=e x) (E:=E) ?_ (λr GW ⟨es,er⟩=> ?_) λ_ _ h'=>h')
  ·refine wpAny_holding (aac (wpAny_dictFind_heap hu (i1 _ hm) g2 d2 k2 i2 n2 (λno=> ?_) λj p hj=> ?_))
   ·rcases he x k _ hk with ⟨h1,h2⟩ | ⟨q,h1,h2⟩
    ·exact aai ⟨rfl,h2.symm⟩
    ·obtain ⟨j,hj⟩:=xA h1;exact aaE hj (no j q)
   ·rcases he x k _ hk with ⟨h1,h2⟩ | ⟨q,h1,h2⟩
    ·rw [atKey_of_get n2 hj] at h1;cases h1
    ·rw [atKey_of_get n2 hj] at h1;cases h1;dsimp only;refine aac (wpAny_dictEntries g2 d2 ?_);rw [v9 k2 j,hj];dsimp only [Option.map,entryOfKey];exact wpAny_holding (h2 _ _ ⟨rfl,rfl⟩)
  ·subst es er;cases hex:e x with
   | false=>
    rw [aaP (by rfl)];refine aai (aai ?_);have:(List.range xs.length).all e=false:=by rw [List.all_eq_false];exact ⟨x,aaC.mpr (by omega),by rw [hex];decide⟩
    rw [this] at h;exact h
   | true=>
    rw [aaJ (by decide)];refine aac (wpAny_dictEpoch g1 d1 ?_);rw [if_neg (by simp)];refine aai ⟨rfl,rfl,x+1,Aa,by omega, ?_⟩;rw [abw,List.all_append,i8];simp [hex]
 ·rintro ⟨b1,b2⟩ s' ⟨rfl,hb,i,hr,hi,i8⟩;have hb:b1=none:=hb;subst hb;have:i=yi.size:=by have:=aaX List.length hr;rw [List.length_range'] at this;simp at this;omega
  subst this;rw [z1] at i8;rw [i8] at h;exact aai h
theorem lV{id:String}(ha:s.heap.DictOfH knd a xs)(hb:s.heap.DictOfH knd b ys)(Ir:(a==sysModules)=false)(m_:(b==sysModules)=false)(hl:xs.length≠ys.length)
  {Q:Bool->Shared->Prop} (h:Q false s):wpAny (model prog w) A (Builtin.Dict.samePairs id a b) Q E s:=by
 obtain ⟨o1,yi,SU,g1,x1,d1,k1,i1,n1⟩:=ha;obtain ⟨o2,Mh,Sg,g2,x2,d2,k2,i2,n2⟩:=hb;have sa:∀{c:Addr} {Q:Unit->Shared->Prop},(c==sysModules)=false->Q () s->wpAny (model prog w) A (Builtin.Dict.showsAll c) Q E s:=λhc hq=>by unfold Builtin.Dict.showsAll;rw [aaJ (by rw [hc];decide)];exact aai hq
 unfold Builtin.Dict.samePairs;refine aac (sa Ir (aac (sa m_ (aac (wpAny_dictEntries g1 d1 (aac (wpAny_dictEntries g2 d2 ?_)))))));have z1:yi.size=xs.length:=by rw [<-abq,k1,aab]
 have z2:Mh.size=ys.length:=by rw [<-abq,k2,aab]
 rw [if_pos (by rw [z1,z2];simpa using hl)];exact aac (wpAny_rule (aai h))
theorem kg(ta:s.TypeIs (.ref a) "dict")(tb:s.TypeIs (.ref b) "dict")(hu:A.units < cLine)(h:∀{E:Value->Shared->Prop} {Q:Bool->Shared->Prop},Q c s->wpAny (model prog w) A.in1 (Builtin.Dict.samePairs (toString "dict."++toString "__eq__") a b) Q E s)(q:Q (.bool c) s):wpAny (model prog w) A (richCompare .Eq (.ref a) (.ref b)) Q E s:=by
 refine wpAny_richCompare_same_room ta tb F.slot_dict_eq (wpAny_call_entry F.slot_dict_eq ta F.entry_dict_eq ?_ (F.args_dict_eq_2 _ _)) hu;show wpAny _ _ (Builtin.Dict.dictSlotArgs "__eq__" ⟨[.ref a, .ref b],[]⟩ >>= _) _ _ s;refine aac ?_;unfold Builtin.Dict.dictSlotArgs;refine aac (wpAny_notOrdered_dict ta ?_);refine aac (m:=slotArgs "__eq__" 1 _) (aai ?_);refine aai ?_;refine aac (wpAny_isInstance tb isSubtype_dict_dict ?_);rw [aaJ (by decide)];refine aac (aai (aac (aai (aac (h ?_)))));have e:(c==true)=c:=by cases c <;> rfl
 refine aai ⟨Value.bool (c==true),rfl,⟨λz=>(nomatch z), ?_⟩⟩;rw [e];exact q
end
section
open PySem.AutoSeq1 (wpAny_loadPart')
open PySem.MeetsSeq PySem.MeetsSeq2 PySem.MeetsSeq3 PySem.SeqRoads2
theorem iX{l:Addr}{items:Array Value}{n:Nat}{dd:Option Addr}{sl:Array (Option Value)}{x:Value}{e:Nat->Bool}{Ay:Int}{j:Nat}(hj:j < items.size)(CZ:(j:Int) < Ay)
  (hit:e j=true) (G9:∀m,m < j->e m=false):∀k i:Nat,j - i=k->i<=j->MeetsIn prog w (Builtin.«list.index.loop» ⟨[.ref l,x,rawInt i,rawInt Ay],[]⟩)
   (λA R s=>s.heap.get? l=some {cls:= .type "list",dict:=dd,data:= .seq items n,slots:=sl}/\(∀m (hm:m < items.size),ik prog w A.in1 s items[m] x (e m))/\R (.ok (.ret (.int j s.toks))) {s with toks:=s.toks+1})
 | 0,i,hk,Ih=>λA R s h=>by
  obtain ⟨hp,g,d,tk,os⟩:=s;obtain ⟨hl,he,h⟩:=h;have MP:i=j:=by omega
  subst MP
  wp_walk using wpAny_loadPart' hl
  have hi:(if (i:Int) < Ay then items[((i:Nat):Int).toNat]? else none)=some items[i]:=by simp [CZ,hj]
  rw [hi];refine aac (he _ hj _ _ ?_);rw [hit]
  wp_walk
  exact h
 | k+1,i,hk,Ih=>λA R s h=>by
  obtain ⟨hp,g,d,tk,os⟩:=s;obtain ⟨hl,he,h⟩:=h;have Be:i < items.size:=by omega
  have BD:(i:Int) < Ay:=by omega
  wp_walk using wpAny_loadPart' hl
  have hi:(if (i:Int) < Ay then items[((i:Nat):Int).toNat]? else none)=some items[i]:=by simp [BD,Be]
  have hc:((i:Int)+1)=((i+1:Nat):Int):=by push_cast;rfl
  rw [hi];refine aac (he _ Be _ _ ?_);rw [G9 i (by omega)]
  wp_walk
  rw [hc];refine ⟨plainId_quiet plain_index_loop _,codeAny_builtin entry_index_loop ?_⟩;rw [Around.under_plainId plain_index_loop _];exact iX hj CZ hit G9 k (i+1) (by omega) (by omega) A R _ ⟨hl,he,h⟩
theorem pP{l:Addr}{items:Array Value}{n:Nat}{dd:Option Addr}{sl:Array (Option Value)}{x:Value}{e:Nat->Bool}{j:Nat}(hj:j < items.size)(Ew:(j:Int) < 2 ^ 63 - 1)
  (hit:e j=true) (G9:∀m,m < j->e m=false):MeetsIn prog w (Builtin.«list.index» ⟨[.ref l,x],[]⟩)
   (λA R s=>s.heap.get? l=some {cls:= .type "list",dict:=dd,data:= .seq items n,slots:=sl}/\(∀m (hm:m < items.size),ik prog w A.in1 s items[m] x (e m))/\R (.ok (.ret (.int j s.toks))) {s with toks:=s.toks+1}):=λA R s h=>by
 obtain ⟨hp,g,d,tk,os⟩:=s;obtain ⟨hl,he,h⟩:=h
 wp_walk using wpAny_loadPart' hl
 have a1:((λi:Int=>if i < 0 then max 0 (i+(items.size:Int)) else i) ((none:Option Int).getD 0))=((0:Nat):Int):=by simp
 have a2:((λi:Int=>if i < 0 then max 0 (i+(items.size:Int)) else i) ((none:Option Int).getD (2 ^ 63 - 1)))=2 ^ 63 - 1:=by simp
 rw [a1,a2];refine ⟨plainId_quiet plain_index_loop _,codeAny_builtin entry_index_loop ?_⟩;rw [Around.under_plainId plain_index_loop _];exact iX hj Ew hit G9 _ 0 rfl (abE _) A R _ ⟨hl,he,h⟩
theorem A3{l:Addr}{xs ys:Array Value}{n n2:Nat}{dd Hl:Option Addr}{sl kG:Array (Option Value)}{e:Nat->Bool}(hz:xs.size=ys.size):
  MeetsIn prog w (Builtin.«tuple.__eq__» ⟨[.ref l, .ref b],[]⟩) (λA R s=>s.heap.get? l=some {cls:= .type "tuple",dict:=dd,data:= .seq xs n,slots:=sl}/\s.heap.get? b=some {cls:= .type "tuple",dict:=Hl,data:= .seq ys n2,slots:=kG}/\
   (∀j (h1:j < xs.size) (h2:j < ys.size),(List.range j).all e=true->ik prog w A.in1 s xs[j] ys[j] (e j))/\R (.ok (.ret (.bool ((List.range xs.size).all e)))) s):=λA R s h=>by
 obtain ⟨hp,g,d,tk,os⟩:=s;obtain ⟨hl,hb,he,h⟩:=h;have f2:=PySem.AutoSeq1.sub_tuple_tuple
 wp_walk using wpAny_loadPart' hl,wpAny_loadPart' hb,wpAny_forIn_list _ (λΔ b s'=>b.1=none/\s'=(⟨hp,g,d,tk,os⟩:Shared)/\∃i,Δ=(xs.toList.zip ys.toList).drop i/\i<=xs.size/\(List.range i).all e=true) _
 case turn=>
  rintro ⟨y,x⟩ Δ b s' ⟨B6,rfl,i,KD,hi,i8⟩;have Be:i < (xs.toList.zip ys.toList).length:=by
   rcases abo i (xs.toList.zip ys.toList).length with h' | h'
   ·exact h'
   ·rw [List.drop_of_length_le h'] at KD;cases KD
  have hZ:(xs.toList.zip ys.toList).length=min xs.size ys.size:=by simp
  have h1:i < xs.size:=by omega
  have h2:i < ys.size:=by omega
  rw [abl Be] at KD;injection KD with Oo Aa
  have hy:y=xs[i]:=by have:=congrArg Prod.fst Oo;simpa using this
  have hx:x=ys[i]:=by have:=congrArg Prod.snd Oo;simpa using this
  subst hy hx;refine aac (he i h1 h2 i8 _ _ ?_);cases hex:e i with
  | true=>
   wp_walk
   refine ⟨rfl,rfl,i+1,Aa,h1, ?_⟩;rw [abw,List.all_append,i8];simp [hex]
  | false=>
   have:(List.range xs.size).all e=false:=by rw [List.all_eq_false];exact ⟨i,aaC.mpr h1,by rw [hex];decide⟩
   rw [this] at h
   wp_walk
   exact h
 case fin=>
  rintro ⟨b1,b2⟩ s' ⟨B6,rfl,i,hr,hi,i8⟩;simp only at B6;subst B6;have hi:i=xs.size:=by have:=aaX List.length hr;simp at this;omega
  subst hi;rw [i8] at h
  wp_walk
  rw [hz];simpa [Builtin.Tuple.tupleCompareSizes] using h
 case h=>
  exact ⟨rfl,rfl,0,by simp⟩
end
inductive C7(P:Program)(w:World)(K:fv)(H:Hp)(n:Nat):V->V->Bool->Prop
 | eq {x y:V} {c:Bool} (h:xX K H n x y c):C7 P w K H n x y c
 | same {a:Addr}:C7 P w K H n (.ref a) (.ref a) true
 | nd {a b:Addr} {af jG:NL} {e:Nat->Bool} (iB:a≠b) (h1:H a=some (oP P w a af)) (h2:H b=some (oP P w b jG)) (k1:eE H af) (k2:eE H jG) (hl:af.length=jG.length)
   (hn:∀j k ka v,af[j]? =some (k,ka,v)->eh jG k=none->e j=false) (h:∀j k ka v v',af[j]? =some (k,ka,v)->eh jG k=some v'->xX K H n v v' (e j)):C7 P w K H n (.ref a) (.ref b) ((List.range af.length).all e)
 | len {a b:Addr} {af jG:NL} (iB:a≠b) (h1:H a=some (oP P w a af)) (h2:H b=some (oP P w b jG)) (k1:eE H af) (k2:eE H jG) (hl:af.length≠jG.length):C7 P w K H n (.ref a) (.ref b) false
theorem zB:∀{af:NL} {xs:List (NK×Addr×Value)},NT af xs->∀{j:Nat} {k:NK} {p:Addr×Value},xs[j]? =some (k,p)->∃v,af[j]? =some (k,p.1,v)/\Τ v p.2
 | _,_, .nil,j,k,u,h=>by simp at h
 | _,_, .cons (a:=p) (b:=q) r t,0,k,u,h=>by
  have:q=(k,u):=by simpa using h
  subst this;obtain ⟨e1,e2,e3⟩:=r;refine ⟨p.2.2, ?_,e3⟩;obtain ⟨p1,p2,p3⟩:=p;cases e1;cases e2;rfl
 | _,_, .cons r t,j+1,k,u,h=>by obtain ⟨v,e,rv⟩:=zB t (show _=some (k,u) by simpa using h);exact ⟨v,by simpa using e,rv⟩
theorem zN(r:NT af xs)(k:NK):(eh af k=none/\atKey xs k=none)\/∃v q,eh af k=some v/\atKey xs k=some q/\Τ v q.2:=by
 have:=r.val k;cases h1:eh af k with
 | none=>
  cases h2:atKey xs k with
  | none=>exact .inl ⟨rfl,rfl⟩
  | some u=>rw [h1,h2] at this;exact this.elim
 | some v=>
  cases h2:atKey xs k with
  | none=>rw [h1,h2] at this;exact this.elim
  | some u=>rw [h1,h2] at this;exact .inr ⟨v,u,rfl,rfl,this⟩
section
variable{σ:St}{H:Hp}
theorem AQ(I:Inv X δ σ H s){x y:V}(h:C7 X.prog X.w X.K H n x y c)(e:x=y):c=true:=by
 cases h with
 | eq h=>exact lT I h e
 | same=>rfl
 | nd iB=>exact aaE (V.ref.inj e) iB
 | len iB=>exact aaE (V.ref.inj e) iB
theorem EL(I:Inv X δ σ H s){x y:V}(h:C7 X.prog X.w X.K H n x y c){v:Value}(ru:Τ x u)(rv:Τ y v)(hu:A.units+(n+2) < cLine):ik X.prog X.w A s u v c:=by
 cases h with
 | eq h=>exact λE Q q=>jO I h ru rv (by omega) X.prog X.w E Q q
 | same=>
  cases ru;cases rv;exact ik.same _
 | @nd a b af jG e iB h1 h2 k1 k2 hl hn h=>
  cases ru;cases rv;obtain ⟨_,z1,xs,r1,d1⟩:=mE I.aR h1 k1;obtain ⟨_,z2,ys,r2,d2⟩:=mE I.aR h2 k2;refine ik.of_refs iB λE Q q=> ?_;rw [Paired.length r1] at q;refine kg d1.typeIs d2.typeIs (by omega) (λhq=>uy (nest_room (by omega)) d1 d2 z1 z2 (by rw [<-Paired.length r1,<-Paired.length r2];exact hl) (λj k p hj=> ?_) hq) q;obtain ⟨v,hv,rv⟩:=zB r1 hj;rcases zN r2 k with ⟨q1,q2⟩ | ⟨v',u',q1,q2,q3⟩
  ·exact .inl ⟨q2,hn j k _ v hv q1⟩
  ·exact .inr ⟨u',q2,λE Q q=>jO I (h j k _ v v' hv q1) rv q3 (by show A.units+1+n < cLine;omega) X.prog X.w E Q q⟩
 | @len a b af jG iB h1 h2 k1 k2 hl=>
  cases ru;cases rv;obtain ⟨_,z1,xs,r1,d1⟩:=mE I.aR h1 k1;obtain ⟨_,z2,ys,r2,d2⟩:=mE I.aR h2 k2;exact ik.of_refs iB λE Q q=>kg d1.typeIs d2.typeIs (by omega) (λhq=>lV d1 d2 z1 z2 (by rw [<-Paired.length r1,<-Paired.length r2];exact hl) hq) q
def N4(P:Program)(w:World)(K:fv)(H:Hp)(n:Nat)(x y:V)(c:Bool):Prop:=
 ∃a b xs ys,∃e:Nat->Bool,x= .ref a/\y= .ref b/\gP K H a xs/\gP K H b ys/\xs.length=ys.length/\(∀j u v,xs[j]? =some u->ys[j]? =some v->(List.range j).all e=true->C7 P w K H n u v (e j))/\c=(List.range xs.length).all e
theorem EW(I:Inv X δ σ H s){x y:V}(h:N4 X.prog X.w X.K H n x y c){v:Value}(ru:Τ x u)(rv:Τ y v)(hu:A.units+(n+3) < cLine):ik X.prog X.w A s u v c:=by
 obtain ⟨a,b,xs,ys,e,rfl,rfl,h1,h2,hl,he,rfl⟩:=h;cases ru;cases rv;by_cases ab:a=b
 ·subst ab;cases I.j3 h1 h2;have:∀m,m<=xs.length->(List.range m).all e=true:=λm=>by
   induction m with
   | zero=>exact λ_=>rfl
   | succ m ih=>
    intro hm;have q:=ih (Nat.le_of_succ_le hm);have g:xs[m]? =some xs[m]:=aaa hm;rw [abw,List.all_append,q];simp [AQ I (he m _ _ g g q) rfl]
  rw [this _ (aal _)];exact ik.same _
 refine ik.of_refs ab λE Q q=> ?_;obtain ⟨its,r1,⟨⟨c1,T_,t1,s1⟩,g1,rfl,n1,rfl⟩,_⟩:=I.tuple h1;obtain ⟨Sq,r2,⟨⟨c2,Hl,t2,s2⟩,g2,rfl,n2,rfl⟩,_⟩:=I.tuple h2;have KC:its.toArray.size=xs.length:=by rw [aaj,<-r1.length]
 have hz:its.toArray.size=Sq.toArray.size:=by rw [KC,aaj,<-r2.length];exact hl
 rw [<-KC] at q;refine wpAny_richCompare_same_room (T:="tuple") ⟨_,g1,rfl⟩ ⟨_,g2,rfl⟩ PySem.F.slot_tuple_eq (call_meetsIn PySem.F.slot_tuple_eq ⟨_,g1,rfl⟩ PySem.F.entry_tuple_eq (PySem.F.args_tuple_eq_2 _ _) (A3 (e:=e) hz) ⟨g1,g2,λj j1 j2 ja=> ?_,⟨λz=>(nomatch z),q⟩⟩) (by omega);have k1:j < xs.length:=by omega
 have k2:j < ys.length:=by omega
 have e1:xs[j]? =some xs[j]:=aaa k1;have e2:ys[j]? =some ys[j]:=aaa k2;obtain ⟨z1,KC,Qe⟩:=aK r1 j1;obtain ⟨z2,KQ,Sm⟩:=aK r2 j2;exact EL I (he j _ _ KC KQ ja) Qe Sm (by show A.units+1+(n+2) < cLine;omega)
def vC(P:Program)(w:World)(K:fv)(n:Nat):V->List V->Hp->VK->Prop:=λx vs H Q=>∃p xs y,∃f:Nat->Bool,∃j:Nat,x= .ref p/\vs=[y]/\eN K H p xs/\(∀i z,xs[i]? =some z->N4 P w K H n z y (f i))/\j < xs.length/\f j=true/\(∀i,i < j->f i=false)/\Q (.int (j:Int)) H
theorem xr(hu:X.A.units+(n+4) < cLine):Ls X "list.index" (vC X.prog X.w X.K n):=by
 intro δ s σ H x vs v us Q I rx rv h;obtain ⟨p,xs,y,f,j,rfl,rfl,hq,hf,hj,ft,ff,q⟩:=h;cases rx;obtain ⟨u,rfl,ru⟩:=rv.one;obtain ⟨its,r,pl,hz⟩:=I.list hq;obtain ⟨⟨cls,dd,data,sl⟩,nn,ho,hc,TV,hd⟩:=id pl;simp only at hc hd;subst hc hd;have lz:its.toArray.size=xs.length:=by rw [aaj,<-r.length]
 have SK:sizeLine < 2 ^ 63 - 1:=by decide
 refine call_meetsIn F.slot_list_index ⟨_,ho,rfl⟩ F.entry_list_index (F.args_list_index_2 _ _) (pP (e:=f) (j:=j) (by omega) (by omega) ft ff) ⟨ho,λm hm=> ?_, .int (j:Int),H,I.tok _,⟨_,rfl⟩,q⟩;obtain ⟨z,hz,rz⟩:=aK r hm;exact EW I (hf m z hz) rz ru (by show X.A.units+1+(n+3) < cLine;omega)
end
def CJ(k:NK):Dt:= .tup [.tup (k.1.map vn),vn k.2]
def Jc:V->Addr
 | .ref a=>a
 | _=>0
def K1(ks:List NK)(vs:List V):NL:=ks.zip (((vs.take ks.length).map Jc).zip (vs.drop ks.length))
def lE(P:Program)(w:World)(ks:List NK)(ds:List Dt):MO:= .Fy (λa vs=>oP P w a (K1 ks vs)) (ks.map CJ++ds)
def c_(ks:List NK)(ds:List Dt)(k:NK):Option Dt:=((ks.zip ds).find? λx=>decide (x.1=k)).map (·.2)
def sy(ks:List NK)(k:NK):Bool:=ks.any λc=>decide (c=k)
def je(ks:List NK)(k:NK):List NK:=if sy ks k then ks else ks++[k]
def oh{α:Type}(ks:List NK)(k:NK)(xs:List α)(x:α):List α:=if sy ks k then xs else xs++[x]
def iK{α:Type}(ks:List NK)(k:NK)(xs:List α)(x:α):List α:=if sy ks k then List.zipWith (λc y=>if c=k then x else y) ks xs else xs++[x]
section
variable{K:fv}{G:Hp}
theorem vL{k:Key}(h:Den K G L (vn k) v):v=kV k:=by
 cases k with
 | inl i=>exact h
 | inr x=>exact h
theorem rZ:∀{ks:List Key} {vs:List V},Γ K G L (ks.map vn) vs->vs=ks.map kV
 | [],_,h=>h
 | k::ks,_,⟨v,r,e,h1,h2⟩=>by rw [e,vL h1,rZ h2];rfl
theorem pG(h:Den K G L (CJ k) v):∃b,v= .ref b/\ju G k b:=by obtain ⟨a,vs,rfl,e,h⟩:=h;obtain ⟨v1,v2,rfl,h1,h2⟩:=dq h;obtain ⟨c,us,rfl,e2,h1⟩:=h1;rw [rZ h1] at e2;rw [vL h2] at e;exact ⟨a,rfl,c,e,e2⟩
theorem ju.mono{G':Hp}(s:bH G G')(h:ju G k b):ju G' k b:=let ⟨c,h1,h2⟩:=h;⟨c,s _ _ h1,s _ _ h2⟩
theorem vk:∀{ks:List NK} {vs:List V},Γ K G L (ks.map CJ) vs->∃as:List Addr,vs=as.map V.ref/\as.length=ks.length/\∀(i:Nat) k b,ks[i]? =some k->as[i]? =some b->ju G k b
 | [],_,h=>⟨[],h,rfl,λi k b h=>by simp at h⟩
 | k::ks,_,⟨v,r,e,h1,h2⟩=>by
  obtain ⟨b,rfl,hb⟩:=pG h1;obtain ⟨as,rfl,hl,ha⟩:=vk h2;refine ⟨b::as,e,by simp [hl],λi k' b' g1 g2=> ?_⟩;cases i with
  | zero=>cases g1;cases g2;exact hb
  | succ i=>exact ha i k' b' (by simpa using g1) (by simpa using g2)
theorem sU(as:List Addr):(as.map V.ref).map Jc=as:=by induction as with | nil=>rfl | cons a as ih=>rw [aaQ,aaQ,ih];rfl
theorem iZ{ds:List Dt}{vs:List V}(h:Γ K G L (ks.map CJ++ds) vs):∃(as:List Addr) (us:List V),vs=as.map V.ref++us/\as.length=ks.length/\(∀(i:Nat) k b,ks[i]? =some k->as[i]? =some b->ju G k b)/\Γ K G L (ks.map CJ) (as.map V.ref)/\Γ K G L ds us/\K1 ks vs=ks.zip (as.zip us):=by
 have key:∀{es fs:List Dt} {vs:List V},Γ K G L (es++fs) vs->∃a b,vs=a++b/\Γ K G L es a/\Γ K G L fs b:=by
  intro es
  induction es with
  | nil=>exact λh=>⟨[],_,rfl,rfl,h⟩
  | cons d es ih=>
   rintro fs _ ⟨v,r,rfl,h1,h2⟩;obtain ⟨a,b,rfl,h3,h4⟩:=ih h2;exact ⟨v::a,b,rfl,⟨v,a,rfl,h1,h3⟩,h4⟩
 obtain ⟨a,us,rfl,h1,h2⟩:=key h;obtain ⟨as,rfl,hl,hk⟩:=vk h1;refine ⟨as,us,rfl,hl,hk,h1,h2, ?_⟩;unfold K1;rw [List.take_left' (by simp [hl]),List.drop_left' (by simp [hl]),sU]
end
theorem gr{H:Hp}(h:∀(i:Nat) k b,ks[i]? =some k->as[i]? =some b->ju H k b):eE H (ks.zip (as.zip us)):=λx hx=>by obtain ⟨i,hi⟩:=aa5.mp hx;rw [aa8] at hi;obtain ⟨h1,h2⟩:=hi;rw [aa8] at h2;exact h i _ _ h1 h2.1
theorem vg(k:NK):∀{ks:List NK} {as:List Addr} {us:List V},as.length=ks.length->us.length=ks.length->((ks.zip (as.zip us)).find? λx=>decide (x.1=k)).isSome=sy ks k
 | [],_,_,_,_=>rfl
 | c::ks,a::as,u::us,h1,h2=>by
  rw [aa2,aa2];by_cases e:c=k
  ·rw [List.find?_cons_of_pos (by simpa using e)];simp [sy,e]
  ·rw [List.find?_cons_of_neg (by simpa using e),vg k (by simpa using h1) (by simpa using h2)];simp [sy,e]
theorem yI(k:NK)(v:V):∀{ks:List NK} {as:List Addr} {us:List V},as.length=ks.length->us.length=ks.length->(ks.zip (as.zip us)).map (λx=>if x.1=k then (x.1,x.2.1,v) else x)=ks.zip (as.zip (List.zipWith (λc y=>if c=k then v else y) ks us))
 | [],_,_,_,_=>by simp
 | c::ks,a::as,u::us,h1,h2=>by
  rw [List.zip_cons_cons,List.zip_cons_cons,List.map_cons,List.zipWith_cons_cons,List.zip_cons_cons,List.zip_cons_cons,yI k v (by simpa using h1) (by simpa using h2)];by_cases e:c=k
  ·simp [e]
  ·simp [e]
theorem zi(h1:as.length=ks.length)(h2:us.length=ks.length):qQ (ks.zip (as.zip us)) k b v=(je ks k).zip ((oh ks k as b).zip (iK ks k us v)):=by
 unfold qQ je oh iK;rw [vg k h1 h2];by_cases e:sy ks k=true
 ·rw [aaP e,aaP e,aaP e,aaP e,yI k v h1 h2]
 ·rw [if_neg e,if_neg e,if_neg e,if_neg e,List.zip_append (by rw [h1,h2]),List.zip_append (by simp [h1,h2])];rfl
section
variable{K:fv}{G:Hp}
theorem qb(k:NK):∀{ks:List NK} {as:List Addr} {ds:List Dt} {us:List V},Γ K G L ds us->as.length=ks.length->us.length=ks.length->(c_ ks ds k=none/\eh (ks.zip (as.zip us)) k=none)\/∃d u,c_ ks ds k=some d/\eh (ks.zip (as.zip us)) k=some u/\Den K G L d u
 | [],_,_,_,_,_,_=> .inl ⟨by simp [c_],by simp [eh]⟩
 | c::ks,a::as,[],us,h,_,h2=>by cases h;simp at h2
 | c::ks,a::as,d::ds,_,⟨u,us,rfl,n0,n⟩,h1,h2=>by
  by_cases e:c=k
  ·exact .inr ⟨d,u,by simp [c_,e],by simp [eh,e],n0⟩
  ·have q1:c_ (c::ks) (d::ds) k=c_ ks ds k:=by simp [c_,List.find?_cons,e]
   have q2:eh ((c::ks).zip ((a::as).zip (u::us))) k=eh (ks.zip (as.zip us)) k:=by simp [eh,List.find?_cons,e]
   rw [q1,q2];exact qb k n (by simpa using h1) (by simpa using h2)
theorem yB{k:NK}{d:Dt}{v:V}(nd:Den K G L d v):∀{ks:List NK} {ds:List Dt} {us:List V},Γ K G L ds us->Γ K G L (List.zipWith (λc y=>if c=k then d else y) ks ds) (List.zipWith (λc y=>if c=k then v else y) ks us)
 | [],_,_,_=>rfl
 | _::_,[],_,h=>by cases h;rfl
 | c::ks,e::ds,_,⟨u,us,rfl,n0,n⟩=>by
  refine ⟨_,_,rfl, ?_,yB nd n⟩;by_cases q:c=k
  ·simp only [if_pos q];exact nd
  ·simp only [if_neg q];exact n0
end
section
variable{o e f i value:Expr}{to te tf ti tv:DE}{apos aE pos':Pos}{k':Nat}
def Il(P:Program)(w:World)(t:DE):DE:=λρ M q x=>t ρ M (λd M1=>∃k,d= .loc k/\M1[k]? =some (.Bc [] [])/\q d (M1.set k (lE P w [] []))) x
theorem Gz(h:JE X R e te)(hP:X.prog=P:=by rfl)(hw:X.w=w:=by rfl):JE X R e (Il P w te):=by
 subst hP hw;exact .of (Cz h) λσ H G L ρ M q x rl n h hx=>by refine ⟨G,L,ρ,M,_,x,rl,n,h,hx,λv H1 ⟨d1,G1,L1,M1,e1,r1,n1,k,ed,hm,h1⟩=> ?_⟩;subst ed;obtain ⟨a,rfl,hk⟩:=n1;obtain ⟨_,vs,hH,_,dn⟩:=r1.fG k a _ hk hm;cases dn;exact ⟨a,rfl,hH, .loc k,G1,L1,_,e1.trans (r1.Bq hk),r1.setM (m:=lE X.prog X.w [] []) hk ⟨[],Ξ,rfl⟩,⟨a,rfl,hk⟩,h1⟩
def D3(P:Program)(w:World)(to te tf:DE):DE:=λρ M q x=>to ρ M (λd M1=>(∃k ks ds,d= .loc k/\M1[k]? =some (lE P w ks ds)/\ks.length=ds.length)/\te ρ M1 (λdk M2=>tf ρ M2 (λdx M3=>∃k ks ds key,d= .loc k/\M3[k]? =some (lE P w ks ds)/\ks.length=ds.length/\dk=CJ key/\q ((c_ ks ds key).getD dx) M3) x) x) x
theorem BK(hr:aX k' X.A)(ho:JE X R o to)(he:JE X R e te)(hf:JE X R f tf)(m:M2 X o "get" apos e f aE:=by exact ⟨rfl,rfl,rfl,rfl⟩)(hP:X.prog=P:=by rfl)(hw:X.w=w:=by rfl):JE X R (.Call (.Attribute o "get" apos) [e,f] [] aE) (D3 P w to te tf):=by
 subst hP hw;exact .of (ze (xD hr (n:=2) (by decide)) ho he hf m) λσ H G L ρ M q x rl n h hx=>by
  refine ⟨G,L,ρ,M,_,x,rl,n,h,hx,λv H1 ⟨d1,G1,L1,M1,e1,r1,n1,⟨k0,TF,TR,Qx,Nd,TX⟩,h1⟩=> ?_⟩;subst Qx;obtain ⟨a,rfl,hk⟩:=n1;obtain ⟨_,TZ,P9,Pc⟩:=r1.fG k0 a _ hk Nd;obtain ⟨Ts,TN,rfl,_,PU,_,_,Ra⟩:=iZ Pc;refine ⟨a,rfl,⟨_,P9,by rw [Ra];exact gr λi k b g1 g2=>(PU i k b g1 g2).mono r1.sub⟩,G1,L1,ρ,M1,_,x,r1,n.mono e1,h1,hx.on e1,λv2 H2 ⟨d2,G2,L2,M2,e2,r2,n2,h2⟩=> ?_⟩;refine ⟨G2,L2,ρ,M2,_,x,r2,(n.mono e1).mono e2,h2,(hx.on e1).on e2,λv3 H3 ⟨d3,G3,L3,M3,e3,r3,n3,k,ks,ds,key,ed,hm,hl,Ah,h3⟩=> ?_⟩;cases ed;subst Ah;have BO:=e2.trans e3;have AM:=BO.l.get hk;obtain ⟨_,vs,hH,dn⟩:=r3.fG k0 a _ AM hm;obtain ⟨as,us,rfl,xb,Lg,_,dn,el⟩:=iZ dn;obtain ⟨b,rfl,nb⟩:=pG (Den.mono e3.g e3.l _ _ n2);have LG:us.length=ks.length:=by rw [<-dn.length,hl]
  have hH:=hH.trans (aaX (λz=>some (oP X.prog X.w a z)) el);refine ⟨b,_,key,rfl,hH,gr λi k b g1 g2=>(Lg i k b g1 g2).mono r3.sub,nb.mono r3.sub, ?_⟩;rcases qb key dn xb LG with ⟨q1,q2⟩ | ⟨d,u,q1,q2,du⟩
  ·rw [q1] at h3;rw [q2];exact fin_same (e1.trans BO) r3 n3 h3
  ·rw [q1] at h3;rw [q2];exact fin_same (e1.trans BO) r3 du h3
def FX(P:Program)(w:World)(to ti tv:DE):DS:=λDn ρ M=>tv ρ M (λy M1=>to ρ M1 (λd M2=>ti ρ M2 (λdi M3=>∃k ks ds key,d= .loc k/\M3[k]? =some (lE P w ks ds)/\ks.length=ds.length/\di=CJ key/\ks.length < 1000/\Dn.nx ρ (M3.set k (lE P w (je ks key) (iK ks key ds y)))) Dn.x) Dn.x) Dn.x
theorem vP(hr:aX k' X.A)(ho:JE X R o to)(hi:JE X R i ti)(hv:JE X R value tv)(hs:swapsWith value (some (.Subscript o i pos')) pos.line X.env=pure false:=by rfl)(hP:X.prog=P:=by rfl)(hw:X.w=w:=by rfl):JS X R (.Assign [.Subscript o i pos'] value pos) (FX P w to ti tv):=by
 subst hP hw;exact .of (B4 (xD hr (n:=2) (by decide)) ho hi hv hs) λσ H G L ρ M Dn rl n h hx=>by
  refine ⟨G,L,ρ,M,_,_,rl,n,h,hx,λv H1 ⟨dv,G1,L1,M1,e1,r1,n1,h1⟩=> ?_⟩;refine ⟨G1,L1,ρ,M1,_,_,r1,n.mono e1,h1,hx.on e1,λov H2 ⟨d,G2,L2,M2,e2,r2,n2,h2⟩=> ?_⟩;refine ⟨G2,L2,ρ,M2,_,_,r2,(n.mono e1).mono e2,h2,(hx.on e1).on e2,λiv H3 ⟨di,G3,L3,M3,e3,r3,n3,k,ks,ds,key,ed,hm,hl,Ah,hlen,h3⟩=> ?_⟩;subst ed Ah;obtain ⟨a,rfl,Lg⟩:=n2;have AM:=e3.l.get Lg;obtain ⟨_,vs,hH,dn⟩:=r3.fG k a _ AM hm;obtain ⟨as,us,rfl,xb,M8,dk,dn,el⟩:=iZ dn;have BO:=e2.trans e3;have Kc:=Den.mono BO.g BO.l _ _ n1;obtain ⟨b,rfl,nb⟩:=pG n3;have LG:us.length=ks.length:=by rw [<-dn.length,hl]
  have hH:=hH.trans (aaX (λz=>some (oP X.prog X.w a z)) el);have z:(ks.zip (as.zip us)).length < sizeLine:=by rw [List.length_zip];exact aaH (Nat.min_le_left _ _) (Nat.lt_trans hlen (by decide))
  refine ⟨a,b,_,key,rfl,rfl,hH,gr λi k b g1 g2=>(M8 i k b g1 g2).mono r3.sub,nb.mono r3.sub,z,ρ,G3,L3,_,((e1.trans e2).trans e3).trans (r3.Bq AM),r3.setM (m:=lE X.prog X.w (je ks key) (iK ks key ds dv)) AM ⟨(oh ks key as b).map V.ref++iK ks key us v, ?_, ?_⟩,(((n.mono e1).mono e2).mono e3).mono (r3.Bq (o:= .own a) AM),h3⟩
  ·rw [Ξ,zi xb LG]
   congr 2
   unfold K1;have l1:((oh ks key as b).map V.ref).length=(je ks key).length:=by unfold oh je;split <;> simp [xb]
   rw [List.take_left' l1,List.drop_left' l1,sU]
  ·refine Γ.app ?_ ?_
   ·unfold je oh;split
    ·exact dk
    ·rw [aao,aao];exact Γ.app dk ⟨_,_,rfl,n3,rfl⟩
   ·unfold iK;split
    ·exact yB Kc dn
    ·exact Γ.app dn ⟨_,_,rfl,Kc,rfl⟩
end
inductive tP(P:Program)(w:World)(M:Ms)(n:Nat):Dt->Dt->Bool->Prop
 | eq {x y:Dt} {c:Bool} (h:nI M n x y c):tP P w M n x y c
 | same {k:Nat}:tP P w M n (.loc k) (.loc k) true
 | nd {k k2:Nat} {ks yK:List NK} {ds wF:List Dt} {e:Nat->Bool} (iB:k≠k2) (h1:M[k]? =some (lE P w ks ds)) (h2:M[k2]? =some (lE P w yK wF)) (l1:ks.length=ds.length) (l2:yK.length=wF.length) (hl:ks.length=yK.length)
   (hn:∀j c,ks[j]? =some c->c_ yK wF c=none->e j=false) (h:∀j c d d',ks[j]? =some c->ds[j]? =some d->c_ yK wF c=some d'->nI M n d d' (e j)):tP P w M n (.loc k) (.loc k2) ((List.range ks.length).all e)
 | len {k k2:Nat} {ks yK:List NK} {ds wF:List Dt} (iB:k≠k2) (h1:M[k]? =some (lE P w ks ds)) (h2:M[k2]? =some (lE P w yK wF)) (l1:ks.length=ds.length) (l2:yK.length=wF.length) (hl:ks.length≠yK.length):tP P w M n (.loc k) (.loc k2) false
def xx(P:Program)(w:World)(M:Ms)(n:Nat)(x y:Dt)(c:Bool):Prop:=
 ∃ds es,∃e:Nat->Bool,x= .tup ds/\y= .tup es/\ds.length=es.length/\(∀j d d',ds[j]? =some d->es[j]? =some d'->(List.range j).all e=true->tP P w M n d d' (e j))/\c=(List.range ds.length).all e
section
variable{K:fv}{G:Hp}{M:Ms}{H:Hp}
theorem vV(r:Rl K G L M H){k:Nat}{ds:List Dt}(hk:L[k]? =some a)(h:M[k]? =some (lE P w ks ds))(hl:ks.length=ds.length):∃(as:List Addr) (us:List V),as.length=ks.length/\us.length=ks.length/\Γ K G L ds us/\eE H (ks.zip (as.zip us))/\H a=some (oP P w a (ks.zip (as.zip us))):=by obtain ⟨_,vs,hH,dn⟩:=r.fG k a _ hk h;obtain ⟨as,us,rfl,xb,M8,_,dn,el⟩:=iZ dn;exact ⟨as,us,xb,by rw [<-dn.length,hl],dn,gr λi k b g1 g2=>(M8 i k b g1 g2).mono r.sub,hH.trans (aaX (λz=>some (oP P w a z)) el)⟩
theorem ml(h1:as.length=ks.length)(h2:us.length=ks.length):(ks.zip (as.zip us)).length=ks.length:=by rw [List.length_zip,List.length_zip,h1,h2,Nat.min_self,Nat.min_self]
theorem Eg(r:Rl K G L M H){d d':Dt}(h:tP P w M n d d' c){v':V}(n1:Den K G L d v)(n2:Den K G L d' v'):C7 P w K H n v v' c:=by
 cases h with
 | eq h=>exact .eq (vI r h n1 n2)
 | same=>
  obtain ⟨a,rfl,h1⟩:=n1;obtain ⟨b,rfl,h2⟩:=n2;cases h1.symm.trans h2;exact .same
 | @nd k k2 ks yK ds wF e iB h1 h2 l1 l2 hl hn h=>
  obtain ⟨a,rfl,g1⟩:=n1;obtain ⟨b,rfl,g2⟩:=n2;obtain ⟨as,us,la,lu,dn,nk,hH⟩:=vV r g1 h1 l1;obtain ⟨QZ,Si,IA,Je,Dq,MY,Hn⟩:=vV r g2 h2 l2;have ab:a≠b:=λe=>by subst e;exact iB ((List.getElem?_inj (aad.mp g1).1 r.nd).mp (g1.trans g2.symm))
  rw [<-ml la lu];refine .nd ab hH Hn nk MY (by rw [ml la lu,ml IA Je];exact hl) (λj c ka v hj hv=> ?_) λj c ka v v' hj hv=> ?_
  ·rw [aa8] at hj;rcases qb c Dq IA Je with ⟨q1,q2⟩ | ⟨d,u,q1,q2,du⟩
   ·exact hn j c hj.1 q1
   ·rw [hv] at q2;cases q2
  ·rw [aa8] at hj;obtain ⟨hc,hj⟩:=hj;rw [aa8] at hj;rcases qb c Dq IA Je with ⟨q1,q2⟩ | ⟨d,u,q1,q2,du⟩
   ·rw [hv] at q2;cases q2
   ·rw [hv] at q2;cases q2;obtain ⟨d0,KY,dd⟩:=dn.back hj.2;exact vI r (h j c d0 d hc KY q1) dd du
 | @len k k2 ks yK ds wF iB h1 h2 l1 l2 hl=>
  obtain ⟨a,rfl,g1⟩:=n1;obtain ⟨b,rfl,g2⟩:=n2;obtain ⟨as,us,la,lu,dn,nk,hH⟩:=vV r g1 h1 l1;obtain ⟨QZ,Si,IA,Je,Dq,MY,Hn⟩:=vV r g2 h2 l2;have ab:a≠b:=λe=>by subst e;exact iB ((List.getElem?_inj (aad.mp g1).1 r.nd).mp (g1.trans g2.symm))
  exact .len ab hH Hn nk MY (by rw [ml la lu,ml IA Je];exact hl)
theorem El(r:Rl K G L M H){d d':Dt}(h:xx P w M n d d' c){v':V}(n1:Den K G L d v)(n2:Den K G L d' v'):N4 P w K H n v v' c:=by obtain ⟨ds,es,e,rfl,rfl,hl,he,rfl⟩:=h;obtain ⟨a,vs,rfl,e1,m1⟩:=n1;obtain ⟨b,us,rfl,e2,m2⟩:=n2;refine ⟨a,b,vs,us,e,rfl,rfl, .of (r.sub _ _ e1), .of (r.sub _ _ e2),by rw [<-m1.length,<-m2.length];exact hl,λj u v hu hv ja=> ?_,by rw [m1.length]⟩;obtain ⟨d,hd,dn⟩:=m1.back hu;obtain ⟨d',f_,Rr⟩:=m2.back hv;exact Eg r (he j d d' hd f_ ja) dn Rr
end
section
variable{e o i:Expr}{t:DA}{to ti:DE}{apos aE:Pos}{k':Nat}
def vy(P:Program)(w:World)(n:Nat)(to:DE)(t:DA):DE:=λρ M q x=>to ρ M (λd M1=>(∃xs,gB M1 d=some xs)/\t ρ M1 (λds M2=>∃y xs,∃f:Nat->Bool,∃j:Nat,ds=[y]/\gB M2 d=some xs/\(∀i z,xs[i]? =some z->xx P w M2 n z y (f i))/\j < xs.length/\f j=true/\(∀i,i < j->f i=false)/\q (.int (j:Int)) M2) x) x
theorem zO(n:Nat)(hr:aX k' X.A)(ho:JE X R o to)(ha:JA X R [e] t)(hn:n+4<=64:=by decide)(jf:attributeBase o "index" X.env (eval o X.env)=eval o X.env:=by rfl)
  (yP:((backTo aE (starEach [e] X.env)).all (λx=> !x.1)&&(backToKw aE (keywordEach [] X.env)).all (λx=>x.1.isSome)
   &&decide (([e]:List Expr).length+([]:List Keyword).length+(if ([]:List Keyword).isEmpty then 0 else 1) < 30))=true:=by rfl)
  (iF:(apos.endLine==aE.line)=true:=by rfl) (hs:starEach [e] X.env=(false,eval e X.env)::starEach [] X.env:=by rfl) (lS:(backTo aE (starEach [] X.env)).any (·.1)=false:=by rfl) (hP:X.prog=P:=by rfl) (hw:X.w=w:=by rfl):
  JE X R (.Call (.Attribute o "index" apos) [e] [] aE) (vy P w n to t):=by
 subst hP hw;exact .of (Dv PySem.F.plainAttrs_list PySem.F.slot_list_index PySem.F.type_list_index (r:=vC X.prog X.w X.K n) (xr (xD hr hn)) ho ha jf yP iF hs lS) λσ H G L ρ M q x rl n h hx=>by refine ⟨G,L,ρ,M,_,x,rl,n,h,hx,λv H1 ⟨d1,G1,L1,M1,e1,r1,n1,⟨xs,hm⟩,h1⟩=> ?_⟩;obtain ⟨a,vs,rfl,sq,m⟩:=cR r1 n1 hm;refine ⟨.inl ⟨rfl,vs,sq⟩,G1,L1,ρ,M1,_,x,r1,n.mono e1,h1,hx.on e1,λus H2 ⟨ds,G2,L2,M2,e2,r2,n2,y,xs',f,j,ed,JM,hf,hj,ft,ff,h2⟩=> ?_⟩;subst ed;obtain ⟨u,rfl,n3⟩:=aY n2;obtain ⟨a2,Jb,ea,KW,m2⟩:=cR r2 (Den.mono e2.g e2.l _ _ n1) JM;cases ea;refine ⟨a,Jb,u,f,j,rfl,rfl,KW,λi z hz=> ?_,by rw [<-m2.length];exact hj,ft,ff, .int (j:Int),G2,L2,_,e1.trans e2,r2,rfl,h2⟩;obtain ⟨d,hd,dn⟩:=m2.back hz;exact El r2 (hf i d hd) dn n3
end
theorem yG{α β:Type}{F:α->β->Prop}:∀{xs:List α} {ys:List β},xs.length=ys.length->(∀(i:Nat) x y,xs[i]? =some x->ys[i]? =some y->F x y)->Paired F xs ys
 | [],[],_,_=> .nil
 | x::xs,y::ys,hl,h=> .cons (h 0 x y rfl rfl) (yG (by simpa using hl) λi a b ha hb=>h (i+1) a b (by simpa using ha) (by simpa using hb))
def dH(n:Nat):List Int:=(List.range n).map λi:Nat=>(i:Int)
section
theorem ng:cn X (.type "range") (λxs H Q=>∃j:Int,xs=[V.int j]/\∀l,H l=none->Q (.ref l) (upd H l (.C3 0 j))):=by intro δ s σ H xs us Q I r ⟨j,ex,q⟩;subst ex;obtain ⟨u,rfl,rx⟩:=jo r;obtain ⟨t,rfl⟩:=rx;exact call_range_1 ⟨.ref s.heap.objs.size,_,I.laid (λb o e=>aag _ e) (aal _) (show aT X.prog X.w _ _ _ (.C3 0 j) from ⟨_,_,_,aaG _ rfl⟩),rfl,q _ (I.aR.fresh (aal _))⟩
theorem nB(hc:X.calm=true):cn X (.type "list") (λxs H Q=>∃(a:Addr) (n:Nat),xs=[V.ref a]/\Rd H a (.C3 0 (n:Nat))/\n<=1000/\∀p,H p=none->Q (.ref p) (upd H p (.lst ((dH n).map V.int)))):=by
 intro δ s σ H xs us Q I r ⟨a,n,ex,e,hn,q⟩;subst ex;obtain ⟨u,rfl,rx⟩:=jo r;cases rx;obtain ⟨t,u,v,eg⟩:=e.ok I.aR;have sz:Builtin.Range.rangeSize 0 (n:Nat) 1=(n:Int):=by rw [rangeSize_one];split <;> omega
 refine call_list_range (I.ok.hd hc) (show IsRange s.heap a 0 (n:Nat) 1 t u v from eg) (small_one (by omega) (by omega) (by omega) (by omega)) sz (by omega) λh' tk Jj c' kp el it=> ?_;obtain ⟨il,ip⟩:=it;have hv:Μ ((dH n).map V.int) Jj.toList:=by
  refine yG (by unfold dH;rw [List.length_map,List.length_map,List.length_range];simpa using il.symm) λi x y hx hy=> ?_;obtain ⟨tk,rfl⟩:=ip i y (by simpa using hy);have hi:i < n:=by have:=(aad.mp hy).1;simp at this;omega
  unfold dH at hx;rw [aaf,aaf,aaZ hi] at hx;cases hx;exact ⟨tk,by simp⟩
 exact ⟨.ref s.heap.objs.size,_,I.laid (t':=tk) kp (Nat.le_refl _) (show aT X.prog X.w _ h' _ (.lst _) from ⟨by unfold dH;rw [List.length_map,List.length_map,List.length_range];exact Nat.le_trans hn (by decide),Jj.toList,c',hv,by simpa using el⟩),rfl,q _ (I.aR.fresh (Nat.le_refl _))⟩
end
def Eu:List Dt->Ms->DQ->Prop:=λds M q=>∃n:Nat,ds=[.int (n:Nat)]/\n<=1000/\q (.loc M.length) (M++[.lst ((dH n).map Dt.int)])
section
variable{a:Expr}{t:DA}{p p2 IU:Pos}
theorem CN(hm:X.mg "list"=none)(JM:X.mg "range"=none)(ha:JA X R [a] t)(hg:Gl X "list":=by rfl)(Tf:Gl X "range":=by rfl)(he:starEach [a] X.env=(false,eval a X.env)::starEach [] X.env:=by rfl)(dE:(backTo IU (starEach [] X.env)).any (·.1)=false:=by rfl)(NQ:(backTo pos (starEach [] X.env)).any (·.1)=false:=by rfl)(hc:X.calm=true:=by rfl):JE X R (.Call (.Name "list" p) [.Call (.Name "range" p2) [a] [] IU] [] pos) (u0 Eu t):=
 .of (jC (nB hc) hg hm fe (vi (jC ng Tf JM boot_range ha (by decide) (by decide) he dE) zA bc) (by decide) (by decide) bc NQ) λσ H G L ρ M q x rl n h hx=>by refine ⟨G,L,ρ,M,_,x,rl,n,h,hx,λvs H1 ⟨ds,G1,L1,M1,e1,r1,n1,k,ek,hk,h1⟩=> ?_⟩;subst ek;obtain ⟨v,rfl,nv⟩:=aY n1;have nv:v= .int (k:Nat):=nv;subst nv;exact ⟨k,rfl,λl hl=>⟨l,k,rfl, .of Ξ,hk,λp hp=>jm (e1.trans (r1.G7 hl)) (r1.CH hl) hp cX h1⟩⟩
end
def Fn(te tl:DE):DE:=λρ M q x=>te ρ M (λd M1=>tl ρ M1 (λdi M2=>∃ds n,d= .tup ds/\di= .int (n:Nat)/\n < ds.length/\q (.tup (ds.take n)) M2) x) x
theorem BM{e l:Expr}{te tl:DE}{p2:Pos}(he:JE X R e te)(hl:JE X R l tl):JE X R (.Subscript e (.Slice none (some l) none p2) pos) (Fn te tl):=
 .of (i6 zw he lD (kR hl)) λσ H G L ρ M q x rl n h hx=>by
  refine ⟨G,L,ρ,M,_,x,rl,n,h,hx,λv H1 ⟨d1,G1,L1,M1,e1,r1,n1,h1⟩=> ?_⟩;refine ⟨G1,L1,ρ,M1,_,x,r1,n.mono e1,h1,hx.on e1,λv2 H2 ⟨d2,G2,L2,M2,e2,r2,n2,ds,k,ed,ei,k1,h2⟩=> ?_⟩;subst ed ei;obtain ⟨a,vs,rfl,ea,m⟩:=Den.mono e2.g e2.l _ _ n1;have n2:v2= .int k:=n2;subst n2;have lv:=m.length;refine ⟨k,rfl,a,vs,rfl, .of (r2.sub _ _ ea),λz=> ?_,λp hp=> ?_⟩
  ·rw [HT.k7] at z;omega
  ·rw [nQ];exact eS (e1.trans e2) r2 hp (jj r2 hp (Γ.of (mH k m.pair))) h2
end L2
namespace Fr0
variable{b t:Int}
def g(a b:Int):Int:=(Int.gcd a b:Nat)
theorem sF{a:Int}(h:b≠0):0 < g a b:=by have:=Int.gcd_pos_of_ne_zero_right a h;unfold g;omega
theorem yH{a:Int}(h:0<=a):g a 0=a:=by unfold g;rw [Int.gcd_zero_right];omega
theorem yU{a:Int}(hb:0 < b):g b (a.fmod b)=g a b:=by
 unfold g;rw [abf a (aaN hb),Int.gcd_comm a b]
 congr 1
 refine Int.gcd_right_eq_iff.mpr λc hc=> ?_;rw [Int.emod_def];constructor
 ·intro h;have:=Int.dvd_add h (Int.dvd_mul_of_dvd_left (c:=a / b) hc);rwa [Int.sub_add_cancel] at this
 ·intro h;exact Int.dvd_sub h (Int.dvd_mul_of_dvd_left (c:=a / b) hc)
theorem CY(a b:Int):g (if a < 0 then -a else a) (if b < 0 then -b else b)=g a b:=by unfold g;split <;> split <;> simp
def dv(t b:Int):Int:=if b < 0 then -(g t b) else g t b
def ag(t b:Int):Int×Int:=(t.fdiv (dv t b),b.fdiv (dv t b))
theorem vD(h:b≠0):dv t b≠0:=by have:=sF (a:=t) h;unfold dv;split <;> omega
theorem rA{k p:Int}(h:k≠0):(k * p).fdiv k=p:=by rw [abG];exact Int.mul_fdiv_cancel p h
theorem AZ(h:b≠0):∃p q:Int,t=dv t b * p/\b=dv t b * q/\0 < q/\Int.gcd p q=1:=by
 have hg:=sF (a:=t) h;have h0:0 < Int.gcd t b:=Int.gcd_pos_of_ne_zero_right t h;obtain ⟨p,hp⟩:=Int.gcd_dvd_left t b;obtain ⟨q,hq⟩:=Int.gcd_dvd_right t b;have hc:Int.gcd p q=1:=by
  have e:=Int.gcd_ediv_gcd_ediv_gcd h0;have n0:(Int.gcd t b:Int)≠0:=by omega
  have e1:t / (Int.gcd t b:Int)=p:=by
   conv=>lhs;arg 1;rw [hp]
   exact abH p n0
  have e2:b / (Int.gcd t b:Int)=q:=by
   conv=>lhs;arg 1;rw [hq]
   exact abH q n0
  rwa [e1,e2] at e
 have J4:t=g t b * p:=hp;have yd:b=g t b * q:=hq;by_cases hb:b < 0
 ·have hd:dv t b= -(g t b):=by unfold dv;rw [if_pos hb]
  refine ⟨-p, -q, ?_, ?_, ?_, ?_⟩
  ·rw [hd,Int.neg_mul_neg];exact J4
  ·rw [hd,Int.neg_mul_neg];exact yd
  ·have:g t b * q < 0:=by rw [<-yd];exact hb
   by_cases q0:0<=q
   ·exact aaE (Int.mul_nonneg (aaN hg) q0) (by omega)
   ·omega
  ·simpa using hc
 ·have hd:dv t b=g t b:=by unfold dv;rw [if_neg hb]
  refine ⟨p,q,by rw [hd];exact J4,by rw [hd];exact yd, ?_,hc⟩;have:0 < g t b * q:=by rw [<-yd];omega
  exact Int.pos_of_mul_pos_right this hg
theorem c5  (h : b ≠ 0) : ∃ p q : Int, ag t b = (p, q) /\ 0 < q /\ Int.gcd p q = 1 /\ t = dv t b * p /\ b = dv t b * q := by
  obtain ⟨p, q, hp, hq, h0, hc⟩ := AZ (t := t) h;have n0 := vD (t := t) h;refine ⟨p, q, ?_, h0, hc, hp, hq⟩;unfold ag
  have e1 : t.fdiv (dv t b) = p := by conv => lhs; arg 1; rw [hp]
                                      exact rA n0
  have e2 : b.fdiv (dv t b) = q := by conv => lhs; arg 1; rw [hq]
                                      exact rA n0
  rw [e1, e2]
theorem da(h:b≠0):t * (ag t b).2=b * (ag t b).1:=by
 obtain ⟨p,q,e,_,_,hp,hq⟩:=c5 (t:=t) h;rw [e];show t * q=b * p
 calc t * q=dv t b * p * q:=by rw [<-hp]
  _=dv t b * q * p:=by rw [abJ,abG p q,<-abJ]
  _=b * p:=by rw [<-hq]
theorem bI(h:b≠0):0 < (ag t b).2:=by obtain ⟨p,q,e,h0,_⟩:=c5 (t:=t) h;rw [e];exact h0
theorem r_(h:b≠0):Int.gcd (ag t b).1 (ag t b).2=1:=by obtain ⟨p,q,e,_,hc,_⟩:=c5 (t:=t) h;rw [e];exact hc
theorem ki{k m n:Int}(h:k∣m * n)(hc:Int.gcd k m=1):k∣n:=by have:=(Int.dvd_gcd_mul_iff_dvd_mul (k:=k) (n:=m) (m:=n)).mpr h;rw [hc] at this;simpa using this
theorem tL{p q p' q':Int}(hq:0 < q)(yd:0 < q')(h:Int.gcd p q=1)(h':Int.gcd p' q'=1)(e:p * q'=p' * q):p=p'/\q=q':=by
 have d1:q∣q':=by have:q∣p * q':=⟨p',by rw [e,abG]⟩;exact ki this (by rw [Int.gcd_comm];exact h)
 have d2:q'∣q:=by have:q'∣p' * q:=⟨p,by rw [<-e,abG]⟩;exact ki this (by rw [Int.gcd_comm];exact h')
 have eq:q=q':=Int.le_antisymm (Int.le_of_dvd yd d1) (Int.le_of_dvd hq d2);subst eq;exact ⟨Int.eq_of_mul_eq_mul_right (by omega) e,rfl⟩
theorem Bl{p q:Int}(h:b≠0)(hq:0 < q)(hc:Int.gcd p q=1)(e:t * q=b * p):ag t b=(p,q):=by
 have h1:=da (t:=t) h;have h2:=bI (t:=t) h;have h3:=r_ (t:=t) h;have h4:(ag t b).1 * q=p * (ag t b).2:=by
  have:b * ((ag t b).1 * q)=b * (p * (ag t b).2):=by rw [<-abJ,<-h1,Int.mul_right_comm,e,abJ]
  exact abC h this
 have:=tL h2 hq h3 hc h4;exact Prod.ext this.1 this.2
theorem pH(h:b≠0):(dv t b).natAbs<=b.natAbs:=by
 have e:(dv t b).natAbs=Int.gcd t b:=by unfold dv g;split <;> omega
 rw [e];exact Int.gcd_le_natAbs_right t h
theorem mL  (h : b ≠ 0) : (ag t b).1.natAbs <= t.natAbs := by
  obtain ⟨p, q, e, _, _, hp, _⟩ := c5 (t := t) h;have n0 := vD (t := t) h;rw [e];show p.natAbs <= t.natAbs
  have : t.natAbs = (dv t b).natAbs * p.natAbs := by conv => lhs; rw [hp]
                                                     exact abD _ _
  rw [this];exact Nat.le_mul_of_pos_left _ (by omega)
theorem iE  (h : b ≠ 0) : (ag t b).2.natAbs <= b.natAbs := by
  obtain ⟨p, q, e, _, _, _, hq⟩ := c5 (t := t) h;have n0 := vD (t := t) h;rw [e];show q.natAbs <= b.natAbs
  have : b.natAbs = (dv t b).natAbs * q.natAbs := by conv => lhs; rw [hq]
                                                     exact abD _ _
  rw [this];exact Nat.le_mul_of_pos_left _ (by omega)
theorem Bu(h:0 < b):ag t b=(t.fdiv (g t b),b.fdiv (g t b)):=by unfold ag dv;rw [aaJ (by omega)]
end Fr0
namespace Tx
open PySem PySem.NumText
end Tx
namespace Bz
end Bz
namespace N51
section
variable{κ α:Type} [DecidableEq κ]
def get(ks:List κ)(vs:List α)(k:κ):Option α:=((ks.zip vs).find? λx=>decide (x.1=k)).map (·.2)
def has(ks:List κ)(k:κ):Bool:=ks.any λc=>decide (c=k)
def putK(ks:List κ)(k:κ):List κ:=if has ks k then ks else ks++[k]
def qt(ks:List κ)(k:κ)(vs:List α)(v:α):List α:=if has ks k then List.zipWith (λc y=>if c=k then v else y) ks vs else vs++[v]
theorem lA{ks:List κ}{k:κ}:has ks k=true↔k∈ks:=by unfold has;rw [List.any_eq_true];exact ⟨λ⟨c,h,e⟩=>aar e▸h,λh=>⟨k,h,aaq rfl⟩⟩
theorem cF{c k:κ}{v:α}{ks:List κ}{vs:List α}:get (c::ks) (v::vs) k=if c=k then some v else get ks vs k:=by
 unfold get;rw [aa2];by_cases e:c=k
 ·rw [if_pos e,List.find?_cons_of_pos (by simpa using e)];rfl
 ·rw [if_neg e,List.find?_cons_of_neg (by simpa using e)]
theorem ck{k:κ}:∀{ks:List κ} {vs:List α},vs.length=ks.length->((get ks vs k).isSome=true↔k∈ks)
 | [],vs,_=>by simp [get]
 | c::ks,v::vs,h=>by
  rw [cF];by_cases e:c=k
  ·simp [e]
  ·rw [if_neg e,ck (by simpa using h)];simp [Ne.symm e]
theorem va{k:κ}{v:α}:∀{ks:List κ} {vs:List α} {j:Nat},ks.Nodup->ks[j]? =some k->vs[j]? =some v->get ks vs k=some v
 | [],_,j,_,h,_=>by simp at h
 | _::_,[],j,_,_,h=>by simp at h
 | c::ks,u::vs,0,_,h1,h2=>by rw [cF];simp at h1 h2;rw [aaP h1,h2]
 | c::ks,u::vs,j+1,hn,h1,h2=>by rw [abv] at hn;simp at h1 h2;rw [cF,aaJ (λe=>hn.1 (by rw [e];exact aaw h1))];exact va hn.2 h1 h2
theorem yp{ks:List κ}{k:κ}{vs:List α}{v:α}(h:vs.length=ks.length):(qt ks k vs v).length=(putK ks k).length:=by
 unfold qt putK;split
 ·rw [List.length_zipWith,h,Nat.min_self]
 ·simp [h]
theorem ue{ks:List κ}{k:κ}(h:ks.Nodup):(putK ks k).Nodup:=by
 unfold putK;split
 ·exact h
 ·rename_i q;rw [List.nodup_append];refine ⟨h,by simp,λa ha b hb=> ?_⟩;have:b=k:=by simpa using hb
  subst this;rintro rfl;exact q (lA.mpr ha)
theorem AJ{ks:List κ}{k c:κ}:c∈putK ks k↔c∈ks\/c=k:=by
 unfold putK;split
 ·rename_i q;exact ⟨.inl,λh=>h.elim id λe=>e▸lA.mp q⟩
 ·simp
theorem wo{k c:κ}{v:α}:∀{ks:List κ} {vs:List α},vs.length=ks.length->get ks (List.zipWith (λc y=>if c=k then v else y) ks vs) c=if c=k/\k∈ks then some v else get ks vs c
 | [],vs,_=>by simp [get]
 | d::ks,u::vs,h=>by
  rw [List.zipWith_cons_cons,cF,cF,wo (by simpa using h)];by_cases e:d=c
  ·subst e;by_cases q:d=k
   ·simp [q]
   ·simp [q]
  ·rw [aaJ e,aaJ e];by_cases q:c=k
   ·subst q;simp [Ne.symm e]
   ·simp [q]
theorem vB{k c:κ}{v:α}:∀{ks:List κ} {vs:List α},vs.length=ks.length->get (ks++[k]) (vs++[v]) c=(get ks vs c).or (if k=c then some v else none)
 | [],vs,h=>by
  have:vs=[]:=by simpa using h
  subst this;show get [k] [v] c=_;rw [cF];simp [get]
 | d::ks,u::vs,h=>by
  rw [List.cons_append,List.cons_append,cF,cF,vB (by simpa using h)];by_cases e:d=c
  ·simp [e]
  ·simp [e]
theorem CA{k c:κ}{v:α}{ks:List κ}{vs:List α}(h:vs.length=ks.length):get (putK ks k) (qt ks k vs v) c=if c=k then some v else get ks vs c:=by
 unfold putK qt;by_cases q:has ks k=true
 ·rw [aaP q,aaP q,wo h];have:=lA.mp q;simp [this]
 ·rw [aaJ q,aaJ q,vB h];have nk:¬k∈ks:=λz=>q (lA.mpr z);by_cases e:c=k
  ·subst e;have:get ks vs c=none:=by
    cases g:get ks vs c with
    | none=>rfl
    | some w=>exact aaE ((ck h).mp (by rw [g];rfl)) nk
   simp [this]
  ·rw [aaJ e,aaJ (Ne.symm e)];cases get ks vs c <;> rfl
theorem jH:∀{ks ls:List κ},ks.Nodup->(∀c∈ks,c∈ls)->ks.length<=ls.length
 | [],_,_,_=>abE _
 | c::ks,ls,n,s=>by rw [abv] at n;have hc:=s c aam;have h:=jH (ls:=ls.erase c) n.2 λd hd=>(List.mem_erase_of_ne (a:=d) (b:=c) (λe:d=c=>n.1 (e▸hd))).mpr (s d (aah _ hd));rw [List.length_erase_of_mem hc] at h;have:=List.length_pos_of_mem hc;rw [aaD];omega
theorem xF [DecidableEq α]{ks ls:List κ}{vs us:List α}(h1:vs.length=ks.length)(h2:us.length=ls.length)(n1:ks.Nodup)(n2:ls.Nodup):
  (ks.length=ls.length/\∀(j:Nat) k v,ks[j]? =some k->vs[j]? =some v->get ls us k=some v)↔∀k,get ks vs k=get ls us k:=by
 constructor
 ·rintro ⟨hl,h⟩ k;have sub:∀c∈ks,c∈ls:=λc hc=>by
   obtain ⟨j,hj⟩:=aa5.mp hc;have lt:j < vs.length:=by rw [h1];exact (aad.mp hj).1
   exact (ck h2).mp (by rw [h j c vs[j] hj (aaa lt)];rfl)
  have sup:∀c∈ls,c∈ks:=λc hc=>Classical.byContradiction λq=>by have:=jH (ks:=c::ks) (ls:=ls) (abv.mpr ⟨q,n1⟩) λd hd=>(aaO.mp hd).elim (λe=>e▸hc) (sub d);rw [aaD] at this;omega
  cases g:get ks vs k with
  | none=>
   cases g2:get ls us k with
   | none=>rfl
   | some w=>
    have:=(ck h1).mpr (sup k ((ck h2).mp (by rw [g2];rfl)));rw [g] at this;cases this
  | some v=>
   have hk:=(ck h1).mp (by rw [g];rfl);obtain ⟨j,hj⟩:=aa5.mp hk;have lt:j < vs.length:=by rw [h1];exact (aad.mp hj).1
   have e:=va n1 hj (aaa lt);rw [g] at e;cases e;exact (h j k _ hj (aaa lt)).symm
 ·intro h;refine ⟨?_,λj k v hj hv=>by rw [<-h];exact va n1 hj hv⟩;have p1:∀c,c∈ks↔c∈ls:=λc=>by rw [<-ck h1,<-ck h2,h]
  exact Nat.le_antisymm (jH n1 λc hc=>(p1 c).mp hc) (jH n2 λc hc=>(p1 c).mpr hc)
end
section
variable{κ α β:Type} [DecidableEq κ]
def DM(op:α->β->α)(z:α)(D:List κ×List α)(x:κ×β):List κ×List α:=(putK D.1 x.1,qt D.1 x.1 D.2 (op ((get D.1 D.2 x.1).getD z) x.2))
def fA(op:α->β->α)(z:α)(xs:List (κ×β)):List κ×List α:=xs.foldl (DM op z) ([],[])
def rR(op:α->β->α)(z:α)(xs:List (κ×β))(k:κ):α:=xs.foldl (λa x=>if x.1=k then op a x.2 else a) z
theorem lJ(op:α->β->α)(z:α)(xs:List (κ×β))(x:κ×β):fA op z (xs++[x])=DM op z (fA op z xs) x:=by unfold fA;rw [List.foldl_append];rfl
theorem rD(op:α->β->α)(z:α)(xs:List (κ×β))(x:κ×β)(k:κ):rR op z (xs++[x]) k=if x.1=k then op (rR op z xs k) x.2 else rR op z xs k:=by unfold rR;rw [List.foldl_append];rfl
theorem eG(op:α->β->α)(z:α)(xs:List (κ×β)):(fA op z xs).2.length=(fA op z xs).1.length/\(fA op z xs).1.Nodup/\(∀k,k∈(fA op z xs).1↔k∈xs.map (·.1))/\∀k,(get (fA op z xs).1 (fA op z xs).2 k).getD z=rR op z xs k:=by
 have key:∀n (ys:List (κ×β)),ys.length=n->(fA op z ys).2.length=(fA op z ys).1.length/\(fA op z ys).1.Nodup/\(∀k,k∈(fA op z ys).1↔k∈ys.map (·.1))/\∀k,(get (fA op z ys).1 (fA op z ys).2 k).getD z=rR op z ys k:=by
  intro n
  induction n with
  | zero=>
   intro ys h;have:ys=[]:=List.length_eq_zero_iff.mp h;subst this;exact ⟨rfl,List.nodup_nil,λk=>Iff.rfl,λk=>rfl⟩
  | succ n ih=>
   intro ys h;have iB:ys≠[]:=λe=>by subst e;cases h
   obtain ⟨zs,x,rfl⟩:∃zs x,ys=zs++[x]:=⟨ys.dropLast,ys.getLast iB,(List.dropLast_concat_getLast iB).symm⟩;obtain ⟨h1,h2,h3,h4⟩:=ih zs (by simpa using h);rw [lJ];refine ⟨yp h1,ue h2,λk=> ?_,λk=> ?_⟩
   ·show k∈putK _ _↔_;rw [AJ,h3,aao,aaI];simp
   ·show (get (putK _ _) (qt _ _ _ _) k).getD z=_;rw [CA h1,rD];by_cases e:k=x.1
    ·subst e;rw [aaP rfl,aaP rfl,h4];rfl
    ·rw [aaJ e,aaJ (λq=>e q.symm),h4]
 exact key _ xs rfl
theorem xE{op:α->β->α}{z:α}{xs ys:List (κ×β)}(nx:∀k∈xs.map (·.1),rR op z xs k≠z)(ny:∀k∈ys.map (·.1),rR op z ys k≠z):
  (∀k,get (fA op z xs).1 (fA op z xs).2 k=get (fA op z ys).1 (fA op z ys).2 k)↔∀k∈(xs++ys).map (·.1),rR op z xs k=rR op z ys k:=by
 obtain ⟨a1,a2,a3,a4⟩:=eG op z xs;obtain ⟨b1,b2,b3,b4⟩:=eG op z ys
 have some_of:∀{zs:List (κ×β)} {k:κ},(fA op z zs).2.length=(fA op z zs).1.length->(∀k,k∈(fA op z zs).1↔k∈zs.map (·.1))->(∀k,(get (fA op z zs).1 (fA op z zs).2 k).getD z=rR op z zs k)->
   (k∈zs.map (·.1)/\get (fA op z zs).1 (fA op z zs).2 k=some (rR op z zs k))\/(k∉zs.map (·.1)/\get (fA op z zs).1 (fA op z zs).2 k=none/\rR op z zs k=z):=λ{zs k} c1 c3 c4=>by
  have q:=c4 k;have p:=ck (k:=k) c1;rw [c3] at p;cases g:get (fA op z zs).1 (fA op z zs).2 k with
  | none=>rw [g] at p q;exact .inr ⟨λh=>by simpa using p.mpr h,rfl,q.symm⟩
  | some v=>rw [g] at p q;exact .inl ⟨p.mp rfl,by rw [<-q];rfl⟩
 constructor
 ·intro h k hk;rw [<-a4 k,<-b4 k,h k]
 ·intro h k;rcases some_of (k:=k) a1 a3 a4 with ⟨m1,g1⟩ | ⟨m1,g1,t1⟩ <;> rcases some_of (k:=k) b1 b3 b4 with ⟨m2,g2⟩ | ⟨m2,g2,t2⟩
  ·rw [g1,g2,h k (by rw [aao];exact aa1 _ m1)]
  ·have:=h k (by rw [aao];exact aa1 _ m1);rw [t2] at this;exact aaE this (nx k m1)
  ·have:=h k (by rw [aao];exact aau _ m2);rw [t1] at this;exact aaE this.symm (ny k m2)
  ·rw [g1,g2]
end
variable{s:Nat->Nat->Bool}
structure Cl(n:Nat)(c:Nat->Nat):Prop where
 le:∀i,i < n->c i<=i
 fx:∀i,i < n->c (c i)=c i
def fP(n:Nat)(c:Nat->Nat):List Nat:=(List.range n).filter λi=>decide (c i=i)
theorem iM{n i:Nat}{c:Nat->Nat}:i∈fP n c↔i < n/\c i=i:=by unfold fP;rw [abu,aaC];exact ⟨λh=>⟨h.1,aar h.2⟩,λh=>⟨h.1,aaq h.2⟩⟩
theorem uZ(n:Nat)(c:Nat->Nat):(fP n c).Nodup:=List.Nodup.sublist List.filter_sublist List.nodup_range
theorem BX(n:Nat)(c:Nat->Nat):(fP n c).length<=n:=by have:=abj (λi=>decide (c i=i)) (List.range n);rw [abn] at this;exact this
theorem HK{n:Nat}{c d:Nat->Nat}(hc:Cl n c)(hd:Cl n d)(r:∀i,i < n->c (d i)=c i){i:Nat}(hi:i < n)(ne:d i≠c i):(fP n c).length < (fP n d).length:=by
 have sub:∀j∈fP n c,j∈fP n d:=λj hj=>by obtain ⟨h1,h2⟩:=iM.mp hj;have a:=hd.le j h1;have b:=hc.le (d j) (by omega);rw [r j h1,h2] at b;exact iM.mpr ⟨h1,by omega⟩
 have QJ:d i < n:=aaH (hd.le i hi) hi;have m1:d i∈fP n d:=iM.mpr ⟨QJ,hd.fx i hi⟩;have m2:d i∉fP n c:=λh=>ne (by rw [<-r i hi,(iM.mp h).2]);exact jH (ks:=d i::fP n c) (abv.mpr ⟨m2,uZ n c⟩) λx hx=>(aaO.mp hx).elim (λe=>e▸m1) (sub x)
def least(s:Nat->Nat->Bool)(i:Nat):Nat:=((List.range i).find? λj=>s j i).getD i
theorem least_le(s:Nat->Nat->Bool)(i:Nat):least s i<=i:=by
 unfold least;cases h:(List.range i).find? λj=>s j i with
 | none=>exact aal _
 | some j=>exact Nat.le_of_lt (aaC.mp (List.mem_of_find?_eq_some h))
theorem gb{i:Nat}(rf:s i i=true):s (least s i) i=true:=by
 unfold least;cases h:(List.range i).find? λj=>s j i with
 | none=>exact rf
 | some j=>exact (List.find?_some (p:=λj=>s j i) h)
theorem nZ{i j:Nat}(h:s j i=true):least s i<=j:=by
 rcases abo j i with q | q
 ·unfold least;cases g:(List.range i).find? λj=>s j i with
  | none=>
   rw [List.find?_eq_none] at g;exact aaE h (g j (aaC.mpr q))
  | some k=>
   rw [List.find?_range_eq_some] at g;rcases abo j k with z | z
   ·have:=g.2.2 j z;rw [h] at this;cases this
   ·exact z
 ·exact aak (least_le s i) q
theorem sH{n:Nat}(rf:∀i,i < n->s i i=true)(tr:∀i j k,i < n->j < n->k < n->s i j=true->s j k=true->s i k=true):Cl n (least s) where
 le:=λi _=>least_le s i
 fx:=λi hi=>by have l:=least_le s i;have l2:=least_le s (least s i);have a:=gb (rf i hi);have b:=gb (rf (least s i) (by omega));have:=nZ (tr _ _ _ (by omega) (by omega) hi b a);omega
end N51
seal L2.JE L2.JT L2.JW L2.JA L2.JS L2.xM L2.JI L2.JK
local macro_rules | `(tactic| walk_at "vc")=>`(tactic| dsimp only [L2.gN,L2.JC,L2.rg,L2.Kp,L2.He,L2.C_,L2.O3,L2.F0,L2.xp,L2.DB,L2.zq,L2.u0,L2.gC,L2.Kt,L2.ee,L2.dC,L2.kL,L2.fj,L2.Cc,L2.Eo,L2.l_,L2.Hq,L2.OF,L2.JU,L2.Hf,L2.OV,L2.J5,L2.Oz,L2.jI,List.map_cons,List.map_nil,List.length_cons,List.length_nil,List.cons_append,List.nil_append,List.replicate,List.getElem?_cons_zero,List.getElem?_cons_succ,List.set_cons_zero,List.set_cons_succ,Nat.reduceSub,Nat.reduceAdd,Nat.zero_add])
namespace Pg
open PySem L2
variable{P:Program}{w:World}{mg:Str->Option Value}{f bO i4 aM bN:Addr}{fd bR iU aH bT:FuncData}{j i n k:Nat}{M:Ms}{d:Dt}{xs ds:List Dt}{b S t size:Int}{c c':Nat->Nat}{ns:List Int}{l:List Nat}{p:Nat->Bool}
def top(i:Nat):Stmt:=PySem.Challenge.pw_chanceduel_k51_places_parted.main.body.getD i (.Pass ⟨0,0,0,0⟩)
def cls(i j:Nat):Stmt:=match top i with
 | .ClassDef _ _ _ b _ _ _ _ _ _ _=>b.getD j (.Pass ⟨0,0,0,0⟩)
 | _=> .Pass ⟨0,0,0,0⟩
abbrev dh:Stmt:=top 7
abbrev jM:Stmt:=top 8
abbrev zW:Stmt:=top 9
abbrev lF:Stmt:=top 14
abbrev jP:Stmt:=top 15
abbrev d8:Stmt:=top 16
abbrev fh:Stmt:=top 17
abbrev h8:Stmt:=top 18
abbrev mJ:Stmt:=top 19
abbrev gU:Stmt:=top 20
abbrev ir:Stmt:=top 24
abbrev hG:Stmt:=top 27
abbrev d9:Stmt:=top 28
abbrev mT:Stmt:=top 29
abbrev eR:Stmt:=top 30
abbrev qy:Stmt:=top 31
abbrev pe:Stmt:=top 33
abbrev gW:Stmt:=top 34
abbrev lN:Stmt:=top 35
abbrev gT:Stmt:=top 36
abbrev pJ:Stmt:=top 37
abbrev cJ:Stmt:=top 38
abbrev lR:Stmt:=top 39
abbrev ic:Stmt:=top 40
abbrev jA:Stmt:=top 41
abbrev mj:Stmt:=top 42
abbrev hI:Stmt:=top 43
abbrev h7:Stmt:=top 44
abbrev lY:Stmt:=top 45
abbrev jF:Stmt:=top 46
abbrev mS:Stmt:=top 47
abbrev jx:Stmt:=top 48
abbrev jR:Stmt:=top 49
abbrev Gq:Stmt:=top 50
abbrev ix:Stmt:=cls 25 0
abbrev hW:Stmt:=cls 25 1
abbrev hV:Stmt:=cls 25 3
abbrev fR:Stmt:=cls 25 4
abbrev jK:Stmt:=cls 25 5
open PySem L2 Fr0 Tx
structure Ev(K:fv)(mg:Str->Option Value)(Cm:Addr):Prop where
 bb:mg "len"=none
 mq:mg "abs"=none
 bj:mg "isinstance"=none
 vq:mg "int"=none
 qH:mg "bool"=none
 zo:mg "str"=none
 oZ:mg "tuple"=none
 df:mg "list"=none
 ax:mg "range"=none
 dR:mg "enumerate"=none
 vS:mg "any"=none
 sG:mg "all"=none
 qY:mg "sum"=none
 Ac:mg "zip"=none
 ib:PySem.W.kitOne K (.type "int") (.type "bool")=some false
 R5:PySem.W.kitOne K (.type "int") (.type "str")=some false
 Ql:PySem.W.kitOne K (.type "tuple") (.type "str")=some false
 Sy:PySem.W.kitOne K (.type "tuple") (.type "int")=some false
 R4:PySem.W.kitOne K (.type "list") (.type "str")=some false
 SH:PySem.W.kitOne K (.type "list") (.type "int")=some false
 Pa:PySem.W.kitOne K (.type "tuple") (.type "list")=some false
 klt:PySem.W.kitOne K (.type "list") (.type "tuple")=some false
 c8:vQ K Cm
 bC:d7 K Cm "kept_rows"
 gO:d7 K Cm "kept_share"
 zp:∃a o its n,mg "HANDS"=some (.ref a)/\K.lookup a=some o/\o.cls= .type "tuple"/\o.data= .seq its n/\its.size<=sizeLine/\Paired (λ(z:Str) (u:Value)=>∃tk,u= .str z tk) ["one","other"] its.toList
 kj:∃tk,mg "MOST_DOORS"=some (.int 6 tk)
 eT:∃tk,mg "MOST_BOTTOM"=some (.int 1000000 tk)
 iH:∃tk,mg "MOST_PLACES"=some (.int 12 tk)
 de:∃tk,mg "MOST_SHARE_BOTTOM"=some (.int 1000 tk)
theorem uE{K:fv}{T:String}:PySem.W.kitOne K (.type T) (.type T)=some true:=by unfold PySem.W.kitOne;rw [aaP (beq_self_eq_true _)]
section
variable{K:fv}{base:Heap}{Cm:Addr}
def A6:DF:=λds M q _=>match ds with
 | [.int a, .int b]=>q (.int (g a b)) M
 | _=>False
theorem aO:χ ["one","other","great","small","rest"] ["one","other"] (ο dh):= .of rfl
theorem j4(F:cY K "common_divisor" "common_divisor" dh f fd)(E:Ev K mg Cm):ao P w K mg base (cq P w) 1 f fd ["one","other"] (cQ K A6):=by
 refine F.fi aO (λds M q x h=> ?_) (λbq A outer s H E' hr=>⟨_,(ζ (π 2 aO.nd (wd E.mq (Ο (jv 0) ε)))
   (ζ (π 3 aO.nd (wd E.mq (Ο (jv 1) ε)))
   (ζ (mN (sV hr (jv 3) ι) (ζ (π 4 aO.nd (ar (jv 2) (jv 3)))
   (ζ (π 2 aO.nd (jv 3))
   (θ (π 3 aO.nd (jv 4))))))
   (θ (υ (jv 2)))))),λds M q x h=> ?_⟩)
 ·unfold A6 at h;split at h; · rfl
  ·exact h.elim
 ·unfold A6 at h;split at h
  ·rename_i a b;refine ⟨λm ρ M'=>M'=M/\∃(x y:Int) (r:Option Dt),ρ=[some (.int a),some (.int b),some (.int x),some (.int y),r]/\0<=x/\0<=y/\g x y=g a b/\m=y.toNat,⟨_,rfl,_,_,_,rfl,by split <;> omega,by split <;> omega,CY a b,rfl⟩, ?_⟩;rintro m ρ M' ⟨rfl,x,y,r,rfl,hx,hy,e,rfl⟩;refine ⟨λhb=> ?_,λhb=> ?_⟩
   ·have CI:y≠0:=by simpa using hb
    refine ⟨_,λρ' M2 h2=>h2, ?_⟩;refine ⟨by omega,(x % y).toNat, ?_,rfl,y,x % y,_,rfl,hy,aaB _ CI, ?_,rfl⟩
    ·have:=aaA x (show 0 < y by omega);have:=aaB x CI;omega
    ·rw [<-abf x hy,yU (by omega)];exact e
   ·have CI:y=0:=by simpa using hb
    subst CI;rw [yH hx] at e;subst e;exact h
  ·exact h.elim
theorem wG{i j:Int}(h:fc j)(l:i.natAbs<=j.natAbs):fc i:=aaH l h
def vW:DF:=λds M q _=>match ds with
 | [.int t, .int b]=>fc b/\(b=0->False)/\(b≠0->q (.tup [.int (ag t b).1, .int (ag t b).2]) M)
 | _=>False
theorem iq:χ ["top","bottom","divisor"] ["top","bottom"] (ο jM):= .of rfl
theorem rQ(F:cY K "fraction" "fraction" jM f fd)(E:Ev K mg Cm){dt:Addr}{dj:FuncData}(aP:aD P w K mg base 1 "common_divisor" ["one","other"] A6 dt dj):ao P w K mg base (cq P w) 2 f fd ["top","bottom"] (cQ K vW):=by
 refine F.fi iq (λds M q x h=> ?_) (λbq A outer s H E' hr=>⟨_,(ζ (aj (bF hr (jv 1) ι) (θ iT) Ζ)
   (ζ (π 2 iq.nd (Ω aP hr ξ (Ο (jv 0) (Ο (jv 1) ε))))
   (ζ (eY (aj (oz (jv 1) ι) (θ (π 2 iq.nd (rY (jv 2)))) Ζ))
   (θ (υ (aA (η (Al (jv 0) (jv 2)) (η (Al (jv 1) (jv 2)) ε aF) aF))))))),λds M q x h=> ?_⟩)
 ·unfold vW at h;split at h; · rfl
  ·exact h.elim
 ·unfold vW at h;split at h
  ·rename_i t b;obtain ⟨hB,h0,h1⟩:=h;refine ⟨λhb=> ?_,λhb=> ?_⟩
   ·exact h0 (by simpa using hb)
   ·have DH:b≠0:=by simpa using hb
    refine ⟨λρ M'=>M'=M/\ρ=[some (.int t),some (.int b),some (.int (dv t b))],⟨λhn=> ?_,λhn=> ?_⟩, ?_⟩
    ·have E6:b < 0:=by simpa using hn
     exact ⟨rfl,by unfold dv;rw [if_pos E6];rfl⟩
    ·have E6:¬b < 0:=by simpa using hn
     exact ⟨rfl,by unfold dv;rw [if_neg E6];rfl⟩
    ·rintro ρ M' ⟨rfl,rfl⟩;have hd:=vD (t:=t) DH;have O1:fc (dv t b):=wG hB (pH DH);exact ⟨⟨hd,O1⟩,⟨hd,O1⟩,fI,h1 DH⟩
  ·exact h.elim
abbrev Fr:=Int×Int
def ah(p:Fr):Dt:= .tup [.int p.1, .int p.2]
def bt(p:Fr):Bool:=decide ((if p.1 < 0 then -p.1 else p.1)<=10 ^ 30)&&decide (p.2<=1000000)
def l7:DF:=λds M q _=>∃p,ds=[ah p]/\q (.bl (bt p)) M
theorem xW:χ ["pay"] ["pay"] (ο lF):= .of rfl
theorem tY(F:cY K "fits_pay" "fits_pay" lF f fd)(E:Ev K mg Cm):ao P w K mg base (cq P w) 1 f fd ["pay"] (cQ K l7):=by
 refine F.fi xW (λds M q x h=> ?_) (λbq A outer s H E' hr=>⟨_,(θ (υ (d_ (uq (wd E.mq (η (ω (jv 0) ι) ε aI)) (eu ι ι)) (eU (uq (ω (jv 0) ι) (mM E.eT)))))),λds M q x h=> ?_⟩)
 ·obtain ⟨p,rfl,_⟩:=h;rfl
 ·obtain ⟨p,rfl,h⟩:=h;refine ⟨⟨by decide,by decide,by decide⟩,λh1=> ?_,λh1=> ?_⟩
  ·have e:bt p=decide (p.2<=1000000):=by unfold bt;rw [show decide ((if p.1 < 0 then -p.1 else p.1)<=10 ^ 30)=true from h1];rfl
   rw [e] at h;exact h
  ·have e:bt p=false:=by unfold bt;rw [show decide ((if p.1 < 0 then -p.1 else p.1)<=10 ^ 30)=false from h1];rfl
   rw [e] at h;exact h
theorem k8{ok:Ms->Prop}(h:iz M d=some (xs,ok)):ok M:=by
 cases d with
 | lst ds=>cases h;trivial
 | cE ns=>cases h;trivial
 | loc k=>
  have h:(match M[k]? with | some (.lst xs)=>some (xs,λM':Ms=>M'[k]? =some (.lst xs)) | _=>none)=some (xs,ok):=h;split at h
  ·rename_i ys hm;cases h;exact hm
  ·cases h
 | _=>cases h
theorem se{ok:Ms->Prop}(h:iz M d=some (xs,ok)):kv M d=some (xs,ok):=by
 cases d with
 | lst ds=>cases h;rfl
 | cE ns=>cases h;rfl
 | loc k=>exact h
 | _=>cases h
theorem aZ{ρ:En}{ok:Ms->Prop}{q:List Dt->(Ms->Prop)->Ms->Prop}{x:DX}(hv:ρ[i]? =some (some d))(hl:iz M d=some (xs,ok))(h:q xs ok M):cN (ee i) ρ M q x:=by unfold cN ee;rw [hv];show (match kv M d with | some (xs,ok)=>q xs ok M | none=>False);rw [se hl];exact h
theorem bg{n:Int}(h:n.natAbs < 2 ^ k)(hk:k<=8000:=by decide):fc n:=aaz h (Nat.pow_le_pow_right (by decide) hk)
def Φ(t:Int)(p:Fr)(size:Int):Bool:=decide (0<=t)&&(decide (t < size)&&bt p)
def nP:DF:=λds M q _=>∃t p r size,ds=[.tup (.int t::ah p::r), .int size]/\q (.bl (Φ t p size)) M
theorem uO:χ ["door","size"] ["door","size"] (ο jP):= .of rfl
theorem rE(F:cY K "fits_door" "fits_door" jP f fd)(E:Ev K mg Cm){mh:Addr}{mP:FuncData}(cZ:aD P w K mg base 1 "fits_pay" ["pay"] l7 mh mP):ao P w K mg base (cq P w) 2 f fd ["door","size"] (cQ K nP):=by
 refine F.fi uO (λds M q x h=> ?_) (λbq A outer s H E' hr=>⟨_,(θ (υ (d_ (uq ι (ω (jv 0) ι)) (d_ (BE (ω (jv 0) ι) (jv 1)) (eU (Ω cZ hr ξ (η (ω (jv 0) ι) ε aI))))))),λds M q x h=> ?_⟩)
 ·obtain ⟨t,p,r,size,rfl,_⟩:=h;rfl
 ·obtain ⟨t,p,r,size,rfl,h⟩:=h;walk_at "vc";refine τ rfl az ?_;refine ⟨λh1=> ?_,λh1=> ?_⟩
  ·refine τ rfl az ⟨λh2=> ?_,λh2=> ?_⟩
   ·refine τ rfl (Η (j:=1) rfl) ⟨p,rfl, ?_⟩;have e:Φ t p size=bt p:=by unfold Φ;rw [h1,h2];rfl
    rw [<-e];exact h
   ·have e:Φ t p size=false:=by unfold Φ;rw [h1,h2];rfl
    rw [<-e];exact h
  ·have e:Φ t p size=false:=by unfold Φ;rw [h1];rfl
   rw [<-e];exact h
abbrev eL:=Int×Fr×List Fr
def ba(d:eL):Dt:= .tup (.int d.1::ah d.2.1::d.2.2.map ah)
def Β(ds:List eL)(size:Int):Bool:=decide (1<=ds.length)&&decide (ds.length<=6)&&ds.all λd=>Φ d.1 d.2.1 size
def lO:DF:=λas M q _=>∃d size ds ok,as=[d, .int size]/\iz M d=some (ds.map ba,ok)/\ds.length<=100/\q (.bl (Β ds size)) M
theorem kf:χ ["doors","size"] ["doors","size"] (ο h8):= .of rfl
theorem qN(F:cY K "fits_doors" "fits_doors" h8 f fd)(E:Ev K mg Cm){xo:Addr}{xl:FuncData}(gX:aD P w K mg base 2 "fits_door" ["door","size"] nP xo xl):ao P w K mg base (cq P w) 3 f fd ["doors","size"] (cQ K lO):=by
 refine F.fi kf (λds M q x h=> ?_) (λbq A outer s H E' hr=>⟨_,(ζ (aj (JW.jt (sg (oz (bB E.bb (Ο (jv 0) ε)) ι) (lL (DW (bB E.bb (Ο (jv 0) ε)) (mM E.kj))))) (θ (υ wU)) Ζ)
   (θ (υ (Dy E.sG (η (eZ (ys:=["size"]) (Θ:=[1]) (.of kf rfl rfl rfl) (bz (jv 0)) (λC s H fp=>(Ω gX hr (cT (P:=P) (w:=w)) (Ο (jv 0) (Ο (jv 1) ε))))) ε))))),λds M q x h=> ?_⟩)
 ·obtain ⟨d,size,ds,ok,rfl,_⟩:=h;rfl
 ·obtain ⟨d,size,ds,ok,rfl,hl,hz,h⟩:=h;have hs:=jk hl;walk_at "vc";refine Ρ hs ⟨λh1=> ?_,λh1=> ?_⟩
  ·refine ⟨λ_=> ?_,λz=>(nomatch z)⟩;have e:Β ds size=false:=by
    have:(ds.length:Int) < 1:=by simpa using h1
    unfold Β;rw [aaF (by omega)];rfl
   rw [<-e];exact h
  ·have h1:¬(ds.length:Int) < 1:=by simpa using h1
   refine Ρ hs ⟨λh2=> ?_,λh2=> ?_⟩
   ·have e:Β ds size=false:=by
     have:6 < (ds.length:Int):=by simpa using h2
     unfold Β;rw [aaF (p:=ds.length<=6) (by omega),Bool.and_false];rfl
    rw [<-e];exact h
   ·have h2:¬6 < (ds.length:Int):=by simpa using h2
    refine aZ rfl hl ⟨by rw [aab];exact aak hz (by decide), ?_⟩;refine bX (f:=λd=> .bl (match d with | .tup (.int t:: .tup [.int a, .int b]::_)=>Φ t (a,b) size | _=>false)) (k8 hl) (λx hx q hq=> ?_) ?_
    ·obtain ⟨y,_,rfl⟩:=aan.mp hx;exact ⟨y.1,y.2.1,y.2.2.map ah,size,rfl,hq⟩
    ·refine ⟨ds.map λd=>Φ d.1 d.2.1 size, ?_, ?_⟩
     ·rw [aaK,aaU,aaK];rfl
     ·have e:Β ds size=(ds.map λd=>Φ d.1 d.2.1 size).all id:=by unfold Β;rw [aaq (show 1<=ds.length by omega),aaq (show ds.length<=6 by omega),List.all_map];rfl
      rw [<-e];exact h
def iI(cs:List Fr):Int:=cs.foldl (λb c=>b * c.2 / g b c.2) 1
theorem jg{c:Int}(hb:0 < b)(hc:0 < c):0 < b * c / g b c/\b * c / g b c<=b * c/\0 < g b c/\g b c<=c:=by
 have hg:0 < g b c:=sF (by omega);have SF:0 < b * c:=Int.mul_pos hb hc;have hd:g b c∣c:=Int.gcd_dvd_right ..;have hle:g b c<=c:=Int.le_of_dvd hc hd;have h1:c<=b * c:=by have:=Int.mul_le_mul_of_nonneg_right (show 1<=b by omega) (show 0<=c by omega);simpa using this
 refine ⟨Int.ediv_pos_of_pos_of_dvd SF (by omega) (Int.dvd_mul_of_dvd_right hd), ?_,hg,hle⟩;exact Int.ediv_le_self _ (by omega)
def Jl(cs:List Fr):Prop:=cs.length<=12/\∀c∈cs,0 < c.2/\c.2 < 2 ^ 200/\c.1.natAbs < 2 ^ 200
def RT(cs:List Fr):Prop:=cs.length<=13/\∀c∈cs,0 < c.2/\c.2 < 2 ^ 200
theorem jU:∀(cs:List Fr) (b:Int) (k:Nat),0 < b->b<=2 ^ (200 * k)->(∀c∈cs,0 < c.2/\c.2 < 2 ^ 200)->0 < cs.foldl (λb c=>b * c.2 / g b c.2) b/\cs.foldl (λb c=>b * c.2 / g b c.2) b<=2 ^ (200 * (k+cs.length))
 | [],b,k,h0,h1,_=>⟨h0,h1⟩
 | c::cs,b,k,h0,h1,hc=>by
  obtain ⟨c0,c1⟩:=hc c aam;obtain ⟨s0,s1,_⟩:=jg h0 c0;have Be:b * c.2 / g b c.2<=2 ^ (200 * (k+1)):=by refine Int.le_trans s1 ?_;rw [show 200 * (k+1)=200 * k+200 by omega,Int.pow_add];exact Int.mul_le_mul h1 (aaN c1) (aaN c0) (aaN (Int.pow_pos (by decide)))
  have:=jU cs _ (k+1) s0 Be λd hd=>hc d (aah _ hd);rw [List.foldl_cons,aaD,show k+(cs.length+1)=k+1+cs.length by omega];exact this
theorem HE{n:Int}(h0:0<=n)(h:n<=2 ^ k)(hk:k < 8000):fc n:=by
 refine bg (k:=k+1) ?_ hk;have:(n.natAbs:Int) < ((2 ^ (k+1):Nat):Int):=by rw [abB h0,Int.natCast_pow,Int.pow_succ];have:(0:Int) < 2 ^ k:=Int.pow_pos (by decide);show n < 2 ^ k * 2;omega
 exact Int.ofNat_lt.mp this
theorem gL:∀(cs:List Fr) (b:Int),0 < b->(∀c∈cs,0 < c.2)->0 < cs.foldl (λb c=>b * c.2 / g b c.2) b
 | [],_,h0,_=>h0
 | c::cs,b,h0,hc=>gL cs _ (jg h0 (hc c aam)).1 λd hd=>hc d (aah _ hd)
theorem yx{n:Int}(h0:0<=n)(h:n < 2 ^ k)(hk:k<=8000):fc n:=by
 refine bg (k:=k) ?_ hk;have:(n.natAbs:Int) < ((2 ^ k:Nat):Int):=by rw [abB h0,Int.natCast_pow];exact h
 exact Int.ofNat_lt.mp this
def gJ:DF:=λds M q _=>∃cs:List Fr,ds=[.lst (cs.map ah)]/\RT cs/\q (.int (iI cs)) M
theorem b9:χ ["chances","bottom","chance"] ["chances"] (ο d8):= .of rfl
theorem kM(F:cY K "common_bottom" "common_bottom" d8 f fd)(E:Ev K mg Cm){dt:Addr}{dj:FuncData}(aP:aD P w K mg base 1 "common_divisor" ["one","other"] A6 dt dj):ao P w K mg base (cq P w) 2 f fd ["chances"] (cQ K gJ):=by
 refine F.fi b9 (λds M q x h=> ?_) (λbq A outer s H E' hr=>⟨_,(ζ (π 1 b9.nd ι)
   (ζ (gy (bz (jv 0)) (Χ (i:=2) b9.nd rfl (Or.inl rfl)) aC (θ (π 1 b9.nd (bG (aQ (jv 1) (ω (jv 2) ι)) (Ω aP hr ξ (Ο (jv 1) (η (ω (jv 2) ι) ε aI)))))))
   (θ (υ (jv 1))))),λds M q x h=> ?_⟩)
 ·obtain ⟨cs,rfl,_⟩:=h;rfl
 ·obtain ⟨cs,rfl,⟨hz,hc⟩,h⟩:=h;walk_at "vc";refine aZ (i:=0) rfl rfl ?_;refine dz (λxs ρ M'=>M'=M/\∃zU Δ r,cs=zU++Δ/\xs=Δ.map ah/\ρ=[some (.lst (cs.map ah)),some (.int (iI zU)),r]) (λ_ _ _ _=>trivial) (λx xs ρ M' hj mX=> ?_) (λρ M' hj=> ?_) _ _ _ ⟨rfl,[],cs,none,rfl,rfl,rfl⟩
  ·obtain ⟨rfl,zU,Δ,r,e,ex,rfl⟩:=hj;cases Δ with
   | nil=>cases ex
   | cons c Δ=>
    cases ex;have hd:∀d∈zU,0 < d.2/\d.2 < 2 ^ 200:=λd hd=>by obtain ⟨a,b⟩:=hc d (by rw [e];exact aa1 _ hd);exact ⟨a,b⟩
    obtain ⟨c0,c1⟩:=hc c (by rw [e];exact aau _ aam);obtain ⟨b0,b1⟩:=jU zU 1 0 (by decide) (by decide) hd;have hl:zU.length<=13:=by have:=aaX List.length e;rw [aae] at this;omega
    obtain ⟨s0,s1,g0,g1⟩:=jg b0 c0;refine ⟨⟨HE (aaN b0) b1 (by omega),yx (aaN c0) c1 (by decide)⟩,⟨g0,yx (aaN g0) (Int.lt_of_le_of_lt g1 c1) (by decide)⟩, ?_⟩;refine mX _ _ ⟨rfl,zU++[c],Δ,some (ah c),by rw [e];simp,rfl, ?_⟩;have e2:iI (zU++[c])=iI zU * c.2 / g (iI zU) c.2:=by unfold iI;rw [List.foldl_append];rfl
    rw [e2];rfl
  ·obtain ⟨rfl,zU,Δ,r,e,ex,rfl⟩:=hj;cases Δ with
   | nil=>rw [aaY] at e;subst e;exact h
   | cons c Δ=>cases ex
def Ι(cs:List Fr):Bool:= !(cs.any λc=>decide (c.1<=0))&&(decide ((cs.map λc=>c.1 * (iI cs / c.2)).sum=iI cs)&&decide (iI cs<=1000000))
def iR:DF:=λds M q _=>∃cs:List Fr,ds=[.lst (cs.map ah)]/\Jl cs/\q (.bl (Ι cs)) M
theorem bK:χ ["chances","bottom","whole"] ["chances"] (ο fh):= .of rfl
theorem lQ(F:cY K "fits_chances" "fits_chances" fh f fd)(E:Ev K mg Cm){nq:Addr}{mZ:FuncData}(dm:aD P w K mg base 2 "common_bottom" ["chances"] gJ nq mZ):ao P w K mg base (cq P w) 3 f fd ["chances"] (cQ K iR):=by
 refine F.fi bK (λds M q x h=> ?_) (λbq A outer s H E' hr=>⟨_,(ζ (aj (cL (HA E.vS (η (eZ (ys:=[]) (Θ:=[]) (.of bK rfl rfl rfl) (bz (jv 0)) (λC s H fp=>(uq (ω (jv 0) ι) ι))) ε))) (θ (υ wU)) Ζ)
   (ζ (π 1 bK.nd (Ω dm hr ξ (Ο (jv 0) ε)))
   (ζ (π 2 bK.nd (Di E.qY (η (eZ (ys:=["bottom"]) (Θ:=[1]) (.of bK rfl rfl rfl) (bz (jv 0)) (λC s H fp=>(aQ (ω (jv 0) ι) (bG (jv 1) (ω (jv 0) ι))))) ε)))
   (θ (υ (d_ (Hg hr (jv 2) (jv 1)) (eU (uq (jv 1) (mM E.eT))))))))),λds M q x h=> ?_⟩)
 ·obtain ⟨cs,rfl,_⟩:=h;rfl
 ·obtain ⟨cs,rfl,Nf,h⟩:=h;obtain ⟨hz,hc⟩:=id Nf;have KQ:(cs.map ah).length<=sizeLine:=by rw [aab];exact aak hz (by decide)
  obtain ⟨b0,b1⟩:=jU cs 1 0 (by decide) (by decide) λc h=>⟨(hc c h).1,(hc c h).2.1⟩;walk_at "vc";refine aZ (i:=0) rfl rfl ⟨KQ, ?_⟩;refine bX (f:=λd=> .bl (match d with | .tup [.int a, .int b]=>decide (a<=0) | _=>false)) trivial (λx hx q hq=> ?_) ?_
  ·obtain ⟨y,_,rfl⟩:=aan.mp hx;exact hq
  ·refine ⟨cs.map λc=>decide (c.1<=0),by rw [aaK,aaU,aaK];rfl,λ_ z=>(nomatch z),λ_ z=>(nomatch z), ?_⟩;have ea:(cs.map λc=>decide (c.1<=0)).any id=cs.any λc=>decide (c.1<=0):=by rw [List.any_map];rfl
   rw [ea];refine ⟨λh1=> ?_,λh1=> ?_⟩
   ·have e:Ι cs=false:=by unfold Ι;rw [h1];rfl
    rw [<-e];exact h
   ·refine ⟨cs,rfl,⟨by omega,λc h=>⟨(hc c h).1,(hc c h).2.1⟩⟩, ?_⟩;walk_at "vc";refine aZ (i:=0) rfl rfl ⟨KQ, ?_⟩;refine bX (f:=λd=> .int (match d with | .tup [.int a, .int b]=>a * (iI cs / b) | _=>0)) trivial (λx hx q hq=> ?_) ?_
    ·obtain ⟨y,hy,rfl⟩:=aan.mp hx;obtain ⟨y0,y1,y2⟩:=hc y hy;refine ⟨⟨y0,yx (aaN y0) y1 (by decide)⟩,⟨bg y2, ?_⟩,hq⟩;refine HE (k:=200 * (0+cs.length)) (Int.ediv_nonneg (aaN b0) (aaN y0)) (Int.le_trans (Int.ediv_le_self _ (aaN b0)) b1) (by omega)
    ·refine ⟨cs.map λc=>c.1 * (iI cs / c.2),by rw [aaK,aaU,aaK];rfl,⟨_,_,rfl⟩, ?_⟩;refine ⟨λh2=> ?_,λh2=> ?_⟩
     ·have e:Ι cs=decide (iI cs<=1000000):=by unfold Ι;rw [h1,h2];rfl
      rw [e] at h;exact h
     ·have e:Ι cs=false:=by unfold Ι;rw [h1,h2];rfl
      rw [<-e];exact h
inductive Rw where
 | fin (p:Fr)
 | ν (k:Str) (ds:List eL)
def μ(d:eL):Fr:=d.2.2.headD (0,1)
def bJ:Rw->Prop
 | .fin p=>0 < p.2
 | .ν k ds=>k≠"end"/\ds.length<=12/\(k="chance"->(∀d∈ds,d.2.2=[μ d])/\Jl (ds.map μ))/\∀d∈ds,d.2.2.length<=1/\0 < d.2.1.2
def gf(M:Ms)(d:Dt):Rw->Prop
 | .fin p=>d= .tup [.str "end",ah p]
 | .ν k ds=>∃e ok,d= .tup [.str k,e]/\iz M e=some (ds.map ba,ok)
def Λ:Rw->Dt
 | .fin p=> .tup [.str "end",ah p]
 | .ν k ds=> .tup [.str k, .lst (ds.map ba)]
theorem BL(M:Ms)(r:Rw):gf M (Λ r) r:=by
 cases r with
 | fin p=>rfl
 | ν k ds=>exact ⟨_,_,rfl,rfl⟩
theorem oX(p:Fr):(ah p).under n:=⟨trivial,trivial,trivial⟩
theorem wA{n:Nat}:∀(ps:List Fr),Dt.aL n (ps.map ah)
 | []=>trivial
 | p::ps=>⟨oX p,wA ps⟩
theorem Ei(d:eL):(ba d).under n:=⟨trivial,oX _,wA _⟩
theorem dJ{n:Nat}:∀(ds:List eL),Dt.aL n (ds.map ba)
 | []=>trivial
 | d::ds=>⟨Ei d,dJ ds⟩
theorem ve(r:Rw):(Λ r).under n:=by
 cases r with
 | fin p=>exact ⟨trivial,oX p,trivial⟩
 | ν k ds=>exact ⟨trivial,dJ ds,trivial⟩
def bA(k:Str):Bool:=k=="one" || k=="other"
def dI(r:Rw)(size:Int):Bool:=match r with
 | .fin p=>bt p
 | .ν k ds=>if bA k then Β ds size else if k="chance" then Β ds size&&Ι (ds.map μ) else false
theorem Aj{j:Int}{ρ:En}{ok:Ms->Prop}{q:List Dt->(Ms->Prop)->Ms->Prop}{x:DX}(hv:ρ[i]? =some (some (.tup ds)))(hj:fF ds j=some d)(hl:iz M d=some (xs,ok))(h:q xs ok M):cN (gC dF (ee i) (dC (.int j))) ρ M q x:=by unfold cN gC ee;rw [hv];show dF (.tup ds) (.int j) M (λd M1=>match kv M1 d with | some (xs,ok)=>q xs ok M1 | none=>False);refine τ rfl hj ?_;show (match kv M d with | some (xs,ok)=>q xs ok M | none=>False);rw [se hl];exact h
theorem Ax{k:Str}:Kh (.str k) [.str "one", .str "other"]=bA k:=by show ((("one":Str)==k) || ((("other":Str)==k) || false))=(k=="one" || k=="other");rw [Bool.or_false,BEq.comm (a:=("one":Str)),BEq.comm (a:=("other":Str))]
def qX:DF:=λas M q _=>∃d r size,as=[d, .int size]/\gf M d r/\bJ r/\q (.bl (dI r size)) M
theorem jV:χ ["row","size","kind"] ["row","size"] (ο mJ):= .of rfl
theorem uT   (F:cY K "fits_row" "fits_row" mJ f fd) (E:Ev K mg Cm) {mh:Addr} {mP:FuncData} (cZ:aD P w K mg base 1 "fits_pay" ["pay"] l7 mh mP) {ua:Addr} {tU:FuncData} (dM:aD P w K mg base 3 "fits_doors" ["doors","size"] lO ua tU) {qP:Addr} {oW:FuncData} (d4:aD P w K mg base 3 "fits_chances" ["chances"] iR qP oW):ao P w K mg base (cq P w) 4 f fd ["row","size"] (cQ K qX):=by
 refine F.fi jV (λds M q x h=> ?_) (λbq A outer s H E' hr=>⟨_,(ζ (π 2 jV.nd (ω (jv 0) ι))
   (ζ (aj (bF hr (jv 2) gH) (θ (υ (Ω cZ hr ξ (η (ω (jv 0) ι) ε aI)))) Ζ)
   (ζ (aj (D7 (jv 2) (J8 E.zp)) (θ (υ (Ω dM hr ξ (η (ω (jv 0) ι) (Ο (jv 1) ε) aI)))) Ζ)
   (ζ (aj (bF hr (jv 2) gH) (θ (υ (d_ (Ω dM hr ξ (η (ω (jv 0) ι) (Ο (jv 1) ε) aI)) (eU (Ω d4 hr ξ (η (eZ (ys:=[]) (Θ:=[]) (.of jV rfl rfl rfl) (bz (ω (jv 0) ι)) (λC s H fp=>(ω (jv 0) ι))) ε)))))) Ζ)
   (θ (υ wU)))))),λds M q x h=> ?_⟩)
 ·obtain ⟨d,r,size,rfl,_⟩:=h;rfl
 ·obtain ⟨d,r,size,rfl,ra,ro,h⟩:=h;cases r with
  | fin p=>
   have ra:d= .tup [.str "end",ah p]:=ra;subst ra;exact ⟨λ_=>⟨p,rfl,h⟩,λz=>(nomatch z)⟩
  | ν k ds=>
   obtain ⟨e,ok,rfl,hl⟩:=ra;obtain ⟨hk,hz,vv,_⟩:=ro;refine ⟨λz=>aaE (aar z) hk,λ_=> ?_⟩;refine ⟨.str k,[.str "one", .str "other"],[.str "one", .str "other"],rfl,rfl,rfl, ?_⟩;rw [Ax];refine ⟨λh1=> ?_,λh1=> ?_⟩
   ·refine ⟨e,size,ds,ok,rfl,hl,by omega, ?_⟩;have e1:dI (.ν k ds) size=Β ds size:=by show (if bA k then _ else _)=_;rw [aaP h1]
    rw [<-e1];exact h
   ·have e1:dI (.ν k ds) size=if k="chance" then Β ds size&&Ι (ds.map μ) else false:=by show (if bA k then _ else _)=_;rw [aaJ (by rw [h1];decide)]
    rw [e1] at h;refine ⟨λh2=> ?_,λh2=> ?_⟩
    ·have h2:k="chance":=aar h2;rw [aaP h2] at h;obtain ⟨IY,Nf⟩:=vv h2;refine ⟨e,size,ds,ok,rfl,hl,by omega,λh3=> ?_,λh3=> ?_⟩
     ·rw [h3,abx] at h;show cN _ _ _ _ _;refine Aj (i:=0) (j:=1) (ds:=[.str k,e]) rfl (Η (j:=1) rfl) hl ⟨by rw [aab];exact aak hz (by decide), ?_⟩;refine bX (f:=λd=>match d with | .tup [_,_,c]=>c | _=> .aW) (k8 hl) (λx hx q hq=> ?_) ?_
      ·obtain ⟨y,hy,rfl⟩:=aan.mp hx;have ey:ba y= .tup [.int y.1,ah y.2.1,ah (μ y)]:=by unfold ba;rw [IY y hy];rfl
       rw [ey] at hq⊢;exact hq
      ·refine ⟨ds.map μ, ?_,Nf,h⟩;rw [aaU,aaK,aaK];have:∀y∈ds,((λd=>match d with | Dt.tup [_,_,c]=>c | _=>Dt.aW) ∘ ba) y=(ah ∘ μ) y:=λy hy=>by
        have ey:ba y= .tup [.int y.1,ah y.2.1,ah (μ y)]:=by unfold ba;rw [IY y hy];rfl
        show (match ba y with | Dt.tup [_,_,c]=>c | _=>Dt.aW)=ah (μ y);rw [ey]
       rw [aa0 this]
     ·rw [h3,Bool.false_and] at h;exact h
    ·have h2:k≠"chance":=abt h2;rw [aaJ h2] at h;exact h
def ma:DF:=λas M q _=>∃d r,as=[d]/\gf M d r/\bJ r/\match r with
 | .fin p=>q (.tup [.str "end",ah p]) M
 | .ν k ds=>q (.tup [.str k, .loc M.length]) (M++[.lst (ds.map ba)])
theorem rT:χ ["row"] ["row"] (ο gU):= .of rfl
theorem pR(F:cY K "copied_row" "copied_row" gU f fd)(E:Ev K mg Cm):ao P w K mg base (cq P w) 1 f fd ["row"] (cQ K ma):=by
 refine F.fi rT (λds M q x h=> ?_) (λbq A outer s H E' hr=>⟨_,(ζ (aj (bF hr (ω (jv 0) ι) gH) (θ (υ (aA (η (ω (jv 0) ι) (η (ω (jv 0) ι) ε aI) aI)))) Ζ)
   (θ (υ (aA (η (ω (jv 0) ι) (η (my E.df (η (ω (jv 0) ι) ε aI)) ε bc) aI))))),λds M q x h=> ?_⟩)
 ·obtain ⟨d,r,rfl,_⟩:=h;rfl
 ·obtain ⟨d,r,rfl,ra,ro,h⟩:=h;cases r with
  | fin p=>
   have ra:d= .tup [.str "end",ah p]:=ra;subst ra;exact ⟨λ_=>⟨fI,h⟩,λz=>(nomatch z)⟩
  | ν k ds=>
   obtain ⟨e,ok,rfl,hl⟩:=ra;refine ⟨λz=>aaE (aar z) ro.1,λ_=> ?_⟩;show (match eW M e with | some xs=>_ | none=>False);rw [jk hl];exact ⟨fI,h⟩
def eF(p:Fr):Bool:=decide (0<=p.1)&&(decide (p.1 < p.2)&&decide (p.2<=1000))
def lI:DF:=λas M q _=>∃p,as=[ah p]/\q (.bl (eF p)) M
theorem sx:χ ["share"] ["share"] (ο ir):= .of rfl
theorem qj(F:cY K "fits_share" "fits_share" ir f fd)(E:Ev K mg Cm):ao P w K mg base (cq P w) 1 f fd ["share"] (cQ K lI):=by
 refine F.fi sx (λds M q x h=> ?_) (λbq A outer s H E' hr=>⟨_,(θ (υ (d_ (uq ι (ω (jv 0) ι)) (d_ (BE (ω (jv 0) ι) (ω (jv 0) ι)) (eU (uq (ω (jv 0) ι) (mM E.de))))))),λds M q x h=> ?_⟩)
 ·obtain ⟨p,rfl,_⟩:=h;rfl
 ·obtain ⟨p,rfl,h⟩:=h;unfold eF at h;refine ⟨λh1=>⟨λh2=> ?_,λh2=> ?_⟩,λh1=> ?_⟩
  ·rw [show decide (0<=p.1)=true from h1,show decide (p.1 < p.2)=true from h2] at h;exact h
  ·rw [show decide (0<=p.1)=true from h1,show decide (p.1 < p.2)=false from h2] at h;exact h
  ·rw [show decide (0<=p.1)=false from h1] at h;exact h
theorem CU{c:Int}(hb:b∣S)(hc:c∣S)(DH:0 < b)(RU:0 < c):b * c / g b c∣S/\b∣b * c / g b c/\c∣b * c / g b c:=by
 have e:b * c / g b c=(Int.lcm b c:Nat):=by
  have h:=Int.gcd_mul_lcm b c;have hg:0 < g b c:=sF (by omega);have h2:((Int.gcd b c:Nat):Int) * ((Int.lcm b c:Nat):Int)=b * c:=by rw [<-Int.natCast_mul,h,Int.natCast_mul,abB (aaN DH),abB (aaN RU)]
  rw [<-h2];exact Int.mul_ediv_cancel_left _ (by unfold g at hg;omega)
 rw [e];exact ⟨Int.coe_lcm_dvd hb hc,Int.dvd_lcm_left ..,Int.dvd_lcm_right ..⟩
theorem sL:∀(cs:List Fr) (b S:Int),0 < b->b∣S->(∀c∈cs,0 < c.2/\c.2∣S)->cs.foldl (λb c=>b * c.2 / g b c.2) b∣S/\b∣cs.foldl (λb c=>b * c.2 / g b c.2) b/\∀c∈cs,c.2∣cs.foldl (λb c=>b * c.2 / g b c.2) b
 | [],b,S,_,h,_=>⟨h,Int.dvd_refl b,λc hc=>nomatch hc⟩
 | c::cs,b,S,h0,h,hc=>by
  obtain ⟨c0,cS⟩:=hc c aam;obtain ⟨d1,d2,d3⟩:=CU h cS h0 c0;obtain ⟨i1,i2,i3⟩:=sL cs _ S (jg h0 c0).1 d1 λx hx=>hc x (aah _ hx);rw [List.foldl_cons];refine ⟨i1,Int.dvd_trans d2 i2,λx hx=> ?_⟩;rcases aaO.mp hx with rfl | hx
  ·exact Int.dvd_trans d3 i2
  ·exact i3 x hx
theorem kq(m:Int)(f:Int->Int):∀(ws:List Int),(ws.map λw=>m * f w).sum=m * (ws.map f).sum
 | []=>by simp
 | w::ws=>by simp only [List.map_cons,List.sum_cons];rw [kq m f ws,Int.mul_add]
theorem zf(h:0 < b):(ag t b).2∣b:=by obtain ⟨p,q,e,_,_,_,eb⟩:=c5 (t:=t) (show b≠0 by omega);rw [e];exact ⟨dv t b,by show b=q * dv t b;rw [abG];exact eb⟩
theorem ku(ht:0 < t)(h:0 < b):0 < (ag t b).1:=by have hc:=da (t:=t) (show b≠0 by omega);have hp:=bI (t:=t) (show b≠0 by omega);have h1:0 < t * (ag t b).2:=Int.mul_pos ht hp;rw [hc] at h1;exact Int.pos_of_mul_pos_right h1 h |> λz=>z
theorem mK{ws:List Int}(hS:ws.sum=S)(hw:∀w∈ws,0 < w)(hn:ws≠[])(T3:S<=1000000)(hz:ws.length<=12):Ι (ws.map λw=>ag w S)=true/\Jl (ws.map λw=>ag w S):=by
 have pos:∀{l:List Int},(∀w∈l,0 < w)->0<=l.sum/\(l≠[]->0 < l.sum)/\∀w∈l,w<=l.sum:=by
  intro l
  induction l with
  | nil=>exact λ_=>⟨by simp,λz=>absurd rfl z,λw hw=>nomatch hw⟩
  | cons a l ih=>
   intro h;obtain ⟨i1,i2,i3⟩:=ih λw hw=>h w (aah _ hw);have:=h a aam;rw [List.sum_cons];refine ⟨by omega,λ_=>by omega,λw hw=> ?_⟩;rcases aaO.mp hw with rfl | hw
   ·omega
   ·have:=i3 w hw;omega
 obtain ⟨_,p2,p3⟩:=pos hw;have S0:0 < S:=by rw [<-hS];exact p2 hn
 have GN:S≠0:=by omega
 have hd:∀c∈ws.map (λw=>ag w S),0 < c.2/\c.2∣S:=λc hc=>by obtain ⟨w,_,rfl⟩:=aan.mp hc;exact ⟨bI GN,zf S0⟩
 obtain ⟨⟨m,hm⟩,_,hB⟩:=sL (ws.map λw=>ag w S) 1 S (by decide) (Int.one_dvd _) hd;have B0:0 < iI (ws.map λw=>ag w S):=by refine (gL (ws.map λw=>ag w S) 1 (by decide) λc hc=>(hd c hc).1)
 generalize MZ:iI (ws.map λw=>ag w S)=B at *
 have hm:S=B * m:=by rw [<-MZ];exact hm
 have m0:0 < m:=by
  rcases Int.lt_trichotomy m 0 with h | h | h
  ·have:=Int.mul_neg_of_pos_of_neg B0 h;omega
  ·rw [h,Int.mul_zero] at hm;omega
  ·exact h
 have key:((ws.map λw=>ag w S).map λc=>c.1 * (B / c.2)).sum=B:=by
  have e1:∀w∈ws,m * ((ag w S).1 * (B / (ag w S).2))=w:=λw hw=>by
   have hb:(ag w S).2∣B:=by rw [<-MZ];exact hB _ (aan.mpr ⟨w,hw,rfl⟩)
   obtain ⟨k,hk⟩:=hb;have q0:=bI (t:=w) GN;have e2:B / (ag w S).2=k:=by rw [hk];exact abH _ (by omega)
   have hc:=da (t:=w) GN;rw [e2];have RR:S=(ag w S).2 * k * m:=by rw [<-hk];exact hm
   generalize (ag w S).1=x at *
   generalize (ag w S).2=y at *
   have e4:S * x=y * (m * (x * k)):=by rw [RR];simp only [Int.mul_assoc,Int.mul_comm,Int.mul_left_comm]
   have e3:y * (m * (x * k))=y * w:=by rw [<-e4,<-hc,abG]
   exact abC (by omega) e3
  have e5:m * ((ws.map λw=>ag w S).map λc=>c.1 * (B / c.2)).sum=m * B:=by rw [aaK];show m * (ws.map λw=>(ag w S).1 * (B / (ag w S).2)).sum=m * B;rw [<-kq,aa0 e1,List.map_id',hS,hm,abG]
  exact abC (by omega) e5
 refine ⟨?_,⟨by rw [aab];exact hz,λc hc=> ?_⟩⟩
 ·unfold Ι;rw [MZ,key];have ha:((ws.map λw=>ag w S).any λc=>decide (c.1<=0))=false:=by rw [List.any_eq_false];intro c hc;obtain ⟨w,KJ,rfl⟩:=aan.mp hc;have:=ku (hw w KJ) S0;simpa using this
  have hle:B<=S:=by have:=Int.mul_le_mul_of_nonneg_left (show 1<=m by omega) (aaN B0);rw [Int.mul_one,<-hm] at this;exact this
  rw [ha,aaq rfl,aaq (show B<=1000000 by omega)];rfl
 ·obtain ⟨w,KJ,rfl⟩:=aan.mp hc;have q0:=bI (t:=w) GN;have l1:=mL (t:=w) GN;have l2:=iE (t:=w) GN;have:=p3 w KJ;have w0:=hw w KJ;have big:(1000000:Int) < 2 ^ 200:=by decide
  have Qw:1000000 < 2 ^ 200:=by decide
  exact ⟨q0,by omega,by omega⟩
theorem mQ{α:Type}{te:DE}{cs:En}{ok:Ms->Prop}{F:Dt->α->Prop}{f:α->Dt}{M:Ms}{k:List Dt->Ms->Prop}(ho:ok M)(ht:∀x a,F x a->∀q:DQ,q (f a) M->te (some x::cs) M q iC):∀{xs:List Dt} {as:List α} {ae:List Dt},Paired F xs as->k (ae++as.map f) M->jc te cs ok xs ae M k
 | _,_,ae, .nil,h=>⟨ho,by simpa using h⟩
 | _,_,ae, .cons r t,h=>⟨ho,ht _ _ r _ (mQ ho ht t (by simpa using h))⟩
theorem rF{C C':Addr}{ns ns':List Str}{xs':List Dt}{e:Dt}{ys:List Dt}{ok:Ms->Prop}(hk:M[k]? =some (.ins C ns xs))(h:iz M e=some (ys,ok)):iz (M.set k (.ins C' ns' xs')) e=some (ys,ok):=by
 cases e with
 | lst ds=>exact h
 | cE ns=>exact h
 | loc j=>
  have h:(match M[j]? with | some (.lst xs)=>some (xs,λM':Ms=>M'[j]? =some (.lst xs)) | _=>none)=some (ys,ok):=h;have ne:k≠j:=λz=>by subst z;rw [hk] at h;cases h
  show (match (M.set k (.ins C' ns' xs'))[j]? with | some (.lst xs)=>some (xs,λM':Ms=>M'[j]? =some (.lst xs)) | _=>none)=some (ys,ok);rw [aaR ne];exact h
 | _=>cases h
theorem wM{C C':Addr}{ns ns':List Str}{xs':List Dt}{r:Rw}(hk:M[k]? =some (.ins C ns xs))(h:gf M d r):gf (M.set k (.ins C' ns' xs')) d r:=by
 cases r with
 | fin p=>exact h
 | ν k' ds=>
  obtain ⟨e,ok,h1,h2⟩:=h;exact ⟨e,ok,h1,rF hk h2⟩
def bQ(C:Addr)(Ε:Fr)(γ:List Rw):Dt:= .obj C ["kept_share","kept_rows"] [ah Ε, .lst (γ.map Λ)]
def Dk(Cm:Addr):DF:=λas M q _=>∃k d Ε ds γ ok,as=[.loc k,ah Ε,d]/\M[k]? =some (.ins Cm [] [])/\iz M d=some (ds,ok)/\Paired (gf M) ds γ/\eF Ε=true/\1<=γ.length/\γ.length<=12/\
 (∀r∈γ,bJ r/\dI r γ.length=true)/\q .aW (M.set k (.ins Cm ["kept_share","kept_rows"] [ah Ε, .lst (γ.map Λ)]))
theorem dG:χ ["self","share","rows","place","row"] ["self","share","rows"] (ο ix):= .of rfl
theorem qd(F:cY K "__init__" "Floor.__init__" ix f fd)(E:Ev K mg Cm){uj:Addr}{u6:FuncData}(fQ:aD P w K mg base 1 "fits_share" ["share"] lI uj u6){yZ:Addr}{y3:FuncData}(j5:aD P w K mg base 4 "fits_row" ["row","size"] qX yZ y3){tK:Addr}{uu:FuncData}(fT:aD P w K mg base 1 "copied_row" ["row"] ma tK uu):ao P w K mg base (cq P w) 5 f fd ["self","share","rows"] (cQ K (Dk Cm)):=by
 refine F.fi dG (λds M q x h=> ?_) (λbq A outer s H E' hr=>⟨_,(ζ (aj (g7 (cL (Ω fQ hr ξ (Ο (jv 1) ε)))) (θ iT) Ζ)
   (ζ (aj (JW.jt (sg (oz (bB E.bb (Ο (jv 2) ε)) ι) (lL (DW (bB E.bb (Ο (jv 2) ε)) (mM E.iH))))) (θ iT) Ζ)
   (ζ (gy (Cb E.dR (Ο (jv 2) ε)) (l9 rfl (bx (Χ (i:=3) dG.nd rfl (Or.inl rfl)) (bx (Χ (i:=4) dG.nd rfl (Or.inl rfl)) iY))) FR (θ (aj (g7 (cL (Ω j5 hr ξ (Ο (jv 4) (η (bB E.bb (Ο (jv 2) ε)) ε bc))))) (θ iT) Ζ)))
   (ζ (vF E.c8 E.gO (jv 0) (jv 1))
   (θ (vF E.c8 E.bC (jv 0) (eZ (ys:=[]) (Θ:=[]) (.of dG rfl rfl rfl) (bz (jv 2)) (λC s H fp=>(cm (Ω fT hr (cT (P:=P) (w:=w)) (Ο (jv 0) ε))))))))))),λds M q x h=> ?_⟩)
 ·obtain ⟨k,d,Ε,ds,γ,ok,rfl,_⟩:=h;rfl
 ·obtain ⟨k,d,Ε,ds,γ,ok,rfl,hk,hl,hp,hs,h1,Ot,Ht,h⟩:=h;have hlen:ds.length=γ.length:=Paired.length hp;walk_at "vc";refine ⟨Ε,rfl,λz=> ?_,λ_=> ?_⟩
  ·rw [hs] at z;exact nomatch z
  have Mm:=jk hl;refine Ρ Mm ⟨λz=> ?_,λ_=> ?_⟩
  ·have:(ds.length:Int) < 1:=by simpa using z
   omega
  refine Ρ Mm ⟨λz=> ?_,λ_=> ?_⟩
  ·have:12 < (ds.length:Int):=by simpa using z
   omega
  refine ⟨d,ds,ok,rfl,hl, ?_⟩;refine dz (λxs ρ M'=>M'=M/\∃n C6 j8 a b,xs=gK n C6/\Paired (gf M) C6 j8/\(∀r∈j8,r∈γ)/\ρ=[some (.loc k),some (ah Ε),some d,a,b]) (λxs ρ M' hj=>by obtain ⟨rfl,_⟩:=hj;exact k8 hl) (λx xs ρ M' hj mX=> ?_) (λρ M' hj=> ?_) _ _ _ ⟨rfl,0,ds,γ,none,none,rfl,hp,λ_ h=>h,rfl⟩
  ·obtain ⟨rfl,n,C6,j8,a,b,ex,J4,KN,rfl⟩:=hj;cases J4 with
   | nil=>cases ex
   | cons ra t=>
    rename_i d1 r1 Ta Jk;cases ex;refine Ρ Mm ⟨d1,r1,ds.length,rfl,ra,(Ht r1 (KN r1 aam)).1,λz=> ?_,λ_=> ?_⟩
    ·rw [hlen,(Ht r1 (KN r1 aam)).2] at z;exact nomatch z
    ·exact mX _ _ ⟨rfl,n+1,Ta,Jk,_,_,rfl,t,λr hr=>KN r (aah _ hr),rfl⟩
  ·obtain ⟨rfl,n,C6,j8,a,b,ex,J4,KN,rfl⟩:=hj;have Rn:k < M'.length:=(aad.mp hk).1;refine ⟨k,[],[],rfl,hk,(λz=>(nomatch z)),by decide, ?_⟩;have Ks:=rF (C':=Cm) (ns':=["kept_share"]) (xs':=[ah Ε]) hk hl;dsimp only [DG,List.nil_append];show cN _ _ _ _ _;refine aZ (i:=2) rfl Ks ⟨by rw [hlen];exact aak Ot (by decide), ?_⟩;have Pt:Paired (λx a=>gf (M'.set k (.ins Cm ["kept_share"] [ah Ε])) x a/\bJ a) ds γ:=by
    have:∀{xs:List Dt} {rs:List Rw},Paired (gf M') xs rs->(∀r∈rs,bJ r)->Paired (λx a=>gf (M'.set k (.ins Cm ["kept_share"] [ah Ε])) x a/\bJ a) xs rs:=by
     intro xs rs hp
     induction hp with
     | nil=>exact λ_=> .nil
     | cons r t ih=>exact λh=> .cons ⟨wM hk r,h _ aam⟩ (ih λy hy=>h y (aah _ hy))
    exact this hp λr hr=>(Ht r hr).1
   refine mQ (f:=Λ) (k8 Ks) (λx a ha q' hq=> ?ht) Pt ?fin
   case ht=>
    obtain ⟨ha,ho⟩:=ha;refine ⟨x,a,rfl,ha,ho, ?_⟩;cases a with
    | fin p=>exact Cg ⟨trivial,oX p,trivial⟩ hq
    | ν k2 wF=>exact qz (.tup (.cons (.old trivial) (.cons (.Cp (Nat.le_refl _) (by simp) (fM.old (dJ wF))) .nil))) hq
   case fin=>
    refine ⟨k,["kept_share"],[ah Ε],rfl,by rw [aa3 Rn],by decide,by decide, ?_⟩;rw [List.set_set];exact h
def kindOf:Rw->Str
 | .fin _=>"end"
 | .ν k _=>k
def cD:Rw->List eL
 | .fin _=>[]
 | .ν _ ds=>ds
def DY:Rw->Dt
 | .fin p=>ah p
 | .ν _ _=> .aW
theorem qi{γ:List Rw}{r:Rw}(h:γ[i]? =some r):(γ.map Λ)[i]? =some (Λ r):=by rw [aaf,h];rfl
theorem Es{r:Rw}:∃e,Λ r= .tup [.str (kindOf r),e]:=by
 cases r with
 | fin p=>exact ⟨_,rfl⟩
 | ν k ds=>exact ⟨_,rfl⟩
def z7(C:Addr):DF:=λas M q _=>∃Ε γ,as=[bQ C Ε γ]/\q (.int γ.length) M
theorem rG:χ ["self"] ["self"] (ο hW):= .of rfl
theorem qa(F:cY K "size" "Floor.size" hW f fd)(E:Ev K mg Cm):ao P w K mg base (cq P w) 1 f fd ["self"] (cQ K (z7 Cm)):=by
 refine F.fi rG (λds M q x h=> ?_) (λbq A outer s H E' hr=>⟨_,(θ (υ (bB E.bb (η (vA E.c8 E.bC (jv 0)) ε)))),λds M q x h=> ?_⟩)
 ·obtain ⟨Ε,γ,rfl,_⟩:=h;rfl
 ·obtain ⟨Ε,γ,rfl,h⟩:=h;refine ⟨_,_,_, .inl rfl,rfl, ?_⟩;show c7 [.lst (γ.map Λ)] M _;refine Ρ (xs:=γ.map Λ) rfl ?_;rw [aab];exact h
def rN(C:Addr):DF:=λas M q _=>∃Ε γ i r,as=[bQ C Ε γ, .int (i:Nat)]/\γ[i]? =some r/\q (.str (kindOf r)) M
theorem rB:χ ["self","place"] ["self","place"] (ο hV):= .of rfl
theorem pS(F:cY K "kind" "Floor.kind" hV f fd)(E:Ev K mg Cm):ao P w K mg base (cq P w) 1 f fd ["self","place"] (cQ K (rN Cm)):=by
 refine F.fi rB (λds M q x h=> ?_) (λbq A outer s H E' hr=>⟨_,(θ (υ (ω (ω (vA E.c8 E.bC (jv 0)) (jv 1)) ι))),λds M q x h=> ?_⟩)
 ·obtain ⟨Ε,γ,i,r,rfl,_⟩:=h;rfl
 ·obtain ⟨Ε,γ,i,r,rfl,hi,h⟩:=h;refine ⟨_,_,_, .inl rfl,rfl, ?_⟩;walk_at "vc";refine τ (xs:=γ.map Λ) rfl (Η (qi hi)) ?_;obtain ⟨e,er⟩:=Es (r:=r);rw [er];exact h
def AS(C:Addr):DF:=λas M q _=>∃Ε γ i r,as=[bQ C Ε γ, .int (i:Nat)]/\γ[i]? =some r/\bJ r/\q (.loc M.length) (M++[.lst ((cD r).map ba)])
theorem pO:χ ["self","place"] ["self","place"] (ο fR):= .of rfl
theorem nj(F:cY K "doors" "Floor.doors" fR f fd)(E:Ev K mg Cm)(ai:i0 P w K mg base 1 Cm "kind" ["self","place"] (rN Cm) bO bR):ao P w K mg base (cq P w) 2 f fd ["self","place"] (cQ K (AS Cm)):=by
 refine F.fi pO (λds M q x h=> ?_) (λbq A outer s H E' hr=>⟨_,(ζ (aj (bF hr (j0 ai hr ξ (jv 0) (Ο (jv 1) ε)) gH) (θ (υ (gS ε))) Ζ)
   (θ (υ (my E.df (η (ω (ω (vA E.c8 E.bC (jv 0)) (jv 1)) ι) ε aI))))),λds M q x h=> ?_⟩)
 ·obtain ⟨Ε,γ,i,r,rfl,_⟩:=h;rfl
 ·obtain ⟨Ε,γ,i,r,rfl,hi,ro,h⟩:=h;refine ⟨⟨_,_, .inl rfl,rfl⟩,Ε,γ,i,r,rfl,hi, ?_⟩;cases r with
  | fin p=>exact ⟨λ_=>⟨by decide,h⟩,λz=>(nomatch z)⟩
  | ν k ds=>
   refine ⟨λz=>aaE (aar z) ro.1,λ_=> ?_⟩;refine ⟨_,_,_, .inl rfl,rfl, ?_⟩;walk_at "vc";refine τ (xs:=γ.map Λ) rfl (Η (qi hi)) ?_;exact h
def IQ(C:Addr):DF:=λas M q _=>∃Ε γ i r,as=[bQ C Ε γ, .int (i:Nat)]/\γ[i]? =some r/\bJ r/\q (DY r) M
theorem uJ:χ ["self","place"] ["self","place"] (ο jK):= .of rfl
theorem rO(F:cY K "pay" "Floor.pay" jK f fd)(E:Ev K mg Cm)(ai:i0 P w K mg base 1 Cm "kind" ["self","place"] (rN Cm) bO bR):ao P w K mg base (cq P w) 2 f fd ["self","place"] (cQ K (IQ Cm)):=by
 refine F.fi uJ (λds M q x h=> ?_) (λbq A outer s H E' hr=>⟨_,(ζ (aj (bF hr (j0 ai hr ξ (jv 0) (Ο (jv 1) ε)) gH) (θ (υ (ω (ω (vA E.c8 E.bC (jv 0)) (jv 1)) ι))) Ζ)
   (θ (υ Mq))),λds M q x h=> ?_⟩)
 ·obtain ⟨Ε,γ,i,r,rfl,_⟩:=h;rfl
 ·obtain ⟨Ε,γ,i,r,rfl,hi,ro,h⟩:=h;refine ⟨⟨_,_, .inl rfl,rfl⟩,Ε,γ,i,r,rfl,hi, ?_⟩;cases r with
  | fin p=>
   refine ⟨λ_=> ?_,λz=>(nomatch z)⟩;refine ⟨_,_,_, .inl rfl,rfl, ?_⟩;walk_at "vc";refine τ (xs:=γ.map Λ) rfl (Η (qi hi)) ?_;exact h
  | ν k ds=>exact ⟨λz=>aaE (aar z) ro.1,λ_=>h⟩
theorem cK{q:DQ}(u:Dt.aL M.length ds)(h:q (.lst ds) M):kD M q (.loc M.length) (M++[.lst ds]):=qz (.Cp (aal _) (by rw [abk];rfl) (fM.old u)) h
theorem wy{q:DQ}(u:Dt.aL M.length ds)(h:q (.lst ds) M):rM [.lst ds] M (kD M q):=by show kD M q (.loc M.length) (M++[.lst ds]);exact cK u h
theorem zx{d:eL}{q:DQ}(h:q (ah d.2.1) M):dF (ba d) (.int 1) M q:=τ (xs:= .int d.1::ah d.2.1::d.2.2.map ah) rfl (Η (j:=1) rfl) h
theorem we{d:eL}{q:DQ}(h:q (.int d.1) M):dF (ba d) (.int 0) M q:=τ (xs:= .int d.1::ah d.2.1::d.2.2.map ah) rfl az h
theorem rV{k:Str}{e:Dt}{q:DQ}(h:q e M):dF (.tup [.str k,e]) (.int 1) M q:=τ (xs:=[.str k,e]) rfl (Η (j:=1) rfl) h
theorem b6{g:Dt->En->(En->Prop)->Prop}{tb:DS}{Dn:i_}(J:List Dt->En->Ms->Prop)
  (step:∀x xs ρ M,J (x::xs) ρ M->(∀ρ M,J xs ρ M->g_ g tb Dn xs ρ M)->g x ρ λρ'=>tb {Dn with nx:=g_ g tb Dn xs,ct:=g_ g tb Dn xs,bk:=Dn.nx} ρ' M)
  (fin:∀ρ M,J [] ρ M->Dn.nx ρ M):∀(xs:List Dt) (ρ:En) (M:Ms),J xs ρ M->g_ g tb Dn xs ρ M
 | [],ρ,M,h=>fin _ _ h
 | x::xs,ρ,M,h=>step x xs ρ M h λρ' M' h'=>b6 J step fin xs ρ' M' h'
theorem cv{lo:Int}{x:Dt}(h:x::xs=bf lo n):∃m,n=m+1/\x= .int lo/\xs=bf (lo+1) m:=by
 cases n with
 | zero=>exact nomatch h
 | succ m=>
  unfold bf at h;rw [abe,aaQ,aaK] at h;cases h;refine ⟨m,rfl,by simp, ?_⟩;unfold bf;apply aa0;intro k _;show Dt.int (lo+((k+1:Nat):Int))=Dt.int (lo+1+(k:Int))
  congr 1
  omega
theorem dD{lo:Int}{x:Dt}(h:x∈bf lo n):∃k:Nat,k < n/\x= .int (lo+k):=by unfold bf at h;obtain ⟨k,hk,rfl⟩:=aan.mp h;exact ⟨k,aaC.mp hk,rfl⟩
theorem bL{lo:Int}:(bf lo n).length=n:=by unfold bf;simp
theorem g8{α:Type}{te:DE}{cs:En}{M:Ms}{f:α->Dt}(G:α->Prop){k:List Dt->Ms->Prop}:∀(xs:List Dt) (ae:List α),(∀a∈ae,G a)->(∀x∈xs,∀q:DQ,(∀a,G a->q (f a) M)->te (some x::cs) M q iC)->
  (∀as:List α,as.length=ae.length+xs.length->(∀a∈as,G a)->k (as.map f) M)->kz te cs xs (ae.map f) M k
 | [],ae,ha,_,h=>h ae (by simp) ha
 | x::xs,ae,ha,ht,h=>ht x aam _ λa hg=>by
  have e:ae.map f++[f a]=(ae++[a]).map f:=by simp
  rw [e];refine g8 G xs (ae++[a]) (λb hb=> ?_) (λy hy=>ht y (List.mem_cons_of_mem _ hy)) λas hl Qs=>h as (by rw [hl];simp;omega) Qs;rcases aaI.mp hb with hb | hb
  ·exact ha b hb
  ·have:b=a:=by simpa using hb
   rw [this];exact hg
theorem kW{n:Nat}:∀(xs:List Int),Dt.aL n (xs.map Dt.int)
 | []=>trivial
 | _::xs=>⟨trivial,kW xs⟩
theorem zd{m:Int}:∀{l:List Int},(∀w∈l,w<=m)->l.sum<=l.length * m
 | [],_=>by simp
 | a::l,h=>by have i:=zd (l:=l) λw hw=>h w (aah _ hw);have:=h a aam;rw [List.sum_cons,aaD,Int.natCast_add,Int.add_mul];omega
def qD(aN:Int)(r:Rw):Prop:=bJ r/\dI r aN=true
theorem Cf{k:Str}{ds:List eL}{aN:Int}(hk:bA k=true)(hz:1<=ds.length)(K8:ds.length<=6)(hd:∀d∈ds,Φ d.1 d.2.1 aN=true)(hs:∀d∈ds,d.2.2=[]/\0 < d.2.1.2):qD aN (.ν k ds):=by
 have fd:Β ds aN=true:=by unfold Β;rw [aaq hz,aaq K8,aa4.mpr hd];rfl
 have ne:k≠"end"/\k≠"chance":=by refine ⟨λz=> ?_,λz=> ?_⟩ <;> (subst z;exact aaE hk (by decide))
 refine ⟨⟨ne.1,by omega,λz=>aaE z ne.2,λd h=>⟨by rw [(hs d h).1];exact abE _,(hs d h).2⟩⟩, ?_⟩;show (if bA k then _ else _)=true;rw [aaP hk];exact fd
theorem wR{ds:List eL}{aN:Int}(hz:1<=ds.length)(K8:ds.length<=6)(hd:∀d∈ds,Φ d.1 d.2.1 aN=true)(h1:∀d∈ds,d.2.2=[μ d])(hc:Ι (ds.map μ)=true)(ho:Jl (ds.map μ))(hp:∀d∈ds,0 < d.2.1.2):qD aN (.ν "chance" ds):=by
 have fd:Β ds aN=true:=by unfold Β;rw [aaq hz,aaq K8,aa4.mpr hd];rfl
 refine ⟨⟨by decide,by omega,λ_=>⟨h1,ho⟩,λd h=>⟨by rw [h1 d h];exact aal _,hp d h⟩⟩, ?_⟩;have e:dI (.ν "chance" ds) aN=(Β ds aN&&Ι (ds.map μ)):=by dsimp only [dI];rw [aaJ (by decide),aaP rfl]
 rw [e,fd,hc];rfl
theorem lq{aN:Int}{p:Fr}(h0:0<=t)(h1:t < aN)(hp:bt p=true):Φ t p aN=true:=by unfold Φ;rw [aaq h0,aaq h1,hp];rfl
theorem vb{xs:List Int}(h:j < xs.length):fF (xs.map Dt.int) (j:Int)=some (.int xs[j]):=Η (by rw [aaf,aaa h];rfl)
theorem qC:∀{l:List Int},(∀w∈l,0 < w)->l≠[]->0 < l.sum
 | [],_,z=>aaE rfl z
 | [a],h,_=>by have:=h a List.mem_cons_self;simpa using this
 | a::b::l,h,_=>by have i:=qC (l:=b::l) (λw hw=>h w (List.mem_cons_of_mem _ hw)) (by simp);have:=h a aam;rw [List.sum_cons];omega
def Sz(k:Nat)(p:Fr):Prop:=p.1.natAbs < 2 ^ k/\0 < p.2/\p.2.natAbs < 2 ^ k
def dr(p q:Fr):Fr:=ag (p.1 * q.2+q.1 * p.2) (p.2 * q.2)
theorem e9{a b l:Nat}(h:a < 2 ^ k)(h':b < 2 ^ l):a * b < 2 ^ (k+l):=by rw [Nat.pow_add];exact Nat.mul_lt_mul'' h h'
theorem BN(hb:0 < b)(h1:t.natAbs < 2 ^ k)(h2:b.natAbs < 2 ^ k):Sz k (ag t b):=
 ⟨aaH (mL (by omega)) h1,bI (by omega),aaH (iE (by omega)) h2⟩
theorem jr{p q:Fr}{l:Nat}(hp:Sz k p)(hq:Sz l q):(p.1 * q.2+q.1 * p.2).natAbs < 2 ^ (k+l+1)/\(p.2 * q.2).natAbs < 2 ^ (k+l+1)/\0 < p.2 * q.2:=by
 have a:=e9 hp.1 hq.2.2;have b:=e9 hq.1 hp.2.2;have c:=e9 hp.2.2 hq.2.2;rw [Nat.add_comm l k] at b;have e:(2:Nat) ^ (k+l+1)=2 ^ (k+l)+2 ^ (k+l):=by rw [Nat.pow_succ];omega
 have hn:=Int.natAbs_add_le (p.1 * q.2) (q.1 * p.2);rw [abD,abD] at hn;refine ⟨by rw [e];omega, ?_,Int.mul_pos hp.2.1 hq.2.1⟩;rw [abD,e];omega
theorem CG{p q:Fr}{l:Nat}(hp:Sz k p)(hq:Sz l q):Sz (k+l+1) (dr p q):=
 let ⟨a,b,c⟩:=jr hp hq
 BN c a b
theorem kZ{p:Fr}(h:Sz k p)(hk:k<=8000):fc p.1:=bg h.1 hk
theorem dN{p:Fr}(h:Sz k p)(hk:k<=8000):fc p.2:=bg h.2.2 hk
theorem zj{p:Fr}{q:DQ}(h:q (.int p.1) M):dF (ah p) (.int 0) M q:=τ (xs:=[.int p.1, .int p.2]) rfl az h
theorem oQ{p:Fr}{q:DQ}(h:q (.int p.2) M):dF (ah p) (.int 1) M q:=τ (xs:=[.int p.1, .int p.2]) rfl (Η (j:=1) rfl) h
def Dx:DF:=λas M q _=>∃p r k l,as=[ah p,ah r]/\Sz k p/\Sz l r/\k+l+1<=8000/\q (ah (dr p r)) M
theorem FC:χ ["one","other"] ["one","other"] (ο zW):= .of rfl
theorem Bm(F:cY K "plus" "plus" zW f fd)(E:Ev K mg Cm){xf:Addr}{wQ:FuncData}(iw:aD P w K mg base 2 "fraction" ["top","bottom"] vW xf wQ):ao P w K mg base (cq P w) 3 f fd ["one","other"] (cQ K Dx):=by
 refine F.fi FC (λds M q x h=> ?_) (λbq A outer s H E' hr=>⟨_,(θ (υ (Ω iw hr ξ (η (Υ (aQ (ω (jv 0) ι) (ω (jv 1) ι)) (aQ (ω (jv 1) ι) (ω (jv 0) ι))) (η (aQ (ω (jv 0) ι) (ω (jv 1) ι)) ε aF) aF)))),λds M q x h=> ?_⟩)
 ·obtain ⟨p,r,k,l,rfl,_⟩:=h;rfl
 ·obtain ⟨p,r,k,l,rfl,hp,tF,hk,h⟩:=h;obtain ⟨a,b,c⟩:=jr hp tF;refine ⟨⟨kZ hp (by omega),dN tF (by omega)⟩,⟨kZ tF (by omega),dN hp (by omega)⟩,⟨dN hp (by omega),dN tF (by omega)⟩,bg b hk,λz=>aaE z (by omega),λ_=>h⟩
theorem lP{te:DE}{cs:En}{ok:Ms->Prop}{M:Ms}{k:List Dt->Ms->Prop}(ho:ok M):∀{ys ae:List Dt} {f:Nat->Dt},(∀(i:Nat) x,ys[i]? =some x->∀q:DQ,q (f i) M->te (some x::cs) M q iC)->k (ae++(List.range ys.length).map f) M->jc te cs ok ys ae M k
 | [],ae,f,_,h=>⟨ho,by simpa using h⟩
 | y::ys,ae,f,hf,h=>⟨ho,hf 0 y rfl _ (lP ho (f:=λi=>f (i+1)) (λi x hx=>hf (i+1) x (by simpa using hx)) (by
   rw [aaD,abe,aaQ,aaK] at h
   simpa [Function.comp_def] using h))⟩
def qO(P:Program)(w:World):DF:=λas M q _=>∃(xs:List Dt) (f:Nat->Nat->Bool),as=[.lst xs]/\xs.length<=1000/\(∀(i j:Nat) d d',xs[i]? =some d->xs[j]? =some d'->xx P w M 2 d d' (f i j))/\(∀i,i < xs.length->f i i=true)/\q (.loc M.length) (M++[.lst ((List.range xs.length).map λi=>Dt.int (N51.least f i:Nat))])
theorem ky:χ ["marks"] ["marks"] (ο hG):= .of rfl
theorem qu(F:cY K "classes_by" "classes_by" hG f fd)(E:Ev K mg Cm):ao P w K mg base (cq P w) 1 f fd ["marks"] (cQ K (qO P w)):=by
 refine F.fi ky (λds M q x h=> ?_) (λbq A outer s H E' hr=>⟨_,(θ (υ (zR (ys:=["marks"]) (Θ:=[0]) (.of ky rfl rfl rfl) (bz (jv 0)) (λC s H fp=>(zO (P:=P) (w:=w) 2 hr (jv 1) (Ο (jv 0) ε)))))),λds M q x h=> ?_⟩)
 ·obtain ⟨p,f,rfl,_⟩:=h;rfl
 ·obtain ⟨xs,f,rfl,hl,hf,tF,h⟩:=h;walk_at "vc";dsimp only [pd,cN,ee];show xs.length<=sizeLine/\jc (vy P w 2 (ee 1) (fj (ee 0) kL)) [some (.lst xs)] _ xs [] M _;refine ⟨aak hl (by decide),lP trivial (f:=λi=>Dt.int (N51.least f i:Nat)) (λi x hx q' hq=> ?_) ?_⟩
  ·have hi:i < xs.length:=(aad.mp hx).1;show (∃ys,gB M (.lst xs)=some ys)/\∃y ys,∃g:Nat->Bool,∃j:Nat,[x]=[y]/\gB M (.lst xs)=some ys/\(∀i z,ys[i]? =some z->xx P w M 2 z y (g i))/\j < ys.length/\g j=true/\(∀i,i < j->g i=false)/\q' (.int (j:Int)) M;have l:=N51.least_le f i;refine ⟨⟨xs,rfl⟩,x,xs,λj=>f j i,N51.least f i,rfl,rfl,λj z hz=>hf j i z x hz hx,by omega,N51.gb (tF i hi),λj hj=> ?_,hq⟩;cases e:f j i with
   | false=>exact e
   | true=>exact aaE (N51.nZ e) (by omega)
  ·exact h
def yC(r:Rw):Dt:= .tup [.str (kindOf r),DY r]
def dU:Rw->Rw->Bool
 | .fin p, .fin q=>decide (p=q)
 | .ν k _, .ν l _=>decide (k=l)
 | _,_=>false
theorem kX(e:Nat->Bool):(List.range 2).all e=(e 0&&e 1):=by simp [List.range,List.range.loop]
theorem BS(e:Nat->Bool):(List.range 1).all e=e 0:=by simp [List.range,List.range.loop]
theorem mV(p q:Fr):nI M (n+1) (ah p) (ah q) (decide (p=q)):=by
 have h:=nI.tup (M:=M) (n:=n) (ds:=[.int p.1, .int p.2]) (es:=[.int q.1, .int q.2]) (f:=λj=>match j with | 0=>fo (.int p.1) (.int q.1) | _=>fo (.int p.2) (.int q.2)) λj d e h1 h2=>by
  match j with
  | 0=>cases h1;cases h2;exact .flat rfl rfl
  | 1=>cases h1;cases h2;exact .flat rfl rfl
  | j+2=>cases h1
 have e:((List.range (min [Dt.int p.1, .int p.2].length [Dt.int q.1, .int q.2].length)).all (λj=>match j with | 0=>fo (.int p.1) (.int q.1) | _=>fo (.int p.2) (.int q.2))&&[Dt.int p.1, .int p.2].length==[Dt.int q.1, .int q.2].length)=decide (p=q):=by show ((List.range 2).all _&&true)=_;rw [kX,Bool.and_true,abd,aax,decide_eq_true_eq];show (fo (.int p.1) (.int q.1)=true/\fo (.int p.2) (.int q.2)=true)↔_;simp [fo,Prod.ext_iff]
 rw [e] at h;exact h
theorem eq1{r r':Rw}(h:bJ r)(h':bJ r'):xx P w M 2 (yC r) (yC r') (dU r r'):=by
 refine ⟨_,_,λj=>match j with | 0=>fo (.str (kindOf r)) (.str (kindOf r')) | _=>match r,r' with | .fin p, .fin q=>decide (p=q) | _,_=>true,rfl,rfl,rfl,λj d d' h1 h2 ja=> ?_, ?_⟩
 ·match j with
  | 0=>cases h1;cases h2;exact .eq (.flat rfl rfl)
  | 1=>
   cases h1;cases h2;rw [BS] at ja;have ja:fo (.str (kindOf r)) (.str (kindOf r'))=true:=ja;have ja:kindOf r=kindOf r':=by simpa [fo] using ja
   match r,r',h,h',ja with
   | .fin p, .fin q,_,_,_=>exact .eq (mV p q)
   | .fin p, .ν k ds,_,h',ja=>exact aaE ja.symm h'.1
   | .ν k ds, .fin p,h,_,ja=>exact aaE ja h.1
   | .ν k ds, .ν l es,_,_,_=>exact .eq (.flat (x:= .aW) (y:= .aW) rfl rfl)
  | j+2=>cases h1
 ·show _=(List.range 2).all _;rw [kX]
  match r,r',h,h' with
  | .fin p, .fin q,_,_=>simp [dU,kindOf,fo]
  | .fin p, .ν k ds,_,h'=>simp [dU,kindOf,fo,Ne.symm h'.1]
  | .ν k ds, .fin p,h,_=>simp [dU,kindOf,fo,h.1]
  | .ν k ds, .ν l es,_,_=>rw [Bool.eq_iff_iff];simp [dU,kindOf,fo]
def fS(γ:List Rw)(j i:Nat):Bool:=match γ[j]?,γ[i]? with
 | some r,some r'=>dU r r'
 | _,_=>false
def aG(n:Nat)(c:Nat->Nat):List Dt:=(List.range n).map λi=>Dt.int (c i:Nat)
theorem gY:∀r:Rw,dU r r=true
 | .fin p=>by simp [dU]
 | .ν k ds=>by simp [dU]
def y9(C:Addr):DF:=λas M q _=>∃Ε γ,as=[bQ C Ε γ]/\γ.length<=12/\(∀r∈γ,bJ r)/\q (.loc M.length) (M++[.lst (aG γ.length (N51.least (fS γ)))])
theorem fK:χ ["floor"] ["floor"] (ο d9):= .of rfl
theorem kO(F:cY K "first_classes" "first_classes" d9 f fd)(E:Ev K mg Cm){g6:Addr}{ij:FuncData}(bZ:aD P w K mg base 1 "classes_by" ["marks"] (qO P w) g6 ij){gZ:Addr}{ig:FuncData}(bU:i0 P w K mg base 1 Cm "size" ["self"] (z7 Cm) gZ ig){xq:Addr}{xU:FuncData}(g9:i0 P w K mg base 2 Cm "pay" ["self","place"] (IQ Cm) xq xU)(ai:i0 P w K mg base 1 Cm "kind" ["self","place"] (rN Cm) bO bR):ao P w K mg base (cq P w) 4 f fd ["floor"] (cQ K (y9 Cm)):=by
 refine F.fi fK (λds M q x h=> ?_) (λbq A outer s H E' hr=>⟨_,(θ (υ (Ω bZ hr ξ (η (tM (ys:=["floor"]) (Θ:=[0]) (.of fK rfl rfl rfl) (aB E.ax (η (v7 bU hr ξ (jv 0)) ε bc)) (λC s H fp=>(aA (η (j0 ai hr (cT (P:=P) (w:=w)) (jv 1) (Ο (jv 0) ε)) (η (j0 g9 hr (cT (P:=P) (w:=w)) (jv 1) (Ο (jv 0) ε)) ε bc) bc)))) ε)))),λds M q x h=> ?_⟩)
 ·obtain ⟨p,f,rfl,_⟩:=h;rfl
 ·obtain ⟨Ε,γ,rfl,hl,ok,h⟩:=h;walk_at "vc";dsimp only [lX,rg,fj,kL,r6,ee];refine ⟨⟨_,_, .inl rfl,rfl⟩,Ε,γ,rfl,⟨by omega,by omega⟩,by rw [bL];exact aak (show _<=12 by omega) (by decide), ?_⟩;refine jL (f:=λx=>match x with | .int j=>(γ.map yC).getD j.toNat .aW | _=> .aW) _ _ (λx kT q' hq=> ?_) ?_
  ·obtain ⟨k,hk,rfl⟩:=dD kT;have hk:k < γ.length:=by omega
   have e:γ[k]? =some γ[k]:=aaa hk;rw [aa9] at hq⊢;have hq:q' (yC γ[k]) M:=by
    have z:(match Dt.int (k:Int) with | .int j=>(γ.map yC).getD j.toNat .aW | _=> .aW)=yC γ[k]:=by show (γ.map yC).getD ((k:Int).toNat) .aW=_;rw [aaW,aaS,aaf,e];rfl
    rw [<-z];exact hq
   dsimp only [Cc,fj,kL,r6,ee];exact ⟨⟨_,_, .inl rfl,rfl⟩,Ε,γ,k,γ[k],rfl,e,⟨_,_, .inl rfl,rfl⟩,Ε,γ,k,γ[k],rfl,e,ok _ (aaV hk),fI,hq⟩
  ·have z:[]++List.map (λx=>match x with | Dt.int j=>(γ.map yC).getD j.toNat Dt.aW | _=>Dt.aW) (bf 0 ((γ.length:Int)).toNat)=γ.map yC:=by
    rw [aaU,aaW];refine List.ext_getElem? λi=> ?_;unfold bf;rw [aaK,aaf,aaf];rcases abo i γ.length with hi | hi
    ·rw [aaZ hi,aaa hi];show some ((γ.map yC).getD ((0+(i:Int)).toNat) .aW)=_;rw [aa9,aaW,aaS,aaf,aaa hi];rfl
    ·rw [List.getElem?_eq_none (by simpa using hi),List.getElem?_eq_none hi];rfl
   rw [z];refine ⟨γ.map yC,fS γ,rfl,by rw [aab];omega,λi j d d' h1 h2=> ?_,λi hi=> ?_,by rw [aab];exact h⟩
   ·rw [aaf] at h1 h2;obtain ⟨r,e1,rfl⟩:=aaL.mp h1;obtain ⟨r',e2,rfl⟩:=aaL.mp h2;have:fS γ i j=dU r r':=by unfold fS;rw [e1,e2]
    rw [this];exact eq1 (ok _ (aaw e1)) (ok _ (aaw e2))
   ·rw [aab] at hi;unfold fS;rw [aaa hi];exact gY _
theorem B_(ks:List NK)(k:NK):sy ks k=N51.has ks k:=rfl
theorem yr(ks:List NK)(k:NK):je ks k=N51.putK ks k:=rfl
theorem gx(f:Fr->Dt)(k:NK):∀(ks:List NK) (vs:List Fr),c_ ks (vs.map f) k=(N51.get ks vs k).map f
 | [],vs=>by simp [c_,N51.get]
 | _::_,[]=>by simp [c_,N51.get]
 | c::ks,v::vs=>by
  have ih:=gx f k ks vs;unfold c_ N51.get at ih⊢;rw [aaQ,aa2,aa2];by_cases e:c=k
  ·rw [List.find?_cons_of_pos (by simpa using e),List.find?_cons_of_pos (by simpa using e)];rfl
  ·rw [List.find?_cons_of_neg (by simpa using e),List.find?_cons_of_neg (by simpa using e)];exact ih
theorem wC(f:Fr->Dt)(k:NK)(v:Fr)(ks:List NK)(vs:List Fr):iK ks k (vs.map f) (f v)=(N51.qt ks k vs v).map f:=by
 have key:∀(ks:List NK) (vs:List Fr),List.zipWith (λc y=>if c=k then f v else y) ks (vs.map f)=(List.zipWith (λc y=>if c=k then v else y) ks vs).map f:=by
  intro ks
  induction ks with
  | nil=>intro vs;rfl
  | cons c ks ih=>
   intro vs;cases vs with
   | nil=>rfl
   | cons u vs=>
    rw [aaQ,List.zipWith_cons_cons,List.zipWith_cons_cons,aaQ,ih];by_cases e:c=k
    ·simp only [if_pos e]
    ·simp only [if_neg e]
 unfold iK N51.qt;rw [B_];split
 ·exact key ks vs
 ·rw [aao];rfl
def aw(c:Nat->Nat)(d:eL):NK:=([.inl d.2.1.1, .inl d.2.1.2], .inl (c d.1.toNat:Nat))
def Ν(c:Nat->Nat):Rw->List NK×List Fr
 | .fin _=>([],[])
 | .ν k ds=>if k="chance" then N51.fA dr (0,1) (ds.map λd=>(aw c d,μ d)) else N51.fA (λ_ _=>(1,1)) (0,1) (ds.map λd=>(aw c d,μ d))
theorem zr(c:Nat->Nat)(k:Str):Ν c (.ν k [])=([],[]):=by show (if k="chance" then _ else _)=_;split <;> rfl
theorem xZ(c:Nat->Nat)(k:Str)(ds:List eL)(d:eL):Ν c (.ν k (ds++[d]))=(N51.putK (Ν c (.ν k ds)).1 (aw c d),N51.qt (Ν c (.ν k ds)).1 (aw c d) (Ν c (.ν k ds)).2 (if k="chance" then dr ((N51.get (Ν c (.ν k ds)).1 (Ν c (.ν k ds)).2 (aw c d)).getD (0,1)) (μ d) else (1,1))):=by
 by_cases e:k="chance"
 ·simp only [Ν,if_pos e,List.map_append,List.map_cons,List.map_nil,N51.lJ];rfl
 ·simp only [Ν,if_neg e,List.map_append,List.map_cons,List.map_nil,N51.lJ];rfl
theorem qF{κ:Type} [DecidableEq κ](key:κ):∀(xs:List (κ×Fr)) (a:Fr) (k:Nat),(∀x∈xs,Sz 200 x.2)->Sz k a->∃l,l<=k+201 * xs.length/\Sz l (xs.foldl (λa x=>if x.1=key then dr a x.2 else a) a)
 | [],a,k,_,h=>⟨k,by simp,h⟩
 | x::xs,a,k,hx,h=>by
  rw [List.foldl_cons];by_cases e:x.1=key
  ·rw [aaP e];obtain ⟨l,h1,h2⟩:=qF key xs _ _ (λy hy=>hx y (aah _ hy)) (CG h (hx x aam));exact ⟨l,by rw [aaD];omega,h2⟩
  ·rw [aaJ e];obtain ⟨l,h1,h2⟩:=qF key xs _ _ (λy hy=>hx y (aah _ hy)) h;exact ⟨l,by rw [aaD];omega,h2⟩
theorem mr(c:Nat->Nat)(k:Str)(ds:List eL):(Ν c (.ν k ds)).1.length=((Ν c (.ν k ds)).2.map ah).length/\(Ν c (.ν k ds)).1.length<=ds.length:=by
 have key:∀(op:Fr->Fr->Fr),(N51.fA op (0,1) (ds.map λd=>(aw c d,μ d))).1.length=((N51.fA op (0,1) (ds.map λd=>(aw c d,μ d))).2.map ah).length/\(N51.fA op (0,1) (ds.map λd=>(aw c d,μ d))).1.length<=ds.length:=λop=>by obtain ⟨a1,a2,a3,_⟩:=N51.eG op (0,1) (ds.map λd=>(aw c d,μ d));refine ⟨by rw [aab,a1], ?_⟩;have:=N51.jH a2 λx hx=>(a3 x).mp hx;simpa using this
 by_cases e:k="chance"
 ·simp only [Ν,if_pos e];exact key _
 ·simp only [Ν,if_neg e];exact key _
theorem CB(c:Nat->Nat)(ds:List eL)(hs:∀d∈ds,Sz 200 (μ d))(x:NK):∃l,l<=1+201 * ds.length/\Sz l ((N51.get (Ν c (.ν "chance" ds)).1 (Ν c (.ν "chance" ds)).2 x).getD (0,1)):=by
 have e:Ν c (.ν "chance" ds)=N51.fA dr (0,1) (ds.map λd=>(aw c d,μ d)):=by simp only [Ν,if_pos]
 rw [e,(N51.eG dr (0,1) (ds.map λd=>(aw c d,μ d))).2.2.2 x]
 obtain ⟨l,h1,h2⟩:=qF x (ds.map λd=>(aw c d,μ d)) (0,1) 1 (λy hy=>by
  obtain ⟨d,hd,rfl⟩:=aan.mp hy
  exact hs d hd) ⟨by decide,by decide,by decide⟩
 exact ⟨l,by simpa using h1,h2⟩
def zT(P:Program)(w:World)(C:Addr):DF:=λas M q _=>∃Ε γ i r n c dc,as=[bQ C Ε γ, .int (i:Nat),dc]/\(∀E,eW (M++E) dc=some (aG n c))/\γ[i]? =some r/\bJ r/\(∀d∈cD r,0<=d.1/\d.1 < n)/\(∀d∈cD r,Sz 200 (μ d))/\n<=12/\q (.loc M.length) (M++[lE P w (Ν c r).1 ((Ν c r).2.map ah)])
theorem gw:χ ["floor","place","classes","pairs","door","pair"] ["floor","place","classes"] (ο mT):= .of rfl
theorem uD(F:cY K "pairs_of" "pairs_of" mT f fd)(E:Ev K mg Cm){r8:Addr}{rP:FuncData}(eQ:i0 P w K mg base 2 Cm "doors" ["self","place"] (AS Cm) r8 rP)(ai:i0 P w K mg base 1 Cm "kind" ["self","place"] (rN Cm) bO bR){Io:Addr}{J3:FuncData}(uB:aD P w K mg base 3 "plus" ["one","other"] Dx Io J3):ao P w K mg base (cq P w) 5 f fd ["floor","place","classes"] (cQ K (zT P w Cm)):=by
 refine F.fi gw (λds M q x h=> ?_) (λbq A outer s H E' hr=>⟨_,(ζ (π 3 gw.nd (Gz (P:=P) (w:=w) Gs))
   (ζ (gy (bz (cm (j0 eQ hr ξ (jv 0) (Ο (jv 1) ε)))) (Χ (i:=4) gw.nd rfl (Or.inl rfl)) aC (ζ (π 5 gw.nd (aA (η (ω (jv 4) ι) (η (ω (jv 2) (ω (jv 4) ι)) ε aI) aI)))
   (θ (aj (bF hr (j0 ai hr ξ (jv 0) (Ο (jv 1) ε)) gH) (θ (vP (P:=P) (w:=w) hr (jv 3) (jv 5) (Ω uB hr ξ (η (BK (P:=P) (w:=w) hr (jv 3) (jv 5) (aA (η ι (η ι ε aU) aU))) (η (ω (jv 4) ι) ε aI) bc)))) (θ (vP (P:=P) (w:=w) hr (jv 3) (jv 5) (aA (η ι (η ι ε aU) aU))))))))
   (θ (υ (jv 3))))),λds M q x h=> ?_⟩)
 ·obtain ⟨Ε,γ,i,r,n,c,dc,rfl,_⟩:=h;rfl
 ·obtain ⟨Ε,γ,i,r,n,c,dc,rfl,Ki,e,ok,ht,hs,hn,h⟩:=h;have eM:(M++[MO.Bc [] []]).set M.length (lE P w [] [])=M++[lE P w [] []]:=by simp
  refine ⟨M.length,rfl,by simp, ?_⟩;rw [eM];refine ⟨⟨_,_, .inl rfl,rfl⟩,Ε,γ,i,r,rfl,e,ok,cK (dJ _) ?_⟩
  match r,e,ok,ht,hs,h with
  | .fin p,_,_,_,_,h=>exact ⟨trivial,h⟩
  | .ν kd ds,e,ok,ht,hs,h=>
  show gG _ _ _ (λ_=>True) (ds.map ba) [some (bQ Cm Ε γ),some (.int (i:Nat)),some dc,some (.loc M.length),none,none] (M++[lE P w [] []]);refine dz (λxs ρ M'=>∃done Δ a b,ds=done++Δ/\xs=Δ.map ba/\ρ=[some (bQ Cm Ε γ),some (.int (i:Nat)),some dc,some (.loc M.length),a,b]/\M'=M++[lE P w (Ν c (.ν kd done)).1 ((Ν c (.ν kd done)).2.map ah)]) (λ_ _ _ _=>trivial) (λx xs ρ M' hJ ih=> ?_) (λρ M' hJ=> ?_) _ _ _ ⟨[],ds,none,none,rfl,rfl,rfl,by rw [zr];rfl⟩
  ·obtain ⟨done,Δ,a,b,e1,e2,rfl,rfl⟩:=hJ;cases Δ with
   | nil=>cases e2
   | cons d Δ=>
    cases e2;have md:d∈ds:=by rw [e1];simp
    obtain ⟨t0,tn⟩:=ht d md;obtain ⟨t,et⟩:=Int.eq_ofNat_of_zero_le t0;have tl:t < n:=by omega
    have Gv:fF ((List.range n).map λi=>Dt.int (c i:Nat)) d.1=some (.int (c t:Nat)):=by rw [et];exact Η (by rw [aaf,aaZ tl];rfl)
    generalize Et:(gG (gN 4) _ _ _ (Δ.map ba):En->Ms->Prop)=Nx at ih⊢;walk_at "vc";refine τ (d:=ba d) (xs:= .int d.1::ah d.2.1::d.2.2.map ah) rfl (Η (j:=1) rfl) ?_;refine τ (d:=ba d) (xs:= .int d.1::ah d.2.1::d.2.2.map ah) rfl az ?_;refine τ (d:=dc) (Ki _) Gv ?_;refine ⟨fI,⟨_,_, .inl rfl,rfl⟩,Ε,γ,i,_,rfl,e, ?_⟩;have ek:Dt.tup [ah d.2.1,Dt.int (c t:Nat)]=CJ (aw c d):=by unfold CJ aw;rw [et];rfl
    have gm:(M++[lE P w (Ν c (.ν kd done)).1 ((Ν c (.ν kd done)).2.map ah)])[M.length]? =some (lE P w (Ν c (.ν kd done)).1 ((Ν c (.ν kd done)).2.map ah)):=by simp
    obtain ⟨f1,f2⟩:=mr c kd done;have f3:(Ν c (.ν kd done)).1.length < 1000:=by
     have q1:ds.length<=12:=ok.2.1;have q2:done.length<=ds.length:=by rw [e1];simp
     omega
    have nx:∀v,v=(if kd="chance" then dr ((N51.get (Ν c (.ν kd done)).1 (Ν c (.ν kd done)).2 (aw c d)).getD (0,1)) (μ d) else (1,1))->∀ρ',ρ'=[some (bQ Cm Ε γ),some (.int (i:Nat)),some dc,some (.loc M.length),some (ba d),some (.tup [ah d.2.1, .int (c t:Nat)])]->Nx ρ' ((M++[lE P w (Ν c (.ν kd done)).1 ((Ν c (.ν kd done)).2.map ah)]).set M.length (lE P w (je (Ν c (.ν kd done)).1 (aw c d)) (iK (Ν c (.ν kd done)).1 (aw c d) ((Ν c (.ν kd done)).2.map ah) (ah v)))):=by rintro v ev _ rfl;refine ih _ _ ⟨done++[d],Δ,_,_,by rw [e1];simp,rfl,rfl, ?_⟩;rw [xZ,wC,yr,ev];simp
    refine ⟨λhb=> ?_,λhb=> ?_⟩
    ·have hb:kd="chance":=aar hb;have hc:=(ok.2.2.1 hb).1 d md;obtain ⟨l,Ks,Ej⟩:=CB c done (λd hd=>hs d (by rw [show cD (.ν kd ds)=ds from rfl,e1];exact aa1 _ hd)) (aw c d);have q1:ds.length<=12:=ok.2.1;have q2:done.length<=ds.length:=by rw [e1];simp
     refine ⟨⟨M.length,_,_,rfl,gm,f1⟩,fI,M.length,_,_,aw c d,rfl,gm,f1,ek, ?_⟩;subst hb;have eg:(c_ (Ν c (.ν "chance" done)).1 ((Ν c (.ν "chance" done)).2.map ah) (aw c d)).getD (Dt.tup [.int 0, .int 1])=ah ((N51.get (Ν c (.ν "chance" done)).1 (Ν c (.ν "chance" done)).2 (aw c d)).getD (0,1)):=by rw [gx];cases N51.get (Ν c (.ν "chance" done)).1 (Ν c (.ν "chance" done)).2 (aw c d) <;> rfl
     rw [eg];have ed:ba d= .tup [.int d.1,ah d.2.1,ah (μ d)]:=by unfold ba;rw [hc];rfl
     refine (τ (d:=ba d) (xs:=[.int d.1,ah d.2.1,ah (μ d)]) (by rw [ed];rfl) (Η (j:=2) rfl) ?_:dF (ba d) (.int 2) (M++[_]) _);exact ⟨_,μ d,l,200,rfl,Ej,hs d md,by omega,M.length,_,_,aw c d,rfl,gm,f1,ek,f3,nx _ (by rw [aaP rfl]) _ rfl⟩
    ·have hb:¬kd="chance":=abt hb;refine ⟨fI,M.length,_,_,aw c d,rfl,gm,f1,ek,f3,nx (1,1) (by rw [aaJ hb]) _ rfl⟩
  ·obtain ⟨done,Δ,a,b,e1,e2,rfl,rfl⟩:=hJ;cases Δ with
   | cons d Δ=>cases e2
   | nil=>
    rw [aaY] at e1;subst e1;exact h
abbrev PD:=List NK×List Fr
def jy(D D':PD)(j:Nat):Bool:=match D.1[j]?,D.2[j]? with
 | some k,some v=>(match N51.get D'.1 D'.2 k with
  | some v'=>decide (v=v')
  | none=>false)
 | _,_=>false
def cP(D D':PD):Bool:=decide (D.1.length=D'.1.length)&&(List.range D.1.length).all (jy D D')
theorem eq2{m:Nat}{Ds:List PD}(hM:∀(i:Nat) (D:PD),Ds[i]? =some D->M[m+i]? =some (lE P w D.1 (D.2.map ah)))(hl:∀(i:Nat) (D:PD),Ds[i]? =some D->D.1.length=D.2.length){D D':PD}(hi:Ds[i]? =some D)(hj:Ds[j]? =some D'):
  xx P w M 2 (.tup [.int (c i:Nat), .loc (m+i)]) (.tup [.int (c j:Nat), .loc (m+j)]) (decide (c i=c j)&&(if i=j then true else cP D D')):=by
 refine ⟨_,_,λx=>match x with | 0=>fo (.int (c i:Nat)) (.int (c j:Nat)) | _=>if i=j then true else cP D D',rfl,rfl,rfl,λx d d' h1 h2 ja=> ?_, ?_⟩
 ·match x with
  | 0=>cases h1;cases h2;exact .eq (.flat rfl rfl)
  | 1 =>
   cases h1;cases h2;show tP P w M 2 _ _ (if i=j then true else cP D D');by_cases e:i=j
   ·subst e;rw [aaP rfl];exact .same
   ·rw [aaJ e];have l1:=hl i D hi;have l2:=hl j D' hj;unfold cP;by_cases le:D.1.length=D'.1.length
    ·rw [aaq le,abx];refine .nd (by omega) (hM i D hi) (hM j D' hj) (by rw [aab];exact l1) (by rw [aab];exact l2) le (λx k hk hn=> ?_) λx k d d' hk hd hn=> ?_
     ·rw [gx,Option.map_eq_none_iff] at hn;unfold jy;rw [hk,aaa (show x < D.2.length by rw [<-l1];exact (aad.mp hk).1)];show (match N51.get D'.1 D'.2 k with | some v'=>_ | none=>false)=false;rw [hn]
     ·rw [gx] at hn;obtain ⟨v',g,rfl⟩:=aaL.mp hn;rw [aaf] at hd;obtain ⟨v,gv,rfl⟩:=aaL.mp hd;have:jy D D' x=decide (v=v'):=by unfold jy;rw [hk,gv];show (match N51.get D'.1 D'.2 k with | some v'=>decide (v=v') | none=>false)=_;rw [g]
      rw [this];exact mV v v'
    ·rw [aaF le,Bool.false_and];exact .len (by omega) (hM i D hi) (hM j D' hj) (by rw [aab];exact l1) (by rw [aab];exact l2) le
  | x+2=>cases h1
 ·show _=(List.range 2).all _;rw [kX];show _=(fo (.int (c i:Nat)) (.int (c j:Nat))&&_)
  congr 1
  rw [abd];simp [fo];omega
theorem rj{te:DE}{cs:En}{f:Nat->Dt}{g:Nat->MO}{M:Ms}{k:List Dt->Ms->Prop}:∀(n lo:Nat) (ae:List Dt),(∀i,lo<=i->i < lo+n->∀q:DQ,q (f i) (M++(List.range (i+1)).map g)->te (some (.int (i:Nat))::cs) (M++(List.range i).map g) q iC)->k (ae++(List.range' lo n).map f) (M++(List.range (lo+n)).map g)->kz te cs ((List.range' lo n).map λi=>Dt.int (i:Nat)) ae (M++(List.range lo).map g) k
 | 0,lo,ae,_,h=>by simpa [kz] using h
 | n+1,lo,ae,hf,h=>by rw [List.range'_succ,aaQ];refine hf lo (aal _) (by omega) _ ?_;refine rj n (lo+1) (ae++[f lo]) (λi h1 h2=>hf i (by omega) (by omega)) ?_;rw [List.range'_succ,aaQ] at h;rw [abc,show lo+1+n=lo+(n+1) by omega];exact h
theorem NG(n:Nat):bf 0 n=(List.range' 0 n).map λi=>Dt.int (i:Nat):=by unfold bf;rw [List.range_eq_range'];exact aa0 λi _=>by rw [aa9]
def h9(γ:List Rw)(c:Nat->Nat)(j i:Nat):Bool:=decide (c j=c i)&&(if j=i then true else match γ[j]?,γ[i]? with
 | some r,some r'=>cP (Ν c r) (Ν c r')
 | _,_=>false)
def GV(P:Program)(w:World)(c:Nat->Nat)(r:Rw):MO:=lE P w (Ν c r).1 ((Ν c r).2.map ah)
def Ai(P:Program)(w:World)(C:Addr):DF:=λas M q _=>∃Ε γ c dc,as=[bQ C Ε γ,dc]/\(∀E,eW (M++E) dc=some (aG γ.length c))/\γ.length<=12/\(∀r∈γ,bJ r)/\(∀r∈γ,∀d∈cD r,0<=d.1/\d.1 < γ.length)/\(∀r∈γ,∀d∈cD r,Sz 200 (μ d))/\q (.loc (M++γ.map (GV P w c)).length) (M++γ.map (GV P w c)++[.lst (aG γ.length (N51.least (h9 γ c)))])
theorem gM:χ ["floor","classes"] ["floor","classes"] (ο eR):= .of rfl
theorem mG(F:cY K "next_classes" "next_classes" eR f fd)(E:Ev K mg Cm){g6:Addr}{ij:FuncData}(bZ:aD P w K mg base 1 "classes_by" ["marks"] (qO P w) g6 ij){gZ:Addr}{ig:FuncData}(bU:i0 P w K mg base 1 Cm "size" ["self"] (z7 Cm) gZ ig){yS:Addr}{zM:FuncData}(jZ:aD P w K mg base 5 "pairs_of" ["floor","place","classes"] (zT P w Cm) yS zM):ao P w K mg base (cq P w) 7 f fd ["floor","classes"] (cQ K (Ai P w Cm)):=by
 refine F.fi gM (λds M q x h=> ?_) (λbq A outer s H E' hr=>⟨_,(θ (υ (Ω bZ hr ξ (η (tM (ys:=["classes","floor"]) (Θ:=[1,0]) (.of gM rfl rfl rfl) (aB E.ax (η (v7 bU hr ξ (jv 0)) ε bc)) (λC s H fp=>(aA (η (ω (jv 1) (jv 0)) (η (Ω jZ hr (cT (P:=P) (w:=w)) (Ο (jv 2) (Ο (jv 0) (Ο (jv 1) ε)))) ε bc) aI)))) ε)))),λds M q x h=> ?_⟩)
 ·obtain ⟨Ε,γ,c,dc,rfl,_⟩:=h;rfl
 ·obtain ⟨Ε,γ,c,dc,rfl,Ki,hl,ok,ht,hs,h⟩:=h;walk_at "vc";dsimp only [lX,rg,fj,kL,r6,ee];refine ⟨⟨_,_, .inl rfl,rfl⟩,Ε,γ,rfl,⟨by omega,by omega⟩,by rw [bL];exact aak (show _<=12 by omega) (by decide), ?_⟩;obtain ⟨g,eg⟩:∃g:Nat->MO,g=λi=>GV P w c (γ.getD i (.fin (0,1))):=⟨_,rfl⟩;have gi:∀i r,γ[i]? =some r->g i=GV P w c r:=λi r h=>by rw [eg];show GV P w c (γ.getD i _)=_;rw [aaS,h];rfl
  rw [Int.toNat_natCast,NG,show M=M++(List.range 0).map g from (by simp)];refine rj (f:=λi=> .tup [.int (c i:Nat), .loc (M.length+i)]) γ.length 0 [] (λi _ hi q' hq=> ?_) ?_
  ·have hi:i < γ.length:=by omega
   have e:γ[i]? =some γ[i]:=aaa hi;have Gv:fF ((List.range γ.length).map λi=>Dt.int (c i:Nat)) ((i:Nat):Int)=some (.int (c i:Nat)):=Η (by rw [aaf,aaZ hi];rfl);dsimp only [Cc,fj,kL,gC,ee,zq];refine (τ (d:=dc) (Ki _) Gv ?_:dF dc (.int ((i:Nat):Int)) (M++(List.range i).map g) _);have me:=aaV hi;refine ⟨Ε,γ,i,γ[i],γ.length,c,dc,rfl,λE=>by rw [abc];exact Ki _,e,ok _ me,ht _ me,hs _ me,hl,fI, ?_⟩;rw [abw,aao,<-abc] at hq;have z:(M++(List.range i).map g).length=M.length+i:=by simp
   rw [z];have z2:[lE P w (Ν c γ[i]).1 ((Ν c γ[i]).2.map ah)]=List.map g [i]:=by rw [aaQ,List.map_nil,gi i _ e];rfl
   rw [z2];exact hq
  ·show qO P w [Dt.lst _] _ _ _;rw [Nat.zero_add,aaU,<-List.range_eq_range'];have st:M++(List.range γ.length).map g=M++γ.map (GV P w c):=by
    congr 1
    refine List.ext_getElem? λi=> ?_;rw [aaf,aaf];rcases abo i γ.length with hi | hi
    ·rw [aaZ hi,aaa hi];show some (g i)=some _;rw [gi i _ (aaa hi)]
    ·rw [List.getElem?_eq_none (by simpa using hi),List.getElem?_eq_none hi];rfl
   rw [st];refine ⟨_,h9 γ c,rfl,by simp;omega,λi j d d' h1 h2=> ?_,λi hi=> ?_,by rw [List.length_map,List.length_range];exact h⟩
   ·rw [aaf] at h1 h2;obtain ⟨i',e1,rfl⟩:=aaL.mp h1;obtain ⟨j',e2,rfl⟩:=aaL.mp h2;have li:i < γ.length:=by have:=(List.getElem?_eq_some_iff.mp e1).1;simpa using this
    have lj:j < γ.length:=by have:=(List.getElem?_eq_some_iff.mp e2).1;simpa using this
    rw [aaZ li] at e1;rw [aaZ lj] at e2;cases e1;cases e2;have a1:h9 γ c i j=(decide (c i=c j)&&(if i=j then true else cP (Ν c γ[i]) (Ν c γ[j]))):=by unfold h9;rw [aaa li,aaa lj]
    rw [a1];refine eq2 (Ds:=γ.map (Ν c)) (λk D hk=> ?_) (λk D hk=> ?_) (by rw [aaf,aaa li];rfl) (by rw [aaf,aaa lj];rfl)
    ·rw [aaf] at hk;obtain ⟨r,e,rfl⟩:=aaL.mp hk;rw [aav (by omega),Nat.add_sub_cancel_left,aaf,e];rfl
    ·rw [aaf] at hk;obtain ⟨r,e,rfl⟩:=aaL.mp hk;cases r with
     | fin p=>rfl
     | ν k ds=>have:=(mr c k ds).1;rwa [aab] at this
   ·unfold h9;simp
def BW(D:PD):Prop:=D.2.length=D.1.length/\D.1.Nodup
theorem oF{D D':PD}(h:BW D)(h':BW D'):cP D D'=true↔∀k,N51.get D.1 D.2 k=N51.get D'.1 D'.2 k:=by
 rw [<-N51.xF h.1 h'.1 h.2 h'.2];unfold cP;rw [aax,decide_eq_true_eq,aa4];refine and_congr_right λ_=>⟨λq j k v hk hv=> ?_,λq j hj=> ?_⟩
 ·have:=q j (aaC.mpr (aad.mp hk).1);unfold jy at this;rw [hk,hv] at this;cases g:N51.get D'.1 D'.2 k with
  | none=>
   have this:(match N51.get D'.1 D'.2 k with | some v'=>decide (v=v') | none=>false)=true:=this;rw [g] at this;cases this
  | some v'=>
   have this:(match N51.get D'.1 D'.2 k with | some v'=>decide (v=v') | none=>false)=true:=this;rw [g] at this;rw [aar this]
 ·have hj:=aaC.mp hj;have iA:j < D.2.length:=by rw [h.1];exact hj
  unfold jy;rw [aaa hj,aaa iA];show (match N51.get D'.1 D'.2 D.1[j] with | some v'=>decide (D.2[j]=v') | none=>false)=true;rw [q j _ _ (aaa hj) (aaa iA)];exact aaq rfl
theorem ly(c:Nat->Nat)(r:Rw):BW (Ν c r):=by
 cases r with
 | fin p=>exact ⟨rfl,List.nodup_nil⟩
 | ν k ds=>
  have key:∀(op:Fr->Fr->Fr),BW (N51.fA op (0,1) (ds.map λd=>(aw c d,μ d))):=λop=>by obtain ⟨a1,a2,_⟩:=N51.eG op (0,1) (ds.map λd=>(aw c d,μ d));exact ⟨a1,a2⟩
  by_cases e:k="chance"
  ·simp only [Ν,if_pos e];exact key _
  ·simp only [Ν,if_neg e];exact key _
theorem dX{γ:List Rw}(hi:i < γ.length)(hj:j < γ.length):h9 γ c i j=true↔c i=c j/\∀k,N51.get (Ν c γ[i]).1 (Ν c γ[i]).2 k=N51.get (Ν c γ[j]).1 (Ν c γ[j]).2 k:=by
 have a1:h9 γ c i j=(decide (c i=c j)&&(if i=j then true else cP (Ν c γ[i]) (Ν c γ[j]))):=by unfold h9;rw [aaa hi,aaa hj]
 rw [a1,aax,decide_eq_true_eq];refine and_congr_right λ_=> ?_;by_cases e:i=j
 ·subst e;rw [aaP rfl];exact ⟨λ_ _=>rfl,λ_=>rfl⟩
 ·rw [aaJ e];exact oF (ly c _) (ly c _)
theorem yX(γ:List Rw)(c:Nat->Nat):N51.Cl γ.length (N51.least (h9 γ c)):=
 N51.sH (λi hi=>(dX hi hi).mpr ⟨rfl,λ_=>rfl⟩) λi j k hi hj hk h1 h2=>(dX hi hk).mpr ⟨((dX hi hj).mp h1).1.trans ((dX hj hk).mp h2).1,λx=>(((dX hi hj).mp h1).2 x).trans (((dX hj hk).mp h2).2 x)⟩
theorem jD(γ:List Rw)(c:Nat->Nat)(hi:i < γ.length):c (N51.least (h9 γ c) i)=c i:=by have h:=N51.gb (s:=h9 γ c) (i:=i) ((dX hi hi).mpr ⟨rfl,λ_=>rfl⟩);exact ((dX (aaH (N51.least_le _ _) hi) hi).mp h).1
theorem Au{γ:List Rw}(hc:N51.Cl γ.length c)(hi:i < γ.length)(ne:N51.least (h9 γ c) i≠c i):(N51.fP γ.length c).length < (N51.fP γ.length (N51.least (h9 γ c))).length:=
 N51.HK hc (yX γ c) (λ_ h=>jD γ c h) hi ne
theorem si:∀{r s t:Rw},dU r s=true->dU s t=true->dU r t=true
 | .fin p, .fin q, .fin o,h1,h2=>by have h1:p=q:=aar h1;rw [h1];exact h2
 | .ν k _, .ν l _, .ν o _,h1,h2=>by have h1:k=l:=aar h1;have h2:l=o:=aar h2;exact aaq (h1.trans h2)
 | .fin _, .ν _ _,_,h1,_=>(nomatch h1)
 | .ν _ _, .fin _,_,h1,_=>(nomatch h1)
 | .fin _, .fin _, .ν _ _,_,h2=>(nomatch h2)
 | .ν _ _, .ν _ _, .fin _,_,h2=>(nomatch h2)
theorem fY{γ:List Rw}(hi:i < γ.length)(hj:j < γ.length):fS γ i j=dU γ[i] γ[j]:=by unfold fS;rw [aaa hi,aaa hj]
theorem Gp(γ:List Rw):N51.Cl γ.length (N51.least (fS γ)):=
 N51.sH (λi hi=>by rw [fY hi hi];exact gY _) λi j k hi hj hk h1 h2=>by rw [fY hi hj] at h1;rw [fY hj hk] at h2;rw [fY hi hk];exact si h1 h2
def lC(γ:List Rw):Nat->Nat->Nat
 | 0=>N51.least (fS γ)
 | k+1=>N51.least (h9 γ (lC γ k))
def bD(γ:List Rw)(k:Nat):List Dt:=aG γ.length (lC γ k)
theorem EN(γ:List Rw)(k:Nat):N51.Cl γ.length (lC γ k):=by
 cases k with
 | zero=>exact Gp γ
 | succ k=>exact yX γ _
theorem dW:(aG n c).length=n:=by unfold aG;rw [List.length_map,List.length_range]
theorem gz(h:i < n):(aG n c)[i]? =some (.int (c i:Nat)):=by unfold aG;rw [List.getElem?_map,List.getElem?_range h];rfl
theorem zV:aG n c=aG n c'↔∀i,i < n->c i=c' i:=by
 constructor
 ·intro h i hi;have:=gz (c:=c) hi;rw [h,gz hi] at this;have:=aat this;have:((c' i:Nat):Int)=(c i:Nat):=Dt.int.inj this;omega
 ·intro h;unfold aG;exact aa0 λi hi=>by rw [h i (aaC.mp hi)]
theorem FQ(h:aG n c≠aG n c'):∃i,i < n/\c i≠c' i:=
 Classical.byContradiction λq=>h (zV.mpr λi hi=>Classical.byContradiction λz=>q ⟨i,hi,z⟩)
theorem A4{γ:List Rw}(h:bD γ (k+1)≠bD γ k):(N51.fP γ.length (lC γ k)).length < (N51.fP γ.length (lC γ (k+1))).length:=by obtain ⟨i,hi,ne⟩:=FQ h;exact Au (EN γ k) hi ne
structure vc(γ:List Rw)(m:Nat):Prop where
 pos:1<=m
 E8:m<=13
 ne:∀k,k+1 < m->bD γ (k+1)≠bD γ k
 eq:bD γ m=bD γ (m - 1)
theorem vc.uniq{γ:List Rw}{m m':Nat}(h:vc γ m)(h':vc γ m'):m=m':=by
 have key:∀{a b:Nat},vc γ a->vc γ b->¬a < b:=λ{a b} ha hb hl=>by have p:=ha.pos;have:=hb.ne (a - 1) (by omega);rw [show a - 1+1=a by omega] at this;exact this ha.eq
 have a:=key h h';have b:=key h' h;omega
def oM(n:Nat)(c c':Nat->Nat):Bool:=(List.range n).all λj=>decide (c j=c' j)
theorem eJ:oM n c c'=true↔aG n c=aG n c':=by unfold oM;rw [aa4,zV];exact ⟨λh i hi=>aar (h i (aaC.mpr hi)),λh i hi=>aaq (h i (aaC.mp hi))⟩
theorem lh{e:Dt}(h1:gB M d=some (aG n c))(h2:gB M e=some (aG n c')):nI M (k+1) d e (oM n c c'):=by
 have h:=nI.lst (M:=M) (n:=k) (d:=d) (e:=e) (f:=λj=>decide (c j=c' j)) h1 h2 (by rw [dW,dW]) λj x y hx hy=>by
  have lj:j < n:=by have:=(aad.mp hx).1;rwa [dW] at this
  rw [gz lj] at hx hy;cases hx;cases hy;have z:fo (V.int ((c j:Nat):Int)) (V.int ((c' j:Nat):Int))=decide (c j=c' j):=by rw [Bool.eq_iff_iff];simp [fo];omega
  have:=nI.flat (M:=M) (n:=k) (d:= .int ((c j:Nat):Int)) (e:= .int ((c' j:Nat):Int)) rfl rfl;rwa [z] at this
 rw [dW] at h;exact h
theorem sY:fF (xs++[d]) (-1)=some d:=by
 unfold fF;rw [aae];show ((xJ (xs.length+1) (-1)).bind _)=_;have e:xJ (xs.length+1) (-1)=some xs.length:=by unfold xJ;simp;omega
 rw [e];show (xs++[d])[xs.length]? =_;simp
theorem cb{o:MO}:(M++[o])[M.length]? =some o:=by simp
theorem cM{E:Ms}{m:MO}(h:M[k]? =some m):(M++E)[k]? =some m:=by rw [aay (aad.mp h).1];exact h
theorem cz(h:M[k]? =some (MO.lst xs)):eW M (.loc k)=some xs:=by show (match M[k]? with | some (.lst xs)=>some xs | _=>none)=_;rw [h]
theorem au(h:M[k]? =some (MO.lst xs)):gB M (.loc k)=some xs:=by show (match M[k]? with | some (.lst xs)=>some xs | _=>none)=_;rw [h]
def Xt(M M1:Ms):Prop:=∀(k:Nat) (o:MO),M[k]? =some o->M1[k]? =some o
section
variable{M1 M2:Ms}
theorem Xt.trans(a:Xt M M1)(b:Xt M1 M2):Xt M M2:=λk o h=>b k o (a k o h)
theorem Xt.app{E:Ms}:Xt M (M++E):=λ_ _ h=>cM h
theorem Xt.set{o:MO}(a:Xt M M1)(h:M.length<=j):Xt M (M1.set j o):=λk u e=>by rw [aaR (λq=>by have:=(aad.mp e).1;omega)];exact a k u e
end
structure rm(M:Ms)(lo kr:Nat)(γ:List Rw)(ls:List Nat):Prop where
 at':M[kr]? =some (.lst (ls.map Dt.loc))
 lo1:lo<=kr
 each:∀k a,ls[k]? =some a->lo<=a/\a≠kr/\M[a]? =some (.lst (bD γ k))
 nd:ls.Nodup
theorem rm.mono{M1:Ms}{lo kr:Nat}{γ:List Rw}{ls:List Nat}(h:rm M lo kr γ ls)(x:Xt M M1):rm M1 lo kr γ ls:=
 ⟨x _ _ h.at',h.lo1,λk a e=>⟨(h.each k a e).1,(h.each k a e).2.1,x _ _ (h.each k a e).2.2⟩,h.nd⟩
structure Ol(γ:List Rw):Prop where
 len:γ.length<=12
 ok:∀r∈γ,bJ r
 to:∀r∈γ,∀d∈cD r,0<=d.1/\d.1 < γ.length
 sz:∀r∈γ,∀d∈cD r,Sz 200 (μ d)
def vK(C:Addr):DF:=λas M q _=>∃Ε γ,as=[bQ C Ε γ]/\Ol γ/\∀(m kr:Nat) (ls:List Nat) (M1:Ms),vc γ m->ls.length=m->Xt M M1->rm M1 M.length kr γ ls->q (.loc kr) M1
theorem iD:χ ["floor","rounds","classes"] ["floor"] (ο qy):= .of rfl
theorem wH   (F:cY K "parted" "parted" qy f fd) (E:Ev K mg Cm) {nC:Addr} {m8:FuncData} (dw:aD P w K mg base 4 "first_classes" ["floor"] (y9 Cm) nC m8) {p_:Addr} {qB:FuncData} (cC:aD P w K mg base 7 "next_classes" ["floor","classes"] (Ai P w Cm) p_ qB):ao P w K mg base (cq P w) 9 f fd ["floor"] (cQ K (vK Cm)):=by
 refine F.fi iD (λds M q x h=> ?_) (λbq A outer s H E' hr=>⟨_,(ζ (π 1 iD.nd (gS (η (Ω dw hr ξ (Ο (jv 0) ε)) ε bc)))
   (ζ (π 2 iD.nd (Ω cC hr ξ (Ο (jv 0) (η (ω (jv 1) (rY ι)) ε aI))))
   (ζ (mN (pU 1 hr (jv 2) (ω (jv 1) (rY ι))) (ζ (fb (eB (jv 1) (Ο (jv 2) ε)))
   (θ (π 2 iD.nd (Ω cC hr ξ (Ο (jv 0) (Ο (jv 2) ε)))))))
   (θ (υ (jv 1)))))),λds M q x h=> ?_⟩)
 ·obtain ⟨Ε,γ,rfl,_⟩:=h;rfl
 ·obtain ⟨Ε,γ,rfl,fl,h⟩:=h;walk_at "vc";dsimp only [DC];walk_at "vc";refine ⟨Ε,γ,rfl,fl.len,fl.ok, ?_⟩;have l0:(M++[MO.lst (aG γ.length (N51.least (fS γ)))]).length=M.length+1:=by rw [aae];rfl
  refine ⟨by decide, ?_⟩;rw [l0];have a0:(M++[MO.lst (aG γ.length (N51.least (fS γ)))]++[MO.lst [Dt.loc M.length]])[M.length]? =some (.lst (bD γ 0)):=cM cb;have a1:(M++[MO.lst (aG γ.length (N51.least (fS γ)))]++[MO.lst [Dt.loc M.length]])[M.length+1]? =some (.lst ([M.length].map Dt.loc)):=by rw [<-l0];exact cb
  have x1:Xt M (M++[MO.lst (aG γ.length (N51.least (fS γ)))]++[MO.lst [Dt.loc M.length]]):=Xt.app.trans Xt.app;have l1:(M++[MO.lst (aG γ.length (N51.least (fS γ)))]++[MO.lst [Dt.loc M.length]]).length=M.length+2:=by rw [aae,l0];rfl
  generalize M++[MO.lst (aG γ.length (N51.least (fS γ)))]++[MO.lst [Dt.loc M.length]]=M1 at *
  show dF (.loc (M.length+1)) (.int (-1)) M1 (λd2 M2=>Ai P w Cm [bQ Cm Ε γ,d2] M2 _ _);refine (τ (d:= .loc (M.length+1)) (i:= -1) (cz a1) (sY (xs:=[])) ?_:dF (.loc (M.length+1)) (.int (-1)) M1 _);refine ⟨Ε,γ,lC γ 0, .loc M.length,rfl,λE=>cz (cM a0),fl.len,fl.ok,fl.to,fl.sz, ?_⟩;refine ⟨λmm ρ' M2=>∃(k kc:Nat) (ls:List Nat),mm=13 - (N51.fP γ.length (lC γ k)).length/\k<=(N51.fP γ.length (lC γ k)).length/\ls.length=k+1/\(∀j,j < k->bD γ (j+1)≠bD γ j)/\Xt M M2/\rm M2 M.length (M.length+1) γ ls/\M.length<=kc/\kc≠M.length+1/\kc∉ls/\M2[kc]? =some (.lst (bD γ (k+1)))/\ρ'=[some (bQ Cm Ε γ),some (.loc (M.length+1)),some (.loc kc)],⟨_,0,_,[M.length],rfl,Nat.zero_le _,rfl,λj hj=>absurd hj (by omega),x1.trans (Xt.app.trans Xt.app),⟨cM (cM a1),by omega,λk a e=> ?_,by simp⟩, ?_, ?_, ?_,cb,rfl⟩,λmm ρ' M2 hw=> ?_⟩
  ·cases k with
   | zero=>cases e;exact ⟨aal _,by omega,cM (cM a0)⟩
   | succ k=>cases e
  ·rw [aae,l1];omega
  ·rw [aae,l1];omega
  ·rw [aae,l1,List.mem_singleton];omega
  ·obtain ⟨k,kc,ls,rfl,hk,hl,ne,x2,ca,c1,c2,c3,hc,rfl⟩:=hw;have OA:=aak (N51.BX γ.length (lC γ k)) fl.len;obtain ⟨li,la,rfl⟩:∃li la,ls=li++[la]:=⟨ls.dropLast,ls.getLast (λe=>by subst e;cases hl),(List.dropLast_concat_getLast _).symm⟩;have Qz:li.length=k:=by rw [aae] at hl;exact Nat.succ.inj hl
   have R1:(li++[la])[k]? =some la:=by rw [aav (by omega),Qz,abk];rfl
   have xb:=ca.each k la R1;have EE:fF ((li++[la]).map Dt.loc) (-1)=some (.loc la):=by rw [aao];exact sY
   walk_at "vc";dsimp only [zZ];refine (τ (d:= .loc (M.length+1)) (i:= -1) (cz ca.at') EE ?_:dF (.loc (M.length+1)) (.int (-1)) M2 _);refine ⟨_, .inr ⟨_,au hc⟩, .inr ⟨_,au xb.2.2⟩,lh (k:=0) (au hc) (au xb.2.2),λhb=> ?_,λhb=> ?_⟩
   ·have iB:bD γ (k+1)≠bD γ k:=λe=>by have:=eJ.mpr e;rw [this] at hb;cases hb
    have more:=A4 iB;refine ⟨_,λρ2 M3 hn=>hn, ?_⟩;dsimp only [Gd];walk_at "vc";refine ⟨⟨_,_,rfl,ca.at'⟩,M.length+1,_,_,rfl,rfl,ca.at',by rw [aab,hl];exact aaH (show k+1<=13 by omega) (by decide), ?_⟩;have Tv:=(aad.mp hc).1;have Td:=(aad.mp ca.at').1;have l3:(M2.set (M.length+1) (.lst ((li++[la]).map Dt.loc++[.loc kc]))).length=M2.length:=aa6;have OD:(M2.set (M.length+1) (.lst ((li++[la]).map Dt.loc++[.loc kc])))[kc]? =some (.lst (bD γ (k+1))):=by rw [aaR (Ne.symm c2)];exact hc
    have yh:rm (M2.set (M.length+1) (.lst ((li++[la]).map Dt.loc++[.loc kc]))) M.length (M.length+1) γ ((li++[la])++[kc]):=by
     refine ⟨by rw [aa3 Td,aao (l₁:=li++[la])];rfl,by omega,λj a e=> ?_, ?_⟩
     ·rcases abo j (li++[la]).length with q | q
      ·rw [aay q] at e;obtain ⟨e1,e2,e3⟩:=ca.each j a e;exact ⟨e1,e2,by rw [aaR (Ne.symm e2)];exact e3⟩
      ·rw [aav q] at e;have ej:j=k+1:=by have:=(aad.mp e).1;have this:j - (li++[la]).length < 1:=this;omega
       subst ej;rw [hl,abk] at e;cases e;exact ⟨c1,c2,OD⟩
     ·exact List.nodup_append.mpr ⟨ca.nd,by simp,λa ha b hb=>by
       have:b=kc:=by simpa using hb
       subst this;rintro rfl
       exact c3 ha⟩
    have x3:Xt M (M2.set (M.length+1) (.lst ((li++[la]).map Dt.loc++[.loc kc]))):=x2.set (by omega);have R3:∀j a,(li++[la]++[kc])[j]? =some a->a < M2.length:=λj a e=>by have:=(aad.mp (yh.each j a e).2.2).1;omega
    generalize M2.set (M.length+1) (.lst ((li++[la]).map Dt.loc++[.loc kc]))=M3 at *
    refine ⟨Ε,γ,lC γ (k+1), .loc kc,rfl,λE=>cz (cM OD),fl.len,fl.ok,fl.to,fl.sz, ?_⟩;refine ⟨_, ?_,k+1,_,(li++[la])++[kc],rfl,by omega,by rw [aae,hl];rfl,λj hj=> ?_,x3.trans (Xt.app.trans Xt.app),yh.mono (Xt.app.trans Xt.app), ?_, ?_, ?_,cb,rfl⟩
    ·omega
    ·rcases abo j k with q | q
     ·exact ne j q
     ·rw [show j=k by omega];exact iB
    ·rw [aae];omega
    ·rw [aae];omega
    ·intro hm;obtain ⟨j,hj⟩:=aa5.mp hm;have:=R3 j _ hj;rw [aae] at this;omega
   ·have he:bD γ (k+1)=bD γ k:=by
     refine eJ.mp ?_;cases e:oM γ.length (lC γ (k+1)) (lC γ k) with
     | true=>rfl
     | false=>rw [e] at hb;cases hb
    exact h (k+1) _ (li++[la]) M2 ⟨by omega,by omega,λj hj=>ne j (by omega),he⟩ hl x2 ca
def zK(ns:List Int)(k:Int):Int:=ns.getD k.toNat 0
theorem uX{k:Int}(h0:0<=k)(h2:k < ns.length):fF (ns.map Dt.int) k=some (.int (zK ns k)):=by
 have e:(ns.map Dt.int)[k.toNat]? =some (.int (zK ns k)):=by rw [aaf,aaa (show k.toNat < ns.length by omega)];unfold zK;rw [aaS,aaa (show k.toNat < ns.length by omega)];rfl
 have:=Η e;rwa [show ((k.toNat:Nat):Int)=k by omega] at this
theorem B7{k:Int}(h:¬k < ns.length):zK ns k=0:=by unfold zK;rw [aaS,List.getElem?_eq_none (by omega)];rfl
def BB(ns:List Int)(k:Int):Bool:=decide (k < ns.length)&&(decide (zK ns k < 0) || decide (zK ns k ≥ 10 ^ 18))
theorem Bp{k:Int}(h:BB ns k=false):0<=zK ns k/\zK ns k < 10 ^ 18:=by
 unfold BB at h;by_cases hk:k < ns.length
 ·rw [aaq hk,abx,Bool.or_eq_false_iff,decide_eq_false_iff_not,decide_eq_false_iff_not] at h;omega
 ·rw [B7 hk];exact ⟨by decide,by decide⟩
theorem Pe:mO 10 18:=⟨by decide,by decide,by decide⟩
theorem OW:mO 10 64:=⟨by decide,by decide,by decide⟩
theorem p8:mO 10 8:=⟨by decide,by decide,by decide⟩
theorem p6:mO 10 6:=⟨by decide,by decide,by decide⟩
theorem RO:mO 10 22:=⟨by decide,by decide,by decide⟩
theorem OI:mO 10 30:=⟨by decide,by decide,by decide⟩
def Nm(n:Int):Prop:=0<=n/\n < 10 ^ 128
theorem yw{n:Int}(h:Nm n):fc n:=yx (k:=440) h.1 (Int.lt_of_lt_of_le h.2 (by decide)) (by decide)
theorem lZ{a m:Int}(h0:0 < m)(h1:m<=10 ^ 128):Nm (a % m):=⟨aaB _ (by omega),Int.lt_of_lt_of_le (aaA _ h0) h1⟩
theorem mI{a m:Int}(h:Nm a)(h0:0 < m):Nm (a / m):=⟨Int.ediv_nonneg h.1 (by omega),Int.lt_of_le_of_lt (Int.ediv_le_self _ h.1) h.2⟩
def Bt:DF:=λas M q _=>∃(ns:List Int) (k:Int),as=[.cE ns, .int k]/\0<=k/\q (.bl (BB ns k)) M
theorem zL:χ ["_law_script","_law_k"] ["_law_script","_law_k"] (ο pe):= .of rfl
theorem w_(F:cY K "_law_far" "_law_far" pe f fd)(E:Ev K mg Cm):ao P w K mg base (cq P w) 1 f fd ["_law_script","_law_k"] (cQ K Bt):=by
 refine F.fi zL (λds M q x h=> ?_) (λbq A outer s H E' hr=>⟨_,(θ (υ (d_ (BE (jv 1) (bB E.bb (Ο (jv 0) ε))) (eU (G_ (BE (ω (jv 0) (jv 1)) ι) (eU (NH (ω (jv 0) (jv 1)) (eu ι ι)))))))),λds M q x h=> ?_⟩)
 ·obtain ⟨ns,k,rfl,_⟩:=h;rfl
 ·obtain ⟨ns,k,rfl,hk,h⟩:=h;unfold BB at h;walk_at "vc";refine (Ρ (d:= .cE ns) (xs:=ns.map .int) rfl ?_:c7 [.cE ns] M _);rw [aab];refine ⟨λh1=> ?_,λh1=> ?_⟩
  ·have h1:decide (k < ns.length)=true:=h1;have IW:k < ns.length:=aar h1;rw [h1,abx] at h;refine (τ (d:= .cE ns) rfl (uX hk IW) ?_:dF (.cE ns) (.int k) M _);refine ⟨λh2=> ?_,λh2=> ?_⟩
   ·have h2:decide (zK ns k < 0)=true:=h2;rw [h2,Bool.true_or] at h;exact h
   ·have h2:decide (zK ns k < 0)=false:=h2;rw [h2,Bool.false_or] at h;refine (τ (d:= .cE ns) rfl (uX hk IW) ?_:dF (.cE ns) (.int k) M _);exact ⟨Pe,h⟩
  ·have h1:decide (k < ns.length)=false:=h1;rw [h1,Bool.false_and] at h;exact h
def pC:DF:=λas M q _=>∃(ns:List Int) (k:Int),as=[.cE ns, .int k]/\0<=k/\k<=200/\∀n,Nm n->q (.int n) M
theorem zk(x:Int)(h0:0<=x)(h1:x < 2147483647):fc x/\fc (x % 65521+30011):=⟨bg (k:=40) (by omega),bg (k:=40) (by omega)⟩
theorem GG{k:Int}(h0:0<=k)(h1:k<=200):fc ((k+1) * (k+1)):=by have a:=Int.mul_le_mul (show k+1<=201 by omega) (show k+1<=201 by omega) (show 0<=k+1 by omega) (show (0:Int)<=201 by decide);have b:0<=(k+1) * (k+1):=Int.mul_nonneg (by omega) (by omega);exact bg (k:=40) (by omega)
theorem gh:χ ["_law_script","_law_k","_law_cell","_law_number_here"] ["_law_script","_law_k"] (ο gW):= .of rfl
theorem qG(F:cY K "_law_number" "_law_number" gW f fd)(E:Ev K mg Cm)(b_:aD P w K mg base 1 "_law_far" ["_law_script","_law_k"] Bt i4 iU):ao P w K mg base (cq P w) 2 f fd ["_law_script","_law_k"] (cQ K pC):=by
 refine F.fi gh (λds M q x h=> ?_) (λbq A outer s H E' hr=>⟨_,(ζ (π 2 gh.nd (Dh (oz (jv 1) (bB E.bb (Ο (jv 0) ε))) (ω (jv 0) (jv 1)) ι))
   (ζ (aj (cL (Ω b_ hr ξ (Ο (jv 0) (Ο (jv 1) ε)))) (θ (υ (ar (jv 2) (eu ι ι)))) Ζ)
   (ζ (π 3 gh.nd (ar (Υ (aQ (jv 2) ι) (aQ (aQ (Υ (jv 1) ι) (Υ (jv 1) ι)) ι)) ι))
   (θ (υ (ar (Υ (aQ (jv 3) (Υ (ar (jv 3) ι) ι)) (aQ (Υ (jv 1) ι) ι)) ι)))))),λds M q x h=> ?_⟩)
 ·obtain ⟨ns,k,rfl,_⟩:=h;rfl
 ·obtain ⟨ns,k,rfl,hk,k2,h⟩:=h;have bk:=GG hk k2;have b1:fc (k+1):=bg (k:=40) (by omega);have b3:fc (k+3):=bg (k:=40) (by omega);have cc:∀n:Int,n.natAbs < 2 ^ 20->fc n:=λn hn=>bg hn;walk_at "vc";refine (Ρ (d:= .cE ns) (xs:=ns.map .int) rfl ?_:c7 [.cE ns] M _);rw [aab];refine ⟨λh1=> ?_,λh1=> ?_⟩
  ·have IW:k < ns.length:=aar h1;refine (τ (d:= .cE ns) rfl (uX hk IW) ?_:dF (.cE ns) (.int k) M _);refine ⟨ns,k,rfl,hk,λh2=> ?_,λh2=> ?_⟩
   ·exact ⟨OW,by decide,h _ (lZ (by decide) (by decide))⟩
   ·obtain ⟨c0,c1⟩:=Bp h2;refine ⟨⟨bg (k:=64) (by omega),cc _ (by decide)⟩,⟨b1,b1⟩,⟨bk,cc _ (by decide)⟩,by decide, ?_⟩;exact ⟨by decide,zk _ (aaB _ (by decide)) (aaA _ (by decide)),⟨b3,cc _ (by decide)⟩,by decide,h _ (lZ (by decide) (by decide))⟩
  ·have IW:¬k < ns.length:=abt h1;refine ⟨ns,k,rfl,hk,λh2=> ?_,λh2=> ?_⟩
   ·exact ⟨OW,by decide,h _ (lZ (by decide) (by decide))⟩
   ·refine ⟨⟨cc _ (by decide),cc _ (by decide)⟩,⟨b1,b1⟩,⟨bk,cc _ (by decide)⟩,by decide, ?_⟩;exact ⟨by decide,zk _ (aaB _ (by decide)) (aaA _ (by decide)),⟨b3,cc _ (by decide)⟩,by decide,h _ (lZ (by decide) (by decide))⟩
theorem n9:χ ["_law_script","_law_k","_law_number_here"] ["_law_script","_law_k"] (ο lN):= .of rfl
theorem uo(F:cY K "_law_rest" "_law_rest" lN f fd)(E:Ev K mg Cm)(ψ:aD P w K mg base 2 "_law_number" ["_law_script","_law_k"] pC aM aH)(b_:aD P w K mg base 1 "_law_far" ["_law_script","_law_k"] Bt i4 iU):ao P w K mg base (cq P w) 3 f fd ["_law_script","_law_k"] (cQ K pC):=by
 refine F.fi n9 (λds M q x h=> ?_) (λbq A outer s H E' hr=>⟨_,(ζ (π 2 n9.nd (Ω ψ hr ξ (Ο (jv 0) (Ο (jv 1) ε))))
   (ζ (aj (cL (Ω b_ hr ξ (Ο (jv 0) (Ο (jv 1) ε)))) (θ (υ (bG (jv 2) (eu ι ι)))) Ζ)
   (θ (υ (ar (aQ (jv 2) ι) ι))))),λds M q x h=> ?_⟩)
 ·obtain ⟨ns,k,rfl,_⟩:=h;rfl
 ·obtain ⟨ns,k,rfl,hk,k2,h⟩:=h;refine ⟨ns,k,rfl,hk,k2,λn hn=> ?_⟩;refine ⟨ns,k,rfl,hk,λh2=> ?_,λh2=> ?_⟩
  ·exact ⟨p8,⟨by decide,bg (k:=40) (by decide)⟩,h _ (mI hn (by decide))⟩
  ·exact ⟨⟨yw hn,bg (k:=20) (by decide)⟩,by decide,h _ (lZ (by decide) (by decide))⟩
theorem yy{a:Int}(h1: -(10 ^ 30)<=a)(h2:a<=10 ^ 30)(h3:b<=1000000):bt (a,b)=true:=by
 unfold bt;have:(if a < 0 then -a else a)<=10 ^ 30:=by split <;> omega
 show (decide ((if a < 0 then -a else a)<=10 ^ 30)&&decide (b<=1000000))=true;rw [aaq this,aaq h3];rfl
theorem uf(t0:0<=t)(t1:t < b)(TH:b<=1000):eF (ag t b)=true:=by
 have DH:0 < b:=by omega
 have l2:=iE (t:=t) (show b≠0 by omega);have q0:=bI (t:=t) (show b≠0 by omega);have hc:=da (t:=t) (show b≠0 by omega);generalize ag t b=f at *
 obtain ⟨x,y⟩:=f;have l2:y.natAbs<=b.natAbs:=l2;have q0:0 < y:=q0;have hc:t * y=b * x:=hc;have x0:0<=x:=by
  rcases Int.lt_or_le x 0 with z | z
  ·have:=Int.mul_neg_of_pos_of_neg DH z;have:=Int.mul_nonneg t0 (aaN q0);omega
  ·exact z
 have x1:x < y:=by
  rcases Int.lt_or_le x y with z | z
  ·exact z
  ·have h3:b * y<=b * x:=Int.mul_le_mul_of_nonneg_left z (aaN DH);have h4:t * y < b * y:=Int.mul_lt_mul_of_pos_right t1 q0;omega
 unfold eF;show (decide (0<=x)&&(decide (x < y)&&decide (y<=1000)))=true;rw [aaq x0,aaq x1,aaq (show y<=1000 by omega)];rfl
def zc:DF:=λas M q _=>∃t b:Int,as=[.int t, .int b]/\0 < b/\fc b/\q (ah (ag t b)) M
theorem dP:χ ["_law_top","_law_bottom","_law_one","_law_other"] ["_law_top","_law_bottom"] (ο gT):= .of rfl
theorem pY(F:cY K "_law_lowest" "_law_lowest" gT f fd)(E:Ev K mg Cm):ao P w K mg base (cq P w) 1 f fd ["_law_top","_law_bottom"] (cQ K zc):=by
 refine F.fi dP (λds M q x h=> ?_) (λbq A outer s H E' hr=>⟨_,(ζ (π 2 dP.nd (wd E.mq (Ο (jv 0) ε)))
   (ζ (π 3 dP.nd (jv 1))
   (ζ (mN (sV hr (jv 3) ι) (θ (ET (i:=2) (j:=3) dP.nd rfl rfl (Ο (jv 3) (η (ar (jv 2) (jv 3)) ε aF)))))
   (θ (υ (aA (η (bG (jv 0) (jv 2)) (η (bG (jv 1) (jv 2)) ε aF) aF))))))),λds M q x h=> ?_⟩)
 ·obtain ⟨t,b,rfl,_⟩:=h;rfl
 ·obtain ⟨t,b,rfl,h0,h1,h⟩:=h;have ga:g (if t < 0 then -t else t) b=g t b:=by have:=CY t b;rwa [aaJ (show¬b < 0 by omega)] at this
  refine ⟨λm ρ M'=>M'=M/\∃(x y:Int),ρ=[some (.int t),some (.int b),some (.int x),some (.int y)]/\0<=x/\0<=y/\g x y=g t b/\m=y.toNat,⟨_,rfl,_,_,rfl,by split <;> omega,by omega,ga,rfl⟩, ?_⟩;rintro m ρ M' ⟨rfl,x,y,rfl,hx,hy,e,rfl⟩;refine ⟨λhb=> ?_,λhb=> ?_⟩
  ·have CI:y≠0:=by simpa using hb
   refine ⟨_,λρ' M2 h2=>h2, ?_⟩;refine ⟨by omega,(x % y).toNat, ?_,rfl,y,x % y,rfl,hy,aaB _ CI, ?_,rfl⟩
   ·have:=aaA x (show 0 < y by omega);have:=aaB x CI;omega
   ·rw [<-abf x hy,yU (by omega)];exact e
  ·have CI:y=0:=by simpa using hb
   subst CI;rw [yH hx] at e;subst e;have hg:0 < g t b:=sF (by omega);have hle:g t b<=b:=Int.le_of_dvd h0 (Int.gcd_dvd_right ..);have hb:fc (g t b):=aaH (show (g t b).natAbs<=b.natAbs by omega) h1;have e:ag t b=(t / g t b,b / g t b):=by rw [Bu h0,abA _ (aaN hg),abA _ (aaN hg)]
   rw [e] at h;exact ⟨⟨hg,hb⟩,⟨hg,hb⟩,fI,h⟩
theorem p7:mO 10 7:=⟨by decide,by decide,by decide⟩
theorem p5:mO 10 5:=⟨by decide,by decide,by decide⟩
def jX(p:Fr):Prop:=p.1.natAbs<=10 ^ 30 - 10 ^ 7/\0 < p.2/\p.2<=1000000
theorem jX.fit{p:Fr}(h:jX p):bt p=true:=yy (by have:=h.1;omega) (by have:=h.1;omega) h.2.2
theorem wJ(h1:t.natAbs<=10 ^ 30 - 10 ^ 7)(h0:0 < b)(h3:b<=1000000):jX (ag t b):=by have l1:=mL (t:=t) (show b≠0 by omega);have l2:=iE (t:=t) (show b≠0 by omega);have l3:=bI (t:=t) (show b≠0 by omega);exact ⟨aak l1 h1,l3,by omega⟩
def t_:DF:=λas M q _=>∃n:Int,as=[.int n]/\Nm n/\∀p,jX p->q (ah p) M
theorem sD:χ ["_law_number_here","_law_top"] ["_law_number_here"] (ο pJ):= .of rfl
theorem xu(F:cY K "_law_pay" "_law_pay" pJ f fd)(E:Ev K mg Cm)(ak:aD P w K mg base 1 "_law_lowest" ["_law_top","_law_bottom"] zc bN bT):ao P w K mg base (cq P w) 2 f fd ["_law_number_here"] (cQ K t_):=by
 refine F.fi sD (λds M q x h=> ?_) (λbq A outer s H E' hr=>⟨_,(ζ (aj (bF hr (ar (jv 0) ι) ι) (ζ (π 1 sD.nd (kh (ar (aQ (jv 0) (eu ι ι)) (Υ (kh (aQ ι (eu ι ι)) (aQ ι (eu ι ι))) ι)) (kh (eu ι ι) (eu ι ι))))
   (θ (υ (Ω ak hr ξ (Ο (jv 1) (η (Υ ι (ar (bG (jv 0) ι) (eu ι ι))) ε aF)))))) Ζ)
   (θ (υ (ω (fB (η (aA (η ι (η ι ε aU) aU)) (η (aA (η ι (η ι ε aU) aU)) (η (aA (η (rY ι) (η ι ε aU) Dz)) ε fq) fq) fq)) (ar (bG (jv 0) ι) ι))))),λds M q x h=> ?_⟩)
 ·obtain ⟨n,rfl,_⟩:=h;rfl
 ·obtain ⟨n,rfl,hn,h⟩:=h;refine ⟨by decide,λ_=> ?_,λ_=> ?_⟩
  ·have J7:0 < 1+n / 6 % 10 ^ (6:Int).toNat/\1+n / 6 % 10 ^ (6:Int).toNat<=1000000:=by show 0 < 1+n / 6 % 1000000/\1+n / 6 % 1000000<=1000000;omega
   have PH:fc (1+n / 6 % 10 ^ (6:Int).toNat):=yx (k:=20) (aaN J7.1) (Int.lt_of_le_of_lt J7.2 (by decide)) (by decide);have RQ:fc ((10:Int) ^ (22:Int).toNat):=bg (k:=110) (by decide);have P0:fc ((10:Int) ^ (30:Int).toNat):=bg (k:=110) (by decide);have b7:fc ((10:Int) ^ (7:Int).toNat):=bg (k:=110) (by decide);have m0:(0:Int) < 2 * 10 ^ (30:Int).toNat - 2 * 10 ^ (7:Int).toNat+1:=by decide
   have Nd:=aaB (n * 10 ^ (22:Int).toNat) (show (2 * 10 ^ (30:Int).toNat - 2 * 10 ^ (7:Int).toNat+1:Int)≠0 by decide);have So:=aaA (n * 10 ^ (22:Int).toNat) m0;have b2:fc 2:=bg (k:=4) (by decide);refine ⟨RO,⟨yw hn,RQ⟩,OI,⟨b2,P0⟩,p7,⟨b2,b7⟩,m0,OI,p7,⟨by decide,bg (k:=5) (by decide)⟩,p6,(by show (0:Int) < 1000000;decide),_,_,rfl,J7.1,PH,h _ (wJ ?_ J7.1 J7.2)⟩;have e:(2 * 10 ^ (30:Int).toNat - 2 * 10 ^ (7:Int).toNat+1:Int)=2 * 10 ^ 30 - 2 * 10 ^ 7+1:=rfl;rw [e] at Nd So;show (n * 10 ^ (22:Int).toNat % (2 * 10 ^ 30 - 2 * 10 ^ 7+1) - (10 ^ 30 - 10 ^ 7)).natAbs<=_;omega
  ·refine ⟨by decide,by decide,by decide,by decide,⟨by decide,bg (k:=5) (by decide)⟩,by decide, ?_⟩;obtain ⟨p,ep,hp⟩:∃p:Fr,fF [ah (0,1),ah (1,1),ah (-1,2)] (n / 6 % 3)=some (ah p)/\jX p:=by
    have:n / 6 % 3=0\/n / 6 % 3=1\/n / 6 % 3=2:=by omega
    rcases this with e | e | e <;> rw [e]
    ·exact ⟨_,az,by decide,by decide,by decide⟩
    ·exact ⟨_,Η (j:=1) rfl,by decide,by decide,by decide⟩
    ·exact ⟨_,Η (j:=2) rfl,by decide,by decide,by decide⟩
   exact τ (d:= .lst [ah (0,1),ah (1,1),ah (-1,2)]) rfl ep (h p hp)
theorem DD:1<=sizeLine:=by decide
theorem kG:2<=sizeLine:=by decide
theorem Nk:3<=sizeLine:=by decide
abbrev qR:=Int×Fr×Int
def b5(x:qR):Dt:= .tup [.int x.1,ah x.2.1, .int x.2.2]
inductive Br
 | fin (p:Fr)
 | ub (k:Str) (xs:List qR)
def jq:Br->Dt
 | .fin p=> .tup [.str "end",ah p]
 | .ub k xs=> .tup [.str k, .lst (xs.map b5)]
def L_(k:Str):Prop:=bA k=true\/k="chance"
def DR(aN:Int)(x:qR):Prop:=(0<=x.1/\x.1 < aN)/\jX x.2.1/\1<=x.2.2/\x.2.2<=100000
def By(aN:Int):Br->Prop
 | .fin p=>jX p
 | .ub k xs=>L_ k/\1<=xs.length/\xs.length<=6/\∀x∈xs,DR aN x
structure uL(bs:List Br):Prop where
 n1:1<=bs.length
 DL:bs.length<=12
 each:∀b∈bs,By bs.length b
theorem pW{n:Nat}:∀(xs:List qR),Dt.aL n (xs.map b5)
 | []=>trivial
 | _::xs=>⟨⟨trivial,⟨trivial,trivial,trivial⟩,trivial,trivial⟩,pW xs⟩
theorem tN{n:Nat}:∀(xs:List Br),Dt.aL n (xs.map jq)
 | []=>trivial
 | .fin _::xs=>⟨⟨trivial,⟨trivial,trivial,trivial⟩,trivial⟩,tN xs⟩
 | .ub _ ys::xs=>⟨⟨trivial,pW ys,trivial⟩,tN xs⟩
theorem yV:jX (0,1):=⟨by decide,by decide,by decide⟩
theorem qv(lo:Int)(n:Nat):bf lo n=(List.range n).map λi:Nat=>Dt.int (lo+i):=rfl
def AB:DF:=λas M q _=>∃n:Int,as=[.int n]/\Nm n/\∀bs,uL bs->q (.lst (bs.map jq)) M
theorem bE:χ ["_law_number_here","_law_kind","_law_rows"] ["_law_number_here"] (ο cJ):= .of rfl
theorem iG(F:cY K "_law_row_of_places" "_law_row_of_places" cJ f fd)(E:Ev K mg Cm){qm:Addr}{qc:FuncData}(c9:aD P w K mg base 2 "_law_pay" ["_law_number_here"] t_ qm qc):ao P w K mg base (cq P w) 4 f fd ["_law_number_here"] (cQ K AB):=by
 refine F.fi bE (λds M q x h=> ?_) (λbq A outer s H E' hr=>⟨_,(ζ (π 1 bE.nd (ω (lB 3 (d:= .lst [.str "one", .str "chance", .str "other"]) (by rfl)) (ar (jv 0) ι)))
   (ζ (mv (i:=2) bE.nd rfl (Or.inl rfl) (ys:=["_law_kind"]) (Θ:=[1]) (.of bE rfl rfl rfl) (aB E.ax (η (Υ ι (ar (bG (jv 0) ι) ι)) ε aF)) (λC s H fp=>(aA (Ο (jv 1) (η (fB (η (aA (η (Υ (jv 0) ι) (η (aA (η ι (η ι ε aU) aU)) (η ι ε aU) fq) aF)) ε fq)) ε)))))
   (θ (υ (Υ (jv 2) (fB (η (aA (η gH (η (Ω c9 hr ξ (η (bG (jv 0) ι) ε aF)) ε bc) aU)) ε fq))))))),λds M q x h=> ?_⟩)
 ·obtain ⟨n,rfl,_⟩:=h;rfl
 ·obtain ⟨n,rfl,hn,h⟩:=h;refine ⟨by decide, ?_⟩;obtain ⟨kd,ek,LB⟩:∃kd:Str,fF [Dt.str "one",Dt.str "chance",Dt.str "other"] (n % 3)=some (.str kd)/\L_ kd:=by
   have:n % 3=0\/n % 3=1\/n % 3=2:=by omega
   rcases this with e | e | e <;> rw [e]
   ·exact ⟨_,az, .inl (by decide)⟩
   ·exact ⟨_,Η (j:=1) rfl, .inr rfl⟩
   ·exact ⟨_,Η (j:=2) rfl, .inl (by decide)⟩
  refine (τ (d:= .lst [Dt.str "one",Dt.str "chance",Dt.str "other"]) rfl ek ?_:dF (.lst [Dt.str "one",Dt.str "chance",Dt.str "other"]) (.int (n % 3)) M _);obtain ⟨m,hm,m1,T2⟩:∃m:Nat,1+n / 3 % 11=(m:Int)/\1<=m/\m<=11:=⟨(1+n / 3 % 11).toNat,by omega,by omega,by omega⟩;refine ⟨⟨by decide,bg (k:=5) (by decide)⟩,by decide, ?_⟩;dsimp only [iV];rw [hm];refine ⟨⟨by omega,by omega⟩,by rw [bL];exact aak (show _<=11 by omega) (by decide), ?_⟩;refine jL (f:=λx=>match x with | .int j=>jq (.ub kd [(j+1,(0,1),1)]) | _=> .aW) _ _ (λx kT q' hq=> ?_) ?_
  ·obtain ⟨k,hk,rfl⟩:=dD kT;exact ⟨kG,Nk,DD,kG,hq⟩
  ·have e:[]++(bf 0 ((m:Int)).toNat).map (λx=>match x with | .int j=>jq (.ub kd [(j+1,(0,1),1)]) | _=> .aW)=((List.range m).map λi:Nat=>Br.ub kd [((i:Int)+1,(0,1),1)]).map jq:=by rw [aaU,aaW,qv,aaK,aaK];exact aa0 λi _=>by show jq (.ub kd [(0+(i:Int)+1,(0,1),1)])=_;rw [aa9];rfl
   rw [e];refine ⟨⟨by decide,bg (k:=10) (by decide)⟩,_,rfl,mI hn (by decide),λp hp=>⟨kG,DD, ?_⟩⟩;refine ⟨by simp;exact Nat.le_trans (show m+1<=12 by omega) (by decide), ?_⟩;have e2:((List.range m).map λi:Nat=>Br.ub kd [((i:Int)+1,(0,1),1)]).map jq++[Dt.tup [.str "end",ah p]]=(((List.range m).map λi:Nat=>Br.ub kd [((i:Int)+1,(0,1),1)])++[Br.fin p]).map jq:=by rw [aao];rfl
   rw [e2];have hl:(((List.range m).map λi:Nat=>Br.ub kd [((i:Int)+1,(0,1),1)])++[Br.fin p]).length=m+1:=by simp
   refine h _ ⟨by omega,by omega,λb hb=> ?_⟩;rw [hl];rcases aaI.mp hb with hb | hb
   ·obtain ⟨i,hi,rfl⟩:=aan.mp hb;have hi:=aaC.mp hi;refine ⟨LB,aal 1,(by decide:1<=6),λx hx=> ?_⟩;have:x=((i:Int)+1,(0,1),1):=by simpa using hx
    subst this;exact ⟨⟨by show 0<=(i:Int)+1;omega,by show (i:Int)+1 < ((m+1:Nat):Int);omega⟩,yV,(by decide:(1:Int)<=1),(by decide:(1:Int)<=100000)⟩
   ·have:b= .fin p:=by simpa using hb
    subst this;exact hp
def qE(M:Ms)(lo:Nat)(d:Dt):Br->Prop
 | .fin p=>d=jq (.fin p)
 | .ub k xs=>∃a,lo < a/\d= .tup [.str k, .loc a]/\M[a]? =some (.lst (xs.map b5))
theorem qE.keep{M1:Ms}{lo:Nat}{b:Br}(h:qE M lo d b)(k:∀a o,lo < a->M[a]? =some o->M1[a]? =some o):qE M1 lo d b:=by
 cases b with
 | fin p=>exact h
 | ub kd xs=>
  obtain ⟨a,h1,h2,h3⟩:=h;exact ⟨a,h1,h2,k a _ h1 h3⟩
theorem za{M1:Ms}{lo:Nat}{bs:List Br}(h:Paired (λd b=>qE M lo d b) ds bs)(k:∀a o,lo < a->M[a]? =some o->M1[a]? =some o):Paired (λd b=>qE M1 lo d b) ds bs:=by
 induction h with
 | nil=>exact .nil
 | cons h t ih=>exact .cons (h.keep k) ih
theorem AW{α β:Type}{R:α->β->Prop}{xs:List α}{ys:List β}{x:α}{y:β}(h:Paired R xs ys)(r:R x y):Paired R (xs++[x]) (ys++[y]):=by
 induction h with
 | nil=>exact .cons r .nil
 | cons h t ih=>exact .cons h ih
theorem Bi{E:Ms}{bs:List Br}(h:Paired (λd b=>qE (M++E) M.length d b) ds bs):fM M.length E ds (bs.map jq):=by
 induction h with
 | nil=>exact .nil
 | @cons d b ds bs h t ih=>
  refine .cons ?_ ih;cases b with
  | fin p=>
   have h:d=jq (.fin p):=h;rw [h];exact .old ⟨trivial,⟨trivial,trivial,trivial⟩,trivial⟩
  | ub k xs=>
   obtain ⟨a,h1,rfl,h3⟩:=h;rw [aav (by omega)] at h3;exact .tup (.cons (.old trivial) (.cons (.Cp (by omega) h3 (.old (pW xs))) .nil))
theorem Ep{n:Int}:∃kd:Str,fF [Dt.str "one",Dt.str "chance",Dt.str "other",Dt.str "end",Dt.str "chance"] (n % 5)=some (.str kd)/\(L_ kd\/kd="end"):=by
 have:n % 5=0\/n % 5=1\/n % 5=2\/n % 5=3\/n % 5=4:=by omega
 rcases this with e | e | e | e | e <;> rw [e]
 ·exact ⟨_,az, .inl (.inl (by decide))⟩
 ·exact ⟨_,Η (j:=1) rfl, .inl (.inr rfl)⟩
 ·exact ⟨_,Η (j:=2) rfl, .inl (.inl (by decide))⟩
 ·exact ⟨_,Η (j:=3) rfl, .inr rfl⟩
 ·exact ⟨_,Η (j:=4) rfl, .inl (.inr rfl)⟩
def DO:DF:=λas M q _=>∃ns:List Int,as=[.cE ns]/\∀bs E d,uL bs->w6 M.length E d (.lst (bs.map jq))->q d (M++E)
theorem ay:χ ["_law_script","_law_many","_law_rows","_law_place","_law_first_here","_law_kind","_law_most","_law_doors","_law_k","_law_at","_law_number_here","_law_pay_here"] ["_law_script"] (ο lR):= .of rfl
theorem u_(F:cY K "_law_base" "_law_base" lR f fd)(E:Ev K mg Cm)(ψ:aD P w K mg base 2 "_law_number" ["_law_script","_law_k"] pC aM aH){kH:Addr}{kP:FuncData}(cp:aD P w K mg base 4 "_law_row_of_places" ["_law_number_here"] AB kH kP){qm:Addr}{qc:FuncData}(c9:aD P w K mg base 2 "_law_pay" ["_law_number_here"] t_ qm qc){zl:Addr}{A9:FuncData}(jJ:aD P w K mg base 3 "_law_rest" ["_law_script","_law_k"] pC zl A9):ao P w K mg base (cq P w) 6 f fd ["_law_script"] (cQ K DO):=by
 refine F.fi ay (λds M q x h=> ?_) (λbq A outer s H E' hr=>⟨_,(ζ (aj (bF hr (ar (Ω ψ hr ξ (Ο (jv 0) (η ι ε aU))) ι) ι) (θ (υ (Ω cp hr ξ (η (bG (Ω ψ hr ξ (Ο (jv 0) (η ι ε aU))) ι) ε aF)))) Ζ)
   (ζ (π 1 ay.nd (Υ ι (ar (Ω ψ hr ξ (Ο (jv 0) (η ι ε aU))) ι)))
   (ζ (π 2 ay.nd (gS ε))
   (ζ (fU (aB E.ax (Ο (jv 1) ε)) (Χ (i:=3) ay.nd rfl (Or.inl rfl)) aC (ζ (π 4 ay.nd (Ω ψ hr ξ (Ο (jv 0) (η (Υ ι (aQ ι (jv 3))) ε aF))))
   (ζ (π 5 ay.nd (ω (lB 3 (d:= .lst [.str "one", .str "chance", .str "other", .str "end", .str "chance"]) (by rfl)) (ar (jv 4) ι)))
   (ζ (π 6 ay.nd (ω (fB (η ι (η (eu ι ι) ε aF) aU)) (bG (ar (bG (jv 4) ι) ι) ι)))
   (ζ (π 7 ay.nd (gS ε))
   (ζ (fU (aB E.ax (η (Υ ι (ar (bG (jv 4) ι) ι)) ε aF)) (Χ (i:=8) ay.nd rfl (Or.inl rfl)) aC (ζ (eY (π 9 ay.nd (Dh (oz (jv 8) ι) (Υ (Υ ι (aQ ι (jv 3))) (jv 8)) (Υ (Υ ι (aQ ι (jv 3))) (jv 8)))))
   (ζ (π 10 ay.nd (Ω ψ hr ξ (Ο (jv 0) (Ο (jv 9) ε))))
   (ζ (π 11 ay.nd (Ω c9 hr ξ (η (Ω jJ hr ξ (Ο (jv 0) (Ο (jv 9) ε))) ε bc)))
   (ζ (eY (aj (bF hr (ar (Ω ψ hr ξ (Ο (jv 0) (η ι ε aU))) ι) ι) (θ (π 11 ay.nd (aA (η ι (η ι ε aU) aU)))) Ζ))
   (θ (fb (eB (jv 7) (η (aA (η (ar (jv 10) (jv 1)) (Ο (jv 11) (η (Υ ι (ar (bG (jv 10) ι) (jv 6))) ε aF)) aF)) ε fq)))))))))
   (ζ (eY (aj (bF hr (jv 5) gH) (θ (π 7 ay.nd (Ω c9 hr ξ (η (bG (jv 4) ι) ε aF)))) Ζ))
   (θ (fb (eB (jv 2) (η (aA (Ο (jv 5) (Ο (jv 7) ε))) ε fq)))))))))))
   (θ (υ (jv 2))))))),λds M q x h=> ?_⟩)
 ·obtain ⟨ns,rfl,_⟩:=h;rfl
 ·obtain ⟨ns,rfl,h⟩:=h;refine ⟨ns,46,rfl,by decide,by decide,λn0 S5=>⟨by decide,λ_=> ?_,λ_=> ?_⟩⟩
  ·refine ⟨ns,46,rfl,by decide,by decide,λn1 OP=>⟨⟨by decide,bg (k:=5) (by decide)⟩,_,rfl,mI OP (by decide),λbs hb=> ?_⟩⟩;have:=h bs [] _ hb (.old (tN bs));rwa [aaY] at this
  refine ⟨ns,0,rfl,by decide,by decide,λn1 OP=>⟨by decide, ?_⟩⟩;obtain ⟨sz,hz,z1,z4⟩:∃sz:Nat,1+n1 % 4=(sz:Int)/\1<=sz/\sz<=4:=⟨(1+n1 % 4).toNat,by omega,by omega,by omega⟩;dsimp only [iV];rw [hz];refine ⟨by decide,⟨by omega,by omega⟩, ?_⟩;refine b6 (λzs ρ M2=>∃(n k:Nat) (bs:List Br) (ds:List Dt) (E:Ms) (o3 o4 o5 o6 o7 o8 o9 vw wa:Option Dt),zs=bf k n/\k+n=sz/\bs.length=k/\(∀b∈bs,By sz b)/\Paired (λd b=>qE (M++(.lst ds::E)) M.length d b) ds bs/\M2=M++(.lst ds::E)/\ρ=[some (.cE ns),some (.int sz),some (.loc M.length),o3,o4,o5,o6,o7,o8,o9,vw,wa]) (λx zs ρ M2 hj mX=> ?_) (λρ M2 hj=> ?_) _ _ _ ⟨sz,0,[],[],[],none,none,none,none,none,none,none,none,none,by simp,by simp,rfl,λ_ z=>(nomatch z), .nil,rfl,rfl⟩
  ·obtain ⟨n,k,bs,ds,E,o3,o4,o5,o6,o7,o8,o9,vw,wa,ex,Cd,hl,hd,pr,rfl,rfl⟩:=hj;obtain ⟨m,rfl,rfl,rfl⟩:=cv ex;have k4:(k:Int) < 4:=by omega
   have SR:∀F:Ms,(M++(MO.lst ds::E)++F)[M.length]? =some (.lst ds):=λF=>cM (by simp);have lt:ds.length < sizeLine:=by rw [show ds.length=bs.length from pr.length,hl];exact aaH (show k<=4 by omega) (by decide)
   have S7:∀(F:Ms) (d:Dt) (b:Br) (a3 a4 a5 a6 a7 a8 a9 EJ Ja:Option Dt),By sz b->qE (M++(.lst ds::E)++F) M.length d b->g_ (gN 3) _ _ (bf ((k:Int)+1) m) [some (.cE ns),some (.int sz),some (.loc M.length),a3,a4,a5,a6,a7,a8,a9,EJ,Ja] ((M++(.lst ds::E)++F).set M.length (.lst (ds++[d]))):=λF d b a3 a4 a5 a6 a7 a8 a9 EJ Ja hb ha=>by
    have e:(M++(MO.lst ds::E)++F).set M.length (.lst (ds++[d]))=M++(.lst (ds++[d])::(E++F)):=by rw [abc,aba _ _ (aal _),abk];rfl
    have kp:∀a o,M.length < a->(M++(MO.lst ds::E)++F)[a]? =some o->(M++(MO.lst (ds++[d])::(E++F)))[a]? =some o:=λa o Be hy=>by rw [<-e,aaR (by omega)];exact hy
    rw [e];refine mX _ _ ⟨m,k+1,bs++[b],ds++[d],E++F,a3,a4,a5,a6,a7,a8,a9,EJ,Ja,by simp,by omega,by simp [hl],λb' B6=> ?_,AW (za pr λa o Be hy=>kp a o Be (cM hy)) (ha.keep kp),rfl,rfl⟩;rcases aaI.mp B6 with B6 | B6
    ·exact hd b' B6
    ·have:b'=b:=by simpa using B6
     rw [this];exact hb
   refine ⟨⟨bg (k:=4) (by decide),bg (k:=4) (by omega)⟩,ns,_,rfl,by omega,by omega,λf hf=>⟨by decide, ?_⟩⟩;obtain ⟨kd,ek,LB⟩:=Ep (n:=f);refine τ rfl ek ?_;refine ⟨p5,kG,⟨by decide,bg (k:=6) (by decide)⟩,by decide,⟨by decide,bg (k:=4) (by decide)⟩, ?_⟩;obtain ⟨most,em,m0,m1⟩:∃most:Int,fF [Dt.int 5,Dt.int (10 ^ (5:Int).toNat)] (f / 30 % 4 / 3)=some (.int most)/\0 < most/\most<=100000:=by
    have:f / 30 % 4 / 3=0\/f / 30 % 4 / 3=1:=by omega
    rcases this with e | e <;> rw [e]
    ·exact ⟨5,az,by decide,by decide⟩
    ·exact ⟨_,Η (j:=1) rfl,by decide,by decide⟩
   refine τ (d:= .lst [Dt.int 5,Dt.int (10 ^ (5:Int).toNat)]) rfl em ?_;refine ⟨by decide,⟨by decide,bg (k:=4) (by decide)⟩,by decide, ?_⟩;obtain ⟨mn,S3,T5,Tu⟩:∃mn:Nat,1+f / 5 % 6=(mn:Int)/\1<=mn/\mn<=6:=⟨(1+f / 5 % 6).toNat,by omega,by omega,by omega⟩;dsimp only [iV];rw [S3];refine ⟨⟨by omega,by omega⟩, ?_⟩;refine b6 (λzs ρ M3=>∃(n' k':Nat) (xs:List qR) (o8 o9 vw wa:Option Dt),zs=bf k' n'/\k'+n'=mn/\xs.length=k'/\(∀x∈xs,DR sz x)/\M3=M++(.lst ds::E)++[.lst (xs.map b5)]/\ρ=[some (.cE ns),some (.int sz),some (.loc M.length),some (.int (k:Int)),some (.int f),some (.str kd),some (.int most),some (.loc (M++(MO.lst ds::E)).length),o8,o9,vw,wa]) (λx zs ρ M3 hj KO=> ?_) (λρ M3 hj=> ?_) _ _ _ ⟨mn,0,[],_,_,_,_,by simp,by simp,rfl,λ_ z=>(nomatch z),rfl,rfl⟩
   ·obtain ⟨n',k',xs,o8,o9,vw,wa,BH,LW,Jq,hx,rfl,rfl⟩:=hj;obtain ⟨m',rfl,rfl,rfl⟩:=cv BH;have k6:(k':Int) < 6:=by omega
    refine ⟨λρ M3=>M3=M++(.lst ds::E)++[.lst (xs.map b5)]/\∃at':Int,0<=at'/\at'<=200/\ρ=[some (.cE ns),some (.int sz),some (.loc M.length),some (.int (k:Int)),some (.int f),some (.str kd),some (.int most),some (.loc (M++(MO.lst ds::E)).length),some (.int (k':Int)),some (.int at'),vw,wa],⟨λ_=>⟨⟨bg (k:=4) (by decide),bg (k:=4) (by omega)⟩,rfl,_, ?_, ?_,rfl⟩,λ_=>⟨⟨bg (k:=4) (by decide),bg (k:=4) (by omega)⟩,rfl,_, ?_, ?_,rfl⟩⟩, ?_⟩
    ·omega
    ·omega
    ·omega
    ·omega
    rintro ρ3 M3 ⟨rfl,at',a0,a1,rfl⟩;refine ⟨ns,at',rfl,a0,a1,λn2 GX=>⟨ns,at',rfl,a0,a1,λn3 PL=>⟨_,rfl,PL,λp hp=> ?_⟩⟩⟩;refine ⟨λρ M3=>M3=M++(.lst ds::E)++[.lst (xs.map b5)]/\∃p:Fr,jX p/\ρ=[some (.cE ns),some (.int sz),some (.loc M.length),some (.int (k:Int)),some (.int f),some (.str kd),some (.int most),some (.loc (M++(MO.lst ds::E)).length),some (.int (k':Int)),some (.int at'),some (.int n2),some (ah p)],⟨ns,45,rfl,by decide,by decide,λn4 TU=>⟨by decide,λ_=>⟨kG,rfl,(0,1),yV,rfl⟩,λ_=>⟨rfl,p,hp,rfl⟩⟩⟩, ?_⟩;rintro ρ4 M4 ⟨rfl,p,hp,rfl⟩;have uG:(M++(MO.lst ds::E)++[MO.lst (xs.map b5)])[(M++(MO.lst ds::E)).length]? =some (.lst (xs.map b5)):=cb;refine ⟨⟨_,_,rfl,uG⟩,by omega,⟨by decide,bg (k:=4) (by decide)⟩,m0,Nk,_,_,_,rfl,rfl,uG,by rw [aab,Jq];exact aaH (show k'<=6 by omega) (by decide), ?_⟩;refine KO _ _ ⟨m',k'+1,xs++[(n2 % (sz:Int),p,1+n2 / 4 % most)],_,_,_,_,by simp,by omega,by simp [Jq],λy hy=> ?_, ?_,rfl⟩
    ·rcases aaI.mp hy with hy | hy
     ·exact hx y hy
     ·have:y=(n2 % (sz:Int),p,1+n2 / 4 % most):=by simpa using hy
      subst this;have e0:=aaB (n2 / 4) (show most≠0 by omega);have e1:=aaA (n2 / 4) m0;exact ⟨⟨aaB _ (by omega),aaA _ (by omega)⟩,hp,by show 1<=1+n2 / 4 % most;omega,by show 1+n2 / 4 % most<=100000;omega⟩
    ·rw [aba _ _ (aal _),abk,aao];rfl
   ·obtain ⟨n',k',xs,o8,o9,vw,wa,BH,LW,Jq,hx,rfl,rfl⟩:=hj;have E6:n'=0:=by have:=aaX List.length BH;unfold bf at this;simpa using this.symm
    have a2:=SR [.lst (xs.map b5)];refine ⟨λρ M3=>M3=M++(.lst ds::E)++[.lst (xs.map b5)]/\∃(b:Br) (dv:Dt),By sz b/\qE (M++(.lst ds::E)++[.lst (xs.map b5)]) M.length (.tup [.str kd,dv]) b/\ρ=[some (.cE ns),some (.int sz),some (.loc M.length),some (.int (k:Int)),some (.int f),some (.str kd),some (.int most),some dv,o8,o9,vw,wa],⟨λhb=>⟨⟨by decide,bg (k:=4) (by decide)⟩,_,rfl,mI hf (by decide),λp hp=> ?_⟩,λhb=> ?_⟩, ?_⟩
    ·have hb:kd="end":=aar hb;subst hb;exact ⟨rfl, .fin p,ah p,hp,rfl,rfl⟩
    ·have hb:kd≠"end":=abt hb;refine ⟨rfl, .ub kd xs, .loc (M++(MO.lst ds::E)).length,⟨LB.resolve_right hb,by omega,by omega,hx⟩,⟨_, ?_,rfl,cb⟩,rfl⟩;rw [aae,aaD];omega
    ·rintro ρ3 M3 ⟨rfl,b,dv,hb,ha,rfl⟩;exact ⟨⟨_,_,rfl,a2⟩,kG,_,_,_,rfl,rfl,a2,lt,S7 _ _ b _ _ _ _ _ _ _ _ _ hb ha⟩
  ·obtain ⟨n,k,bs,ds,E,o3,o4,o5,o6,o7,o8,o9,vw,wa,ex,Cd,hl,hd,pr,rfl,rfl⟩:=hj;have hn:n=0:=by have:=aaX List.length ex;unfold bf at this;simpa using this.symm
   have e:bs.length=sz:=by omega
   exact h bs _ _ ⟨by omega,by omega,by rw [e];exact hd⟩ (.Cp (aal _) (by rw [abk];rfl) (Bi pr))
structure DU(aN:Int)(os:List Int):Prop where
 n1:1<=os.length
 DL:os.length<=12
 C3:∀o∈os,0<=o/\o < aN
 all:∀t,0<=t->t < aN->t∈os
theorem rq:t∈dH n↔0<=t/\t < n:=by
 unfold dH;rw [aan];constructor
 ·rintro ⟨i,hi,rfl⟩;have:=aaC.mp hi;omega
 ·intro h;exact ⟨t.toNat,aaC.mpr (by omega),by omega⟩
theorem sZ:(dH n).length=n:=by unfold dH;rw [List.length_map,List.length_range]
theorem kY{α:Type}{xs:List α}{x:α}:x∈xs.drop k++xs.take k↔x∈xs:=by
 conv=>rhs;rw [<-List.take_append_drop k xs]
 rw [aaI,aaI,or_comm]
theorem vG{a:Int}{l:Nat}(h1:a.natAbs < 2 ^ k)(h2:b.natAbs < 2 ^ l):(a * b).natAbs < 2 ^ (k+l):=by rw [abD];exact e9 h1 h2
def vO:DF:=λas M q _=>∃(ns:List Int) (aN:Nat),as=[.cE ns, .int (aN:Nat)]/\1<=aN/\aN<=12/\∀os,DU aN os->q (.lst (os.map Dt.int)) M
theorem cH:χ ["_law_script","_law_many","_law_size","_law_found","_law_at"] ["_law_script","_law_many"] (ο ic):= .of rfl
theorem pT(F:cY K "_law_origin" "_law_origin" ic f fd)(E:Ev K mg Cm)(ψ:aD P w K mg base 2 "_law_number" ["_law_script","_law_k"] pC aM aH):ao P w K mg base (cq P w) 4 f fd ["_law_script","_law_many"] (cQ K vO):=by
 refine F.fi cH (λds M q x h=> ?_) (λbq A outer s H E' hr=>⟨_,(ζ (π 2 cH.nd (Υ (jv 1) (ar (Ω ψ hr ξ (Ο (jv 0) (η ι ε aU))) (kh ι (jv 1)))))
   (ζ (π 3 cH.nd (Υ (cm (CN E.df E.ax (Ο (jv 1) ε))) (tM (ys:=["_law_many","_law_script"]) (Θ:=[1,0]) (.of cH rfl rfl rfl) (aB E.ax (η (kh (jv 2) (jv 1)) ε aF)) (λC s H fp=>(ar (Ω ψ hr (cT (P:=P) (w:=w)) (Ο (jv 2) (η (Υ ι (jv 0)) ε aF))) (jv 1))))))
   (ζ (π 4 cH.nd (ar (Ω ψ hr ξ (Ο (jv 0) (η ι ε aU))) (jv 2)))
   (θ (υ (Υ (cm (gq (jv 3) (jv 4))) (cm (ll (jv 3) (jv 4))))))))),λds M q x h=> ?_⟩)
 ·obtain ⟨ns,aN,rfl,_⟩:=h;rfl
 ·obtain ⟨ns,aN,rfl,h1,Ot,h⟩:=h;have m0:(0:Int) < 13 - aN:=by omega
  refine ⟨ns,1,rfl,by decide,by decide,λn0 S5=>⟨m0, ?_⟩⟩;have e0:=aaB n0 (show (13:Int) - aN≠0 by omega);have e1:=aaA n0 m0;obtain ⟨ex,hx,x1⟩:∃ex:Nat,n0 % (13 - aN)=(ex:Int)/\aN+ex<=12:=⟨(n0 % (13 - aN)).toNat,by omega,by omega⟩;dsimp only [iV];rw [hx];refine ⟨aN,rfl,by omega,cK (kW _) ?_⟩;refine ⟨⟨by omega,by omega⟩, ?_⟩;have es:(aN:Int)+(ex:Int) - aN=(ex:Int):=by omega
  dsimp only [B'];rw [es];refine ⟨by rw [bL];exact aak (show _<=12 by omega) (by decide), ?_⟩;refine g8 (f:=Dt.int) (λo:Int=>0<=o/\o < aN) _ [] (λ_ z=>(nomatch z)) (λx kT q' hq=> ?_) λxs Kk To=> ?_
  ·obtain ⟨k,hk,rfl⟩:=dD kT;have hk:k < ex:=by simpa using hk
   exact ⟨ns,_,rfl,by omega,by omega,λn hn=>⟨by omega,hq _ ⟨aaB _ (by omega),aaA _ (by omega)⟩⟩⟩
  have Kk:xs.length=ex:=by rw [Kk,bL];simp
  refine ⟨by rw [aab,aab,sZ,Kk];exact aak x1 (by decide), ?_⟩;rw [<-aao];have hl:(dH aN++xs).length=aN+ex:=by rw [aae,sZ,Kk]
  have Sa:∀o∈dH aN++xs,0<=o/\o < (aN:Int):=λo ho=>by
   rcases aaI.mp ho with ho | ho
   ·exact rq.mp ho
   ·exact To o ho
  have Ht:∀t:Int,0<=t->t < aN->t∈dH aN++xs:=λt h0 h1=>aa1 _ (rq.mpr ⟨h0,h1⟩);generalize dH aN++xs=fs at *
  refine ⟨ns,2,rfl,by decide,by decide,λn2 GX=>⟨by omega, ?_⟩⟩;have g0:=aaB n2 (show ((aN:Int)+ex)≠0 by omega);obtain ⟨k,ek⟩:∃k:Nat,n2 % ((aN:Int)+ex)=(k:Int):=⟨(n2 % ((aN:Int)+ex)).toNat,by omega⟩;rw [ek];refine ⟨fs.map Dt.int,k,rfl,rfl, ?_⟩;rw [<-List.map_drop];refine cK (kW _) ?_;refine ⟨fs.map Dt.int,k,rfl,rfl, ?_⟩;rw [<-List.map_take];refine cK (kW _) ?_;have Jo:(fs.drop k++fs.take k).length=fs.length:=by rw [aae,abh,abg];omega
  refine ⟨by rw [aab,aab,<-aae,Jo,hl];exact aak x1 (by decide), ?_⟩;rw [<-aao];exact h _ ⟨by rw [Jo];omega,by rw [Jo];omega,λo ho=>Sa o (kY.mp ho),λt h0 h1=>kY.mpr (Ht t h0 h1)⟩
def zh:DF:=λas M q _=>∃(ns:List Int) (pl k:Nat),as=[.cE ns, .int (pl:Nat), .int (k:Nat)]/\pl<=12/\k<=7/\∀r:Int,0<=r->r < 10 ^ 8->q (.int r) M
theorem e7:χ ["_law_script","_law_place","_law_k","_law_number_here","_law_turn"] ["_law_script","_law_place","_law_k"] (ο jA):= .of rfl
theorem rX(F:cY K "_law_piece" "_law_piece" jA f fd)(E:Ev K mg Cm)(ψ:aD P w K mg base 2 "_law_number" ["_law_script","_law_k"] pC aM aH)(b_:aD P w K mg base 1 "_law_far" ["_law_script","_law_k"] Bt i4 iU):ao P w K mg base (cq P w) 4 f fd ["_law_script","_law_place","_law_k"] (cQ K zh):=by
 refine F.fi e7 (λds M q x h=> ?_) (λbq A outer s H E' hr=>⟨_,(ζ (π 3 e7.nd (Ω ψ hr ξ (Ο (jv 0) (η (Υ ι (jv 1)) ε aF))))
   (ζ (aj (cL (Ω b_ hr ξ (Ο (jv 0) (η (Υ ι (jv 1)) ε aF)))) (ζ (fU (aB E.ax (Ο (jv 2) ε)) (Χ (i:=4) e7.nd rfl (Or.inl rfl)) aC (θ (π 3 e7.nd (bG (jv 3) (eu ι ι)))))
   (θ (υ (ar (jv 3) (eu ι ι))))) Ζ)
   (θ (υ (ar (aQ (aQ (aQ (jv 3) (Υ (jv 2) ι)) (Υ (jv 2) ι)) ι) ι))))),λds M q x h=> ?_⟩)
 ·obtain ⟨ns,pl,k,rfl,_⟩:=h;rfl
 ·obtain ⟨ns,pl,k,rfl,hp,hk,h⟩:=h;refine ⟨ns,_,rfl,by omega,by omega,λn hn=>⟨ns,_,rfl,by omega,λhb=> ?_,λhb=> ?_⟩⟩
  ·refine ⟨⟨by omega,by omega⟩, ?_⟩;refine b6 (λzs ρ M2=>∃(n:Int) (o:Option Dt),Nm n/\M2=M/\ρ=[some (.cE ns),some (.int (pl:Nat)),some (.int (k:Nat)),some (.int n),o]) (λx zs ρ M2 hj mX=> ?_) (λρ M2 hj=> ?_) _ _ _ ⟨n,none,hn,rfl,rfl⟩
   ·obtain ⟨n,o,hn,rfl,rfl⟩:=hj;exact ⟨p8,⟨by decide,bg (k:=40) (by decide)⟩,mX _ _ ⟨_,_,mI hn (by decide),rfl,rfl⟩⟩
   ·obtain ⟨n,o,hn,rfl,rfl⟩:=hj;exact ⟨p8,by decide,h _ (aaB _ (by decide)) (aaA _ (by decide))⟩
  ·have b0:n.natAbs < 2 ^ 430:=by
    have:=hn.2;have t:(10:Int) ^ 128 < 2 ^ 430:=by decide
    have:=hn.1;omega
   have b1:((k:Int)+2).natAbs < 2 ^ 5:=by omega
   have b2:((k:Int)+5).natAbs < 2 ^ 5:=by omega
   have c1:=vG b0 b1;have c2:=vG c1 b2;exact ⟨⟨bg b0,bg b1⟩,⟨bg c1,bg b2⟩,⟨bg c2,bg (k:=20) (by decide)⟩,by decide,h _ (aaB _ (by decide)) (Int.lt_of_lt_of_le (aaA _ (by decide)) (by decide))⟩
theorem AO{a:Int}(h:0 < b):ag (2 * a) (2 * b)=ag a b:=by
 have q0:=bI (t:=a) (show b≠0 by omega);have q1:=r_ (t:=a) (show b≠0 by omega);have q2:=da (t:=a) (show b≠0 by omega);generalize ag a b=f at *
 obtain ⟨p,q⟩:=f;exact Bl (by omega) q0 q1 (by rw [abJ,abJ];exact aaX (2 * ·) q2)
def Lc:Rw->Prop
 | .fin p=>jX p
 | .ν _ ds=>∀d∈ds,jX d.2.1
structure uY(size:Int)(r:Rw):Prop where
 good:qD size r
 hand:∀k ds,r= .ν k ds->bA k=true->∀d∈ds,d.2.2=[]
structure GU(size:Int)(r:Rw):Prop where
 fit:uY size r
 tH:Lc r
abbrev kC(ys:List qR):List Int:=ys.map λy=>y.2.2
def tD(S:Int)(y:qR):eL:=(y.1,y.2.1,[ag y.2.2 S])
def MV(y:qR):eL:=(y.1,y.2.1,[])
structure Mb(size:Int)(y:qR):Prop where
 to:0<=y.1/\y.1 < size
 tH:jX y.2.1
 pos:0 < y.2.2
structure gQ(size S:Int)(ys:List qR):Prop where
 n1:1<=ys.length
 n6:ys.length<=6
 each:∀y∈ys,Mb size y
 sum:(kC ys).sum=S
 E8:S<=1000000\/(S<=2000000/\∀y∈ys,∃v,y.2.2=2 * v)
theorem vt:∀(vs:List Int),(vs.map λv=>2 * v).sum=2 * vs.sum
 | []=>rfl
 | v::vs=>by rw [aaQ,List.sum_cons,List.sum_cons,vt vs];omega
theorem yE:∀(ys:List qR),(∀y∈ys,∃v,y.2.2=2 * v)->∃vs:List Int,kC ys=vs.map λv=>2 * v
 | [],_=>⟨[],rfl⟩
 | y::ys,h=>by obtain ⟨v,hv⟩:=h y aam;obtain ⟨vs,PY⟩:=yE ys λz hz=>h z (aah _ hz);exact ⟨v::vs,by show y.2.2::kC ys=_;rw [hv,PY];rfl⟩
theorem gQ.fits{ys:List qR}(h:gQ size S ys):Ι ((kC ys).map λw=>ag w S)=true/\Jl ((kC ys).map λw=>ag w S):=by
 have ln:(kC ys).length=ys.length:=aab ..;have n1:=h.n1;have n6:=h.n6;have pos:∀w∈kC ys,0 < w:=λw hw=>by obtain ⟨y,hy,rfl⟩:=aan.mp hw;exact (h.each y hy).pos
 rcases h.E8 with fw | ⟨fw,ev⟩
 ·exact mK h.sum pos (λe=>by rw [e] at ln;simp at ln;omega) fw (by omega)
 ·obtain ⟨vs,hv⟩:=yE ys ev;have hs:=h.sum;rw [hv,vt] at hs;have lv:vs.length=ys.length:=by rw [<-ln,hv,aab]
  have pv:∀v∈vs,0 < v:=λv JQ=>by have:=pos (2 * v) (by rw [hv];exact aan.mpr ⟨v,JQ,rfl⟩);omega
  have ne:vs≠[]:=λe=>by rw [e] at lv;simp at lv;omega
  have sp:=qC pv ne;have key:=mK (ws:=vs) (S:=vs.sum) rfl pv ne (by omega) (by omega);have e:(kC ys).map (λw=>ag w S)=vs.map λv=>ag v vs.sum:=by rw [hv,aaK];exact aa0 λv _=>by show ag (2 * v) S=_;rw [<-hs,AO sp]
  rw [e];exact key
theorem gQ.Ri{ys:List qR}(h:gQ size S ys)(k:Nat):gQ size S (ys.drop k++ys.take k):=by
 have hl:(ys.drop k++ys.take k).length=ys.length:=by rw [aae,abh,abg];omega
 refine ⟨by rw [hl];exact h.n1,by rw [hl];exact h.n6,λy hy=>h.each y (kY.mp hy), ?_, ?_⟩
 ·have:(kC ys).sum=(kC (ys.take k++ys.drop k)).sum:=by rw [List.take_append_drop]
  rw [<-h.sum,this];unfold kC;rw [aao,aao,List.sum_append,List.sum_append,Int.add_comm]
 ·rcases h.E8 with f | ⟨f,e⟩
  ·exact .inl f
  ·exact .inr ⟨f,λy hy=>e y (kY.mp hy)⟩
theorem gQ.EM{ys:List qR}(h:gQ size S ys):GU size (.ν "chance" (ys.map (tD S))):=by
 obtain ⟨f1,f2⟩:=h.fits;have e:(ys.map (tD S)).map μ=(kC ys).map λw=>ag w S:=by rw [aaK,aaK];rfl
 refine ⟨⟨wR (by rw [aab];exact h.n1) (by rw [aab];exact h.n6) (λd hd=> ?_) (λd hd=> ?_) (by rw [e];exact f1) (by rw [e];exact f2) (λd hd=> ?_),λk ds e hk=> ?_⟩,λd hd=> ?_⟩
 ·obtain ⟨y,hy,rfl⟩:=aan.mp hd;exact lq (h.each y hy).to.1 (h.each y hy).to.2 (h.each y hy).tH.fit
 ·obtain ⟨y,hy,rfl⟩:=aan.mp hd;rfl
 ·obtain ⟨y,hy,rfl⟩:=aan.mp hd;exact (h.each y hy).tH.2.1
 ·cases e;exact aaE hk (by decide)
 ·obtain ⟨y,hy,rfl⟩:=aan.mp hd;exact (h.each y hy).tH
theorem gQ.hand{ys:List qR}{k:Str}(h:gQ size S ys)(hk:bA k=true):GU size (.ν k (ys.map MV)):=by
 refine ⟨⟨Cf hk (by rw [aab];exact h.n1) (by rw [aab];exact h.n6) (λd hd=> ?_) (λd hd=> ?_),λk ds e hk d hd=> ?_⟩,λd hd=> ?_⟩
 ·obtain ⟨y,hy,rfl⟩:=aan.mp hd;exact lq (h.each y hy).to.1 (h.each y hy).to.2 (h.each y hy).tH.fit
 ·obtain ⟨y,hy,rfl⟩:=aan.mp hd;exact ⟨rfl,(h.each y hy).tH.2.1⟩
 ·cases e;obtain ⟨y,hy,rfl⟩:=aan.mp hd;rfl
 ·obtain ⟨y,hy,rfl⟩:=aan.mp hd;exact (h.each y hy).tH
theorem zG{xs:List Int}{j:Int}(h0:0<=j)(h1:j < xs.length):∃x∈xs,fF (xs.map Dt.int) j=some (.int x):=by
 have hj:j.toNat < xs.length:=by omega
 have:=vb hj;rw [show ((j.toNat:Nat):Int)=j by omega] at this;exact ⟨_,aaV hj,this⟩
theorem Jg{bs:List Br}{j:Int}(h0:0<=j)(h1:j < bs.length):∃b∈bs,fF (bs.map jq) j=some (jq b):=by
 have hj:j.toNat < bs.length:=by omega
 have:=Η (xs:=bs.map jq) (j:=j.toNat) (v:=jq bs[j.toNat]) (by rw [aaf,aaa hj];rfl);rw [show ((j.toNat:Nat):Int)=j by omega] at this;exact ⟨_,aaV hj,this⟩
theorem rK{p:Fr}{n:Int}(h:bt p=true):dI (.fin p) n=true:=h
def Dg:DF:=λas M q _=>∃(ns:List Int) (bs:List Br) (os:List Int) (pl:Nat),as=[.cE ns, .lst (bs.map jq), .lst (os.map Dt.int), .int (pl:Nat)]/\uL bs/\DU bs.length os/\pl < os.length/\∀r E,GU os.length r->q (Λ r) (M++E)
theorem Κ:χ ["_law_script","_law_base_here","_law_origin_here","_law_place","_law_kind","_law_doors","_law_whole","_law_found","_law_k","_law_to","_law_pay_here","_law_weight","_law_mixed","_law_some","_law_parts","_law_less","_law_j","_law_chance","_law_at"] ["_law_script","_law_base_here","_law_origin_here","_law_place"] (ο mj):= .of rfl
theorem ur(F:cY K "_law_copy" "_law_copy" mj f fd)(E:Ev K mg Cm){xP:Addr}{xv:FuncData}(eP:aD P w K mg base 4 "_law_piece" ["_law_script","_law_place","_law_k"] zh xP xv)(ak:aD P w K mg base 1 "_law_lowest" ["_law_top","_law_bottom"] zc bN bT):ao P w K mg base (cq P w) 6 f fd ["_law_script","_law_base_here","_law_origin_here","_law_place"] (cQ K Dg):=by
 refine F.fi Κ (λds M q x h=> ?_) (λbq A outer s H E' hr=>⟨_,(ζ (qf (ω (jv 1) (ω (jv 2) (jv 3))) (l9 rfl (bx (Χ (i:=4) Κ.nd rfl (Or.inl rfl)) (bx (Χ (i:=5) Κ.nd rfl (Or.inl rfl)) iY))))
   (ζ (aj (bF hr (jv 4) gH) (θ (υ (aA (Ο (jv 4) (Ο (jv 5) ε))))) Ζ)
   (ζ (π 6 Κ.nd (aQ ι (Di E.qY (η (eZ (ys:=[]) (Θ:=[]) (.of Κ rfl rfl rfl) (bz (jv 5)) (λC s H fp=>(ω (jv 0) ι))) ε))))
   (ζ (π 7 Κ.nd (gS ε))
   (ζ (fU (aB E.ax (η (bB E.bb (Ο (jv 5) ε)) ε bc)) (Χ (i:=8) Κ.nd rfl (Or.inl rfl)) aC (ζ (B8 (ω (jv 5) (jv 8)) (l9 rfl (bx (Χ (i:=9) Κ.nd rfl (Or.inr rfl)) (bx (Χ (i:=10) Κ.nd rfl (Or.inl rfl)) (bx (Χ (i:=11) Κ.nd rfl (Or.inl rfl)) iY)))))
   (ζ (π 12 Κ.nd (Ω eP hr ξ (Ο (jv 0) (Ο (jv 3) (Ο (jv 8) ε)))))
   (ζ (cj (i:=13) Κ.nd rfl (Or.inl rfl) (ys:=["_law_to","_law_origin_here"]) (Θ:=[9,2]) (.of Κ rfl rfl rfl) (sX (aB E.ax (η (bB E.bb (Ο (jv 2) ε)) ε bc))) (λC s H fp=>(bF hr (ω (jv 2) (jv 0)) (jv 1))) (λC s H fp=>(jv 0)))
   (ζ (π 14 Κ.nd (fB (η (aQ ι (jv 11)) ε aF)))
   (ζ (eY (aj (JW.jt (Fz (bF hr (ar (jv 12) ι) ι) (BF (oz (bB E.bb (Ο (jv 5) ε)) ι)))) (ζ (π 15 Κ.nd (Υ ι (ar (bG (jv 12) ι) (kh (aQ ι (jv 11)) ι))))
   (θ (π 14 Κ.nd (fB (Ο (jv 15) (η (kh (aQ ι (jv 11)) (jv 15)) ε aF)))))) Ζ))
   (θ (fU (aB E.ax (η (bB E.bb (Ο (jv 14) ε)) ε bc)) (Χ (i:=16) Κ.nd rfl (Or.inl rfl)) aC (ζ (π 17 Κ.nd (Ω ak hr ξ (η (ω (jv 14) (jv 16)) (Ο (jv 6) ε) aI)))
   (θ (fb (eB (jv 7) (η (aA (η (ω (jv 13) (ar (bG (jv 12) (aQ ι (Υ (aQ ι (jv 16)) ι))) (bB E.bb (Ο (jv 13) ε)))) (Ο (jv 10) (Ο (jv 17) ε)) aI)) ε fq)))))))))))))
   (ζ (π 18 Κ.nd (ar (Ω eP hr ξ (Ο (jv 0) (Ο (jv 3) (η ι ε aU)))) (bB E.bb (Ο (jv 7) ε))))
   (ζ (π 7 Κ.nd (Υ (cm (gq (jv 7) (jv 18))) (cm (ll (jv 7) (jv 18)))))
   (ζ (eY (aj (sV hr (jv 4) gH) (θ (kB (i:=7) Κ.nd rfl (Or.inl rfl) (ys:=[]) (Θ:=[]) (.of Κ rfl rfl rfl) (bz (jv 7)) (λC s H fp=>(BM (jv 0) ι)))) Ζ))
   (θ (υ (aA (Ο (jv 4) (Ο (jv 7) ε))))))))))))),λds M q x h=> ?_⟩)
 ·obtain ⟨ns,bs,os,pl,rfl,_⟩:=h;rfl
 ·obtain ⟨ns,bs,os,pl,rfl,hb,ho,hp,h⟩:=h;have DL:=ho.DL;obtain ⟨o,om,eo⟩:=zG (xs:=os) (j:=(pl:Int)) (by omega) (by omega);obtain ⟨o0,o1⟩:=ho.C3 o om;obtain ⟨b,bm,eb⟩:=Jg (bs:=bs) o0 o1;have KP:=hb.each b bm;walk_at "vc";dsimp only [vz];walk_at "vc";refine (τ (d:= .lst (os.map Dt.int)) rfl eo ?_:dF (.lst (os.map Dt.int)) (.int (pl:Nat)) M _);refine (τ (d:= .lst (bs.map jq)) rfl eb ?_:dF (.lst (bs.map jq)) (.int o) M _);cases b with
  | fin p=>
   refine ⟨λ_=>⟨kG, ?_⟩,λz=>(nomatch z)⟩;have:=h (.fin p) [] ⟨⟨⟨KP.2.1,rK KP.fit⟩,λ_ _ z=>(nomatch z)⟩,KP⟩;rwa [aaY] at this
  | ub kd xs=>
  obtain ⟨hk,x1,x6,hx⟩:=KP;have K':kd≠"end":=λz=>by subst z;rcases hk with hk | hk <;> exact aaE hk (by decide)
  refine ⟨λz=>aaE (aar z) K',λ_=> ?_⟩;have wb:∀v∈kC xs,0 < v/\v<=100000:=λv hv=>by obtain ⟨y,hy,rfl⟩:=aan.mp hv;exact ⟨(hx y hy).2.2.1,(hx y hy).2.2.2⟩
  have wl:(kC xs).length=xs.length:=aab ..;have sp:0 < (kC xs).sum:=qC (λv hv=>(wb v hv).1) (λe=>by rw [e] at wl;simp at wl;omega);have sm:=zd (l:=kC xs) λv hv=>(wb v hv).2;rw [wl] at sm;have RF:(kC xs).sum.natAbs < 2 ^ 22:=by omega
  show cN _ _ _ _ _;refine aZ (i:=5) (d:= .lst (xs.map b5)) rfl rfl ⟨by rw [aab];exact aak x6 (by decide), ?_⟩;refine bX (f:=λd=>match d with | .tup [_,_,v]=>v | _=> .aW) trivial (λx kT q' hq=> ?_) ?_
  ·obtain ⟨y,hy,rfl⟩:=aan.mp kT;exact τ (d:=b5 y) (xs:=[.int y.1,ah y.2.1, .int y.2.2]) rfl (Η (j:=2) rfl) hq
  have ew:[]++(xs.map b5).map (λd=>match d with | .tup [_,_,v]=>v | _=> .aW)=(kC xs).map Dt.int:=by rw [aaU,aaK,aaK];rfl
  rw [ew];refine ⟨kC xs,rfl,⟨_,_,rfl⟩,⟨bg (k:=4) (by decide),bg RF⟩,by decide, ?_⟩;generalize hS:2 * (kC xs).sum=S;have S0:0 < S:=by omega
  have bS:fc S:=bg (k:=24) (by omega);refine (Ρ (d:= .lst (xs.map b5)) (xs:=xs.map b5) rfl ?_:c7 [.lst (xs.map b5)] _ _);rw [aab];refine ⟨⟨by omega,by omega⟩, ?_⟩;have go:∀ys:List qR,ys.map (λy=>ba (tD S y))=(ys.map (tD S)).map ba:=λys=>by rw [aaK];rfl
  refine b6 (λzs ρ M2=>∃(n k:Nat) (ys:List qR) (o8 o9 vw wa Hc Ku Kl Bb yj yg Gn:Option Dt),zs=bf k n/\k+n=xs.length/\k<=ys.length/\(xs.length < 4->ys.length<=2 * k)/\(¬xs.length < 4->ys.length=k/\∀y∈ys,∃v,y.2.2=2 * v)/\(∀y∈ys,Mb os.length y)/\(kC ys).sum=2 * (kC (xs.take k)).sum/\M2=M++[.lst ((ys.map (tD S)).map ba)]/\ρ=[some (.cE ns),some (.lst (bs.map jq)),some (.lst (os.map Dt.int)),some (.int (pl:Nat)),some (.str kd),some (.lst (xs.map b5)),some (.int S),some (.loc M.length),o8,o9,vw,wa,Hc,Ku,Kl,Bb,yj,yg,Gn]) (λx zs ρ M2 hj mX=> ?_) (λρ M2 hj=> ?_) _ _ _ ⟨xs.length,0,[],none,none,none,none,none,none,none,none,none,none,none,by simp,by simp,Nat.zero_le _,λ_=>Nat.zero_le _,λ_=>⟨rfl,λ_ z=>(nomatch z)⟩,λ_ z=>(nomatch z),rfl,rfl,rfl⟩
  ·obtain ⟨n,k,ys,o8,o9,vw,wa,Hc,Ku,Kl,Bb,yj,yg,Gn,ex,Cd,SQ,Kb,GZ,Nz,Kn,rfl,rfl⟩:=hj;obtain ⟨m,rfl,rfl,rfl⟩:=cv ex;have kx:k < xs.length:=by omega
   have ek:fF (xs.map b5) ((k:Nat):Int)=some (b5 xs[k]):=Η (by rw [aaf,aaa kx];rfl);obtain ⟨⟨t0,t1⟩,MM,w1,w5⟩:=hx xs[k] (aaV kx);have Sd:xs.take (k+1)=xs.take k++[xs[k]]:=by rw [List.take_succ,aaa kx];rfl
   generalize xs[k]=tr at *
   obtain ⟨to,tH,wt⟩:=tr;have w1:1<=wt:=w1;have w5:wt<=100000:=w5;generalize Et:(g_ (gN 8) _ _ (bf ((k:Int)+1) m):En->Ms->Prop)=Nx at mX⊢;walk_at "vc";dsimp only [Df];walk_at "vc";refine (τ (d:= .lst (xs.map b5)) rfl ek ?_:dF (.lst (xs.map b5)) (.int ((k:Nat):Int)) _ _);refine ⟨ns,pl,k,rfl,by omega,by omega,λmx TY T9=> ?_⟩;dsimp only [mR,Ke,rg];walk_at "vc";refine (Ρ (d:= .lst (os.map Dt.int)) (xs:=os.map Dt.int) rfl ?_:c7 [.lst (os.map Dt.int)] _ _);rw [aab];refine ⟨⟨by omega,by omega⟩,by rw [bL];exact aak (show _<=12 by omega) (by decide), ?_⟩;refine bo trivial (λx=>match x with | .int j=>decide (os.getD j.toNat 0=to) | _=>false) (λx=>x) _ _ (λx kT q' p' h1 h2=> ?_) ?_
   ·obtain ⟨j,hj,rfl⟩:=dD kT;have hj:j < os.length:=by simpa using hj
    rw [aa9] at h1 h2⊢;have e:os.getD ((j:Int).toNat) 0=os[j]:=by rw [aaW,aaS,aaa hj];rfl
    walk_at "vc";refine (τ (d:= .lst (os.map Dt.int)) rfl (vb hj) ?_:dF (.lst (os.map Dt.int)) (.int ((j:Nat):Int)) _ _);show match decide (os[j]=to) with | true=>_ | false=>_
    have e2:decide (os.getD ((j:Int).toNat) 0=to)=decide (os[j]=to):=by rw [e]
    cases c:decide (os[j]=to) with
    | true=>exact h1 (e2.trans c)
    | false=>exact h2 (e2.trans c)
   obtain ⟨ss,PF,sr,s1⟩:∃ss:List Int,[]++(List.filter (λx=>match x with | .int j=>decide (os.getD j.toNat 0=to) | _=>false) (bf 0 ((os.length:Int)).toNat)).map (λx=>x)=ss.map Dt.int/\(∀s∈ss,0<=s/\s < (os.length:Int))/\1<=ss.length:=by
    refine ⟨((List.range os.length).filter λj=>decide (os.getD j 0=to)).map λj:Nat=>(j:Int), ?_,λs hs=> ?_, ?_⟩
    ·rw [aaU,List.map_id',aaW,qv,List.filter_map,aaK];have:((λx=>match x with | Dt.int j=>decide (os.getD j.toNat 0=to) | _=>false) ∘ λi:Nat=>Dt.int (0+i))=λj:Nat=>decide (os.getD j 0=to):=by
      funext i
      show decide (os.getD (0+(i:Int)).toNat 0=to)=_;rw [aa9,aaW]
     rw [this];exact aa0 λi _=>by show Dt.int (0+(i:Int))=Dt.int (i:Int);rw [aa9]
    ·obtain ⟨j,hj,rfl⟩:=aan.mp hs;have:=aaC.mp (abu.mp hj).1;omega
    ·obtain ⟨j,hj⟩:=aa5.mp (ho.all to t0 t1);have iA:=(aad.mp hj).1;have:((j:Nat):Int)∈((List.range os.length).filter λj=>decide (os.getD j 0=to)).map λj:Nat=>(j:Int):=aan.mpr ⟨j,abu.mpr ⟨aaC.mpr iA,aaq (by rw [aaS,hj];rfl)⟩,rfl⟩;exact List.length_pos_of_mem this
   rw [PF];refine ⟨⟨bg (k:=4) (by decide),bg (k:=20) (by omega)⟩,DD, ?_⟩;refine ⟨λρ M3=>M3=M++[.lst ((ys.map (tD S)).map ba)]/\∃(ps:List Int) (Bb:Option Dt),(1<=ps.length/\ps.length<=2/\(∀p∈ps,0 < p)/\ps.sum=2 * wt/\(xs.length < 4\/ps=[2 * wt]))/\ρ=[some (.cE ns),some (.lst (bs.map jq)),some (.lst (os.map Dt.int)),some (.int (pl:Nat)),some (.str kd),some (.lst (xs.map b5)),some (.int S),some (.loc M.length),some (.int (k:Int)),some (.int to),some (ah tH),some (.int wt),some (.int mx),some (.lst (ss.map Dt.int)),some (.lst (ps.map Dt.int)),Bb,yj,yg,Gn], ?_, ?_⟩
   ·have same:∃(ps:List Int) (Lo:Option Dt),(1<=ps.length/\ps.length<=2/\(∀p∈ps,0 < p)/\ps.sum=2 * wt/\(xs.length < 4\/ps=[2 * wt]))/\[some (Dt.cE ns),some (.lst (bs.map jq)),some (.lst (os.map Dt.int)),some (.int (pl:Nat)),some (.str kd),some (.lst (xs.map b5)),some (.int S),some (.loc M.length),some (.int (k:Int)),some (.int to),some (ah tH),some (.int wt),some (.int mx),some (.lst (ss.map Dt.int)),some (.lst [.int (2 * wt)]),Bb,yj,yg,Gn]=[some (.cE ns),some (.lst (bs.map jq)),some (.lst (os.map Dt.int)),some (.int (pl:Nat)),some (.str kd),some (.lst (xs.map b5)),some (.int S),some (.loc M.length),some (.int (k:Int)),some (.int to),some (ah tH),some (.int wt),some (.int mx),some (.lst (ss.map Dt.int)),some (.lst (ps.map Dt.int)),Lo,yj,yg,Gn]:=⟨[2 * wt],Bb,⟨Nat.le_refl 1,by show 1<=2;decide,λp hp=>by rw [List.mem_singleton.mp hp];omega,by simp, .inr rfl⟩,rfl⟩;refine ⟨by decide,λ_=> ?_,λ_=>⟨λz=>(nomatch z),λ_=>⟨rfl,same⟩⟩⟩;walk_at "vc";refine (Ρ (d:= .lst (xs.map b5)) (xs:=xs.map b5) rfl ?_:c7 [.lst (xs.map b5)] _ _);rw [aab];refine ⟨λhb=> ?_,λ_=>⟨rfl,same⟩⟩;have hb:((xs.length:Nat):Int) < 4:=aar hb;have bw:fc wt:=bg (k:=20) (by omega);have g0:=aaB (mx / 3) (show 2 * wt - 1≠0 by omega);have g1:=aaA (mx / 3) (show 0 < 2 * wt - 1 by omega);refine ⟨⟨by decide,bg (k:=4) (by decide)⟩,⟨bg (k:=4) (by decide),bw⟩,by omega,⟨bg (k:=4) (by decide),bw⟩,kG,rfl,[1+mx / 3 % (2 * wt - 1),2 * wt - (1+mx / 3 % (2 * wt - 1))],_,⟨by show 1<=2;decide,aal 2,λp hp=> ?_, ?_, .inl (by omega)⟩,rfl⟩
    ·rcases aaO.mp hp with rfl | hp
     ·omega
     ·have:p=2 * wt - (1+mx / 3 % (2 * wt - 1)):=by simpa using hp
      omega
    ·simp;omega
   rintro ρ3 M3 ⟨rfl,ps,Bb,⟨q1,q2,qp,qs,q4⟩,rfl⟩;walk_at "vc";refine (Ρ (d:= .lst (ps.map Dt.int)) (xs:=ps.map Dt.int) rfl ?_:c7 [.lst (ps.map Dt.int)] _ _);rw [aab];refine ⟨⟨by omega,by omega⟩, ?_⟩;refine b6 (λzs ρ M3=>∃(n' j:Nat) (vs:List qR) (yj yg:Option Dt),zs=bf j n'/\j+n'=ps.length/\vs.length=j/\kC vs=ps.take j/\(∀y∈vs,Mb os.length y)/\M3=M++[.lst (((ys++vs).map (tD S)).map ba)]/\ρ=[some (.cE ns),some (.lst (bs.map jq)),some (.lst (os.map Dt.int)),some (.int (pl:Nat)),some (.str kd),some (.lst (xs.map b5)),some (.int S),some (.loc M.length),some (.int (k:Int)),some (.int to),some (ah tH),some (.int wt),some (.int mx),some (.lst (ss.map Dt.int)),some (.lst (ps.map Dt.int)),Bb,yj,yg,Gn]) (λx zs ρ M3 hj KO=> ?_) (λρ M3 hj=> ?_) _ _ _ ⟨ps.length,0,[],yj,yg,by simp,by simp,rfl,rfl,λ_ z=>(nomatch z),by rw [List.append_nil],rfl⟩
   ·obtain ⟨n',j,vs,yj,yg,BH,SD,Gf,GY,MA,rfl,rfl⟩:=hj;obtain ⟨m',rfl,rfl,rfl⟩:=cv BH;have iA:j < ps.length:=by omega
    have uG:(M++[MO.lst (((ys++vs).map (tD S)).map ba)])[M.length]? =some (.lst (((ys++vs).map (tD S)).map ba)):=cb;generalize TB:(g_ (gN 16) _ _ (bf ((j:Int)+1) m'):En->Ms->Prop)=Ny at KO⊢;walk_at "vc";dsimp only [Gd];walk_at "vc";refine (τ (d:= .lst (ps.map Dt.int)) rfl (vb iA) ?_:dF (.lst (ps.map Dt.int)) (.int ((j:Nat):Int)) _ _);have jb:(j:Int) < 2:=by omega
    have db:0 < 600000 * (11 * (j:Int)+1):=by omega
    refine ⟨_,_,rfl,S0,bS,⟨_,_,rfl,uG⟩,⟨bg (k:=5) (by decide),bg (k:=4) (by omega)⟩,⟨bg (k:=21) (by decide),bg (k:=6) (by omega)⟩,⟨db,bg (k:=30) (by omega)⟩, ?_⟩;refine (Ρ (d:= .lst (ss.map Dt.int)) (xs:=ss.map Dt.int) rfl ?_:c7 [.lst (ss.map Dt.int)] _ _);rw [aab];have s0:(0:Int) < (ss.length:Nat):=by omega
    obtain ⟨sv,Sh,Rz⟩:=zG (xs:=ss) (j:=mx / (600000 * (11 * (j:Int)+1)) % ((ss.length:Nat):Int)) (aaB _ (by omega)) (aaA _ s0);refine ⟨s0, ?_⟩;refine (τ (d:= .lst (ss.map Dt.int)) rfl Rz ?_:dF (.lst (ss.map Dt.int)) (.int (mx / (600000 * (11 * (j:Int)+1)) % ((ss.length:Nat):Int))) _ _);have QY:(ys++vs).length<=20:=by
     rw [aae,Gf];by_cases c:xs.length < 4
     ·have:=Kb c;omega
     ·have:=(GZ c).1;omega
    refine ⟨Nk,_,_,_,rfl,rfl,uG,by rw [aab,aab];exact aaH QY (by decide), ?_⟩;refine KO _ _ ⟨m',j+1,vs++[(sv,tH,ps[j])],_,_,by simp,by omega,by simp [Gf], ?_,λy hy=> ?_, ?_,rfl⟩
    ·unfold kC at GY⊢;rw [aao,GY,List.take_succ,aaa iA];rfl
    ·rcases aaI.mp hy with hy | hy
     ·exact MA y hy
     ·have:y=(sv,tH,ps[j]):=by simpa using hy
      subst this;exact ⟨sr sv Sh,MM,qp _ (aaV iA)⟩
    ·rw [aba _ _ (aal _),abk,<-abc,aao (l₁:=ys++vs),aao (l₁:=(ys++vs).map (tD S))];rfl
   ·obtain ⟨n',j,vs,yj,yg,BH,SD,Gf,GY,MA,rfl,rfl⟩:=hj;have E6:n'=0:=by have:=aaX List.length BH;unfold bf at this;simpa using this.symm
    have Ox:j=ps.length:=by omega
    rw [Ox,List.take_length] at GY;refine mX _ _ ⟨m,k+1,ys++vs,_,_,_,_,_,_,_,_,_,_,_,by simp,by omega,by rw [List.length_append];omega,λc=>by rw [List.length_append];have:=Kb c;omega,λc=> ?_,λy hy=> ?_, ?_,rfl,rfl⟩
    ·have e:=q4.resolve_left c;refine ⟨by rw [aae,(GZ c).1,Gf,Ox,e];rfl,λy hy=> ?_⟩;rcases aaI.mp hy with hy | hy
     ·exact (GZ c).2 y hy
     ·have hm:y.2.2∈kC vs:=aan.mpr ⟨y,hy,rfl⟩;rw [GY,e] at hm;exact ⟨wt,by simpa using hm⟩
    ·rcases aaI.mp hy with hy | hy
     ·exact Nz y hy
     ·exact MA y hy
    ·rw [Sd];unfold kC at *
     rw [aao,List.sum_append,Kn,GY,qs,aao,List.sum_append];show _=2 * (_+[wt].sum);simp;omega
  ·obtain ⟨n,k,ys,o8,o9,vw,wa,Hc,Ku,Kl,Bb,yj,yg,Gn,ex,Cd,SQ,Kb,GZ,Nz,Kn,rfl,rfl⟩:=hj;have hn:n=0:=by have:=aaX List.length ex;unfold bf at this;simpa using this.symm
   have P2:k=xs.length:=by omega
   subst P2;rw [List.take_length,hS] at Kn;have pt:gQ os.length S ys:=by
    refine ⟨by omega, ?_,Nz,Kn, ?_⟩
    ·by_cases c:xs.length < 4
     ·have:=Kb c;omega
     ·have:=(GZ c).1;omega
    ·by_cases c:xs.length < 4
     ·exact .inl (by omega)
     ·exact .inr ⟨by omega,(GZ c).2⟩
   have uG:(M++[MO.lst ((ys.map (tD S)).map ba)])[M.length]? =some (.lst ((ys.map (tD S)).map ba)):=cb;refine ⟨ns,pl,7,rfl,by omega,by decide,λr r0 r1=> ?_⟩;walk_at "vc";refine (Ρ (d:= .loc M.length) (cz uG) ?_:c7 [.loc M.length] _ _);rw [aab,aab];have y0:(0:Int) < (ys.length:Nat):=by have:=pt.n1;omega
   refine ⟨y0, ?_⟩;have g0:=aaB r (show ((ys.length:Nat):Int)≠0 by omega);obtain ⟨a,ea⟩:∃a:Nat,r % ((ys.length:Nat):Int)=(a:Int):=⟨(r % ((ys.length:Nat):Int)).toNat,by omega⟩;rw [ea];refine ⟨_,a,au uG,rfl, ?_⟩;rw [<-List.map_drop,<-List.map_drop];refine cK (dJ _) ?_;refine ⟨_,a,au uG,rfl, ?_⟩;rw [<-List.map_take,<-List.map_take];refine cK (dJ _) ?_;have pr:=pt.Ri a;refine ⟨by rw [aab,aab,aab,aab,<-aae];exact aak pr.n6 (by decide), ?_⟩;rw [<-aao,<-aao];generalize ys.drop a++ys.take a=zs at *
   refine ⟨λρ M3=>M3=M++[.lst ((ys.map (tD S)).map ba)]/\∃ds:List eL,GU os.length (.ν kd ds)/\ρ=[some (.cE ns),some (.lst (bs.map jq)),some (.lst (os.map Dt.int)),some (.int (pl:Nat)),some (.str kd),some (.lst (xs.map b5)),some (.int S),some (.lst (ds.map ba)),o8,o9,vw,wa,Hc,Ku,Kl,Bb,yj,yg,some (.int a)],⟨λhb=> ?_,λhb=> ?_⟩, ?_⟩
   ·have hb:kd≠"chance":=by intro z;subst z;exact aaE hb (by decide)
    show cN _ _ _ _ _;refine aZ (i:=7) (d:= .lst ((zs.map (tD S)).map ba)) rfl rfl ⟨by rw [aab,aab];exact aak pr.n6 (by decide), ?_⟩;refine bX (f:=λd=>match d with | .tup [a,b,_]=> .tup [a,b] | _=> .aW) trivial (λx kT q' hq=> ?_) ?_
    ·obtain ⟨d,hd,rfl⟩:=aan.mp kT;obtain ⟨y,hy,rfl⟩:=aan.mp hd;exact ⟨_,2,rfl,rfl,by show 2 < 3;decide,hq⟩
    ·have e:[]++((zs.map (tD S)).map ba).map (λd=>match d with | .tup [a,b,_]=> .tup [a,b] | _=> .aW)=(zs.map MV).map ba:=by rw [aaU,aaK,aaK,aaK];rfl
     rw [e];exact ⟨rfl,zs.map MV,pr.hand (hk.resolve_right hb),rfl⟩
   ·have hb:kd="chance":=by
     by_cases z:kd="chance"
     ·exact z
     ·exact aaE hb (by rw [aaF z];decide)
    subst hb;exact ⟨rfl,zs.map (tD S),pr.EM,rfl⟩
   ·rintro ρ3 M3 ⟨rfl,ds,GR,rfl⟩;exact ⟨kG,h (.ν kd ds) _ GR⟩
theorem uY.fin{n:Int}{p:Fr}(h:jX p):uY n (.fin (p.1+p.2,p.2)):=
 ⟨⟨h.2.1,yy (by have:=h.1;have:=h.2.1;show -(10 ^ 30)<=p.1+p.2;omega) (by have:=h.1;have:=h.2.2;show p.1+p.2<=10 ^ 30;omega) h.2.2⟩,λ_ _ z=>(nomatch z)⟩
theorem uY.set{n:Int}{k:Str}{ds:List eL}{d d':eL}(h:uY n (.ν k ds))(e:ds[i]? =some d)(h1:Φ d'.1 d'.2.1 n=true)(h2:0 < d'.2.1.2)(h3:d'.2.2=d.2.2):uY n (.ν k (ds.set i d')):=by
 obtain ⟨⟨⟨k0,Ba,hc,hd⟩,hf⟩,hh⟩:=h;have md:=aaw e;have ec:(ds.set i d').map μ=ds.map μ:=by
  rw [List.map_set];have hi:i < (ds.map μ).length:=by rw [aab];exact (aad.mp e).1
  have:μ d'=(ds.map μ)[i]:=by rw [List.getElem_map];have e2:=(aad.mp e).2;unfold μ;rw [h3,e2]
  rw [this,List.set_getElem_self]
 have all:∀x∈ds.set i d',x∈ds\/x=d':=λx hx=>List.mem_or_eq_of_mem_set hx;refine ⟨⟨⟨k0,by rw [aa6];exact Ba,λz=>⟨λx hx=> ?_,by rw [ec];exact (hc z).2⟩,λx hx=> ?_⟩, ?_⟩,λk' C6 e' hk x hx=> ?_⟩
 ·rcases all x hx with hx | rfl
  ·exact (hc z).1 x hx
  ·have:=(hc z).1 d md;unfold μ at this⊢;rw [h3];exact this
 ·rcases all x hx with hx | rfl
  ·exact hd x hx
  ·rw [h3];exact ⟨(hd d md).1,h2⟩
 ·have fd:∀{m:Int},Β ds m=true->(∀x,x=d'->Φ x.1 x.2.1 m=true)->Β (ds.set i d') m=true:=λ{m} h hx=>by
   unfold Β at h⊢;rw [aax,aax,aa4] at h⊢;refine ⟨by rw [aa6];exact h.1,λx Fu=> ?_⟩;rcases all x Fu with Fu | Fu
   ·exact h.2 x Fu
   ·exact hx x Fu
  have hf:(if bA k then Β ds n else if k="chance" then Β ds n&&Ι (ds.map μ) else false)=true:=hf;show (if bA k then Β (ds.set i d') n else if k="chance" then Β (ds.set i d') n&&Ι ((ds.set i d').map μ) else false)=true;rw [ec];by_cases c:bA k=true
  ·rw [aaP c] at hf⊢;exact fd hf λx hx=>by rw [hx];exact h1
  ·rw [aaJ c] at hf⊢;by_cases c2:k="chance"
   ·rw [aaP c2,aax] at hf⊢;exact ⟨fd hf.1 λx hx=>by rw [hx];exact h1,hf.2⟩
   ·rw [aaJ c2] at hf;cases hf
 ·cases e';rcases all x hx with hx | rfl
  ·exact hh k ds rfl hk x hx
  ·rw [h3];exact hh k ds rfl hk d md
theorem vf{α:Type}{xs:List α}{x:α}(h:i < xs.length):xs.take i++[x]++xs.drop (i+1)=xs.set i x:=by rw [List.set_eq_take_append_cons_drop,aaP h,abc];rfl
theorem DJ{n:Int}{k:Str}{ds:List eL}(h:uY n (.ν k ds)):1<=ds.length/\ds.length<=6/\∀d∈ds,Φ d.1 d.2.1 n=true:=by
 obtain ⟨⟨_,hf⟩,_⟩:=h;have hf:(if bA k then Β ds n else if k="chance" then Β ds n&&Ι (ds.map μ) else false)=true:=hf;have key:Β ds n=true:=by
  by_cases c:bA k=true
  ·rw [aaP c] at hf;exact hf
  ·rw [aaJ c] at hf;by_cases c2:k="chance"
   ·rw [aaP c2,aax] at hf;exact hf.1
   ·rw [aaJ c2] at hf;cases hf
 unfold Β at key;rw [aax,aax,aa4,decide_eq_true_eq,decide_eq_true_eq] at key;exact ⟨key.1.1,key.1.2,key.2⟩
theorem oV{n:Int}{p:Fr}(h:Φ t p n=true):0<=t/\t < n/\bt p=true:=by unfold Φ at h;rw [aax,aax,decide_eq_true_eq,decide_eq_true_eq] at h;exact ⟨h.1,h.2.1,h.2.2⟩
theorem gp{n:Nat}:∀(rs:List Rw),Dt.aL n (rs.map Λ)
 | []=>trivial
 | r::rs=>⟨ve r,gp rs⟩
def v8:DF:=λas M q _=>∃(ns:List Int) (γ:List Rw),as=[.cE ns, .lst (γ.map Λ)]/\1<=γ.length/\γ.length<=12/\(∀r∈γ,GU γ.length r)/\∀j8:List Rw,j8.length=γ.length->(∀r∈j8,uY γ.length r)->q (.lst (j8.map Λ)) M
theorem av:χ ["_law_script","_law_rows","_law_number_here","_law_place","_law_kind","_law_told","_law_row","_law_at","_law_door","_law_pay_here"] ["_law_script","_law_rows"] (ο hI):= .of rfl
theorem pQ(F:cY K "_law_spoilt" "_law_spoilt" hI f fd)(E:Ev K mg Cm)(ψ:aD P w K mg base 2 "_law_number" ["_law_script","_law_k"] pC aM aH):ao P w K mg base (cq P w) 4 f fd ["_law_script","_law_rows"] (cQ K v8):=by
 refine F.fi av (λds M q x h=> ?_) (λbq A outer s H E' hr=>⟨_,(ζ (π 2 av.nd (Ω ψ hr ξ (Ο (jv 0) (η ι ε aU))))
   (ζ (π 3 av.nd (ar (bG (jv 2) ι) (bB E.bb (Ο (jv 1) ε))))
   (ζ (qf (ω (jv 1) (jv 3)) (l9 rfl (bx (Χ (i:=4) av.nd rfl (Or.inl rfl)) (bx (Χ (i:=5) av.nd rfl (Or.inl rfl)) iY))))
   (ζ (aj (bF hr (ar (jv 2) ι) ι) (θ (υ (jv 1))) Ζ)
   (ζ (eY (aj (bF hr (jv 4) gH) (θ (π 6 av.nd (aA (Ο (jv 4) (η (aA (η (Υ (ω (jv 5) ι) (ω (jv 5) ι)) (η (ω (jv 5) ι) ε aI) aF)) ε fq))))) (ζ (π 7 av.nd (ar (bG (jv 2) ι) (bB E.bb (Ο (jv 5) ε))))
   (ζ (π 8 av.nd (Υ (aA (η (ar (Υ (ω (ω (jv 5) (jv 7)) ι) ι) (bB E.bb (Ο (jv 1) ε))) ε aF)) (ot (ω (jv 5) (jv 7)) ι)))
   (ζ (eY (aj (bF hr (ar (bG (jv 2) ι) ι) ι) (ζ (π 9 av.nd (ω (ω (jv 5) (jv 7)) ι))
   (θ (π 8 av.nd (Υ (aA (η (ω (ω (jv 5) (jv 7)) ι) (η (aA (η (Υ (ω (jv 9) ι) (ω (jv 9) ι)) (η (ω (jv 9) ι) ε aI) aF)) ε fq) aI)) (ot (ω (jv 5) (jv 7)) ι))))) Ζ))
   (θ (π 6 av.nd (aA (Ο (jv 4) (η (Υ (Υ (cm (ll (jv 5) (jv 7))) (fB (Ο (jv 8) ε))) (cm (gq (jv 5) (Υ (jv 7) ι)))) ε aF))))))))))
   (θ (υ (Υ (Υ (cm (ll (jv 1) (jv 3))) (fB (Ο (jv 6) ε))) (cm (gq (jv 1) (Υ (jv 3) ι))))))))))),λds M q x h=> ?_⟩)
 ·obtain ⟨ns,γ,rfl,_⟩:=h;rfl
 ·obtain ⟨ns,γ,rfl,n1,DL,DV,h⟩:=h;refine ⟨ns,44,rfl,by decide,by decide,λn hn=>⟨⟨by decide,bg (k:=4) (by decide)⟩, ?_⟩⟩;walk_at "vc";refine (Ρ (d:= .lst (γ.map Λ)) (xs:=γ.map Λ) rfl ?_:c7 [.lst (γ.map Λ)] _ _);rw [aab];have g0:=aaB (n / 2) (show ((γ.length:Nat):Int)≠0 by omega);have g1:=aaA (n / 2) (show (0:Int) < (γ.length:Nat) by omega);obtain ⟨i,ei,il⟩:∃i:Nat,n / 2 % ((γ.length:Nat):Int)=(i:Int)/\i < γ.length:=⟨(n / 2 % ((γ.length:Nat):Int)).toNat,by omega,by omega⟩;refine ⟨by omega, ?_⟩;rw [ei];have er:γ[i]? =some γ[i]:=aaa il;have EE:fF (γ.map Λ) ((i:Nat):Int)=some (Λ γ[i]):=Η (by rw [aaf,er];rfl);have EH:=DV γ[i] (aaV il);generalize γ[i]=r at *
  dsimp only [vz];walk_at "vc";refine (τ (d:= .lst (γ.map Λ)) rfl EE ?_:dF (.lst (γ.map Λ)) (.int ((i:Nat):Int)) _ _);have last:∀(r':Rw) (k0 t0:Dt) (o7 o8 o9:Option Dt),uY γ.length r'->∀(Dn:i_),Dn.rt=q->F0 (gC iV (gC iV (Kp (zE (ee 1) (ee 3))) (Eo (fj (ee 6) kL))) (Kp (J9 (ee 1) (gC iV (ee 3) (dC (.int 1)))))) Dn [some (.cE ns),some (.lst (γ.map Λ)),some (.int n),some (.int (i:Nat)),some k0,some t0,some (Λ r'),o7,o8,o9] M:=λr' k0 t0 o7 o8 o9 tF Dn hD=>by
   have l1:(γ.take i).length<=12:=by rw [abg];omega
   have l2:(γ.drop (i+1)).length<=12:=by rw [abh];omega
   refine ⟨γ.map Λ,i,rfl,rfl, ?_⟩;rw [<-List.map_take];refine cK (gp _) ⟨DD,⟨by rw [aab];exact aak (abb l1 1) (by decide),γ.map Λ,i+1,rfl,rfl, ?_⟩⟩;rw [<-List.map_drop];refine cK (gp _) ⟨by rw [aae,aab,aab];exact aak (Nat.add_le_add (abb l1 1) l2) (by decide), ?_⟩;have e:(γ.take i).map Λ++[Λ r']++(γ.drop (i+1)).map Λ=(γ.set i r').map Λ:=by rw [<-vf il,aao,aao];rfl
   rw [e,hD];refine h _ (aa6 ..) λx hx=> ?_;rcases List.mem_or_eq_of_mem_set hx with hx | rfl
   ·exact (DV x hx).fit
   ·exact tF
  cases r with
  | fin p=>
   refine ⟨by decide,λ_=>h γ rfl λx hx=>(DV x hx).fit,λ_=> ?_⟩;refine ⟨λρ M3=>M3=M/\∃(r':Rw) (k0 t0:Dt) (o7 o8 o9:Option Dt),uY γ.length r'/\ρ=[some (.cE ns),some (.lst (γ.map Λ)),some (.int n),some (.int (i:Nat)),some k0,some t0,some (Λ r'),o7,o8,o9],⟨λ_=> ?_,λz=>(nomatch z)⟩, ?_⟩
   ·walk_at "vc";refine zj ?_;refine oQ ?_;dsimp only [iV];refine oQ ?_;exact ⟨kG,kG,rfl, .fin (p.1+p.2,p.2),_,_,_,_,_, .fin EH.tH,rfl⟩
   ·rintro ρ3 M3 ⟨rfl,r',k0,t0,o7,o8,o9,tF,rfl⟩;exact last r' k0 t0 o7 o8 o9 tF _ rfl
  | ν kd ds=>
   obtain ⟨d1,d6,MI⟩:=DJ EH.fit;have K':kd≠"end":=EH.fit.good.1.1;refine ⟨by decide,λ_=>h γ rfl λx hx=>(DV x hx).fit,λ_=> ?_⟩;refine ⟨λρ M3=>M3=M/\∃(r':Rw) (k0 t0:Dt) (o7 o8 o9:Option Dt),uY γ.length r'/\ρ=[some (.cE ns),some (.lst (γ.map Λ)),some (.int n),some (.int (i:Nat)),some k0,some t0,some (Λ r'),o7,o8,o9],⟨λz=>aaE (aar z) K',λ_=> ?_⟩, ?_⟩
   ·refine ⟨⟨by decide,bg (k:=6) (by decide)⟩, ?_⟩;walk_at "vc";refine (Ρ (d:= .lst (ds.map ba)) (xs:=ds.map ba) rfl ?_:c7 [.lst (ds.map ba)] _ _);rw [aab];have a0:=aaB (n / 24) (show ((ds.length:Nat):Int)≠0 by omega);have a1:=aaA (n / 24) (show (0:Int) < (ds.length:Nat) by omega);obtain ⟨j,ej,jl⟩:∃j:Nat,n / 24 % ((ds.length:Nat):Int)=(j:Int)/\j < ds.length:=⟨(n / 24 % ((ds.length:Nat):Int)).toNat,by omega,by omega⟩;refine ⟨by omega, ?_⟩;rw [ej];have ed:ds[j]? =some ds[j]:=aaa jl;have LL:fF (ds.map ba) ((j:Nat):Int)=some (ba ds[j]):=Η (by rw [aaf,ed];rfl);have KY:=oV (MI ds[j] (aaV jl));have C0:=EH.tH ds[j] (aaV jl);generalize ds[j]=d at *
    have at2:∀(qq:DQ),qq (ba d) M->dF (.lst (ds.map ba)) (.int ((j:Nat):Int)) M qq:=λqq hq=>τ (d:= .lst (ds.map ba)) rfl LL hq;dsimp only [EF];walk_at "vc";refine at2 _ ?_;refine we ?_;dsimp only [iV];refine (Ρ (d:= .lst (γ.map Λ)) (xs:=γ.map Λ) rfl ?_:c7 [.lst (γ.map Λ)] _ _);rw [aab];refine ⟨by omega,DD, ?_⟩;refine at2 _ ?_;refine ⟨_,1,rfl,rfl,Nat.le_refl 1,by simp,⟨by simp, ?_⟩, ?_⟩
    ·show 1+(List.drop 1 (Dt.int d.1::ah d.2.1::d.2.2.map ah)).length<=sizeLine;have:=(EH.fit.good.1.2.2.2 d (aaw ed)).1;simp;exact aak (show _<=3 by omega) (by decide)
    refine ⟨λρ M3=>M3=M/\∃(d':eL) (o9:Option Dt),Φ d'.1 d'.2.1 γ.length=true/\0 < d'.2.1.2/\d'.2.2=d.2.2/\ρ=[some (.cE ns),some (.lst (γ.map Λ)),some (.int n),some (.int (i:Nat)),some (.str kd),some (.lst (ds.map ba)),none,some (.int (j:Nat)),some (ba d'),o9],⟨⟨by decide,bg (k:=8) (by decide)⟩,by decide,λ_=> ?_,λ_=> ?_⟩, ?_⟩
    ·walk_at "vc";refine at2 _ ?_;refine zx ?_;refine at2 _ ?_;refine we ?_;refine zj ?_;refine oQ ?_;dsimp only [iV];refine oQ ?_;refine ⟨kG,kG, ?_⟩;dsimp only [EF];walk_at "vc";refine at2 _ ?_;refine ⟨_,2,rfl,rfl,by decide,by simp,⟨by simp, ?_⟩,rfl,(d.1,(d.2.1.1+d.2.1.2,d.2.1.2),d.2.2),_,lq KY.1 KY.2.1 (yy ?_ ?_ C0.2.2),C0.2.1,rfl,rfl⟩
     ·have:=(EH.fit.good.1.2.2.2 d (aaw ed)).1;simp;exact aak (show _<=3 by omega) (by decide)
     ·have:=C0.1;have:=C0.2.1;show -(10 ^ 30)<=d.2.1.1+d.2.1.2;omega
     ·have:=C0.1;have:=C0.2.2;show d.2.1.1+d.2.1.2<=10 ^ 30;omega
    ·exact ⟨rfl,((d.1+1) % ((γ.length:Nat):Int),d.2.1,d.2.2),_,lq (aaB _ (by omega)) (aaA _ (by omega)) C0.fit,C0.2.1,rfl,rfl⟩
    ·rintro ρ3 M3 ⟨rfl,d',o9,f1,f2,f3,rfl⟩;have l1:(ds.take j).length<=6:=by rw [abg];omega
     have l2:(ds.drop (j+1)).length<=6:=by rw [abh];omega
     refine ⟨ds.map ba,j,rfl,rfl, ?_⟩;rw [<-List.map_take];refine cK (dJ _) ⟨DD,⟨by rw [aab];exact aak (abb l1 1) (by decide),ds.map ba,j+1,rfl,rfl, ?_⟩⟩;rw [<-List.map_drop];refine cK (dJ _) ⟨by rw [aae,aab,aab];exact aak (Nat.add_le_add (abb l1 1) l2) (by decide), ?_⟩;have e:(ds.take j).map ba++[ba d']++(ds.drop (j+1)).map ba=(ds.set j d').map ba:=by rw [<-vf jl,aao,aao];rfl
     rw [e];exact ⟨kG,rfl, .ν kd (ds.set j d'),_,_,_,_,_,EH.fit.set ed f1 f2 f3,rfl⟩
   ·rintro ρ3 M3 ⟨rfl,r',k0,t0,o7,o8,o9,tF,rfl⟩;exact last r' k0 t0 o7 o8 o9 tF _ rfl
def ye(k:Str):Fr->Fr->Fr:=if k="chance" then dr else λ_ _=>(1,1)
def cI(p:Fr)(y:Nat):NK:=([.inl p.1, .inl p.2], .inl (y:Nat))
abbrev zz(c:Nat->Nat)(ds:List eL):List (NK×Fr):=ds.map λd=>(aw c d,μ d)
def bu(c:Nat->Nat)(k:Str)(ds:List eL)(x:NK):Fr:=N51.rR (ye k) (0,1) (zz c ds) x
theorem wm(c:Nat->Nat)(k:Str)(ds:List eL):Ν c (.ν k ds)=N51.fA (ye k) (0,1) (zz c ds):=by
 unfold ye;by_cases e:k="chance"
 ·simp only [Ν,if_pos e]
 ·simp only [Ν,if_neg e]
theorem sj{d:eL}{p:Fr}{y:Nat}:aw c d=cI p y↔d.2.1=p/\c d.1.toNat=y:=by
 unfold aw cI;constructor
 ·intro h;injection h with h1 h2
  injection h1 with a1 a2
  injection a2 with a2 _
  have a1:=Sum.inl.inj a1;have a2:=Sum.inl.inj a2;have h2:=Sum.inl.inj h2;exact ⟨Prod.ext a1 a2,by omega⟩
 ·rintro ⟨rfl,rfl⟩;rfl
theorem nU(c:Nat->Nat)(k:Str)(ds:List eL)(d:eL)(x:NK):bu c k (ds++[d]) x=if aw c d=x then ye k (bu c k ds x) (μ d) else bu c k ds x:=by unfold bu zz;rw [aao];exact N51.rD _ _ _ _ _
theorem oB{k:Str}(hk:k≠"chance"){x:NK}:∀{ds:List eL},(∃d∈ds,aw c d=x)->bu c k ds x=(1,1):=λ{ds} h=>by
 have key:∀(ds:List eL) (a:Fr),a=(1,1)\/(∃d∈ds,aw c d=x)->(zz c ds).foldl (λa y=>if y.1=x then ye k a y.2 else a) a=(1,1):=by
  intro ds
  induction ds with
  | nil=>
   intro a h;rcases h with h | ⟨d,hd,_⟩
   ·exact h
   ·cases hd
  | cons d ds ih=>
   intro a h;show (zz c ds).foldl _ (if aw c d=x then ye k a (μ d) else a)=_;by_cases e:aw c d=x
   ·rw [aaP e];exact ih _ (.inl (by unfold ye;rw [if_neg hk]))
   ·rw [aaJ e];refine ih _ ?_;rcases h with h | ⟨d',hd,he⟩
    ·exact .inl h
    ·rcases aaO.mp hd with rfl | hd
     ·exact aaE he e
     ·exact .inr ⟨d',hd,he⟩
 exact key ds _ (.inr h)
theorem l'{c:Nat->Nat}{x:NK}:∀(ds:List eL) (a:Fr),(∀d∈ds,0 < (μ d).1/\0 < (μ d).2)->0<=a.1->0 < a.2->(0 < a.1\/∃d∈ds,aw c d=x)->0 < ((zz c ds).foldl (λa y=>if y.1=x then dr a y.2 else a) a).1
 | [],a,_,_,_,h=>by
  rcases h with h | ⟨d,hd,_⟩
  ·exact h
  ·cases hd
 | d::ds,a,hp,h0,h1,h=>by
  show 0 < ((zz c ds).foldl _ (if aw c d=x then dr a (μ d) else a)).1;have O0:=λd' f_=>hp d' (aah _ f_);obtain ⟨c0,c1⟩:=hp d aam;by_cases e:aw c d=x
  ·rw [aaP e];have t0:0 < a.1 * (μ d).2+(μ d).1 * a.2:=by have:=Int.mul_nonneg h0 (aaN c1);have:=Int.mul_pos c0 h1;omega
   have b0:0 < a.2 * (μ d).2:=Int.mul_pos h1 c1;have p1:0 < (dr a (μ d)).1:=ku t0 b0;have p2:0 < (dr a (μ d)).2:=bI (by omega);exact l' ds _ O0 (aaN p1) p2 (.inl p1)
  ·rw [aaJ e];refine l' ds _ O0 h0 h1 ?_;rcases h with h | ⟨d',hd,he⟩
   ·exact .inl h
   ·rcases aaO.mp hd with rfl | hd
    ·exact aaE he e
    ·exact .inr ⟨d',hd,he⟩
structure jz(n:Nat)(k:Str)(ds:List eL):Prop where
 ok:bJ (.ν k ds)
 to:∀d∈ds,0<=d.1/\d.1 < n
 sz:∀d∈ds,Sz 200 (μ d)
 pos:k="chance"->∀d∈ds,0 < (μ d).1/\0 < (μ d).2
theorem jz.sub{k:Str}{ds es:List eL}(h:jz n k (ds++es)):jz n k ds:=by have m:∀{d},d∈ds->d∈ds++es:=λhd=>aa1 _ hd;obtain ⟨⟨a1,a2,a3,a4⟩,b,c,d⟩:=h;rw [aae] at a2;refine ⟨⟨a1,by omega,λz=>⟨λx hx=>(a3 z).1 x (m hx),by rw [aab];omega,λx hx=> ?_⟩,λx hx=>a4 x (m hx)⟩,λx hx=>b x (m hx),λx hx=>c x (m hx),λz x hx=>d z x (m hx)⟩;obtain ⟨y,hy,rfl⟩:=aan.mp hx;exact (a3 z).2.2 _ (aan.mpr ⟨y,m hy,rfl⟩)
theorem jz.ne{k:Str}{ds:List eL}(h:jz n k ds)(c:Nat->Nat):∀x∈(zz c ds).map (·.1),N51.rR (ye k) (0,1) (zz c ds) x≠(0,1):=λx hx e=>by
 obtain ⟨y,hy,rfl⟩:=aan.mp hx;obtain ⟨d,hd,rfl⟩:=aan.mp hy;by_cases hk:k="chance"
 ·have hp:=l' (c:=c) (x:=aw c d) ds (0,1) (h.pos hk) (by decide) (by decide) (.inr ⟨d,hd,rfl⟩);have e:(zz c ds).foldl (λa y=>if y.1=aw c d then dr a y.2 else a) (0,1)=(0,1):=by unfold N51.rR ye at e;rw [aaP hk] at e;exact e
  rw [e] at hp;exact aaE hp (by decide)
 ·have:=oB (c:=c) hk (x:=aw c d) ⟨d,hd,rfl⟩;unfold bu at this;rw [this] at e;exact aaE e (by decide)
theorem jz.Nh{k:Str}{ds es:List eL}(h:jz n k ds)(h':jz n k es)(c:Nat->Nat):cP (Ν c (.ν k ds)) (Ν c (.ν k es))=true↔∀d∈ds++es,bu c k ds (aw c d)=bu c k es (aw c d):=by
 rw [oF (ly c _) (ly c _),wm,wm,N51.xE (h.ne c) (h'.ne c),<-aao];constructor
 ·intro q d hd;exact q _ (aan.mpr ⟨_,aan.mpr ⟨d,hd,rfl⟩,rfl⟩)
 ·intro q x hx;obtain ⟨y,hy,rfl⟩:=aan.mp hx;obtain ⟨d,hd,rfl⟩:=aan.mp hy;exact q d hd
theorem Cs{k:Str}{ds:List eL}(h:jz n k ds)(hk:k="chance")(c:Nat->Nat)(x:NK):∃l,l<=1+201 * ds.length/\Sz l (bu c k ds x):=by
 unfold bu N51.rR ye;rw [aaP hk]
 obtain ⟨l,h1,h2⟩:=qF x (zz c ds) (0,1) 1 (λy hy=>by
  obtain ⟨d,hd,rfl⟩:=aan.mp hy
  exact h.sz d hd) ⟨by decide,by decide,by decide⟩
 exact ⟨l,by simpa using h1,h2⟩
theorem Ab{p p':Fr}{x y:Nat}:nI M 2 (.tup [ah p, .int (x:Nat)]) (.tup [ah p', .int (y:Nat)]) (decide (p=p')&&decide (x=y)):=by
 have z:fo (V.int (x:Nat)) (V.int (y:Nat))=decide (x=y):=by rw [Bool.eq_iff_iff];simp [fo];omega
 have h:=nI.tup (M:=M) (n:=1) (ds:=[ah p, .int (x:Nat)]) (es:=[ah p', .int (y:Nat)]) (f:=λj=>match j with | 0=>decide (p=p') | _=>decide (x=y)) λj d e h1 h2=>by
  match j with
  | 0=>cases h1;cases h2;exact mV p p'
  | 1=>
   cases h1;cases h2;have:=nI.flat (M:=M) (n:=1) (d:= .int (x:Nat)) (e:= .int (y:Nat)) rfl rfl;rwa [z] at this
  | j+2=>cases h1
 have e:((List.range (min [ah p,Dt.int (x:Nat)].length [ah p',Dt.int (y:Nat)].length)).all (λj=>match j with | 0=>decide (p=p') | _=>decide (x=y))&&[ah p,Dt.int (x:Nat)].length==[ah p',Dt.int (y:Nat)].length)=(decide (p=p')&&decide (x=y)):=by show ((List.range 2).all _&&true)=_;rw [kX,Bool.and_true];rfl
 rw [e] at h;exact h
def C2:DF:=λas M q _=>∃(k:Str) (ds:List eL) (n:Nat) (c:Nat->Nat) (dc:Dt) (p:Fr) (y:Nat),as=[Λ (.ν k ds),dc, .tup [ah p, .int (y:Nat)]]/\eW M dc=some (aG n c)/\jz n k ds/\q (ah (bu c k ds (cI p y))) M
theorem bY:χ ["_law_row","_law_classes","_law_pair","_law_top","_law_bottom","_law_door"] ["_law_row","_law_classes","_law_pair"] (ο h7):= .of rfl
theorem qe(F:cY K "_law_part_of" "_law_part_of" h7 f fd)(E:Ev K mg Cm)(ak:aD P w K mg base 1 "_law_lowest" ["_law_top","_law_bottom"] zc bN bT):ao P w K mg base (cq P w) 4 f fd ["_law_row","_law_classes","_law_pair"] (cQ K C2):=by
 refine F.fi bY (λds M q x h=> ?_) (λbq A outer s H E' hr=>⟨_,(ζ (π 3 bY.nd ι)
   (ζ (π 4 bY.nd ι)
   (ζ (gy (bz (ω (jv 0) ι)) (Χ (i:=5) bY.nd rfl (Or.inl rfl)) aC (θ (aj (tI 2 hr (aA (η (ω (jv 5) ι) (η (ω (jv 1) (ω (jv 5) ι)) ε aI) aI)) (jv 2)) (ζ (aj (sV hr (ω (jv 0) ι) gH) (θ (υ (aA (η ι (η ι ε aU) aU)))) Ζ)
   (θ (qf (Ω ak hr ξ (η (Υ (aQ (jv 3) (ω (ω (jv 5) ι) ι)) (aQ (ω (ω (jv 5) ι) ι) (jv 4))) (η (aQ (jv 4) (ω (ω (jv 5) ι) ι)) ε aF) aF)) (l9 rfl (bx (Χ (i:=3) bY.nd rfl (Or.inl rfl)) (bx (Χ (i:=4) bY.nd rfl (Or.inl rfl)) iY)))))) Ζ)))
   (θ (υ (aA (Ο (jv 3) (Ο (jv 4) ε)))))))),λds M q x h=> ?_⟩)
 ·obtain ⟨k,ds,n,c,dc,p,y,rfl,_⟩:=h;rfl
 ·obtain ⟨k,ds,n,c,dc,p,y,rfl,hc,rk,h⟩:=h;walk_at "vc";dsimp only [vj,cN];walk_at "vc";refine (rV (k:=k) (e:= .lst (ds.map ba)) ?_:dF (.tup [.str k, .lst (ds.map ba)]) (.int 1) M _);have Ba:ds.length<=12:=rk.ok.2.1;show gG _ _ _ (λ_=>True) (ds.map ba) [some (Λ (.ν k ds)),some dc,some (.tup [ah p, .int (y:Nat)]),some (.int 0),some (.int 1),none] M;refine dz (λxs ρ M'=>∃(done Δ:List eL) (o5:Option Dt),ds=done++Δ/\xs=Δ.map ba/\(k≠"chance"->∀d∈done,aw c d≠cI p y)/\M'=M/\ρ=[some (Λ (.ν k ds)),some dc,some (.tup [ah p, .int (y:Nat)]),some (.int (bu c k done (cI p y)).1),some (.int (bu c k done (cI p y)).2),o5]) (λ_ _ _ _=>trivial) (λx xs ρ M' hJ ih=> ?_) (λρ M' hJ=> ?_) _ _ _ ⟨[],ds,none,rfl,rfl,λ_ _ z=>(nomatch z),rfl,rfl⟩
  ·obtain ⟨done,Δ,o5,e1,e2,hn,rfl,rfl⟩:=hJ;cases Δ with
   | nil=>cases e2
   | cons d Δ=>
    cases e2;have md:d∈ds:=by rw [e1];simp
    obtain ⟨t0,tn⟩:=rk.to d md;obtain ⟨t,et⟩:=Int.eq_ofNat_of_zero_le t0;have tl:t < n:=by omega
    have Gv:fF (aG n c) d.1=some (.int (c t:Nat)):=by rw [et];exact Η (gz tl)
    have O7:c d.1.toNat=c t:=by rw [et];rfl
    generalize Et:(gG (gN 5) _ _ _ (Δ.map ba):En->Ms->Prop)=Nx at ih⊢;walk_at "vc";refine zx ?_;refine we ?_;refine (τ (d:=dc) hc Gv ?_:dF dc (.int d.1) _ _);refine ⟨kG,_, .inl ⟨_,rfl⟩, .inl ⟨_,rfl⟩,Ab,λhb=> ?_,λhb=> ?_⟩
    ·have hk:aw c d=cI p y:=by rw [aax,decide_eq_true_eq,decide_eq_true_eq] at hb;exact sj.mpr ⟨hb.1,by rw [O7];exact hb.2⟩
     refine (τ (d:= .tup [.str k, .lst (ds.map ba)]) (xs:=[.str k, .lst (ds.map ba)]) rfl az ?_:dF (.tup [.str k, .lst (ds.map ba)]) (.int 0) _ _);refine ⟨λz=>⟨kG, ?_⟩,λz=> ?_⟩
     ·have z:k≠"chance":=by intro e;subst e;exact aaE z (by decide)
      rw [oB z ⟨d,md,hk⟩] at h;exact h
     ·have z:k="chance":=by
       by_cases e:k="chance"
       ·exact e
       ·exact aaE z (by rw [aaF e];decide)
      have vv:=(rk.ok.2.2.1 z).1 d md;have ed:ba d= .tup [.int d.1,ah d.2.1,ah (μ d)]:=by unfold ba;rw [vv];rfl
      have d2:∀(M':Ms) (qq:DQ),qq (ah (μ d)) M'->dF (ba d) (.int 2) M' qq:=λM' qq hq=>τ (d:=ba d) (xs:=[.int d.1,ah d.2.1,ah (μ d)]) (by rw [ed];rfl) (Η (j:=2) rfl) hq;have rd:jz n k done:=jz.sub (by rw [<-e1];exact rk);obtain ⟨l,Ks,Ej⟩:=Cs rd z c (cI p y);have T4:done.length<=12:=rd.ok.2.1;have sc:=rk.sz d md;have st:ye k (bu c k done (cI p y)) (μ d)=dr (bu c k done (cI p y)) (μ d):=by unfold ye;rw [if_pos z]
      have sn:=nU c k done d (cI p y);rw [aaP hk,st] at sn;obtain ⟨b1,b2,b3⟩:=jr Ej sc;dsimp only [vz];walk_at "vc";refine d2 _ _ ?_;refine oQ ?_;refine ⟨⟨kZ Ej (by omega),dN sc (by omega)⟩, ?_⟩;refine d2 _ _ ?_;refine zj ?_;refine ⟨⟨kZ sc (by omega),dN Ej (by omega)⟩, ?_⟩;dsimp only [iV];refine d2 _ _ ?_;refine oQ ?_;refine ⟨⟨dN Ej (by omega),dN sc (by omega)⟩, ?_⟩;refine ⟨_,_,rfl,b3,bg b2 (by omega), ?_⟩;refine ih _ _ ⟨done++[d],Δ,some (ba d),by rw [e1];simp,rfl,λq=>absurd z q,rfl, ?_⟩;rw [sn];rfl
    ·have hk:aw c d≠cI p y:=λe=>by obtain ⟨a,b⟩:=sj.mp e;rw [aaq a,aaq (show c t=y by rw [<-O7];exact b)] at hb;cases hb
     have sn:=nU c k done d (cI p y);rw [aaJ hk] at sn;refine ih _ _ ⟨done++[d],Δ,some (ba d),by rw [e1];simp,rfl,λq d' f_=> ?_,rfl, ?_⟩
     ·rcases aaI.mp f_ with f_ | f_
      ·exact hn q d' f_
      ·have:d'=d:=by simpa using f_
       rw [this];exact hk
     ·rw [sn]
  ·obtain ⟨done,Δ,o5,e1,e2,hn,rfl,rfl⟩:=hJ;cases Δ with
   | cons d Δ=>cases e2
   | nil=>
    rw [aaY] at e1;subst e1;exact ⟨kG,h⟩
def IS(n:Nat):Rw->Prop
 | .fin p=>0 < p.2
 | .ν k ds=>jz n k ds
def Dw:DF:=λas M q _=>∃(r r':Rw) (n:Nat) (c:Nat->Nat) (dc:Dt),as=[Λ r,Λ r',dc]/\eW M dc=some (aG n c)/\IS n r/\IS n r'/\kindOf r=kindOf r'/\q (.bl (cP (Ν c r) (Ν c r'))) M
theorem jN:χ ["_law_one","_law_other","_law_classes","_law_door","_law_pair"] ["_law_one","_law_other","_law_classes"] (ο lY):= .of rfl
theorem uN(F:cY K "_law_same" "_law_same" lY f fd)(E:Ev K mg Cm){ug:Addr}{tJ:FuncData}(dZ:aD P w K mg base 4 "_law_part_of" ["_law_row","_law_classes","_law_pair"] C2 ug tJ):ao P w K mg base (cq P w) 5 f fd ["_law_one","_law_other","_law_classes"] (cQ K Dw):=by
 refine F.fi jN (λds M q x h=> ?_) (λbq A outer s H E' hr=>⟨_,(ζ (aj (bF hr (ω (jv 0) ι) gH) (θ (υ wU)) Ζ)
   (ζ (gy (bz (Υ (ω (jv 0) ι) (ω (jv 1) ι))) (Χ (i:=3) jN.nd rfl (Or.inl rfl)) aC (ζ (π 4 jN.nd (aA (η (ω (jv 3) ι) (η (ω (jv 2) (ω (jv 3) ι)) ε aI) aI)))
   (θ (aj (pU 1 hr (Ω dZ hr ξ (Ο (jv 0) (Ο (jv 2) (Ο (jv 4) ε)))) (Ω dZ hr ξ (Ο (jv 1) (Ο (jv 2) (Ο (jv 4) ε))))) (θ (υ wU)) Ζ))))
   (θ (υ wU)))),λds M q x h=> ?_⟩)
 ·obtain ⟨r,r',n,c,dc,rfl,_⟩:=h;rfl
 ·obtain ⟨r,r',n,c,dc,rfl,hc,h1,h2,hk,h⟩:=h;walk_at "vc"
  match r,r',h1,h2,hk,h with
  | .fin p, .ν k es,_,h2,hk,_=>exact aaE hk.symm h2.ok.1
  | .ν k ds, .fin p,h1,_,hk,_=>exact aaE hk h1.ok.1
  | .fin p, .fin p',_,_,_,h=>
   refine (τ (d:= .tup [.str "end",ah p]) (xs:=[.str "end",ah p]) rfl az ?_:dF (.tup [.str "end",ah p]) (.int 0) _ _);exact ⟨λ_=>h,λz=>(nomatch z)⟩
  | .ν k ds, .ν k' es,h1,h2,hk,h=>
  have hk:k=k':=hk;subst hk;refine (τ (d:= .tup [.str k, .lst (ds.map ba)]) (xs:=[.str k, .lst (ds.map ba)]) rfl az ?_:dF (.tup [.str k, .lst (ds.map ba)]) (.int 0) _ _);refine ⟨λz=>aaE (aar z) h1.ok.1,λ_=> ?_⟩;have lk:=h1.Nh h2 c;have l1:ds.length<=12:=h1.ok.2.1;have l2:es.length<=12:=h2.ok.2.1;dsimp only [vj,cN];walk_at "vc";refine (rV (k:=k) (e:= .lst (ds.map ba)) ?_:dF (.tup [.str k, .lst (ds.map ba)]) (.int 1) M _);refine (rV (k:=k) (e:= .lst (es.map ba)) ?_:dF (.tup [.str k, .lst (es.map ba)]) (.int 1) M _);refine ⟨by rw [aab,aab];exact aak (show _<=24 by omega) (by decide), ?_⟩;rw [<-aao];show gG _ _ _ (λ_=>True) ((ds++es).map ba) [some (Λ (.ν k ds)),some (Λ (.ν k es)),some dc,none,none] M;have P5:∀d∈ds++es,0<=d.1/\d.1 < n:=λd hd=>by
   rcases aaI.mp hd with hd | hd
   ·exact h1.to d hd
   ·exact h2.to d hd
  generalize GP:ds++es=ab at *
  refine dz (λxs ρ M'=>∃(done Δ:List eL) (o3 o4:Option Dt),ab=done++Δ/\xs=Δ.map ba/\(∀d∈done,bu c k ds (aw c d)=bu c k es (aw c d))/\M'=M/\ρ=[some (Λ (.ν k ds)),some (Λ (.ν k es)),some dc,o3,o4]) (λ_ _ _ _=>trivial) (λx xs ρ M' hJ ih=> ?_) (λρ M' hJ=> ?_) _ _ _ ⟨[],ab,none,none,rfl,rfl,λ_ z=>(nomatch z),rfl,rfl⟩
  ·obtain ⟨done,Δ,o3,o4,e1,e2,hn,rfl,rfl⟩:=hJ;cases Δ with
   | nil=>cases e2
   | cons d Δ=>
    cases e2;have md:d∈ab:=by rw [e1];simp
    obtain ⟨t0,tn⟩:=P5 d md;obtain ⟨t,et⟩:=Int.eq_ofNat_of_zero_le t0;have tl:t < n:=by omega
    have Gv:fF (aG n c) d.1=some (.int (c t:Nat)):=by rw [et];exact Η (gz tl)
    have ek:aw c d=cI d.2.1 (c t):=by unfold aw cI;rw [et];rfl
    generalize Et:(gG (gN 3) _ _ _ (Δ.map ba):En->Ms->Prop)=Nx at ih⊢;walk_at "vc";refine zx ?_;refine we ?_;refine (τ (d:=dc) hc Gv ?_:dF dc (.int d.1) _ _);refine ⟨kG,k,ds,n,c,dc,_,_,rfl,hc,h1,k,es,n,c,dc,_,_,rfl,hc,h2,_, .inl ⟨_,rfl⟩, .inl ⟨_,rfl⟩,mV _ _,λhb=> ?_,λhb=> ?_⟩
    ·have ne:bu c k ds (aw c d)≠bu c k es (aw c d):=λe=>by rw [ek] at e;rw [aaq e] at hb;cases hb
     have:cP (Ν c (.ν k ds)) (Ν c (.ν k es))=false:=by
      cases q:cP (Ν c (.ν k ds)) (Ν c (.ν k es)) with
      | false=>rfl
      | true=>exact aaE (lk.mp q d md) ne
     rw [this] at h;exact h
    ·have eq:bu c k ds (aw c d)=bu c k es (aw c d):=by
      rw [ek];by_cases e:bu c k ds (cI d.2.1 (c t))=bu c k es (cI d.2.1 (c t))
      ·exact e
      ·rw [aaF e] at hb;cases hb
     refine ih _ _ ⟨done++[d],Δ,_,_,by rw [e1];simp,rfl,λd' f_=> ?_,rfl,rfl⟩;rcases aaI.mp f_ with f_ | f_
     ·exact hn d' f_
     ·have:d'=d:=by simpa using f_
      rw [this];exact eq
  ·obtain ⟨done,Δ,o3,o4,e1,e2,hn,rfl,rfl⟩:=hJ;cases Δ with
   | cons d Δ=>cases e2
   | nil=>
    rw [aaY] at e1;subst e1;rw [lk.mpr hn] at h;exact h
def tw(l:List Nat):List Dt:=l.map λj:Nat=>Dt.int (j:Nat)
theorem kS:(tw l).length=l.length:=aab ..
theorem Bk:aG n c=tw ((List.range n).map c):=by unfold aG tw;rw [List.map_map];rfl
theorem sd{s:Nat->Nat->Bool}:fF (tw ((List.range i).filter λj=>s j i)++[Dt.int (i:Nat)]) 0=some (.int (N51.least s i:Nat)):=by
 unfold N51.least;rw [<-List.head?_filter];cases (List.range i).filter λj=>s j i with
 | nil=>exact az
 | cons a l=>exact az
theorem rW{b:Dt->Bool}(h:∀j,j < n->b (.int (j:Nat))=p j):[]++((bf 0 n).filter b).map (λx=>x)=tw ((List.range n).filter p):=by
 rw [aaU,List.map_id',qv,List.filter_map];unfold tw;have e:(List.range n).filter (b ∘ λi:Nat=>Dt.int (0+i))=(List.range n).filter p:=aby λj hj=>by show b (.int (0+(j:Int)))=p j;rw [aa9];exact h j (aaC.mp hj)
 rw [e];exact aa0 λi _=>by show Dt.int (0+(i:Int))=_;rw [aa9]
theorem wc{b:Dt->Bool}(h:∀j∈l,b (.int (j:Nat))=p j):[]++((tw l).filter b).map (λx=>x)=tw (l.filter p):=by rw [aaU,List.map_id'];unfold tw;rw [List.filter_map];have e:l.filter (b ∘ λi:Nat=>Dt.int (i:Nat))=l.filter p:=aby λj hj=>h j hj;rw [e]
theorem AG(h:d∈tw l):∃j∈l,d= .int (j:Nat):=by obtain ⟨j,hj,rfl⟩:=aan.mp h;exact ⟨j,hj,rfl⟩
def q5(p:Nat->Bool):Dt->Bool
 | .int j=>p j.toNat
 | _=>false
theorem bV:q5 p (.int (j:Nat))=p j:=by show p ((j:Int).toNat)=_;rw [aaW]
def br(γ:List Rw)(j:Nat):Str:=match γ[j]? with
 | some r=>kindOf r
 | none=>"none"
theorem bW{γ:List Rw}(h:j < γ.length):br γ j=kindOf γ[j]:=by unfold br;rw [List.getElem?_eq_getElem h]
theorem Gw{γ:List Rw}(h:j < γ.length):fF (γ.map Λ) ((j:Nat):Int)=some (Λ γ[j]):=Η (by rw [aaf,aaa h];rfl)
theorem uk{r:Rw}{q:DQ}(h:q (.str (kindOf r)) M):dF (Λ r) (.int 0) M q:=by
 cases r with
 | fin p=>exact τ (d:= .tup [.str "end",ah p]) (xs:=[.str "end",ah p]) rfl az h
 | ν k ds=>exact τ (d:= .tup [.str k, .lst (ds.map ba)]) (xs:=[.str k, .lst (ds.map ba)]) rfl az h
theorem fg{γ:List Rw}{q:DQ}(h:j < γ.length)(hq:q (Λ γ[j]) M):dF (.lst (γ.map Λ)) (.int ((j:Nat):Int)) M q:=τ (d:= .lst (γ.map Λ)) rfl (Gw h) hq
theorem rh{γ:List Rw}(hi:i < γ.length)(hj:j < γ.length)(ok:∀r∈γ,bJ r)(h:fS γ i j=true):kindOf γ[i]=kindOf γ[j]:=by
 rw [fY hi hj] at h;generalize γ[i]=r at *
 generalize γ[j]=r' at *
 match r,r',h with
 | .fin p, .fin q,_=>rfl
 | .ν k _, .ν l _,h=>exact aar h
theorem wN{γ:List Rw}(hi:i < γ.length)(hj:j < γ.length)(ok:∀r∈γ,bJ r)(ne:kindOf γ[j]≠"end"):fS γ i j=decide (br γ i=br γ j):=by
 rw [fY hi hj,bW hi,bW hj];have oi:=ok _ (aaV hi);generalize γ[i]=r at *
 generalize γ[j]=r' at *
 match r,r',ne with
 | .fin p, .ν l _,ne=>exact (aaF (λe:"end"=l=>ne e.symm)).symm
 | .ν k _, .ν l _,_=>rfl
 | _, .fin q,ne=>exact aaE rfl ne
def vR:DF:=λas M q _=>∃γ:List Rw,as=[.lst (γ.map Λ)]/\γ.length<=12/\(∀r∈γ,bJ r)/\q (.loc M.length) (M++[.lst (aG γ.length (N51.least (fS γ)))])
theorem bP:χ ["_law_rows","_law_found","_law_place","_law_same_here"] ["_law_rows"] (ο jF):= .of rfl
theorem rC(F:cY K "_law_first" "_law_first" jF f fd)(E:Ev K mg Cm):ao P w K mg base (cq P w) 3 f fd ["_law_rows"] (cQ K vR):=by
 refine F.fi bP (λds M q x h=> ?_) (λbq A outer s H E' hr=>⟨_,(ζ (π 1 bP.nd (gS ε))
   (ζ (fU (aB E.ax (η (bB E.bb (Ο (jv 0) ε)) ε bc)) (Χ (i:=2) bP.nd rfl (Or.inr rfl)) aC (ζ (cj (i:=3) bP.nd rfl (Or.inl rfl) (ys:=["_law_rows","_law_place"]) (Θ:=[0,2]) (.of bP rfl rfl rfl) (sX (aB E.ax (Ο (jv 2) ε))) (λC s H fp=>(bF hr (ω (ω (jv 1) (jv 0)) ι) (ω (ω (jv 1) (jv 2)) ι))) (λC s H fp=>(jv 0)))
   (ζ (eY (aj (bF hr (ω (ω (jv 0) (jv 2)) ι) gH) (θ (cj (i:=3) bP.nd rfl (Or.inl rfl) (ys:=["_law_rows","_law_place"]) (Θ:=[0,2]) (.of bP rfl rfl rfl) (bz (jv 3)) (λC s H fp=>(tI 1 hr (ω (ω (jv 1) (jv 0)) ι) (ω (ω (jv 1) (jv 2)) ι))) (λC s H fp=>(jv 0)))) Ζ))
   (θ (fb (eB (jv 1) (η (ω (Υ (jv 3) (fB (Ο (jv 2) ε))) ι) ε aI)))))))
   (θ (υ (jv 1))))),λds M q x h=> ?_⟩)
 ·obtain ⟨γ,rfl,_⟩:=h;rfl
 ·obtain ⟨γ,rfl,Ba,ok,h⟩:=h;refine ⟨by decide, ?_⟩;walk_at "vc";refine (Ρ (d:= .lst (γ.map Λ)) (xs:=γ.map Λ) rfl ?_:c7 [.lst (γ.map Λ)] _ _);rw [aab];refine ⟨⟨by omega,by omega⟩, ?_⟩;refine b6 (λzs ρ M2=>∃(n k:Nat) (o2 o3:Option Dt),zs=bf k n/\k+n=γ.length/\M2=M++[.lst (aG k (N51.least (fS γ)))]/\ρ=[some (.lst (γ.map Λ)),some (.loc M.length),o2,o3]) (λx zs ρ M2 hj mX=> ?_) (λρ M2 hj=> ?_) _ _ _ ⟨γ.length,0,none,none,by simp,by simp,rfl,rfl⟩
  ·obtain ⟨n,k,o2,o3,ex,Cd,rfl,rfl⟩:=hj;obtain ⟨m,rfl,rfl,rfl⟩:=cv ex;have kl:k < γ.length:=by omega
   generalize Et:(g_ (gN 2) _ _ (bf ((k:Int)+1) m):En->Ms->Prop)=Nx at mX⊢;walk_at "vc";dsimp only [mR,Ke,rg];walk_at "vc";refine ⟨⟨by omega,by omega⟩,by rw [bL];exact aak (show _<=12 by omega) (by decide), ?_⟩;refine bo trivial (q5 λj=>decide (br γ j=br γ k)) (λx=>x) _ _ (λx kT q' p' h1 h2=> ?_) ?_
   ·obtain ⟨j,hj,rfl⟩:=dD kT;have hj:j < k:=by simpa using hj
    have iA:j < γ.length:=by omega
    rw [aa9] at h1 h2⊢;rw [bV,bW iA,bW kl] at h1 h2;walk_at "vc";refine fg iA ?_;refine uk ?_;refine fg kl ?_;refine uk ?_;show match decide (kindOf γ[j]=kindOf γ[k]) with | true=>_ | false=>_
    cases c:decide (kindOf γ[j]=kindOf γ[k]) with
    | true=>exact h1 c
    | false=>exact h2 c
   rw [aaW,rW (p:=λj=>decide (br γ j=br γ k)) λj hj=>bV];refine ⟨λρ M3=>M3=M++[.lst (aG k (N51.least (fS γ)))]/\ρ=[some (.lst (γ.map Λ)),some (.loc M.length),some (.int (k:Nat)),some (.lst (tw ((List.range k).filter λj=>fS γ j k)))], ?_, ?_⟩
   ·walk_at "vc";refine fg kl ?_;refine uk ?_;refine ⟨λhb=> ?_,λhb=> ?_⟩
    ·have hb:kindOf γ[k]="end":=aar hb;have yY:∀{j:Nat} (hj:j < γ.length),kindOf γ[j]="end"->∃p,γ[j]= .fin p:=λ{j} hj e=>by
      have oj:=ok _ (aaV hj);generalize γ[j]=r at *
      cases r with
      | fin p=>exact ⟨p,rfl⟩
      | ν l ds=>exact aaE e oj.1
     obtain ⟨p,ep⟩:=yY kl hb;dsimp only [mR];show cN _ _ _ _ _;refine aZ (i:=3) (d:= .lst (tw ((List.range k).filter λj=>decide (br γ j=br γ k)))) rfl rfl ⟨by rw [kS];exact aak (abj _ _) (by rw [abn];exact aak (show k<=12 by omega) (by decide)), ?_⟩;have mem:∀j∈(List.range k).filter λj=>decide (br γ j=br γ k),∃hj:j < γ.length,∃p',γ[j]= .fin p':=λj hm=>by
      obtain ⟨a,b⟩:=abu.mp hm;have hj:j < k:=aaC.mp a;have iA:j < γ.length:=by omega
      have b:br γ j=br γ k:=aar b;rw [bW iA,bW kl,hb] at b;exact ⟨iA,yY iA b⟩
     refine bo trivial (q5 λj=>fS γ j k) (λx=>x) _ _ (λx kT q' p' h1 h2=> ?_) ?_
     ·obtain ⟨j,hm,rfl⟩:=AG kT;obtain ⟨iA,pj,Ov⟩:=mem j hm;rw [bV,fY iA kl,Ov,ep] at h1 h2;walk_at "vc";refine fg iA ?_;rw [Ov];refine rV ?_;refine fg kl ?_;rw [ep];refine rV ?_;refine ⟨_, .inl ⟨_,rfl⟩, .inl ⟨_,rfl⟩,mV pj p, ?_⟩;have h1:decide (pj=p)=true->_:=h1;have h2:decide (pj=p)=false->_:=h2;show match decide (pj=p) with | true=>_ | false=>_
      cases c:decide (pj=p) with
      | true=>exact h1 c
      | false=>exact h2 c
     ·rw [wc (p:=λj=>fS γ j k) λj hj=>bV,List.filter_filter];refine ⟨rfl, ?_⟩;have:(List.range k).filter (λj=>fS γ j k&&decide (br γ j=br γ k))=(List.range k).filter λj=>fS γ j k:=aby λj hj=>by
       have iA:j < γ.length:=by have:=aaC.mp hj;omega
       cases c:fS γ j k with
       | false=>rfl
       | true=>rw [abx];exact aaq (by rw [bW iA,bW kl];exact rh iA kl ok c)
      rw [this]
    ·have hb:kindOf γ[k]≠"end":=abt hb;refine ⟨rfl, ?_⟩;have:(List.range k).filter (λj=>decide (br γ j=br γ k))=(List.range k).filter λj=>fS γ j k:=aby λj hj=>by
      have iA:j < γ.length:=by have:=aaC.mp hj;omega
      exact (wN iA kl ok hb).symm
     rw [this]
   ·rintro ρ3 M3 ⟨rfl,rfl⟩;have uG:(M++[MO.lst (aG k (N51.least (fS γ)))])[M.length]? =some (.lst (aG k (N51.least (fS γ)))):=cb;refine ⟨⟨_,_,rfl,uG⟩,DD,⟨by rw [kS];exact aak (abb (abj _ _) 1) (by rw [abn];exact aak (show k+1<=13 by omega) (by decide)), ?_⟩⟩;refine τ (d:= .lst (tw ((List.range k).filter λj=>fS γ j k)++[.int (k:Nat)])) rfl sd ?_;refine ⟨_,_,_,rfl,rfl,uG,by rw [dW];exact aaH (show k<=12 by omega) (by decide), ?_⟩;refine mX _ _ ⟨m,k+1,_,_,by simp,by omega, ?_,rfl⟩;rw [aba _ _ (aal _),abk];unfold aG;rw [abw,aao];rfl
  ·obtain ⟨n,k,o2,o3,ex,Cd,rfl,rfl⟩:=hj;have hn:n=0:=by have:=aaX List.length ex;unfold bf at this;simpa using this.symm
   have e:k=γ.length:=by omega
   subst e;exact h
def Ag:DF:=λas M q _=>∃(γ:List Rw) (c:Nat->Nat) (dc:Dt),as=[.lst (γ.map Λ),dc]/\(∀E,eW (M++E) dc=some (aG γ.length c))/\γ.length<=12/\(∀r∈γ,IS γ.length r)/\(∀i j (hi:i < γ.length) (hj:j < γ.length),c i=c j->kindOf γ[i]=kindOf γ[j])/\q (.loc M.length) (M++[.lst (aG γ.length (N51.least (h9 γ c)))])
theorem cy:χ ["_law_rows","_law_classes","_law_found","_law_place","_law_same_here"] ["_law_rows","_law_classes"] (ο mS):= .of rfl
theorem uC(F:cY K "_law_next" "_law_next" mS f fd)(E:Ev K mg Cm){Ao:Addr}{yu:FuncData}(jT:aD P w K mg base 5 "_law_same" ["_law_one","_law_other","_law_classes"] Dw Ao yu):ao P w K mg base (cq P w) 6 f fd ["_law_rows","_law_classes"] (cQ K Ag):=by
 refine F.fi cy (λds M q x h=> ?_) (λbq A outer s H E' hr=>⟨_,(ζ (π 2 cy.nd (gS ε))
   (ζ (fU (aB E.ax (η (bB E.bb (Ο (jv 0) ε)) ε bc)) (Χ (i:=3) cy.nd rfl (Or.inr rfl)) aC (ζ (cj (i:=4) cy.nd rfl (Or.inl rfl) (ys:=["_law_classes","_law_place"]) (Θ:=[1,3]) (.of cy rfl rfl rfl) (sX (aB E.ax (Ο (jv 3) ε))) (λC s H fp=>(bF hr (ω (jv 1) (jv 0)) (ω (jv 1) (jv 2)))) (λC s H fp=>(jv 0)))
   (ζ (cj (i:=4) cy.nd rfl (Or.inl rfl) (ys:=["_law_classes","_law_rows","_law_place"]) (Θ:=[1,0,3]) (.of cy rfl rfl rfl) (bz (jv 4)) (λC s H fp=>(cL (Ω jT hr (cT (P:=P) (w:=w)) (η (ω (jv 2) (jv 0)) (η (ω (jv 2) (jv 3)) (Ο (jv 1) ε) aI) aI)))) (λC s H fp=>(jv 0)))
   (θ (fb (eB (jv 2) (η (ω (Υ (jv 4) (fB (Ο (jv 3) ε))) ι) ε aI)))))))
   (θ (υ (jv 2))))),λds M q x h=> ?_⟩)
 ·obtain ⟨γ,c,dc,rfl,_⟩:=h;rfl
 ·obtain ⟨γ,c,dc,rfl,hc,Ba,ok,fin,h⟩:=h;refine ⟨by decide, ?_⟩;walk_at "vc";refine (Ρ (d:= .lst (γ.map Λ)) (xs:=γ.map Λ) rfl ?_:c7 [.lst (γ.map Λ)] _ _);rw [aab];refine ⟨⟨by omega,by omega⟩, ?_⟩;refine b6 (λzs ρ M2=>∃(n k:Nat) (o3 o4:Option Dt),zs=bf k n/\k+n=γ.length/\M2=M++[.lst (aG k (N51.least (h9 γ c)))]/\ρ=[some (.lst (γ.map Λ)),some dc,some (.loc M.length),o3,o4]) (λx zs ρ M2 hj mX=> ?_) (λρ M2 hj=> ?_) _ _ _ ⟨γ.length,0,none,none,by simp,by simp,rfl,rfl⟩
  ·obtain ⟨n,k,o3,o4,ex,Cd,rfl,rfl⟩:=hj;obtain ⟨m,rfl,rfl,rfl⟩:=cv ex;have kl:k < γ.length:=by omega
   have cx:∀{j:Nat} {q:DQ},j < γ.length->q (.int (c j:Nat)) (M++[.lst (aG k (N51.least (h9 γ c)))])->dF dc (.int ((j:Nat):Int)) (M++[.lst (aG k (N51.least (h9 γ c)))]) q:=λhj hq=>τ (d:=dc) (hc _) (Η (gz hj)) hq;generalize Et:(g_ (gN 3) _ _ (bf ((k:Int)+1) m):En->Ms->Prop)=Nx at mX⊢;walk_at "vc";dsimp only [mR,Ke,rg];walk_at "vc";refine ⟨⟨by omega,by omega⟩,by rw [bL];exact aak (show _<=12 by omega) (by decide), ?_⟩;refine bo trivial (q5 λj=>decide (c j=c k)) (λx=>x) _ _ (λx kT q' p' h1 h2=> ?_) ?_
   ·obtain ⟨j,hj,rfl⟩:=dD kT;have hj:j < k:=by simpa using hj
    have iA:j < γ.length:=by omega
    rw [aa9] at h1 h2⊢;rw [bV] at h1 h2;walk_at "vc";refine cx iA ?_;refine cx kl ?_;show match decide (((c j:Nat):Int)=(c k:Nat)) with | true=>_ | false=>_
    have e:decide (((c j:Nat):Int)=(c k:Nat))=decide (c j=c k):=by rw [abd,decide_eq_true_eq,decide_eq_true_eq];omega
    rw [e];cases c:decide (c j=c k) with
    | true=>exact h1 c
    | false=>exact h2 c
   rw [aaW,rW (p:=λj=>decide (c j=c k)) λj hj=>bV];show cN _ _ _ _ _;refine aZ (i:=4) (d:= .lst (tw ((List.range k).filter λj=>decide (c j=c k)))) rfl rfl ⟨by rw [kS];exact aak (abj _ _) (by rw [abn];exact aak (show k<=12 by omega) (by decide)), ?_⟩;refine bo trivial (q5 λj=>h9 γ c j k) (λx=>x) _ _ (λx kT q' p' h1 h2=> ?_) ?_
   ·obtain ⟨j,hm,rfl⟩:=AG kT;obtain ⟨a,b⟩:=abu.mp hm;have hj:j < k:=aaC.mp a;have iA:j < γ.length:=by omega
    have b:c j=c k:=aar b;have e2:h9 γ c j k=cP (Ν c γ[j]) (Ν c γ[k]):=by unfold h9;rw [aaq b,abx,aaJ (by omega),aaa iA,aaa kl]
    rw [bV,e2] at h1 h2;walk_at "vc";refine fg iA ?_;refine fg kl ?_;refine ⟨γ[j],γ[k],γ.length,c,dc,rfl,hc _,ok _ (aaV iA),ok _ (aaV kl),fin j k iA kl b, ?_⟩;show match cP (Ν c γ[j]) (Ν c γ[k]) with | true=>_ | false=>_
    cases c:cP (Ν c γ[j]) (Ν c γ[k]) with
    | true=>exact h1 c
    | false=>exact h2 c
   rw [wc (p:=λj=>h9 γ c j k) λj hj=>bV,List.filter_filter];have ef:(List.range k).filter (λj=>h9 γ c j k&&decide (c j=c k))=(List.range k).filter λj=>h9 γ c j k:=aby λj hj=>by
    cases q:h9 γ c j k with
    | false=>rfl
    | true=>
     rw [abx];unfold h9 at q;exact (Bool.and_eq_true_iff.mp q).1
   rw [ef];have uG:(M++[MO.lst (aG k (N51.least (h9 γ c)))])[M.length]? =some (.lst (aG k (N51.least (h9 γ c)))):=cb;refine ⟨⟨_,_,rfl,uG⟩,DD,⟨by rw [kS];exact aak (abb (abj _ _) 1) (by rw [abn];exact aak (show k+1<=13 by omega) (by decide)), ?_⟩⟩;refine τ (d:= .lst (tw ((List.range k).filter λj=>h9 γ c j k)++[.int (k:Nat)])) rfl sd ?_;refine ⟨_,_,_,rfl,rfl,uG,by rw [dW];exact aaH (show k<=12 by omega) (by decide), ?_⟩;refine mX _ _ ⟨m,k+1,_,_,by simp,by omega, ?_,rfl⟩;rw [aba _ _ (aal _),abk];unfold aG;rw [abw,aao];rfl
  ·obtain ⟨n,k,o3,o4,ex,Cd,rfl,rfl⟩:=hj;have hn:n=0:=by have:=aaX List.length ex;unfold bf at this;simpa using this.symm
   have e:k=γ.length:=by omega
   subst e;exact h
theorem y_(h:M[k]? =some (MO.lst xs)):kv M (.loc k)=some (xs,λM':Ms=>M'[k]? =some (MO.lst xs)):=by show (match M[k]? with | some (.lst xs)=>some (xs,λM':Ms=>M'[k]? =some (MO.lst xs)) | _=>none)=_;rw [h]
theorem vZ(h:M[k]? =some (MO.lst xs)):iz M (.loc k)=some (xs,λM':Ms=>M'[k]? =some (MO.lst xs)):=by show (match M[k]? with | some (.lst xs)=>some (xs,λM':Ms=>M'[k]? =some (MO.lst xs)) | _=>none)=_;rw [h]
theorem wg(h:M[k]? =some (MO.lst xs)):yN M (.loc k)=some (.type "list"):=by show (match M[k]? with | some (.lst _)=>some (Value.type "list") | _=>none)=_;rw [h]
theorem rp{γ:List Rw}(ok:∀r∈γ,bJ r):∀(k i j:Nat) (hi:i < γ.length) (hj:j < γ.length),lC γ k i=lC γ k j->kindOf γ[i]=kindOf γ[j]
 | 0,i,j,hi,hj,h=>by
  have key:∀{i:Nat} (hi:i < γ.length),∃hl:N51.least (fS γ) i < γ.length,kindOf γ[N51.least (fS γ) i]=kindOf γ[i]:=λ{i} hi=>by have hl:=aaH (N51.least_le (fS γ) i) hi;exact ⟨hl,rh hl hi ok (N51.gb (by rw [fY hi hi];exact gY _))⟩
  obtain ⟨a1,a2⟩:=key hi;obtain ⟨b1,b2⟩:=key hj;have h:N51.least (fS γ) i=N51.least (fS γ) j:=h;rw [<-a2,<-b2]
  congr 2
 | k+1,i,j,hi,hj,h=>by have h:N51.least (h9 γ (lC γ k)) i=N51.least (h9 γ (lC γ k)) j:=h;have a:=jD γ (lC γ k) hi;have b:=jD γ (lC γ k) hj;rw [h] at a;exact rp ok k i j hi hj (a.symm.trans b)
theorem uY.kept{r:Rw}(h:uY n r):IS n r/\bJ r/\(∀d∈cD r,0<=d.1/\d.1 < n)/\∀d∈cD r,Sz 200 (μ d):=by
 obtain ⟨⟨ho,hf⟩,hh⟩:=id h;cases r with
 | fin p=>exact ⟨ho,ho,λ_ z=>(nomatch z),λ_ z=>(nomatch z)⟩
 | ν k ds=>
  obtain ⟨d1,d6,hd⟩:=DJ h;have to:∀d∈ds,0<=d.1/\d.1 < (n:Int):=λd f_=>⟨(oV (hd d f_)).1,(oV (hd d f_)).2.1⟩;have hf:(if bA k then Β ds n else if k="chance" then Β ds n&&Ι (ds.map μ) else false)=true:=hf;have pos:k="chance"->∀d∈ds,0 < (μ d).1/\0 < (μ d).2:=λhk d f_=>by
   refine ⟨?_,((ho.2.2.1 hk).2.2 _ (aan.mpr ⟨d,f_,rfl⟩)).1⟩;rw [aaJ (by rw [hk];decide),aaP hk,aax] at hf;have h2:=hf.2;unfold Ι at h2;rw [aax] at h2;have h3:=h2.1;rcases Int.lt_or_le 0 (μ d).1 with q | q
   ·exact q
   ·have:(ds.map μ).any (λc=>decide (c.1<=0))=true:=List.any_eq_true.mpr ⟨_,aan.mpr ⟨d,f_,rfl⟩,aaq q⟩;rw [this] at h3;cases h3
  have sz:∀d∈ds,Sz 200 (μ d):=λd f_=>by
   by_cases hk:k="chance"
   ·obtain ⟨a,b,c⟩:=(ho.2.2.1 hk).2.2 _ (aan.mpr ⟨d,f_,rfl⟩);exact ⟨c,a,by omega⟩
   ·have Jh:bA k=true:=by
     by_cases c:bA k=true
     ·exact c
     ·rw [aaJ c,aaJ hk] at hf;cases hf
    have e:=hh k ds rfl Jh d f_;have:μ d=(0,1):=by unfold μ;rw [e];rfl
    rw [this];exact ⟨by decide,by decide,by decide⟩
  exact ⟨⟨ho,to,sz,pos⟩,ho,to,sz⟩
def yL:DF:=λas M q _=>∃n:Int,as=[.int n]/\q (.bl true) M
theorem uc:χ ["_law_one"] ["_law_one"] (ο jx):= .of rfl
theorem qZ(F:cY K "_law_is_int" "_law_is_int" jx f fd)(E:Ev K mg Cm):ao P w K mg base (cq P w) 1 f fd ["_law_one"] (cQ K yL):=by
 refine F.fi uc (λds M q x h=> ?_) (λbq A outer s H E' hr=>⟨_,(θ (υ (d_ (Fd (C9 K E.bj (Ο (jv 0) (Ο (Bf E.qH uA) ε)))) (eU (C9 K E.bj (Ο (jv 0) (Ο (Bf E.vq xQ) ε))))))),λds M q x h=> ?_⟩)
 ·obtain ⟨n,rfl,_⟩:=h;rfl
 ·obtain ⟨n,rfl,h⟩:=h;walk_at "vc";refine (vY rfl rfl E.ib ?_:x8 K [.int n, .ty "bool"] M _);refine ⟨λ_=>(vY rfl rfl uE h:x8 K [.int n, .ty "int"] M _),λz=>(nomatch z)⟩
structure Fk(γ:List Rw):Prop where
 fl:Ol γ
 rk:∀r∈γ,IS γ.length r
def A2:DF:=λas M q _=>∃(kr lo:Nat) (γ:List Rw) (m:Nat) (ls:List Nat),as=[.loc kr, .lst (γ.map Λ)]/\rm M lo kr γ ls/\vc γ m/\ls.length=m/\Fk γ/\∀E,q (.bl true) (M++E)
theorem cB:χ ["_law_found","_law_rows","_law_classes","_law_due","_law_k"] ["_law_found","_law_rows"] (ο jR):= .of rfl
theorem so(F:cY K "_law_holds" "_law_holds" jR f fd)(E:Ev K mg Cm){wY:Addr}{wB:FuncData}(iu:aD P w K mg base 1 "_law_is_int" ["_law_one"] yL wY wB){xc:Addr}{wV:FuncData}(gR:aD P w K mg base 3 "_law_first" ["_law_rows"] vR xc wV){Af:Addr}{yt:FuncData}(jB:aD P w K mg base 6 "_law_next" ["_law_rows","_law_classes"] Ag Af yt):ao P w K mg base (cq P w) 8 f fd ["_law_found","_law_rows"] (cQ K A2):=by
 refine F.fi cB (λds M q x h=> ?_) (λbq A outer s H E' hr=>⟨_,(ζ (aj (JW.jt (sg (g7 (cL (zI K E.bj (Ο (jv 0) (Ο (Bf E.df fe) ε))))) (lL (tI 1 hr (jv 0) (fB ε))))) (θ (υ wU)) Ζ)
   (ζ (gy (bz (jv 0)) (Χ (i:=2) cB.nd rfl (Or.inl rfl)) aC (θ (aj (JW.jt (sg (g7 (cL (zI K E.bj (Ο (jv 2) (Ο (Bf E.df fe) ε))))) (lL (g7 (cL (Dy E.sG (η (eZ (ys:=[]) (Θ:=[]) (.of cB rfl rfl rfl) (bz (jv 2)) (λC s H fp=>(Ω iu hr (cT (P:=P) (w:=w)) (Ο (jv 0) ε)))) ε))))))) (θ (υ wU)) Ζ)))
   (ζ (π 3 cB.nd (Ω gR hr ξ (Ο (jv 1) ε)))
   (ζ (fU (aB E.ax (η (bB E.bb (Ο (jv 0) ε)) ε bc)) (Χ (i:=4) cB.nd rfl (Or.inl rfl)) aC (ζ (aj (pU 1 hr (ω (jv 0) (jv 4)) (jv 3)) (θ (υ wU)) Ζ)
   (ζ (π 3 cB.nd (Ω jB hr ξ (Ο (jv 1) (η (ω (jv 0) (jv 4)) ε aI))))
   (θ (aj (sV hr (AF 1 hr (jv 3) (ω (jv 0) (jv 4))) (Hg hr (jv 4) (kh (bB E.bb (Ο (jv 0) ε)) ι))) (θ (υ wU)) Ζ)))))
   (θ (υ wU)))))),λds M q x h=> ?_⟩)
 ·obtain ⟨kr,lo,γ,m,ls,rfl,_⟩:=h;rfl
 ·obtain ⟨kr,lo,γ,m,ls,rfl,ca,st,hm,fk,h⟩:=h;have Ba:=fk.fl.len;have m1:=st.pos;have Oi:=st.E8;walk_at "vc";refine ⟨_,_,_,_,true,rfl,wg ca.at',rfl,uE,λz=>(nomatch z),λ_=> ?_⟩;refine ⟨by decide,false, .inr ⟨_,au ca.at'⟩, .inr ⟨_,rfl⟩, .len (au ca.at') rfl (by rw [aab,hm];show m≠0;omega),λz=>(nomatch z),λ_=> ?_⟩;dsimp only [vj,cN];walk_at "vc";show (match kv M (.loc kr) with | some (xs,ok)=>_ | none=>False);rw [y_ ca.at'];refine dz (λzs ρ' M'=>M'=M/\∃(Δ:List Nat) (o2 o3 o4:Option Dt),zs=Δ.map Dt.loc/\(∀x∈Δ,x∈ls)/\ρ'=[some (.loc kr),some (.lst (γ.map Λ)),o2,o3,o4]) (λzs ρ' M' hj=>by obtain ⟨rfl,_⟩:=hj;exact ca.at') (λx zs ρ' M' hj mX=> ?_) (λρ' M' hj=> ?_) _ _ _ ⟨rfl,ls,none,none,none,rfl,λ_ h=>h,rfl⟩
  ·obtain ⟨rfl,Δ,o2,o3,o4,ez,tF,rfl⟩:=hj;cases Δ with
   | nil=>cases ez
   | cons y Δ=>
    cases ez;obtain ⟨k,hk⟩:=aa5.mp (tF y aam);have hy:=(ca.each k y hk).2.2;generalize Et:(gG (gN 2) _ _ _ (Δ.map Dt.loc):En->Ms->Prop)=Nx at mX⊢;walk_at "vc";refine ⟨_,_,_,_,true,rfl,wg hy,rfl,uE,λz=>(nomatch z),λ_=> ?_⟩;show cN _ _ _ _ _;refine aZ (i:=2) (d:= .loc y) rfl (vZ hy) ⟨by unfold bD;rw [dW];exact Nat.le_trans Ba (by decide), ?_⟩;refine bX (f:=λ_=> .bl true) hy (λx kT q' hq=> ?_) ?_
    ·unfold bD aG at kT;obtain ⟨j,hj,rfl⟩:=aan.mp kT;exact ⟨_,rfl,hq⟩
    ·refine ⟨List.replicate (bD γ k).length true, ?_, ?_⟩
     ·rw [aaU,List.map_replicate,List.map_const']
     ·have:(List.replicate (bD γ k).length true).all id=true:=aa4.mpr λb hb=>(List.mem_replicate.mp hb).2;rw [this];refine ⟨λz=>(nomatch z),λ_=> ?_⟩;exact mX _ _ ⟨rfl,Δ,_,_,_,rfl,λx hx=>tF x (aah _ hx),rfl⟩
  ·obtain ⟨rfl,Δ,o2,o3,o4,ez,tF,rfl⟩:=hj;refine ⟨γ,rfl,Ba,fk.fl.ok, ?_⟩;walk_at "vc";refine (Ρ (d:= .loc kr) (cz (cM ca.at')) ?_:c7 [.loc kr] _ _);rw [aab,hm];refine ⟨⟨by omega,by omega⟩, ?_⟩;refine b6 (λzs ρ M2=>∃(n k kd:Nat) (E:Ms) (o4:Option Dt),zs=bf k n/\k+n=m/\M2=M'++E/\(k < m->M2[kd]? =some (.lst (bD γ k)))/\ρ=[some (.loc kr),some (.lst (γ.map Λ)),o2,some (.loc kd),o4]) (λx zs ρ M2 hj mX=> ?_) (λρ M2 hj=> ?_) _ _ _ ⟨m,0,M'.length,_,o4,by simp,by simp,rfl,λ_=>cb,rfl⟩
   ·obtain ⟨n,k,kd,E,o4,ex,Cd,rfl,hd,rfl⟩:=hj;obtain ⟨m',rfl,rfl,rfl⟩:=cv ex;have km:k < m:=by omega
    have hd:=hd km;have KR:=ca.mono (M1:=M'++E) Xt.app;obtain ⟨a,ha⟩:∃a,ls[k]? =some a:=⟨_,aaa (show k < ls.length by omega)⟩;have xb:=(KR.each k a ha).2.2;have EE:fF (ls.map Dt.loc) ((k:Nat):Int)=some (.loc a):=Η (by rw [aaf,ha];rfl);generalize Et:(g_ (gN 4) _ _ (bf ((k:Int)+1) m'):En->Ms->Prop)=Nx at mX⊢;walk_at "vc";refine (τ (d:= .loc kr) (cz KR.at') EE ?_:dF (.loc kr) (.int ((k:Nat):Int)) _ _);have sm:oM γ.length (lC γ k) (lC γ k)=true:=eJ.mpr rfl;refine ⟨_, .inr ⟨_,au xb⟩, .inr ⟨_,au hd⟩,lh (k:=0) (au xb) (au hd),λz=> ?_,λ_=> ?_⟩
    ·rw [sm] at z;cases z
    refine (τ (d:= .loc kr) (cz KR.at') EE ?_:dF (.loc kr) (.int ((k:Nat):Int)) _ _);refine ⟨γ,lC γ k, .loc a,rfl,λE2=>cz (cM xb),Ba,fk.rk,λi j hi hj e=>rp fk.fl.ok k i j hi hj e, ?_⟩;have hn:(M'++E++[MO.lst (bD γ (k+1))])[(M'++E).length]? =some (.lst (bD γ (k+1))):=cb;have yh:=KR.mono (M1:=M'++E++[MO.lst (bD γ (k+1))]) Xt.app;have Jz:=(yh.each k a ha).2.2;refine (τ (d:= .loc kr) (cz yh.at') EE ?_:dF (.loc kr) (.int ((k:Nat):Int)) _ _);refine ⟨_, .inr ⟨_,au hn⟩, .inr ⟨_,au Jz⟩,lh (k:=0) (au hn) (au Jz), ?_⟩;have hb:oM γ.length (lC γ (k+1)) (lC γ k)=decide ((k:Int)=(m:Int) - 1):=by
     rw [abd,eJ,decide_eq_true_eq];constructor
     ·intro e;rcases abo (k+1) m with z | z
      ·exact aaE e (st.ne k z)
      ·omega
     ·intro e;have e:k=m - 1:=by omega
      have:=st.eq;rw [<-e,show m=k+1 by omega] at this;exact this
    rw [hb];refine (Ρ (d:= .loc kr) (cz yh.at') ?_:c7 [.loc kr] _ _);rw [aab,hm];show ((!decide (decide ((k:Int)=(m:Int) - 1)=decide ((k:Int)=(m:Int) - 1)))=true->_)/\_;refine ⟨λz=> ?_,λ_=> ?_⟩
    ·rw [aaq rfl] at z;cases z
    ·refine mX _ _ ⟨m',k+1,(M'++E).length,E++[MO.lst (bD γ (k+1))],_,by simp,by omega,by rw [List.append_assoc],λ_=>hn,rfl⟩
   ·obtain ⟨n,k,kd,E,o4,ex,Cd,rfl,hd,rfl⟩:=hj;exact h E
theorem DN{γ:List Rw}(Ba:γ.length<=12)(h:∀r∈γ,uY γ.length r):Fk γ:=
 ⟨⟨Ba,λr hr=>(h r hr).kept.2.1,λr hr=>(h r hr).kept.2.2.1,λr hr=>(h r hr).kept.2.2.2⟩,λr hr=>(h r hr).kept.1⟩
theorem NU{ρ:En}{q:List Dt->Ms->Prop}{x:DX}(hv:ρ[i]? =some (some d))(hs:eW M d=some xs)(h:q [.int xs.length] M):fj (u0 c7 (fj (ee i) kL)) kL ρ M q x:=by dsimp only [fj,u0,ee,kL];rw [hv];exact Ρ hs h
theorem lW{M:Ms}:∀rs:List Rw,Paired (gf M) (rs.map Λ) rs
 | []=> .nil
 | r::rs=> .cons (BL _ r) (lW rs)
theorem sS{q:DQ}{A:Addr}{Ε:Fr}{γ:List Rw}(h:q (bQ A Ε γ) M):kD M q (.loc M.length) ((M++[MO.ins A [] []]).set M.length (.ins A ["kept_share","kept_rows"] [ah Ε, .lst (γ.map Λ)])):=by
 have e:(M++[MO.ins A [] []]).set M.length (.ins A ["kept_share","kept_rows"] [ah Ε, .lst (γ.map Λ)])=M++[.ins A ["kept_share","kept_rows"] [ah Ε, .lst (γ.map Λ)]]:=by rw [aba _ _ (aal _),abk];rfl
 rw [e];exact qz (d':=bQ A Ε γ) (.Mx (Nat.le_refl _) (by simp) (.cons (.old ⟨trivial,trivial,trivial⟩) (.cons (.old (gp γ)) .nil))) h
theorem Fc{m:Nat}:Dt.aL n (aG m c):=by
 rw [Bk];generalize (List.range m).map c=l;unfold tw
 induction l with
 | nil=>exact trivial
 | cons a l ih=>exact ⟨trivial,ih⟩
def wz(γ:List Rw)(m:Nat):List Dt:=(List.range m).map λk=>Dt.lst (bD γ k)
theorem pK{lo kr m:Nat}{γ:List Rw}{ls:List Nat}(ca:rm M lo kr γ ls)(hl:ls.length=m):nI M 2 (.loc kr) (.lst (wz γ m)) true:=by
 have h:=nI.lst (M:=M) (n:=1) (d:= .loc kr) (e:= .lst (wz γ m)) (f:=λ_=>true) (au ca.at') rfl (by unfold wz;rw [List.length_map,List.length_map,List.length_range,hl]) λj x y hx hy=>by
  rw [aaf] at hx;obtain ⟨a,ea,rfl⟩:=aaL.mp hx;have hj:j < m:=by have:=(aad.mp ea).1;omega
  unfold wz at hy;rw [aaf,aaZ hj] at hy;cases hy;have:=lh (k:=0) (au (ca.each j a ea).2.2) (show gB M (.lst (bD γ j))=some (aG γ.length (lC γ j)) from rfl);rwa [eJ.mpr rfl] at this
 have e:(List.range (ls.map Dt.loc).length).all (λ_=>true)=true:=aa4.mpr λ_ _=>rfl;rwa [e] at h
theorem fC:χ ["_law_script","_law_base_here","_law_origin_here","_law_plain","_law_rows","_law_share","_law_floor","_law_found","_law_kept","_law_more"] ["_law_script"] (ο Gq):= .of rfl
theorem Er(F:cY K "law" "law" Gq f fd)(E:Ev K mg Cm){A5:Addr}{Ar:FuncData}(jW:aD P w K mg base 6 "_law_base" ["_law_script"] DO A5 Ar){tR:Addr}{tO:FuncData}(fL:aD P w K mg base 4 "_law_origin" ["_law_script","_law_many"] vO tR tO){Ae:Addr}{A8:FuncData}(jE:aD P w K mg base 6 "_law_copy" ["_law_script","_law_base_here","_law_origin_here","_law_place"] Dg Ae A8){tQ:Addr}{tV:FuncData}(gj:aD P w K mg base 4 "_law_spoilt" ["_law_script","_law_rows"] v8 tQ tV)(ak:aD P w K mg base 1 "_law_lowest" ["_law_top","_law_bottom"] zc bN bT)(ψ:aD P w K mg base 2 "_law_number" ["_law_script","_law_k"] pC aM aH){uP:Addr}{tS:FuncData}(dQ:FJ P w K mg base 5 "Floor" Cm ["self","share","rows"] (Dk Cm) uP tS){CO:Addr}{Bg:FuncData}(eC:aD P w K mg base 9 "parted" ["floor"] (vK Cm) CO Bg){xH:Addr}{xt:FuncData}(eV:aD P w K mg base 8 "_law_holds" ["_law_found","_law_rows"] A2 xH xt):ao P w K mg base (cq P w) 12 f fd ["_law_script"] (cQ K Fp):=by
 refine F.fi fC (λds M q x h=> ?_) (λbq A outer s H E' hr=>⟨_,(ζ (π 1 fC.nd (cm (Ω jW hr ξ (Ο (jv 0) ε))))
   (ζ (π 2 fC.nd (Ω fL hr ξ (Ο (jv 0) (η (bB E.bb (Ο (jv 1) ε)) ε bc))))
   (ζ (mv (i:=3) fC.nd rfl (Or.inl rfl) (ys:=["_law_script","_law_base_here","_law_origin_here"]) (Θ:=[0,1,2]) (.of fC rfl rfl rfl) (aB E.ax (η (bB E.bb (Ο (jv 2) ε)) ε bc)) (λC s H fp=>(cm (Ω jE hr (cT (P:=P) (w:=w)) (Ο (jv 1) (Ο (jv 2) (Ο (jv 3) (Ο (jv 0) ε))))))))
   (ζ (π 4 fC.nd (Ω gj hr ξ (Ο (jv 0) (Ο (jv 3) ε))))
   (ζ (π 5 fC.nd (Ω ak hr ξ (η (ar (Ω ψ hr ξ (Ο (jv 0) (η ι ε aU))) ι) (η ι ε aU) aF)))
   (ζ (π 6 fC.nd (cm (AA dQ hr ξ (Ο (jv 5) (η (cm (my E.df (Ο (jv 4) ε))) ε bc)))))
   (ζ (π 7 fC.nd (Ω eC hr ξ (Ο (jv 6) ε)))
   (ζ (aj (JW.jt (sg (g7 (cL (Ω eV hr ξ (Ο (jv 7) (Ο (jv 4) ε))))) (lL (g7 (cL (Ω eV hr ξ (η (Ω eC hr ξ (η (cm (AA dQ hr ξ (Ο (jv 5) (η (cm (my E.df (Ο (jv 3) ε))) ε bc)))) ε bc)) (Ο (jv 3) ε) bc))))))) (θ (υ wU)) Ζ)
   (ζ (kB (i:=8) fC.nd rfl (Or.inl rfl) (ys:=[]) (Θ:=[]) (.of fC rfl rfl rfl) (bz (jv 7)) (λC s H fp=>(cm (my E.df (Ο (jv 0) ε)))))
   (ζ (π 9 fC.nd (Ω eC hr ξ (Ο (jv 6) ε)))
   (ζ (aj (pU 2 hr (jv 9) (jv 8)) (θ (υ wU)) Ζ)
   (ζ (Aw (ω (jv 9) ι) ι (rY ι))
   (ζ (fb (Cy (jv 9)))
   (θ (υ (d_ (AF 2 hr (Ω eC hr ξ (Ο (jv 6) ε)) (jv 8)) (eU (AF 2 hr (jv 7) (jv 8))))))))))))))))))),λds M q x h=> ?_⟩)
 ·obtain ⟨ns,rfl,_⟩:=h;rfl
 ·obtain ⟨ns,rfl,h⟩:=h;refine ⟨ns,rfl,λbs E d hb fz=>⟨E,_,rfl,fz, ?_⟩⟩;have DL:=hb.DL;have n1:=hb.n1;walk_at "vc";refine (Ρ (d:= .lst (bs.map jq)) (xs:=bs.map jq) rfl ?_:c7 [.lst (bs.map jq)] _ _);rw [aab];refine ⟨ns,bs.length,rfl,n1,DL,λos ho=> ?_⟩;have o1:=ho.n1;have Hc:=ho.DL;dsimp only [lX,rg];refine NU (d:= .lst (os.map Dt.int)) (xs:=os.map Dt.int) rfl rfl ?_;rw [aab];refine ⟨⟨by omega,by omega⟩,by rw [bL];exact aak (show _<=12 by omega) (by decide), ?_⟩;refine g8 (f:=Λ) (GU os.length) _ [] (λ_ z=>(nomatch z)) (λx kT q' hq=> ?_) λplain Nn dE=> ?_
  ·obtain ⟨k,hk,rfl⟩:=dD kT;have hk:k < os.length:=by simpa using hk
   rw [aa9];exact ⟨ns,bs,os,k,rfl,hb,ho,hk,λr E hr=>qz (.old (ve r)) (hq r hr)⟩
  have Nn:plain.length=os.length:=by rw [Nn,bL];simp
  rw [<-Nn] at dE;refine ⟨ns,plain,rfl,by omega,by omega,dE,λγ Jo DV=> ?_⟩;rw [<-Jo] at DV;refine ⟨ns,3,rfl,by decide,by decide,λn hn=>⟨by decide,_,_,rfl,by decide,bg (k:=12) (by decide), ?_⟩⟩;have KI:=uf (t:=n % 1000) (b:=1000) (aaB _ (by decide)) (aaA _ (by decide)) (by decide);generalize ag (n % 1000) 1000=sh at *
  have fk:Fk γ:=DN (by omega) DV;have OK:∀r∈plain,uY plain.length r:=λr hr=>(dE r hr).fit;have Ow:Fk plain:=DN (by omega) OK;refine wy (gp γ) ?_;refine ⟨M.length, .lst (γ.map Λ),sh,γ.map Λ,γ,λ_=>True,rfl,cb,rfl,lW γ,KI,by omega,by omega,λr hr=>(DV r hr).good,rfl,sS ?_⟩;refine ⟨sh,γ,rfl,fk.fl,λm kr ls M1 st hl x1 ca=> ?_⟩;refine ⟨kr,M.length,γ,m,ls,rfl,ca,st,hl,fk,λE1=>⟨λz=>(nomatch z),λ_=> ?_⟩⟩;have Rm:=ca.mono (M1:=M1++E1) Xt.app;generalize M1++E1=M2 at *
  refine wy (gp plain) ?_;refine ⟨M2.length, .lst (plain.map Λ),sh,plain.map Λ,plain,λ_=>True,rfl,cb,rfl,lW plain,KI,by omega,by omega,λr hr=>(OK r hr).good,rfl,sS ?_⟩;refine ⟨sh,plain,rfl,Ow.fl,λm' Rt QI M3 tE Jq x3 Pn=> ?_⟩;refine ⟨Rt,M2.length,plain,m',QI,rfl,Pn,tE,Jq,Ow,λE2=>⟨λz=>(nomatch z),λ_=> ?_⟩⟩;have yh:=Rm.mono (x3.trans (Xt.app (E:=E2)));generalize M3++E2=M4 at *
  have Oi:=st.E8;dsimp only [mw];refine aZ (i:=7) (d:= .loc kr) rfl (vZ yh.at') ⟨by rw [aab,hl];exact aak Oi (by decide), ?_⟩;refine lP (f:=λk=>Dt.lst (bD γ k)) yh.at' (λk x hx q' hq=> ?_) ?_
  ·rw [aaf] at hx;obtain ⟨a,ea,rfl⟩:=aaL.mp hx;have ha:=(yh.each k a ea).2.2;show rM [.loc a] M4 (kD M4 q');show (match eW M4 (.loc a) with | some xs=>kD M4 q' (.loc M4.length) (M4++[.lst xs]) | none=>False);rw [cz ha];exact cK Fc hq
  rw [aaU,aab,hl];refine ⟨sh,γ,rfl,fk.fl,λm5 EG Md M5 GO OU x5 G6=> ?_⟩;have em:=GO.uniq st;subst em;have Qp:0 < Md.length:=by rw [OU];exact GO.pos
  obtain ⟨a0,OT⟩:∃a,Md[0]? =some a:=⟨_,aaa Qp⟩;obtain ⟨QP,QD,Qv⟩:=G6.each 0 a0 OT;have T7:=yh.mono x5;walk_at "vc";refine ⟨true, .inr ⟨_,au G6.at'⟩, .inr ⟨_,rfl⟩,pK G6 OU,λz=>(nomatch z),λ_=> ?_⟩;dsimp only [A7];walk_at "vc";dsimp only [zZ];refine (τ (d:= .loc EG) (cz G6.at') (Η (j:=0) (by rw [aaf,OT];rfl)) ?_:dF (.loc EG) (.int 0) M5 _);refine ⟨a0,0,bD γ 0,0,rfl,rfl,Qv, ?_, ?_⟩
  ·unfold bD;rw [dW];have Q9:γ.length≠0:=by omega
   unfold xJ;simp;exact λe=>Q9 (by rw [e];rfl)
  refine ⟨EG,Md.map Dt.loc,rfl,by rw [aaR QD];exact G6.at', ?_⟩;have x6:Xt M4 ((M5.set a0 (.lst ((bD γ 0).set 0 (.int (-1))))).set EG (.lst [])):=(x5.set QP).set G6.lo1;have e6:((M5.set a0 (.lst ((bD γ 0).set 0 (.int (-1))))).set EG (.lst []))=((M5.set a0 (.lst ((bD γ 0).set 0 (.int (-1))))).set EG (.lst [])):=rfl;generalize (M5.set a0 (.lst ((bD γ 0).set 0 (.int (-1))))).set EG (.lst [])=M6 at *
  refine ⟨sh,γ,rfl,fk.fl,λm7 TK TQ M7 PZ Ru x7 OQ=> ?_⟩;have em:=PZ.uniq st;subst em;have OC:=yh.mono (x6.trans x7);refine ⟨true, .inr ⟨_,au OQ.at'⟩, .inr ⟨_,rfl⟩,pK OQ Ru,λ_=> ?_,λz=>(nomatch z)⟩;exact ⟨true, .inr ⟨_,au OC.at'⟩, .inr ⟨_,rfl⟩,pK OC hl,h.2 M7⟩
structure FT(K:fv)(f:Addr)(x:Str)(st:Stmt):Prop where
 a:PySem.W.nsIn K mainGlobals x=some (some (.ref f))
 e:∃fd,cY K x x st f fd
structure FM(K:fv)(C f:Addr)(m x:Str)(st:Stmt):Prop where
 a:PySem.W.findIn K (.ref C) m=some (some (.ref f))
 i:PySem.W.isFn K (.ref f)=true
 e:∃fd,cY K m x st f fd
section
variable{K:fv}{C:Addr}{m x:Str}{st:Stmt}{oc:Value}{od an:Option Addr}{zX:Array (Option Value)}{kV doc pm bq ct:Value}
theorem FT.of(a:PySem.W.nsIn K mainGlobals x=some (some (.ref f)))(l:K.lookup f=some ⟨oc,od, .func (PySem.W.fnOf x x (gu st) (dY st) (ο st) .none kV doc pm an bq ct),zX⟩)(c:PySem.W.codeIn K bq x=true)(k:PySem.W.keepIn K (.ref f)=true):FT K f x st:=⟨a,_,AU l c k⟩
theorem FM.of(a:PySem.W.findIn K (.ref C) m=some (some (.ref f)))(i:PySem.W.isFn K (.ref f)=true)(l:K.lookup f=some ⟨oc,od, .func (PySem.W.fnOf m x (gu st) (dY st) (ο st) .none kV doc pm an bq ct),zX⟩)(c:PySem.W.codeIn K bq x=true)(k:PySem.W.keepIn K (.ref f)=true):FM K C f m x st:=⟨a,i,_,AU l c k⟩
end
section
variable{P:List Value->Prop}
theorem IB(h:P []):∀us:List Value,us.length=0->P us
 | [],_=>h
 | _::_,e=>nomatch e
theorem dg(h:∀a0:Value,P [a0]):∀us:List Value,us.length=1->P us
 | [],e=>nomatch e
 | a::us,e=>IB (P:=λus=>P (a::us)) (h a) us (Nat.succ.inj e)
theorem cf(h:∀a0 a1:Value,P [a0,a1]):∀us:List Value,us.length=2->P us
 | [],e=>nomatch e
 | a::us,e=>dg (P:=λus=>P (a::us)) (h a) us (Nat.succ.inj e)
theorem oR(h:∀a0 a1 a2:Value,P [a0,a1,a2]):∀us:List Value,us.length=3->P us
 | [],e=>nomatch e
 | a::us,e=>cf (P:=λus=>P (a::us)) (h a) us (Nat.succ.inj e)
theorem Jn(h:∀a0 a1 a2 a3:Value,P [a0,a1,a2,a3]):∀us:List Value,us.length=4->P us
 | [],e=>nomatch e
 | a::us,e=>oR (P:=λus=>P (a::us)) (h a) us (Nat.succ.inj e)
end
theorem qo{K:fv}(h:PySem.W.subIn K (.type "int") (.type "bool")=some false):PySem.W.kitOne K (.type "int") (.type "bool")=some false:=by unfold PySem.W.kitOne PySem.W.kitCls;rw [aaJ (by decide+kernel)];show (if PySem.W.kitMeta "bool"=true then _ else _)=_;rw [aaP (by decide+kernel)];exact h
theorem qU{K:fv}(h:PySem.W.subIn K (.type "int") (.type "str")=some false):PySem.W.kitOne K (.type "int") (.type "str")=some false:=by unfold PySem.W.kitOne PySem.W.kitCls;rw [aaJ (by decide+kernel)];show (if PySem.W.kitMeta "str"=true then _ else _)=_;rw [aaP (by decide+kernel)];exact h
theorem nL{K:fv}(h:PySem.W.subIn K (.type "tuple") (.type "str")=some false):PySem.W.kitOne K (.type "tuple") (.type "str")=some false:=by unfold PySem.W.kitOne PySem.W.kitCls;rw [aaJ (by decide+kernel)];show (if PySem.W.kitMeta "str"=true then _ else _)=_;rw [aaP (by decide+kernel)];exact h
theorem m6{K:fv}(h:PySem.W.subIn K (.type "tuple") (.type "int")=some false):PySem.W.kitOne K (.type "tuple") (.type "int")=some false:=by unfold PySem.W.kitOne PySem.W.kitCls;rw [aaJ (by decide+kernel)];show (if PySem.W.kitMeta "int"=true then _ else _)=_;rw [aaP (by decide+kernel)];exact h
theorem pf{K:fv}(h:PySem.W.subIn K (.type "list") (.type "str")=some false):PySem.W.kitOne K (.type "list") (.type "str")=some false:=by unfold PySem.W.kitOne PySem.W.kitCls;rw [aaJ (by decide+kernel)];show (if PySem.W.kitMeta "str"=true then _ else _)=_;rw [aaP (by decide+kernel)];exact h
theorem qL{K:fv}(h:PySem.W.subIn K (.type "list") (.type "int")=some false):PySem.W.kitOne K (.type "list") (.type "int")=some false:=by unfold PySem.W.kitOne PySem.W.kitCls;rw [aaJ (by decide+kernel)];show (if PySem.W.kitMeta "int"=true then _ else _)=_;rw [aaP (by decide+kernel)];exact h
theorem mB{K:fv}(h:PySem.W.subIn K (.type "tuple") (.type "list")=some false):PySem.W.kitOne K (.type "tuple") (.type "list")=some false:=by unfold PySem.W.kitOne PySem.W.kitCls;rw [aaJ (by decide+kernel)];show (if PySem.W.kitMeta "list"=true then _ else _)=_;rw [aaP (by decide+kernel)];exact h
theorem lG{K:fv}(h:PySem.W.subIn K (.type "list") (.type "tuple")=some false):PySem.W.kitOne K (.type "list") (.type "tuple")=some false:=by unfold PySem.W.kitOne PySem.W.kitCls;rw [aaJ (by decide+kernel)];show (if PySem.W.kitMeta "tuple"=true then _ else _)=_;rw [aaP (by decide+kernel)];exact h
open PySem.W in
theorem all_mk{l:OpenLaw}{K:Frag}{h:Heap}{fa Cm vT f1 f2 f3 f4 f5 f6 f7 f8 f9 R_ S6 OA SG SY Q4 Tc O_ PV SX P4 QW RK Sl Ry Se QK R8 R7 Qd QE Tj SV SW Px SJ SE Qm R0 PM:Addr}(X:K.In h)(G:h.Ns mainGlobals mg)(SI:mg "law"=some (.ref fa))
  {qK nz nM gE:Tok}
  (qM:nsIn K mainGlobals "MOST_DOORS"=some (some (.int (6) qK)))
  (ni:nsIn K mainGlobals "MOST_BOTTOM"=some (some (.int (1000000) nz)))
  (nD:nsIn K mainGlobals "MOST_PLACES"=some (some (.int (12) nM)))
  (gD:nsIn K mainGlobals "MOST_SHARE_BOTTOM"=some (some (.int (1000) gE)))
  (CP:nsIn K mainGlobals "Floor"=some (some (.ref Cm))) (iJ:plainGet K Cm Str.empty=true) (iW:hasDictIn K Cm=true) (ji:plainOver K Cm=true) (jd:findIn K (.ref Cm) "__setattr__"=some (some (.builtin "object.__setattr__"))) (CK:makesIn K Cm=true) (Cn:keepIn K (.ref Cm)=true)
  (ph:findIn K (.ref Cm) "kept_rows"=some none)
  (nF:findIn K (.ref Cm) "kept_share"=some none)
  {zu zC:Tok} {A_:Option Addr} {AR:Array (Option Value)} {A0:Nat} (yR:nsIn K mainGlobals "HANDS"=some (some (.ref vT))) (Am:K.lookup vT=some ⟨.type "tuple",A_, .seq #[(.str "one" zu),(.str "other" zC)] A0,AR⟩)
  (sI:subIn K (.type "int") (.type "bool")=some false)
  (uS:subIn K (.type "int") (.type "str")=some false)
  (qw:subIn K (.type "tuple") (.type "str")=some false)
  (pZ:subIn K (.type "tuple") (.type "int")=some false)
  (sQ:subIn K (.type "list") (.type "str")=some false)
  (sW:subIn K (.type "list") (.type "int")=some false)
  (nu:subIn K (.type "tuple") (.type "list")=some false)
  (nc:subIn K (.type "list") (.type "tuple")=some false)
  (t1:FT K f1 "_law_far" pe)
  (t2:FT K f2 "_law_number" gW)
  (t3:FT K f3 "_law_lowest" gT)
  (t4:FT K f4 "_law_pay" pJ)
  (t5:FT K f5 "_law_row_of_places" cJ)
  (t6:FT K f6 "_law_rest" lN)
  (t7:FT K f7 "_law_base" lR)
  (t8:FT K f8 "_law_origin" ic)
  (t9:FT K f9 "_law_piece" jA)
  (Tg:FT K R_ "_law_copy" mj)
  (Rj:FT K S6 "_law_spoilt" hI)
  (R6:FT K OA "fits_share" ir)
  (P8:FT K SG "fits_pay" lF)
  (QH:FT K SY "fits_door" jP)
  (Sv:FT K Q4 "fits_doors" h8)
  (RX:FT K Tc "common_divisor" dh)
  (Te:FT K O_ "common_bottom" d8)
  (Qy:FT K PV "fits_chances" fh)
  (Qf:FT K SX "fits_row" mJ)
  (RG:FT K P4 "copied_row" gU)
  (Py:FM K Cm QW "__init__" "Floor.__init__" ix)
  (Pk:FT K RK "classes_by" hG)
  (RM:FM K Cm Sl "size" "Floor.size" hW)
  (Pd:FM K Cm Ry "kind" "Floor.kind" hV)
  (Rv:FM K Cm Se "pay" "Floor.pay" jK)
  (S':FT K QK "first_classes" d9)
  (QA:FM K Cm R8 "doors" "Floor.doors" fR)
  (P7:FT K R7 "fraction" jM)
  (S4:FT K Qd "plus" zW)
  (Qq:FT K QE "pairs_of" mT)
  (SS:FT K Tj "next_classes" eR)
  (P6:FT K SV "parted" qy)
  (Pp:FT K SW "_law_is_int" jx)
  (Q7:FT K Px "_law_first" jF)
  (PX:FT K SJ "_law_part_of" h7)
  (RV:FT K SE "_law_same" lY)
  (P_:FT K Qm "_law_next" mS)
  (QQ:FT K R0 "_law_holds" jR)
  (Rf:FT K PM "law" Gq)
  (Hy:nsIn K mainGlobals "len"=some none)
  (Iy:nsIn K mainGlobals "abs"=some none)
  (o_:nsIn K mainGlobals "isinstance"=some none)
  (JG:nsIn K mainGlobals "int"=some none)
  (EB:nsIn K mainGlobals "bool"=some none)
  (HL:nsIn K mainGlobals "str"=some none)
  (Cv:nsIn K mainGlobals "tuple"=some none)
  (Ey:nsIn K mainGlobals "list"=some none)
  (Ce:nsIn K mainGlobals "range"=some none)
  (sT:nsIn K mainGlobals "enumerate"=some none)
  (HF:nsIn K mainGlobals "any"=some none)
  (Hr:nsIn K mainGlobals "all"=some none)
  (HN:nsIn K mainGlobals "sum"=some none)
  (I_:nsIn K mainGlobals "zip"=some none)
  :∃fd:FuncData,(∀(s:Shared) (v:Value),BindsTo s fd ⟨[v],[]⟩ [("_law_script",v)])/\∀base:Heap,K.In base->base.Ns mainGlobals mg->ao l.prog w K mg base Kz 12 fa fd ["_law_script"] (sC K):=by
 obtain ⟨a1,_,F1⟩:=t1;obtain ⟨a2,_,F2⟩:=t2;obtain ⟨a3,_,F3⟩:=t3;obtain ⟨a4,_,F4⟩:=t4;obtain ⟨a5,_,F5⟩:=t5;obtain ⟨a6,_,F6⟩:=t6;obtain ⟨a7,_,F7⟩:=t7;obtain ⟨a8,_,F8⟩:=t8;obtain ⟨a9,_,F9⟩:=t9;obtain ⟨EJ,_,LQ⟩:=Tg;obtain ⟨Ja,_,K9⟩:=Rj;obtain ⟨RZ,_,NA⟩:=R6;obtain ⟨Qa,_,Nw⟩:=P8;obtain ⟨PB,_,NY⟩:=QH;obtain ⟨S2,_,N0⟩:=Sv;obtain ⟨SA,_,Mf⟩:=RX;obtain ⟨RH,_,LU⟩:=Te;obtain ⟨PK,_,Ma⟩:=Qy;obtain ⟨Pw,_,NF⟩:=Qf;obtain ⟨Rk,_,Lv⟩:=RG;obtain ⟨S9,Pb,_,O6⟩:=Py;obtain ⟨P1,_,MQ⟩:=Pk;obtain ⟨Ss,Rg,_,NN⟩:=RM;obtain ⟨Rp,Qt,_,NO⟩:=Pd;obtain ⟨O9,Pf,_,Lq⟩:=Rv;obtain ⟨QU,_,Nt⟩:=S';obtain ⟨Tp,RI,_,NM⟩:=QA;obtain ⟨Rb,_,Nv⟩:=P7;obtain ⟨Rh,_,Ld⟩:=S4;obtain ⟨Tq,_,MF⟩:=Qq;obtain ⟨QG,_,LC⟩:=SS;obtain ⟨Sb,_,Lm⟩:=P6;obtain ⟨QV,_,N5⟩:=Pp;obtain ⟨Po,_,Mw⟩:=Q7;obtain ⟨QL,_,LI⟩:=PX;obtain ⟨Tn,_,LV⟩:=RV;obtain ⟨Qj,_,Ll⟩:=P_;obtain ⟨RS,_,Na⟩:=QQ;obtain ⟨Sw,dL,O2⟩:=Rf;have e:=SI.symm.trans (mg_of X G Sw);cases e;have pN:=mg_of X G qM;have nr:=mg_of X G ni;have nJ:=mg_of X G nD;have gF:=mg_of X G gD;have bb:=mg_none_of X G Hy;have mq:=mg_none_of X G Iy;have bj:=mg_none_of X G o_;have vq:=mg_none_of X G JG;have qH:=mg_none_of X G EB;have zo:=mg_none_of X G HL;have oZ:=mg_none_of X G Cv;have df:=mg_none_of X G Ey;have ax:=mg_none_of X G Ce;have dR:=mg_none_of X G sT;have vS:=mg_none_of X G HF;have sG:=mg_none_of X G Hr;have qY:=mg_none_of X G HN;have Ac:=mg_none_of X G I_;have E:Ev K mg Cm:={bb:=bb,mq:=mq,bj:=bj,vq:=vq,qH:=qH,zo:=zo,oZ:=oZ,df:=df,ax:=ax,dR:=dR,vS:=vS,sG:=sG,qY:=qY,Ac:=Ac,ib:=qo sI,R5:=qU uS,Ql:=nL qw,Sy:=m6 pZ,R4:=pf sQ,SH:=qL sW,Pa:=mB nu,klt:=lG nc,c8:=⟨iJ,iW,ji,jd⟩,bC:=ph,gO:=nF,zp:=⟨_,_,_,_,mg_of X G yR,Am,rfl,rfl,fI, .cons ⟨_,rfl⟩ (.cons ⟨_,rfl⟩ .nil)⟩,kj:=⟨_,pN⟩,eT:=⟨_,nr⟩,iH:=⟨_,nJ⟩,de:=⟨_,gF⟩};refine ⟨dL,λs v=>by obtain ⟨_,_,_,_,_,_,_,_,_,rfl,_⟩:=O2.ex;exact .of_eq rfl,λbase _ _=> ?_⟩;have mc:= @aD.mk l.prog w K mg base;have b_:=mc (w_ F1 E) (F1.binds λ_ _ _ _ _ _=>cf λ_ _=>rfl) (mg_of X G a1) F1.kp;have ψ:=mc (qG F2 E b_) (F2.binds λ_ _ _ _ _ _=>cf λ_ _=>rfl) (mg_of X G a2) F2.kp;have ak:=mc (pY F3 E) (F3.binds λ_ _ _ _ _ _=>cf λ_ _=>rfl) (mg_of X G a3) F3.kp;have c9:=mc (xu F4 E ak) (F4.binds λ_ _ _ _ _ _=>dg λ_=>rfl) (mg_of X G a4) F4.kp;have cp:=mc (iG F5 E c9) (F5.binds λ_ _ _ _ _ _=>dg λ_=>rfl) (mg_of X G a5) F5.kp;have jJ:=mc (uo F6 E ψ b_) (F6.binds λ_ _ _ _ _ _=>cf λ_ _=>rfl) (mg_of X G a6) F6.kp;have jW:=mc (u_ F7 E ψ cp c9 jJ) (F7.binds λ_ _ _ _ _ _=>dg λ_=>rfl) (mg_of X G a7) F7.kp;have fL:=mc (pT F8 E ψ) (F8.binds λ_ _ _ _ _ _=>cf λ_ _=>rfl) (mg_of X G a8) F8.kp;have eP:=mc (rX F9 E ψ b_) (F9.binds λ_ _ _ _ _ _=>oR λ_ _ _=>rfl) (mg_of X G a9) F9.kp;have jE:=mc (ur LQ E eP ak) (LQ.binds λ_ _ _ _ _ _=>Jn λ_ _ _ _=>rfl) (mg_of X G EJ) LQ.kp;have gj:=mc (pQ K9 E ψ) (K9.binds λ_ _ _ _ _ _=>cf λ_ _=>rfl) (mg_of X G Ja) K9.kp;have fQ:=mc (qj NA E) (NA.binds λ_ _ _ _ _ _=>dg λ_=>rfl) (mg_of X G RZ) NA.kp;have cZ:=mc (tY Nw E) (Nw.binds λ_ _ _ _ _ _=>dg λ_=>rfl) (mg_of X G Qa) Nw.kp;have gX:=mc (rE NY E cZ) (NY.binds λ_ _ _ _ _ _=>cf λ_ _=>rfl) (mg_of X G PB) NY.kp;have dM:=mc (qN N0 E gX) (N0.binds λ_ _ _ _ _ _=>cf λ_ _=>rfl) (mg_of X G S2) N0.kp;have aP:=mc (j4 Mf E) (Mf.binds λ_ _ _ _ _ _=>cf λ_ _=>rfl) (mg_of X G SA) Mf.kp;have dm:=mc (kM LU E aP) (LU.binds λ_ _ _ _ _ _=>dg λ_=>rfl) (mg_of X G RH) LU.kp;have d4:=mc (lQ Ma E dm) (Ma.binds λ_ _ _ _ _ _=>dg λ_=>rfl) (mg_of X G PK) Ma.kp;have j5:=mc (uT NF E cZ dM d4) (NF.binds λ_ _ _ _ _ _=>cf λ_ _=>rfl) (mg_of X G Pw) NF.kp;have fT:=mc (pR Lv E) (Lv.binds λ_ _ _ _ _ _=>dg λ_=>rfl) (mg_of X G Rk) Lv.kp;have dQ:FJ l.prog w K mg base _ "Floor" Cm _ _ _ _:=⟨qd O6 E fQ j5 fT,(O6.binds λ_ _ _ _ _ _=>oR λ_ _ _=>rfl),⟨CK,S9,Pb,Cn⟩,mg_of X G CP⟩;have bZ:=mc (qu MQ E) (MQ.binds λ_ _ _ _ _ _=>dg λ_=>rfl) (mg_of X G P1) MQ.kp;have bU:i0 l.prog w K mg base _ Cm "size" _ _ _ _:=⟨qa NN E,(NN.binds λ_ _ _ _ _ _=>dg λ_=>rfl),⟨iJ,iW,ji,jd⟩,⟨Ss,Rg,NN.kp⟩⟩;have ai:i0 l.prog w K mg base _ Cm "kind" _ _ _ _:=⟨pS NO E,(NO.binds λ_ _ _ _ _ _=>cf λ_ _=>rfl),⟨iJ,iW,ji,jd⟩,⟨Rp,Qt,NO.kp⟩⟩;have g9:i0 l.prog w K mg base _ Cm "pay" _ _ _ _:=⟨rO Lq E ai,(Lq.binds λ_ _ _ _ _ _=>cf λ_ _=>rfl),⟨iJ,iW,ji,jd⟩,⟨O9,Pf,Lq.kp⟩⟩;have dw:=mc (kO Nt E bZ bU g9 ai) (Nt.binds λ_ _ _ _ _ _=>dg λ_=>rfl) (mg_of X G QU) Nt.kp;have eQ:i0 l.prog w K mg base _ Cm "doors" _ _ _ _:=⟨nj NM E ai,(NM.binds λ_ _ _ _ _ _=>cf λ_ _=>rfl),⟨iJ,iW,ji,jd⟩,⟨Tp,RI,NM.kp⟩⟩;have iw:=mc (rQ Nv E aP) (Nv.binds λ_ _ _ _ _ _=>cf λ_ _=>rfl) (mg_of X G Rb) Nv.kp;have uB:=mc (Bm Ld E iw) (Ld.binds λ_ _ _ _ _ _=>cf λ_ _=>rfl) (mg_of X G Rh) Ld.kp;have jZ:=mc (uD MF E eQ ai uB) (MF.binds λ_ _ _ _ _ _=>oR λ_ _ _=>rfl) (mg_of X G Tq) MF.kp;have cC:=mc (mG LC E bZ bU jZ) (LC.binds λ_ _ _ _ _ _=>cf λ_ _=>rfl) (mg_of X G QG) LC.kp;have eC:=mc (wH Lm E dw cC) (Lm.binds λ_ _ _ _ _ _=>dg λ_=>rfl) (mg_of X G Sb) Lm.kp;have iu:=mc (qZ N5 E) (N5.binds λ_ _ _ _ _ _=>dg λ_=>rfl) (mg_of X G QV) N5.kp;have gR:=mc (rC Mw E) (Mw.binds λ_ _ _ _ _ _=>dg λ_=>rfl) (mg_of X G Po) Mw.kp;have dZ:=mc (qe LI E ak) (LI.binds λ_ _ _ _ _ _=>oR λ_ _ _=>rfl) (mg_of X G QL) LI.kp;have jT:=mc (uN LV E dZ) (LV.binds λ_ _ _ _ _ _=>oR λ_ _ _=>rfl) (mg_of X G Tn) LV.kp;have jB:=mc (uC Ll E jT) (Ll.binds λ_ _ _ _ _ _=>cf λ_ _=>rfl) (mg_of X G Qj) Ll.kp;have eV:=mc (so Na E iu gR jB) (Na.binds λ_ _ _ _ _ _=>cf λ_ _=>rfl) (mg_of X G RS) Na.kp;exact FW (Er O2 E jW fL jE gj ak ψ dQ eC eV)
theorem walk{l:PySem.W.OpenLaw}{q:Program}{loose:List Str}{XP:(Str->Option Value)->Heap->Prop}{YP:World->Heap->Prop}{d:DefRec}{K:Params->fv}(hn:l.most=some 63)(JY:d.params.defaults=[])
  (hY:∀(w:World) (h:Heap),YP w h->(K w.params).In h)
  (F:∀(w:World) (mg:Str->Option Value) (fa:Addr) (h:Heap),(K w.params).In h->h.Ns mainGlobals mg->mg d.name=some (.ref fa)->
   ∃fd:FuncData,(∀(s:Shared) (u:Value),BindsTo s fd ⟨[u],[]⟩ [("_law_script",u)])/\∀base:Heap,(K w.params).In base->base.Ns mainGlobals mg->ao l.prog w (K w.params) mg base Kz 12 fa fd ["_law_script"] (sC (K w.params))):
  PySem.W.WalkO q loose XP YP l.row.toRowW d [] (λf vs=>PySem.call f vs):=
 L2.pb (n:=63) (k:=12) (x:="_law_script") (CX:=λ_=>Kz) (sp:=λw=>sC (K w.params)) hn (by decide) JY ⟨rfl,by decide,by decide⟩ hY F (λ_ _ a ns hl _ hS=>⟨a,ns,rfl,hS,hl,λ_=>rfl⟩) λ_ _ _ _ _ z=>z
end
end Pg
open PySem PySem.W PyProof.Rows
set_option maxRecDepth 100000 in
set_option maxHeartbeats 0 in
theorem PySem.Challenge.cw_chanceduel_k51_places_parted_holds : PySem.Challenge.rw_chanceduel_k51_places_parted.Holds := by
 w_on;o_law
 refine holds_open (q:=Hd.q) (loose:=[]) (Xt:=Hd.Xt) (XP:=XL Hd.q [])
  (Yf:=Hd.H.obs) (Ya:=Hd.H.val) (YP:=Hd.H.says) Hd.left Hd.H.of Hd.H.keeps
  (λs e=>xl_of s (Bool.and_eq_true_iff.mp e).1) XL.keeps (by rfl) (by rfl) (by rfl)
  (λs e=>recFacts_of (Bool.and_eq_true_iff.mp e).2) (by rfl) (by assumption) (by decide+kernel)
  ⟨rfl,rfl,rfl,rfl,rfl,by decide+kernel⟩ ?hw ?hc
 (case hw=>w_witness2)
 refine Pg.walk (l:=PySem.Challenge.rw_chanceduel_k51_places_parted) rfl rfl (fun w h Y=>PySem.W.kIn_of Y) ?F
 case F=>
  k_fill
  intro w mg fa h KX G BG
  refine' Pg.all_mk KX G BG ?_ ?_ ?_ ?_ ?_ ?_ ?_ ?_ ?_ ?_ ?_ ?_ ?_ ?_ ?_ ?_ ?_ ?_ ?_ ?_ ?_ ?_ ?_ ?_ ?_ ?_ ?_ ?_ ?_ ?_ ?_ ?_ ?_ ?_ ?_ ?_ ?_ ?_ ?_ ?_ ?_ ?_ ?_ ?_ ?_ ?_ ?_ ?_ ?_ ?_ ?_ ?_ ?_ ?_ ?_ ?_ ?_ ?_ ?_ ?_ ?_ ?_ ?_ ?_ ?_ ?_ ?_ ?_ ?_ ?_ ?_ ?_ ?_ ?_ ?_ ?_
  all_goals try first | (refine' Pg.FT.of ?_ ?_ ?_ ?_ <;> try k_is) | (refine' Pg.FM.of ?_ ?_ ?_ ?_ ?_ <;> try k_is) | k_is | k_exc | kernel_rfl
