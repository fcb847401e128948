import PyProof.Rows.All
import Wide.All
import OpenK.AllK
import Wide.FinOn
import Lean
import PyProof.EqAt
import PyProof.EqKinds
import PyProof.TupleCall
import PyProof.NeKinds
import PyProof.ZipIter
import PyProof.DictUpdate
import PyProof.FactsAll.dict_1
import PyProof.DictIter
import PyProof.DictWalks
import PyProof.StrCalls2
import PyProof.Rows.StrSplitMax
import PyProof.StrOps2
import KE.KUnpack
import PySem.Challenge.RW_chanceduel_k10_floors_read
set_option Elab.async false
set_option linter.all false
set_option maxRecDepth 100000
set_option maxHeartbeats 4000000
set_option compiler.extract_closed false
def aaa:=@List.getElem?_eq_getElem
def aab:=@PySem.wpAny_bind
def aac:=@List.length_map
def aad:=@PySem.Heap.get?_push_of_some
def aae:=@List.length_append
def aaf:=@List.mem_cons_self
def aag:=@List.mem_cons_of_mem
def aah:=@List.mem_map
def aai:=@List.getElem?_eq_some_iff
def aaj:=@List.mem_append
def aak:=@List.length_replicate
def aal:=@List.mem_append_right
def aam:=@List.mem_cons
def aan:=@PySem.Heap.lt_size
def aao:=@decide_eq_false
def aap:=@List.map_map
def aaq:=@Nat.le_refl
def aar:=@PySem.wpAny_pure
def aas:=@PySem.F.excBase_ValueError
def aat:=@List.length_cons
def aau:=@Nat.lt_of_lt_of_le
def aav:=@List.getElem?_append_left
def aaw:=@Option.some.inj
def aax:=@Bool.false_ne_true
def aay:=@if_neg
def aaz:=@Bool.and_eq_true
def aaA:=@List.mem_of_getElem?
def aaB:=@if_pos
def aaC:=@List.size_toArray
def aaD:=@Nat.le_trans
def aaE:=@List.getElem?_append_right
def aaG:=@absurd
def aaH:=@Nat.ne_of_lt
def aaI:=@List.nil_append
def aaJ:=@List.map_cons
def aaK:=@decide_eq_true
def aaL:=@Int.emod_lt_of_pos
def aaM:=@List.getElem?_map
def aaN:=@congrArg
def aaO:=@List.append_nil
def aaP:=@PySem.Heap.get?_push_size
def aaQ:=@List.append_assoc
def aaR:=@Int.emod_nonneg
def aaS:=@List.getElem?_set_self
def aaT:=@Array.getElem?_eq_some_iff
def aaU:=@List.map_append
def aaV:=@of_decide_eq_true
def aaW:=@PySem.wpAny_mono
def aaX:=@List.getElem?_set_ne
def aaY:=@List.length_set
def aaZ:=@of_decide_eq_false
def aa0:=@decide_eq_true_iff
def aa1:=@List.mem_append_left
def aa2:=@Nat.zero_le
def aa3:=@List.eq_of_mem_replicate
def aa4:=@Array.length_toList
def aa5:=@List.replicate_succ
def aa6:=@List.mem_filterMap
def aa7:=@Bool.eq_iff_iff
def aa8:=@beq_iff_eq
def aa9:=@List.nodup_cons
def aba:=@Nat.add_sub_cancel_left
def abb:=@List.zip_cons_cons
def abc:=@List.length_zip
def abd:=@List.mem_singleton
def abe:=@Int.le_of_lt
def abf:=@Option.isSome_iff_exists
def abg:=@List.length_drop
def abh:=@List.lookup_cons
def abi:=@List.all_eq_true
def abj:=@Nat.lt_irrefl
def abk:=@List.mem_range
def abl:=@List.flatten_cons
def abm:=@Nat.lt_of_le_of_lt
def abn:=@List.drop_eq_getElem_cons
def abo:=@List.mem_or_eq_of_mem_set
def abp:=@List.getElem?_replicate
def abq:=@List.all_cons
def abr:=@List.any_cons
def abt:=@List.map_congr_left
def abu:=@List.eq_nil_of_length_eq_zero
def abv:=@List.range_succ_eq_map
def abw:=@List.drop_eq_nil_of_le
def abx:=@List.of_mem_zip
def aby:=@List.idxOf_lt_length_of_mem
def abz:=@Int.fmod_eq_emod_of_nonneg
def abA:=@List.getD_eq_getElem?_getD
def abB:=@Bool.and_false
def abC:=@List.drop_zero
def abD:=@List.length_take
def abE:=@beq_self_eq_true
def abF:=@List.mem_replicate
def abG:=@List.drop_drop
def abH:=@Nat.ne_of_gt
def abI:=@List.map_nil
namespace Hd
open PySem PySem.W PyProof.Rows
def at_(i:Nat):Stmt:=PySem.Challenge.pw_chanceduel_k10_floors_read.main.body.getD i (.Pass ⟨0,0,0,0⟩)
def SN:Stmt->Nat->Stmt
  | .ClassDef _ _ _ b _ _ _ _ _ _ _,j=>b.getD j (.Pass ⟨0,0,0,0⟩)
  | s,_=>s
def dA:Stmt->Arguments
  | .FunctionDef _ a _ _ _ _ _ _ _ _=>a
  | _=>⟨[],[],none,[],[],none,[]⟩
def dB:Stmt->List Stmt
  | .FunctionDef _ _ b _ _ _ _ _ _ _=>b
  | _=>[]
def dS:Stmt->Scope
  | .FunctionDef _ _ _ _ _ _ c _ _ _=>c
  | _=>{kind:= .function,names:=[],isGenerator:=false,isCoroutine:=false}
abbrev row:=PySem.Challenge.rw_chanceduel_k10_floors_read.row
abbrev en(P:Params)(x:Str)(t:Tok)(v:Value):DictEntry:=⟨PyData.keyHash P x, .str x t,v⟩
def q:Program:={PySem.Challenge.pw_chanceduel_k10_floors_read with main:={PySem.Challenge.pw_chanceduel_k10_floors_read.main with body:=[at_ 0,at_ 2,at_ 3,at_ 4,at_ 5,at_ 6,at_ 7,at_ 9,at_ 10,at_ 12,at_ 13,at_ 14,at_ 15,at_ 16,at_ 17,at_ 18,at_ 19,at_ 20,at_ 21,at_ 23,at_ 24,at_ 25,at_ 26,at_ 28,at_ 29,at_ 30,at_ 31,at_ 32,at_ 34,at_ 35,at_ 36,at_ 37,at_ 38,at_ 39,at_ 40,at_ 41,at_ 42,at_ 43,at_ 44,at_ 45,at_ 47,at_ 48,at_ 49,at_ 50,at_ 51,at_ 52,at_ 53,at_ 54,at_ 55,at_ 56,at_ 57,at_ 58]}}
abbrev cO(x q:Str)(t l n f a m:Nat):Obj:=⟨.type "code",none, .fields #[.str x t, .str q (t+1), .str "/claim/cut.py" (t+2), .int l 0, .int n 0, .int 0 0, .int 0 0, .int f 0, .ref a, .bool true, .int 181 0, .ref (a+1), .none, .ref (a+2), .ref (a+3), .ref (a+4), .int m 0, .int l 0, .str "/claim/cut.py" (m+1)], #[]⟩
abbrev dO(x q:Str)(t l n f a m:Nat):Obj:=⟨.type "code",none, .fields #[.str x t, .str q (t+1), .str "/claim/cut.py" (t+2), .int l 0, .int n 0, .int 0 0, .int 0 0, .int f 0, .ref a, .bool true, .int 181 0, .ref (a+1), .none, .none, .none, .ref (a+2), .int m 0, .int l 0, .str "/claim/cut.py" (m+1)], #[]⟩
abbrev eO(x:Str)(a d b t u:Nat):Obj:=⟨.type "type",none, .cls ⟨x,[.ref 31],[.ref a, .ref 31, .type "ValueError", .type "Exception", .type "BaseException", .type "object"],d,x,true,[],[],false,none,false⟩, #[some (.ref b),none,some (.str x t),some (.str x u),some (.builtin "ValueError.__new__"),some (.bool true)]⟩
abbrev fO(x q:Str)(s:Stmt)(m:Value)(c:Nat):Obj:=⟨.type "function",none, .func ⟨x,q,(dA s), .stmts (dB s),(dS s),3,[], .none, .none, .none,m,none, .ref c, .none,0⟩, #[]⟩
abbrev m0:Value:= .str "chanceduel.errors" 194
abbrev m1:Value:= .str "chanceduel.parts" 303
abbrev m2:Value:= .str "chanceduel.places" 325
abbrev m3:Value:= .str "chanceduel.floors" 383
abbrev m4:Value:= .str "chanceduel.texts" 505
abbrev m5:Value:= .str "chanceduel.floortexts" 536
abbrev m6:Value:= .str "law_chanceduel_k10_floors_read" 613
noncomputable def K:Params->Frag:=λP=>
(nat_lit 2,⟨.none,none,(.dict #[] 0), #[]⟩)::
(nat_lit 3,⟨(.type "dict"),none,(.dict #[(en P "__name__" 165 m6),(en P "__doc__" 166 .none),(en P "__package__" 167 .none),(en P "__loader__" 168 (.builtin "__main__.__loader__#opaque")),(en P "__spec__" 169 .none),(en P "__annotations__" 170 (.ref 6)),(en P "__builtins__" 171 (.ref 4)),(en P "__file__" 173 (.str "/claim/cut.py" 172)),(en P "__cached__" 174 .none),(en P "_wall" 193 (.ref 21)),(en P "DuelError" 213 (.ref 31)),(en P "NoNumber" 229 (.ref 44)),(en P "NoText" 245 (.ref 56)),(en P "NoName" 261 (.ref 68)),(en P "NoFloor" 277 (.ref 80)),(en P "NoPlace" 302 (.ref 99)),(en P "common_divisor" 315 (.ref 108)),(en P "fraction" 324 (.ref 115)),(en P "HANDS" 329 (.ref 116)),(en P "MOST_DOORS" 331 (.int 6 330)),(en P "MOST_BOTTOM" 333 (.int 1000000 332)),(en P "fits_pay" 340 (.ref 123)),(en P "fits_door" 348 (.ref 130)),(en P "common_bottom" 357 (.ref 137)),(en P "fits_chances" 363 (.ref 142)),(en P "fits_doors" 369 (.ref 147)),(en P "fits_row" 375 (.ref 152)),(en P "copied_row" 382 (.ref 159)),(en P "MOST_PLACES" 386 (.int 12 385)),(en P "MOST_SHARE_BOTTOM" 388 (.int 1000 387)),(en P "fits_share" 395 (.ref 166)),(en P "Floor" 504 (.ref 249)),(en P "FIGURES" 508 (.str "0123456789" 507)),(en P "MOST_FIGURES" 510 (.int 60 509)),(en P "read_figures" 516 (.ref 258)),(en P "read_top" 524 (.ref 265)),(en P "read_fraction" 535 (.ref 272)),(en P "LETTERS" 539 (.str "abcdefghijklmnopqrstuvwxyz" 538)),(en P "MOST_LETTERS" 541 (.int 8 540)),(en P "is_name" 547 (.ref 277)),(en P "read_name" 554 (.ref 284)),(en P "read_share" 562 (.ref 291)),(en P "read_door" 568 (.ref 296)),(en P "read_row" 574 (.ref 301)),(en P "read_place" 582 (.ref 308)),(en P "numbers_of" 592 (.ref 315)),(en P "numbered_door" 600 (.ref 322)),(en P "numbered_row" 606 (.ref 327)),(en P "read_floor" 612 (.ref 332)),(en P "_law_nth" 622 (.ref 339)),(en P "_law_alike" 628 (.ref 344)),(en P "_law_names" 634 (.ref 349)),(en P "_law_number" 641 (.ref 356)),(en P "_law_door" 652 (.ref 363)),(en P "_law_part" 658 (.ref 368)),(en P "_law_row" 664 (.ref 373)),(en P "_law_bad_form" 673 (.ref 380)),(en P "_law_bad_part" 685 (.ref 387)),(en P "_law_spoilt" 691 (.ref 392)),(en P "_law_refused" 703 (.ref 399)),(en P "law" 709 (.ref 404))] 61), #[]⟩)::
(nat_lit 30,⟨(.type "dict"),none,(.dict #[(en P "__module__" 203 m0),(en P "__firstlineno__" 207 (.int 5 206)),(en P "__static_attributes__" 208 (.ref 29)),(en P "__weakref__" 210 (.ref 32)),(en P "__doc__" 211 .none)] 3), #[]⟩)::
(nat_lit 31,⟨(.type "type"),none,(.cls ⟨"DuelError",[(.type "ValueError")],[(.ref 31),(.type "ValueError"),(.type "Exception"),(.type "BaseException"),(.type "object")],30,"DuelError",true,[],[(.ref 44),(.ref 56),(.ref 68),(.ref 80),(.ref 99)],false,none,false⟩), #[(some (.ref 22)),none,(some (.str "DuelError" 196)),(some (.str "DuelError" 204)),(some (.builtin "ValueError.__new__")),(some (.bool true))]⟩)::
(nat_lit 44,eO "NoNumber" 44 43 35 214 222)::
(nat_lit 55,⟨(.type "dict"),none,(.dict #[(en P "__module__" 237 m0),(en P "__firstlineno__" 241 (.int 9 240)),(en P "__static_attributes__" 242 (.ref 54)),(en P "__doc__" 243 .none)] 2), #[]⟩)::
(nat_lit 56,eO "NoText" 56 55 47 230 238)::
(nat_lit 67,⟨(.type "dict"),none,(.dict #[(en P "__module__" 253 m0),(en P "__firstlineno__" 257 (.int 11 256)),(en P "__static_attributes__" 258 (.ref 66)),(en P "__doc__" 259 .none)] 2), #[]⟩)::
(nat_lit 68,eO "NoName" 68 67 59 246 254)::
(nat_lit 79,⟨(.type "dict"),none,(.dict #[(en P "__module__" 269 m0),(en P "__firstlineno__" 273 (.int 13 272)),(en P "__static_attributes__" 274 (.ref 78)),(en P "__doc__" 275 .none)] 2), #[]⟩)::
(nat_lit 80,eO "NoFloor" 80 79 71 262 270)::
(nat_lit 95,cO "__init__" "NoPlace.__init__" 290 17 2 3 90 295)::
(nat_lit 96,fO "__init__" "NoPlace.__init__" (SN (at_ 7) 0) m0 95)::
(nat_lit 98,⟨(.type "dict"),none,(.dict #[(en P "__module__" 285 m0),(en P "__firstlineno__" 289 (.int 15 288)),(en P "__init__" 297 (.ref 96)),(en P "__static_attributes__" 299 (.ref 97)),(en P "__doc__" 300 .none)] 2), #[]⟩)::
(nat_lit 99,eO "NoPlace" 99 98 83 278 286)::
(nat_lit 107,cO "common_divisor" "common_divisor" 305 21 2 3 102 313)::
(nat_lit 108,fO "common_divisor" "common_divisor" (at_ 9) m1 107)::
(nat_lit 114,cO "fraction" "fraction" 316 29 2 3 109 322)::
(nat_lit 115,fO "fraction" "fraction" (at_ 10) m1 114)::
(nat_lit 116,⟨(.type "tuple"),none,(.seq #[(.str "one" 327),(.str "other" 328)] 0), #[]⟩)::
(nat_lit 122,cO "fits_pay" "fits_pay" 334 40 1 3 117 338)::
(nat_lit 123,fO "fits_pay" "fits_pay" (at_ 15) m2 122)::
(nat_lit 129,cO "fits_door" "fits_door" 341 42 2 3 124 346)::
(nat_lit 130,fO "fits_door" "fits_door" (at_ 16) m2 129)::
(nat_lit 136,cO "common_bottom" "common_bottom" 349 44 1 3 131 355)::
(nat_lit 137,fO "common_bottom" "common_bottom" (at_ 17) m2 136)::
(nat_lit 141,dO "fits_chances" "fits_chances" 358 49 1 3 138 361)::
(nat_lit 142,fO "fits_chances" "fits_chances" (at_ 18) m2 141)::
(nat_lit 146,dO "fits_doors" "fits_doors" 364 55 2 3 143 367)::
(nat_lit 147,fO "fits_doors" "fits_doors" (at_ 19) m2 146)::
(nat_lit 151,dO "fits_row" "fits_row" 370 59 2 3 148 373)::
(nat_lit 152,fO "fits_row" "fits_row" (at_ 20) m2 151)::
(nat_lit 158,cO "copied_row" "copied_row" 376 68 1 3 153 380)::
(nat_lit 159,fO "copied_row" "copied_row" (at_ 21) m2 158)::
(nat_lit 165,cO "fits_share" "fits_share" 389 75 1 3 160 393)::
(nat_lit 166,fO "fits_share" "fits_share" (at_ 25) m3 165)::
(nat_lit 177,dO "__init__" "Floor.__init__" 408 79 3 3 174 411)::
(nat_lit 178,fO "__init__" "Floor.__init__" (SN (at_ 26) 0) m3 177)::
(nat_lit 191,cO "share" "Floor.share" 421 93 1 3 186 425)::
(nat_lit 192,fO "share" "Floor.share" (SN (at_ 26) 2) m3 191)::
(nat_lit 217,dO "rows" "Floor.rows" 452 109 1 3 214 455)::
(nat_lit 218,fO "rows" "Floor.rows" (SN (at_ 26) 6) m3 217)::
(nat_lit 248,⟨(.type "dict"),none,(.dict #[(en P "__module__" 403 m3),(en P "__firstlineno__" 407 (.int 77 406)),(en P "__init__" 413 (.ref 178)),(en P "size" 420 (.ref 185)),(en P "share" 427 (.ref 192)),(en P "kind" 435 (.ref 199)),(en P "doors" 443 (.ref 206)),(en P "pay" 451 (.ref 213)),(en P "rows" 457 (.ref 218)),(en P "shown" 467 (.ref 225)),(en P "all_shown" 476 (.ref 232)),(en P "look" 485 (.ref 239)),(en P "best" 494 (.ref 246)),(en P "__static_attributes__" 497 (.ref 247)),(en P "__dict__" 499 (.ref 250)),(en P "__weakref__" 501 (.ref 251)),(en P "__doc__" 502 .none)] 4), #[]⟩)::
(nat_lit 249,⟨(.type "type"),none,(.cls ⟨"Floor",[(.type "object")],[(.ref 249),(.type "object")],248,"Floor",true,[],[],false,none,false⟩), #[none,none,(some (.str "Floor" 396)),(some (.str "Floor" 404)),(some (.builtin "object.__new__")),(some (.bool true))]⟩)::
(nat_lit 257,dO "read_figures" "read_figures" 511 126 1 3 254 514)::
(nat_lit 258,fO "read_figures" "read_figures" (at_ 30) m4 257)::
(nat_lit 264,cO "read_top" "read_top" 517 134 1 3 259 522)::
(nat_lit 265,fO "read_top" "read_top" (at_ 31) m4 264)::
(nat_lit 271,cO "read_fraction" "read_fraction" 525 141 1 3 266 533)::
(nat_lit 272,fO "read_fraction" "read_fraction" (at_ 32) m4 271)::
(nat_lit 276,dO "is_name" "is_name" 542 158 1 3 273 545)::
(nat_lit 277,fO "is_name" "is_name" (at_ 36) m5 276)::
(nat_lit 283,cO "read_name" "read_name" 548 160 1 3 278 552)::
(nat_lit 284,fO "read_name" "read_name" (at_ 37) m5 283)::
(nat_lit 290,cO "read_share" "read_share" 555 164 1 3 285 560)::
(nat_lit 291,fO "read_share" "read_share" (at_ 38) m5 290)::
(nat_lit 295,dO "read_door" "read_door" 563 169 2 3 292 566)::
(nat_lit 296,fO "read_door" "read_door" (at_ 39) m5 295)::
(nat_lit 300,dO "read_row" "read_row" 569 174 2 3 297 572)::
(nat_lit 301,fO "read_row" "read_row" (at_ 40) m5 300)::
(nat_lit 307,cO "read_place" "read_place" 575 182 1 3 302 580)::
(nat_lit 308,fO "read_place" "read_place" (at_ 41) m5 307)::
(nat_lit 314,cO "numbers_of" "numbers_of" 583 187 1 3 309 590)::
(nat_lit 315,fO "numbers_of" "numbers_of" (at_ 42) m5 314)::
(nat_lit 321,cO "numbered_door" "numbered_door" 593 194 2 3 316 598)::
(nat_lit 322,fO "numbered_door" "numbered_door" (at_ 43) m5 321)::
(nat_lit 326,dO "numbered_row" "numbered_row" 601 198 2 3 323 604)::
(nat_lit 327,fO "numbered_row" "numbered_row" (at_ 44) m5 326)::
(nat_lit 331,dO "read_floor" "read_floor" 607 202 1 3 328 610)::
(nat_lit 332,fO "read_floor" "read_floor" (at_ 45) m5 331)::
(nat_lit 338,cO "_law_nth" "_law_nth" 615 211 2 3 333 620)::
(nat_lit 339,fO "_law_nth" "_law_nth" (at_ 47) m6 338)::
(nat_lit 343,dO "_law_alike" "_law_alike" 623 213 2 3 340 626)::
(nat_lit 344,fO "_law_alike" "_law_alike" (at_ 48) m6 343)::
(nat_lit 348,dO "_law_names" "_law_names" 629 225 2 3 345 632)::
(nat_lit 349,fO "_law_names" "_law_names" (at_ 49) m6 348)::
(nat_lit 355,cO "_law_number" "_law_number" 635 242 1 3 350 639)::
(nat_lit 356,fO "_law_number" "_law_number" (at_ 50) m6 355)::
(nat_lit 362,cO "_law_door" "_law_door" 642 244 4 3 357 650)::
(nat_lit 363,fO "_law_door" "_law_door" (at_ 51) m6 362)::
(nat_lit 367,dO "_law_part" "_law_part" 653 249 4 3 364 656)::
(nat_lit 368,fO "_law_part" "_law_part" (at_ 52) m6 367)::
(nat_lit 372,dO "_law_row" "_law_row" 659 255 2 3 369 662)::
(nat_lit 373,fO "_law_row" "_law_row" (at_ 53) m6 372)::
(nat_lit 379,cO "_law_bad_form" "_law_bad_form" 665 265 2 3 374 671)::
(nat_lit 380,fO "_law_bad_form" "_law_bad_form" (at_ 54) m6 379)::
(nat_lit 386,cO "_law_bad_part" "_law_bad_part" 674 270 2 3 381 683)::
(nat_lit 387,fO "_law_bad_part" "_law_bad_part" (at_ 55) m6 386)::
(nat_lit 391,dO "_law_spoilt" "_law_spoilt" 686 283 4 3 388 689)::
(nat_lit 392,fO "_law_spoilt" "_law_spoilt" (at_ 56) m6 391)::
(nat_lit 398,cO "_law_refused" "_law_refused" 692 305 3 3 393 701)::
(nat_lit 399,fO "_law_refused" "_law_refused" (at_ 57) m6 398)::
(nat_lit 403,dO "law" "law" 704 315 1 3 400 707)::
(nat_lit 404,fO "law" "law" (at_ 58) m6 403)::[]
noncomputable abbrev H:Hook:=kHook K [2,3,30,31,44,55,56,67,68,79,80,95,96,98,99,107,108,114,115,116,122,123,129,130,136,137,141,142,146,147,151,152,158,159,165,166,177,178,191,192,217,218,248,249,257,258,264,265,271,272,276,277,283,284,290,291,295,296,300,301,307,308,314,315,321,322,326,327,331,332,338,339,343,344,348,349,355,356,362,363,367,368,372,373,379,380,386,387,391,392,398,399,403,404] (λ_=>by kernel_rfl)
abbrev Xt:Shared->Bool:=λs=>xlAt q [] s&&recOk (RowW.records row.toRowW) s
theorem V4{A B C:Type}{o:Option C}{f:C->A}{g:C->B}{a:A}{b:B}(h:o.map f=some a)(k:o.map g=some b):o.map (λs=>(f s,g s))=some (a,b):=by
  cases o with
  | none=>exact nomatch h
  | some c=>injection h with h;injection k with k;subst h;subst k;rfl
section
variable{A B C D E F G X:Type}{o:Option X}{f:X->A×B×C×D×E×F×G}{t:A×B×C×D×E×F×G}
def p1:A×B×C×D×E×F×G->A
  | (a,_,_,_,_,_,_)=>a
def p2:A×B×C×D×E×F×G->B×C
  | (_,b,c,_,_,_,_)=>(b,c)
def p3:A×B×C×D×E×F×G->D
  | (_,_,_,d,_,_,_)=>d
def p5:A×B×C×D×E×F×G->E
  | (_,_,_,_,e,_,_)=>e
def p6:A×B×C×D×E×F×G->F
  | (_,_,_,_,_,f,_)=>f
def p4:A×B×C×D×E×F×G->G
  | (_,_,_,_,_,_,g)=>g
theorem pr(h:o.map (λx=>p1 (f x))=some t.1)(g:o.map (λx=>p2 (f x))=some (t.2.1,t.2.2.1))(k:o.map (λx=>p3 (f x))=some t.2.2.2.1)(k1:o.map (λx=>p5 (f x))=some t.2.2.2.2.1)(k2:o.map (λx=>p6 (f x))=some t.2.2.2.2.2.1)(l:o.map (λx=>p4 (f x))=some t.2.2.2.2.2.2):o.map f=some t:=by
  cases o with
  | none=>exact nomatch h
  | some x=>
    replace h:p1 (f x)=t.1:=aaw h;replace g:p2 (f x)=(t.2.1,t.2.2.1):=aaw g;replace k:p3 (f x)=t.2.2.2.1:=aaw k;replace k1:p5 (f x)=t.2.2.2.2.1:=aaw k1;replace k2:p6 (f x)=t.2.2.2.2.2.1:=aaw k2;replace l:p4 (f x)=t.2.2.2.2.2.2:=aaw l;show some (f x)=some t;revert h g k k1 k2 l;generalize f x=u;obtain ⟨a,b,c,d,e,f',y⟩:=u;obtain ⟨a',b',c',d',e',Xw,y'⟩:=t;intro h g k k1 k2 l;cases (h:a=a');cases (g:(b,c)=(b',c'));cases (k:d=d');cases (k1:e=e');cases (k2:f'=Xw);cases (l:y=y');rfl
end
def Sz{A B:Type}(o:Option A)(c:A->Bool)(T:A->Option B):Option (A×B):=o.bind λa=>match c a with
  | true=>(T a).map λb=>(a,b)
  | false=>none
def Sg {A B:Type} (o:Option A) (c:A->Bool) (T:A->Option B) (k:A->B->Bool):Option B:=o.bind λa=>match c a with
  | true=>(T a).bind λb=>match k a b with
    | true=>some b
    | false=>none
  | false=>none
theorem Xl {A B C:Type} {o:Option A} {c:A->Bool} {T:A->Option B} {k:A->B->Bool} {g:B->C} {v:C} (h:(Sz o c T).map (λx=>k x.1 x.2)=some true) (l:(Sz o c T).map (λx=>g x.2)=some v):(Sg o c T k).map g=some v:=by
  unfold Sz at h l;unfold Sg;cases o with
  | none=>exact nomatch h
  | some a=>
    dsimp only [Option.bind] at h l⊢;cases hc:c a with
    | false=>rw [hc] at h;exact nomatch h
    | true=>
      rw [hc] at h l;dsimp only at h l⊢;cases hT:T a with
      | none=>rw [hT] at h;exact nomatch h
      | some b=>
        rw [hT] at h l;injection h with h;injection l with l
        dsimp only [Option.bind];rw [show k a b=true from h];exact aaN some l
noncomputable abbrev oA(p:Program)(w:World)(N:Nat):Option Shared:=(Fast.tw10274390034422433532 Fast.tw14364793385576792824 (opening p) w N (Fast.tw1435165496053646825 (opening p)).1 (Fast.tw1435165496053646825 (opening p)).2).bind (fenceModules? p)
abbrev cA(s:Shared):Bool:=s.heap.isNs mainGlobals&&s.gens.size==0
noncomputable abbrev tA(p:Program)(w:World)(N:Nat)(s₀:Shared):Option Shared:=Fast.tw14082659384304107361 Fast.tw14364793385576792824 p w s₀.heap.objs.size (s₀.heap.nsMap mainGlobals "__annotations__") N s₀ (topStub p)
abbrev kA(p:Program)(s₀ s₁:Shared):Bool:=staticsOk (importedModules p.main.body) s₀.heap s₁.heap&&namesBound p s₁.heap&&gensDone s₁&&laidKept s₀.heap s₁.heap
theorem oe(p:Program)(w:World)(N:Nat):openEnds treeTable p w N=Sg (oA p w N) cA (tA p w N) (kA p):=by unfold openEnds fencedOpening topFrom Sg oA tA;rewrite [Fast.te14082659384304107361,Fast.te14364793385576792824,Fast.te10274390034422433532,Fast.te1435165496053646825];rfl
noncomputable abbrev go(w:World):=Sz (oA row.prog w 6134) cA (tA row.prog w 6134)
abbrev gd:=openGood q []
noncomputable abbrev sn(x:Shared×Shared):=Fast.tw4187177175401517315 q [] (importedModules row.prog.main.body) Xt true x.2
theorem la(w:World):(go w).map (λx=>p1 (sn x))=some gd.1:=by kernel_rfl
theorem lb(w:World):(go w).map (λx=>p2 (sn x))=some (gd.2.1,gd.2.2.1):=by kernel_rfl
theorem lc(w:World):(go w).map (λx=>p3 (sn x))=some gd.2.2.2.1:=by kernel_rfl
theorem le(w:World):(go w).map (λx=>p5 (sn x))=some gd.2.2.2.2.1:=by kernel_rfl
theorem lg(w:World):(go w).map (λx=>p6 (sn x))=some gd.2.2.2.2.2.1:=by kernel_rfl
theorem ld(w:World):(go w).map (λx=>p4 (sn x))=some gd.2.2.2.2.2.2:=by kernel_rfl
theorem lk(w:World):(go w).map (λx=>kA row.prog x.1 x.2)=some true:=by kernel_rfl
theorem lo(w:World):(go w).map (λx=>H.obs x.2)=some (H.val w):=by kernel_rfl
theorem Ph(w:World):(openEnds treeTable row.prog w 6134).map (openSeen q [] (importedModules row.prog.main.body) Xt true)=some gd:=by rewrite [oe,Fast.te4187177175401517315];exact Xl (lk w) (pr (la w) (lb w) (lc w) (le w) (lg w) (ld w))
theorem Rm(w:World):(openEnds treeTable row.prog w 6134).map H.obs=some (H.val w):=by rewrite [oe];exact Xl (lk w) (lo w)
theorem left:LeftO row.prog q [] Xt H.obs H.val 6134:=λw=>V4 (Ph w) (Rm w)
end Hd
local macro_rules|`(())=>`(by omega)
local macro_rules|`(@_)=>`(by decide)
open Lean in
def rpt:Nat → Term → MacroM (TSyntax `rcasesPat)
|0,_=>Macro.throwUnsupported
|n+1,t=>match t with
|`(⟨$a,*⟩)=>do
 let b←a.getElems.mapM (rpt n)
 let b←b.mapM λp=>`(Lean.Parser.Tactic.rcasesPatLo|$p:rcasesPat)
 `(rcasesPat|⟨$b,*⟩)
|`(_)=>`(rcasesPat|_)
|`($x:ident)=>`(rcasesPat|$x:ident)
|_=>Macro.throwUnsupported
open Lean in
local macro_rules|`(tactic|have ⟨$a,*⟩:=$e)=>do
 let p←rpt 99 (←`(⟨$a,*⟩))
 `(tactic|obtain $p:rcasesPat:=$e)
open Lean in
local macro_rules|`(λ$xs*=>$b)=>do
 let mut ys:=#[]
 let mut ts:=#[]
 if (←MonadRef.getRef)[0].isToken "fun" then Macro.throwUnsupported
 for x in xs do
  if x.1.isOfKind `Lean.Parser.Term.anonymousCtor then
   let p←rpt 99 ⟨x.1⟩
   let y←withFreshMacroScope `(h)
   ys:=ys.push y
   ts:=ts.push (←`(tactic|obtain $p:rcasesPat:=$y))
  else ys:=ys.push ⟨x.1⟩
 if ts.isEmpty then Macro.throwUnsupported
 `(λ$ys*=>by{$[$ts]*;exact $b})
set_option hygiene false in
local macro_rules|`($g &&& ($F,$a,$n))=>`(mc $g (($F).binds λ_ _ _ _ _ _=>$n) (mg_of X G $a) ($F).kp)
set_option hygiene false in
local macro_rules|`($g ||| ($F,$a,$i,$n))=>`(⟨$g,(($F).binds λ_ _ _ _ _ _=>$n),⟨ua,t_,uw,vW⟩,⟨$a,$i,($F).kp⟩⟩)
set_option genSizeOf false
set_option bootstrap.genMatcherCode false
noncomputable def PySem.W.Fast.tw14789930241381937211:=PySem.Challenge.pw_chanceduel_k10_floors_read
theorem PySem.W.Fast.te14789930241381937211:PySem.Challenge.pw_chanceduel_k10_floors_read=PySem.W.Fast.tw14789930241381937211:=rfl
def pz:2<=PySem.sizeLine:=@_
abbrev gV:=PySem.W.Frag
namespace L2
open PySem PySem.Spec PyProof.Rows
variable{us:List Value}{a b dx C:Addr}{P prog:Program}{w:World}{h h' base:Heap}{δ:List (Addr×Obj)}{s:Shared}{g':Array GenState}{ch fp:List Addr}{i:Nat}{x:Str}{M:Model}{A:Around}{E Q:Value->Shared->Prop}{u:Value}{pos:Pos}{e c tg:Expr}{es:List Expr}{body:List Stmt}{f:Value->Value->Sem Value}{op:CmpOp}{mA mg:Str->Option Value}{kw:List (Str×Value)}{outer:List Env}{ps:List Str}
abbrev Key:=Sum Int Str
def tO:Key->Value->Bool
 | .inl k,v=>Value.isInt k v
 | .inr x,v=>Value.isStrOf x v
def S_(w:World):Key->Int
 | .inl k=>hashInt k
 | .inr x=>hashStr w x
def bc:∀{k:Key} {v:Value},tO k v=true->(∃i t,k=Sum.inl i/\v=Value.int i t)\/(∃x t,k=Sum.inr x/\v=Value.str x t)
 | .inl i,v,h=>by have⟨t,e⟩:=Value.isInt_shape (k:=i) (v:=v) h;exact .inl ⟨i,t,rfl,e⟩
 | .inr x,v,h=>by have⟨t,e⟩:=Value.isStrOf_shape (x:=x) (v:=v) h;exact .inr ⟨x,t,rfl,e⟩
def Cm(i:Int)(t:Tok):tO (.inl i) (.int i t)=true:=by simp[tO,Value.isInt]
def Cn(x:Str)(t:Tok):tO (.inr x) (.str x t)=true:=by simp[tO,Value.isStrOf]
def Nh(a b:Int):decide ((Sum.inl a:Key)=Sum.inl b)=(a==b):=by
 by_cases e:a=b
 ·subst e;simp
 ·have h:¬(Sum.inl a:Key)=Sum.inl b:=λq=>e (Sum.inl.inj q);rw[aao h];exact(beq_eq_false_iff_ne.mpr e).symm
def Mo(a b:Str):decide ((Sum.inr a:Key)=Sum.inr b)=decide (a=b):=by
 by_cases e:a=b
 ·subst e;simp
 ·have h:¬(Sum.inr a:Key)=Sum.inr b:=λq=>e (Sum.inr.inj q);rw[aao h,aao e]
def MU(a:Int)(b:Str):decide ((Sum.inl a:Key)=Sum.inr b)=false:=aao nofun
def MV(a:Str)(b:Int):decide ((Sum.inr a:Key)=Sum.inl b)=false:=aao nofun
def bM(prog:Program)(w:World):PySem.KeyKind prog w Key where
 is:=tO
 hash:=S_ w
 inj:=λv a b ha hb=>by
  rcases bc ha with ⟨i,t,rfl,rfl⟩| ⟨x,t,rfl,rfl⟩
  ·rcases bc hb with ⟨j,u,rfl,e⟩| ⟨y,u,rfl,e⟩
   ·injection e with e1 _;rw[e1]
   ·exact nomatch e
  ·rcases bc hb with ⟨j,u,rfl,e⟩| ⟨y,u,rfl,e⟩
   ·exact nomatch e
   ·injection e with e1 _;rw[e1]
 byValue:=λk v h=>by rcases bc h with ⟨i,t,rfl,rfl⟩| ⟨x,t,rfl,rfl⟩ <;> rfl
 pyHash:=λhv h=>by
  rcases bc hv with ⟨i,t,rfl,rfl⟩| ⟨x,t,rfl,rfl⟩
  ·exact wpAny_pyHash_int h
  ·exact wpAny_pyHash_str h
 eqBool:=λhu hv h=>by
  rcases bc hu with ⟨i,t,rfl,rfl⟩| ⟨x,t,rfl,rfl⟩
  ·rcases bc hv with ⟨j,u,rfl,rfl⟩| ⟨y,u,rfl,rfl⟩
   ·rw[Nh]at h;exact wpAny_eqBool_int h
   ·rw[MU]at h;exact SeqAt.EqAt.int_str i t y u _ _ _ _ h
  ·rcases bc hv with ⟨j,u,rfl,rfl⟩| ⟨y,u,rfl,rfl⟩
   ·rw[MV]at h;exact SeqAt.EqAt.str_int x t j u _ _ _ _ h
   ·rw[Mo]at h;exact wpAny_eqBool_str h
 «strs»:=λk x t v h=>by
  rcases bc h with ⟨i,u,rfl,e⟩| ⟨y,u,rfl,e⟩
  ·exact nomatch e
  ·injection e with e1 _
   subst e1;cases v <;> rfl
def yw(prog:Program)(w:World)(i:Int)(t:Tok):(bM prog w).is (.inl i) (.int i t)=true:=Cm i t
def yv(prog:Program)(w:World)(x:Str)(t:Tok):(bM prog w).is (.inr x) (.str x t)=true:=Cn x t
inductive V where
 | aS| bl (b:Bool)| int (i:Int)| str (x:Str)| Ec (b:Array UInt8)| Nw (b:UInt64)| ref (a:Addr)| ty (n:String)
 deriving DecidableEq
variable{v:V}
def aj:V->Value->Prop
 | .aS,u=>u=Value.none
 | .bl b,u=>u=Value.bool b
 | .int i,u=>∃t,u=Value.int i t
 | .str x,u=>∃t,u=Value.str x t
 | .Ec b,u=>∃t,u=Value.bytes b t
 | .Nw b,u=>∃t,u=Value.float b t
 | .ref a,u=>u=Value.ref a
 | .ty n,u=>u=Value.type n
abbrev Ψ:List V->List Value->Prop:=Paired aj
def Ψ.length{xs:List V}(r:Ψ xs us):xs.length=us.length:=Paired.length r
def Ψ.get:∀{xs:List V} {us:List Value} {i:Nat} {x:V},Ψ xs us->xs[i]? =some x->∃u,us[i]? =some u/\aj x u
 | _,_,_,_,.nil,e=>by simp at e
 | _,_,0,_,.cons r _,e=>by simp at e;subst e;exact⟨_,rfl,r⟩
 | _,_,i+1,x,.cons _ t,e=>by have⟨u,h1,h2⟩:=Ψ.get (i:=i) (x:=x) t (by simpa using e);exact⟨u,by simpa using h1,h2⟩
def Ψ.set{x:V}{u:Value}(r:aj x u):∀{xs:List V} {us:List Value} (i:Nat),Ψ xs us->Ψ (xs.set i x) (us.set i u)
 | _,_,_,.nil=>.nil
 | _,_,0,.cons _ t=>.cons r t
 | _,_,i+1,.cons q t=>.cons q (Ψ.set r i t)
def Ψ.append:∀{xs ys:List V} {us ws:List Value},Ψ xs us->Ψ ys ws->Ψ (xs++ys) (us++ws)
 | _,_,_,_,.nil,s=>s
 | _,_,_,_,.cons r t,s=>.cons r (Ψ.append t s)
def Ψ.take:∀{xs:List V} {us:List Value} (n:Nat),Ψ xs us->Ψ (xs.take n) (us.take n)
 | _,_,0,_=>.nil
 | _,_,_+1,.nil=>.nil
 | _,_,n+1,.cons r t=>.cons r (Ψ.take n t)
def Ψ.drop:∀{xs:List V} {us:List Value} (n:Nat),Ψ xs us->Ψ (xs.drop n) (us.drop n)
 | _,_,0,r=>r
 | _,_,_+1,.nil=>.nil
 | _,_,n+1,.cons _ t=>Ψ.drop n t
def gh:Option V->Option Value->Prop
 | some v,some u=>aj v u
 | none,none=>True
 | _,_=>False
def KV{κ:Type}:List (κ×V)->List (κ×Value)->Prop:=Paired λ(p:κ×V) (q:κ×Value)=>p.1=q.1/\aj p.2 q.2
def kV:Key->V
 | .inl i=>.int i
 | .inr x=>.str x
inductive HO where
 | lst (xs:List V)
 | tup (xs:List V)
 | dK (Ο:List (Key×V))| dT (Ο:List (List Key×V))
 | set (S:Int->Bool) (n:Nat)
 | ins (C dx:Addr) (fs:List (Str×V))
 | own (x:Addr)
 | xd (fs:List (Str×V))
 | met (f x:Addr)
 | Su (lo hi:Int)
 | vJ (o:Obj) (u:HO)
 | Ir (ps:Array Value)
 | ext (φ:Heap->Prop)
variable{o:HO}
abbrev Hp:=Addr->Option HO
def upd(H:Hp)(a:Addr)(o:HO):Hp:=λb=>if b=a then some o else H b
def Η{H:Hp}:upd H a o a=some o:=by unfold upd;rw[if_pos rfl]
def ξ{H:Hp}(h:b≠a):upd H a o b=H b:=by unfold upd;rw[if_neg h]
def wC{H:Hp}{u:HO}(h:H a=some o)(h':H b=some u)(d:o≠u):a≠b:=by intro e;subst e;rw[h]at h';exact d (aaw h')
def aw{H:Hp}(h:H a=some o)(h':H b=none):a≠b:=by intro e;subst e;rw[h]at h';cases h'
section
variable(P:Program)(w:World)
def aA(H:Hp)(h:Heap)(a:Addr):HO->Prop
 | .lst xs=>xs.length<=sizeLine/\∃(its:List Value) (n:Nat),Ψ xs its/\h.get? a=some {cls:=.type "list",data:=.seq its.toArray n}
 | .tup xs=>xs.length<=sizeLine/\∃its:List Value,Ψ xs its/\IsTup h a its.toArray
 | .dK Ο=>Ο.length<=sizeLine/\(a==sysModules)=false/\∃vs,KV Ο vs/\h.DictOf (bM P w) a vs
 | .dT Ο=>Ο.length<=sizeLine/\(a==sysModules)=false/\∃xs:List (List Key×Addr×Value),
   Paired (λ(p:List Key×V) (q:List Key×Addr×Value)=>p.1=q.1/\H q.2.1=some (.tup (p.1.map kV))/\aj p.2 q.2.2) Ο xs/\
   ∃o es ep,h.get? a=some o/\o.ExactDict/\o.data= .dict es ep/\es.toList=xs.map (entryOfKey (tupleKind (bM P w)))/\(xs.map (·.1)).Nodup
 | .set S n=>h.SetOf (intKind P w) a S n
 | .ins C dx fs=>H dx=some (.own a)/\fs.length<=1000/\dx≠a/\h.get? a=some (PySem.W.instObj C dx)/\
   ∃mA,h.Ns1 dx mA/\(∀f,gh (fs.lookup f) (mA f))/\PySem.Within mA (fs.map (·.1))
 | .own _=>∃o,h.get? a=some o
 | .xd fs=>∃mA,h.Ns1 a mA/\∀f,gh (fs.lookup f) (mA f)
 | .Su lo hi=>∃t u v,h.get? a=some {cls:=.type "range",data:=.fields #[.int lo t,.int hi u,.int 1 v]}
 | .vJ o u=>h.get? a=some o/\aA H h a u
 | .Ir ps=>h.get? a=some {cls:=.none,data:=.fields ps}
 | .met f x=>h.get? a=some (PySem.W.methodObj (.ref f) (.ref x))
 | .ext φ=>φ h/\(∃o,h.get? a=some o)/\∀h1 h2:Heap,φ h1->(∀o,h1.get? a=some o->h2.get? a=some o)->φ h2
def iE(H:Hp)(h:Heap):Prop:=∀a o,H a=some o->aA P w H h a o
end
section
variable{H H':Hp}
def aA.lt(x:aA P w H h a o):a < h.objs.size:=by
 cases o with
 | lst xs=>have⟨_,_,_,_,e⟩:=x;exact aan e
 | tup xs=>have⟨_,_,_,p⟩:=x;exact p.lt
 | dK Ο=>have⟨_,_,_,_,o,_,_,e,_⟩:=x;exact aan e
 | dT Ο=>have⟨_,_,_,_,o,_,_,e,_⟩:=x;exact aan e
 | set S n=>have⟨o,_,_,_,e,_⟩:=x;exact aan e
 | ins C dx fs=>have⟨_,_,_,e,_⟩:=x;exact aan e
 | own y=>have⟨_,e⟩:=x;exact aan e
 | xd fs=>have⟨_,⟨_,_,_,e,_⟩,_⟩:=x;exact aan e
 | Su lo hi=>have⟨_,_,_,e⟩:=x;exact aan e
 | vJ ob u=>have⟨e,_⟩:=x;exact aan e
 | Ir ps=>exact aan (show h.get? a=some _ from x)
 | met f y=>exact aan (show h.get? a=some _ from x)
 | ext φ=>have⟨_,⟨_,e⟩,_⟩:=x;exact aan e
def Paired.Oj{α β:Type}{F G:α->β->Prop}:∀{l₁:List α} {l₂:List β},Paired F l₁ l₂->(∀a b,F a b->G a b)->Paired G l₁ l₂
 | _,_,.nil,_=>.nil
 | _,_,.cons r t,f=>.cons (f _ _ r) (Paired.Oj t f)
def aA.oq(x:aA P w H h a o)(k:∀b u,(b=a\/H b=some (.own a))->h.get? b=some u->h'.get? b=some u)
  (ho:∀b,H b=some (.own a)->H' b=some (.own a)) (ht:∀b xs,H b=some (.tup xs)->H' b=some (.tup xs)):aA P w H' h' a o:=by
 induction o with
 | lst xs=>have⟨z,its,n,r,e⟩:=x;exact⟨z,its,n,r,k _ _ (.inl rfl) e⟩
 | tup xs=>have⟨z,its,r,ob,e,c⟩:=x;exact⟨z,its,r,ob,k _ _ (.inl rfl) e,c⟩
 | dK Ο=>have⟨z,y,vs,r,ob,es,ep,e,c⟩:=x;exact⟨z,y,vs,r,ob,es,ep,k _ _ (.inl rfl) e,c⟩
 | dT Ο=>
  have⟨z,y,xs,r,ob,es,ep,e,c⟩:=x;exact⟨z,y,xs,Paired.Oj r λp q z=>⟨z.1,ht _ _ z.2.1,z.2.2⟩,ob,es,ep,k _ _ (.inl rfl) e,c⟩
 | set S n=>have⟨ob,es,ep,t,e,c⟩:=x;exact⟨ob,es,ep,t,k _ _ (.inl rfl) e,c⟩
 | ins C dx fs=>
  have⟨d,z,ne,e,mA,⟨od,es,ep,e2,c⟩,r⟩:=x;exact⟨ho _ d,z,ne,k _ _ (.inl rfl) e,mA,⟨od,es,ep,k _ _ (.inr d) e2,c⟩,r⟩
 | own y=>have⟨ob,e⟩:=x;exact⟨ob,k _ _ (.inl rfl) e⟩
 | xd fs=>have⟨mA,⟨od,es,ep,e,c⟩,r⟩:=x;exact⟨mA,⟨od,es,ep,k _ _ (.inl rfl) e,c⟩,r⟩
 | Su lo hi=>have⟨t,u,v,e⟩:=x;exact⟨t,u,v,k _ _ (.inl rfl) e⟩
 | vJ ob u ih=>have⟨e,q⟩:=x;exact⟨k _ _ (.inl rfl) e,ih q⟩
 | Ir ps=>
  have e:h.get? a=some {cls:=.none,data:=.fields ps}:=x;show h'.get? a=some {cls:=.none,data:=.fields ps};exact k a _ (.inl rfl) e
 | met f y=>
  have e:h.get? a=some (PySem.W.methodObj (.ref f) (.ref y)):=x;show h'.get? a=some (PySem.W.methodObj (.ref f) (.ref y));exact k a _ (.inl rfl) e
 | ext φ=>have⟨p,⟨o,e⟩,st⟩:=x;exact⟨st _ _ p λo q=>k _ _ (.inl rfl) q,⟨o,k _ _ (.inl rfl) e⟩,st⟩
def iE.lt(x:iE P w H h)(e:H a=some o):a < h.objs.size:=(x a o e).lt
def iE.fresh(x:iE P w H h)(e:h.objs.size<=a):H a=none:=by
 cases q:H a with
 | none=>rfl
 | some u=>exact aaG (aau (x.lt q) e) (abj _)
def iE.kept(x:iE P w H h)(k:∀b u,h.get? b=some u->h'.get? b=some u):iE P w H h':=λa o e=>
 (x a o e).oq (λb u _ q=>k b u q) (λ_ q=>q) λ_ _ q=>q
def iE.laid(x:iE P w H h)(k:∀b u,h.get? b=some u->h'.get? b=some u)(hp:h.objs.size<=a)(new:aA P w (upd H a o) h' a o):iE P w (upd H a o) h':=λb u e=>by
 have hn:=x.fresh hp;by_cases hb:b=a
 ·subst hb;rw[Η]at e;cases e;exact new
 ·rw[ξ hb]at e;exact(x b u e).oq (λc v _ q=>k c v q) (λc q=>by rw[ξ (aw q hn)];exact q) λc xs q=>by rw[ξ (aw q hn)];exact q
end
def Rd(H:Hp)(a:Addr)(u:HO):Prop:=H a=some u\/∃o,H a=some (.vJ o u)
def Rd.ok{H:Hp}{u:HO}(r:Rd H a u)(x:iE P w H h):aA P w H h a u:=by
 rcases r with r| ⟨o,r⟩
 ·exact x a u r
 ·have⟨_,q⟩:=x a _ r;exact q
def Rv:Option HO->Prop
 | some (.lst _)=>True
 | some (.dK _)=>True
 | some (.dT _)=>True
 | some (.set _ _)=>True
 | some (.ins _ _ _)=>True
 | some (.ext _)=>True
 | _=>False
section
variable{H:Hp}{x e:Addr}{o':HO}
def iE.write(ok:iE P w H h)(mu:Rv (H x))(he:e=x\/H e=some (.own x))(k:∀b u,b≠e->h.get? b=some u->h'.get? b=some u)(LX:∃u,h'.get? e=some u)
  (new:aA P w (upd H x o') h' x o'):iE P w (upd H x o') h':=λb u q=>by
 have Q2:∀c y,H c=some (.own y)->c≠x:=λc y r z=>by subst z;rw[r]at mu;exact mu
 have TU:∀c xs,H c=some (.tup xs)->c≠x:=λc xs r z=>by subst z;rw[r]at mu;exact mu
 by_cases hb:b=x
 ·subst hb;rw[Η]at q;cases q;exact new
 ·rw[ξ hb]at q;by_cases Ga:b=e
  ·have q':H b=some (.own x):=by
    rcases he with z| z
    ·exact aaG (Ga.trans z) hb
    ·rw[Ga];exact z
   rw[q]at q';cases q';have⟨v,hv⟩:=LX;exact⟨v,by rw[Ga];exact hv⟩
  ·refine(ok b u q).oq (λc v hc r=>k c v ?_ r) (λc r=>by rw[ξ (Q2 c b r)];exact r) λc xs r=>by rw[ξ (TU c xs r)];exact r
   rcases hc with rfl| hc
   ·exact Ga
   ·rintro rfl;rcases he with z| z
    ·exact Q2 c b hc z
    ·rw[hc]at z;cases z;exact hb rfl
end
structure Un(fs ex:List Addr)(H H':Hp)(h h':Heap):Prop where
 keep:∀b o,h.get? b=some o->H b=none->b∉fs->b∉ex->h'.get? b=some o
 slot:∀b o,h.get? b=some o->H b=none->b∈fs->b∉ex->∃sl,h'.get? b=some {o with slots:=sl}
 free:∀b o,h.get? b=some o->H b=none->b∉ex->H' b=none
 there:∀b o,h.get? b=some o->b∉ex->∃o',h'.get? b=some o'
 jj:∀b xs,H b=some (.tup xs)->H' b=some (.tup xs)
 iA:∀b o u,H b=some (.vJ o u)->H' b=some (.vJ o u)
 iN:∀b ps,H b=some (.Ir ps)->∃more,H' b=some (.Ir (ps++more))
section
variable{fs Ef ex Yd:List Addr}{H H1 H2:Hp}{h1 h2:Heap}{x e:Addr}
def Un.any(u:Un fs ex H H1 h h1){ob:Obj}(q:h.get? b=some ob)(n:H b=none)(hx:b∉ex):∃sl,h1.get? b=some {ob with slots:=sl}:=by
 by_cases hb:b∈fs
 ·exact u.slot b ob q n hb hx
 ·exact⟨ob.slots,u.keep b ob q n hb hx⟩
def Un.kept(k:∀b u,h.get? b=some u->h'.get? b=some u):Un fs ex H H h h':=
 ⟨λb ob q _ _ _=>k b ob q,λb ob q _ _ _=>⟨ob.slots,k b ob q⟩,λ_ _ _ n _=>n,λb ob q _=>⟨ob,k b ob q⟩,λ_ _ q=>q,λ_ _ _ q=>q,λ_ ps q=>⟨#[],by rw[q];simp⟩⟩
def Un.refl:Un fs ex H H h h:=Un.kept λ_ _ q=>q
def Un.laid(k:∀b u,h.get? b=some u->h'.get? b=some u)(hp:h.objs.size<=a)(hn:H a=none):Un fs ex H (upd H a o) h h' where
 keep:=λb u q _ _ _=>k b u q
 slot:=λb u q _ _ _=>⟨u.slots,k b u q⟩
 free:=λb u q n _=>by rw[ξ (aaH (aau (aan q) hp))];exact n
 there:=λb u q _=>⟨u,k b u q⟩
 jj:=λb xs q=>by rw[ξ (aw q hn)];exact q
 iA:=λb u xs q=>by rw[ξ (aw q hn)];exact q
 iN:=λb ps q=>⟨#[],by rw[ξ (aw q hn),q];simp⟩
def Un.write(mu:Rv (H x))(he:e=x\/H e=some (.own x))(k:∀b u,b≠e->h.get? b=some u->h'.get? b=some u)(LX:∃u,h'.get? e=some u):Un fs ex H (upd H x o) h h':=by
 have hx:∀b,H b=none->b≠x:=λb n z=>by subst z;rw[n]at mu;exact mu
 have hb:∀b,H b=none->b≠e:=λb n z=>by
  subst z;rcases he with r| r
  ·exact hx b n r
  ·rw[n]at r;cases r
 have hm:∀b u,H b=some u->¬Rv (some u)->b≠x:=λb u q nm z=>by subst z;rw[q]at mu;exact nm mu
 refine⟨λb u q n _ _=>k b u (hb b n) q,λb u q n _ _=>⟨u.slots,k b u (hb b n) q⟩,λb u q n _=>by rw[ξ (hx b n)];exact n,λb u q _=>?_,
  λb xs q=>by rw[ξ (hm b _ q λz=>z)];exact q,λb u xs q=>by rw[ξ (hm b _ q λz=>z)];exact q,λb ps q=>⟨#[],by rw[ξ (hm b _ q λz=>z),q];simp⟩⟩
 by_cases Ga:b=e
 ·subst Ga;exact LX
 ·exact⟨u,k b u Ga q⟩
end
def Sh(h:Heap)(H:Hp):List Addr:=(List.range h.objs.size).filter λa=>(H a).isSome
def uc(h:Heap)(H:Hp):Heap:=PySem.W.hideAll h (Sh h H)
def D1(h:Heap)(H:Hp):(uc h H).objs.size=h.objs.size:=PySem.W.hideAll_size _ _
def FC{H:Hp}{o:Obj}(e:h.get? b=some o)(n:H b=none):(uc h H).get? b=some o:=
 PySem.W.hideAll_get _ e λhm=>by have q:(H b).isSome=true:=(List.mem_filter.mp hm).2;rw[n]at q;simp at q
def K6{H:Hp}{o:Obj}(e:(uc h H).get? b=some o):h.get? b=some o/\H b=none:=by
 have e':h.get? b=some o:=PySem.W.of_hideAll (Sh h H) e;refine⟨e',?_⟩;cases q:H b with
 | none=>rfl
 | some x=>
  have hm:b∈Sh h H:=List.mem_filter.mpr ⟨List.mem_range.mpr (Heap.lt_size e'),by simp[q]⟩;have z:(uc h H).get? b=none:=PySem.W.hideAll_none (Sh h H) hm;rw[z]at e;cases e
structure Mod(K:gV)(mg:Str->Option Value)(base:Heap):Prop where
 Sw:K.In base
 glob:base.Ns mainGlobals mg
 blt:∃mb,base.Ns builtinsNs mb/\∀x:Str,x≠"__name__"->mb x=bootBuiltins x
 nolimit:base.NoLimit
structure Cx where
 prog:Program
 w:World
 K:gV
 mg:Str->Option Value
 base:Heap
 A:Around
 N:List Str
 s₀:Shared
 H₀:Hp
 env:Env
 outer:List Env
 stack:List Env
 ex:List Addr
 fn:Str->Bool
 calm:Bool
 pn:List (Addr×Obj)
 xe:Value->Shared->Prop
variable{X:Cx}
def jg(l:List Env):List Addr:=l.filterMap (·.frame)
abbrev Cx.fs(X:Cx):List Addr:=jg X.outer
def QB(sc:Scope)(x:Str):Prop:=sc.names.lookup x=some .local\/sc.names.lookup x=some .cell\/sc.names.lookup x=some .free
def Loc(sc:Scope)(x:Str):Prop:=sc.names.lookup x=some .local\/sc.names.lookup x=some .cell
def V5(env:Env)(h:Heap)(m:Str->Option Value)(x:Str)(u:Value):Prop:=
 (env.kindOf x=some .local/\m x=some u)\/((env.kindOf x=some .cell\/env.kindOf x=some .free)/\∃c,env.cells.lookup x=some c/\h.IsCell c (some u))
structure Cx.Ok(X:Cx):Prop where
 mod:Mod X.K X.mg X.base
 kind:X.env.scope.kind= .function
 glob:X.env.globals=mainGlobals
 blt:X.env.builtins=builtinsNs
 above:X.s₀.heap.objs.size<=X.env.locals
 inj:∀x y c,X.env.cells.lookup x=some c->X.env.cells.lookup y=some c->x=y
 has:∀x,(X.env.kindOf x=some .cell\/X.env.kindOf x=some .free)->∃c,X.env.cells.lookup x=some c
 J_:∀x c,X.fn x=true->X.env.cells.lookup x=some c->X.s₀.heap.objs.size<=c
 hd:X.calm=true->X.A.handled=none
 frames:X.A.frames=some X.stack
 Ls:X.stack=X.outer\/(X.stack=X.env::X.outer/\X.env.frame=some X.env.locals)
 Iv:∀b∈X.ex,b≠X.env.locals/\∀x c,X.env.cells.lookup x=some c->c≠b
 bs:∀b o,X.base.get? b=some o->X.s₀.heap.get? b=some o/\X.H₀ b=none
 Dk:X.base.objs.size<=X.s₀.heap.objs.size
 rG:∀b o,X.base.get? b=some o->b∉X.ex
 rE:∀b∈X.ex,b∉X.fs
 i9:X.s₀.heap.FunFrames X.base X.outer
 FP:∀b∈X.fs,X.H₀ b=none
structure Inv(X:Cx)(δ:List (Addr×Obj))(σ:List (Option V))(H:Hp)(s:Shared):Prop where
 ok:X.Ok
 os:s.os=X.s₀.os
 bare:AllBare s.gens
 base:Un X.fs X.ex X.H₀ H X.s₀.heap s.heap
 loc:∃m,s.heap.Ns X.env.locals m/\∀(i:Nat) (x:Str) (v:V),X.N[i]? =some x->σ[i]? =some (some v)->QB X.env.scope x->∃u,aj v u/\V5 X.env s.heap m x u
 cell:∀x c,X.env.cells.lookup x=some c->∃v,s.heap.IsCell c v
 free:H X.env.locals=none
 cX:∀x c,X.env.cells.lookup x=some c->H c=none
 pin:∀p∈X.pn++δ,s.heap.get? p.1=some p.2/\H p.1=none/\p.1≠X.env.locals/\p.1∉X.fs/\∀v,p.2.data≠ .cell v
 av:iE X.prog X.w H s.heap
 len:σ.length=X.N.length
section
variable{σ:List (Option V)}{H H':Hp}
def Cx.Ok.S8(ok:X.Ok){o:Obj}(e:X.base.get? b=some o):b∉X.fs:=λhb=>by have:=(ok.i9.mem hb).1;rw[e]at this;cases this
def Inv.bs(I:Inv X δ σ H s):∀b o,X.base.get? b=some o->s.heap.get? b=some o/\H b=none:=λb o e=>
 ⟨I.base.keep b o (I.ok.bs b o e).1 (I.ok.bs b o e).2 (I.ok.S8 e) (I.ok.rG b o e),I.base.free b o (I.ok.bs b o e).1 (I.ok.bs b o e).2 (I.ok.rG b o e)⟩
def Inv.bk(I:Inv X δ σ H s):∀b o,X.base.get? b=some o->s.heap.get? b=some o:=λb o e=>(I.bs b o e).1
def Inv.mod(I:Inv X δ σ H s):Mod X.K X.mg X.base:=I.ok.mod
def Inv.gp(I:Inv X δ σ H s):X.K.In s.heap:=I.ok.mod.Sw.keeps I.bk
def Inv.lt(I:Inv X δ σ H s):X.env.locals < s.heap.objs.size:=let ⟨_,hn,_⟩:=I.loc;hn.lt
def Inv.sz(I:Inv X δ σ H s):X.s₀.heap.objs.size<=s.heap.objs.size:=aaD I.ok.above (Nat.le_of_lt I.lt)
def Inv.T6(I:Inv X δ σ H s)(h:s.heap.objs.size<=a):a∉X.fs:=λhb=>by have⟨_,o,ho,_⟩:=I.ok.i9.mem hb;exact aaG (aau (aan ho) (aaD I.sz h)) (abj _)
def Inv.BY(I:Inv X δ σ H s):∀x c,X.env.cells.lookup x=some c->c≠X.env.locals:=λx c e z=>by have⟨v,o,ho,hd⟩:=I.cell x c e;have⟨m,⟨o',es,ep,j0,uv,_⟩,_⟩:=I.loc;rw[z,j0]at ho;cases ho;rw[uv]at hd;cases hd
def Inv.i9(I:Inv X δ σ H s):s.heap.FunFrames X.base X.outer:=by
 have all:∀(l:List Env),(∀b∈jg l,b∈X.fs)->X.s₀.heap.FunFrames X.base l->s.heap.FunFrames X.base l:=by
  intro l
  induction l with
  | nil=>intro _ _;trivial
  | cons env r ih=>
   intro hs hl;have⟨hk,⟨L,o,hf,hn,ho,hd⟩,hr⟩:=hl;have hL:L∈X.fs:=hs L (by unfold jg;rw[List.filterMap_cons,hf];exact List.mem_cons_self);have⟨sl,e⟩:=I.base.slot L o ho (I.ok.FP L hL) hL λz=>I.ok.rE L z hL;exact⟨hk,⟨L,_,hf,hn,e,hd⟩,ih (λb hb=>hs b (by unfold jg;rw[List.filterMap_cons,hf];exact List.mem_cons_of_mem _ hb)) hr⟩
 exact all X.outer (λ_ hb=>hb) I.ok.i9
def Inv.stack(I:Inv X δ σ H s):s.heap.FunFrames X.base X.stack:=by
 rcases I.ok.Ls with e| ⟨e,hf⟩
 ·rw[e];exact I.i9
 ·rw[e];have⟨m,hn,_⟩:=I.loc;refine .cons (by rw[I.ok.kind];decide) hf hn ?_ I.i9;exact Heap.get?_none_of_le (aaD I.ok.Dk I.ok.above)
def Inv.nj(I:Inv X δ σ H s):∀b∈jg X.stack,b∈X.env.locals::X.fs:=λb hb=>by
 rcases I.ok.Ls with e| ⟨e,hf⟩
 ·rw[e]at hb;exact aag _ hb
 ·rw[e]at hb;unfold jg at hb;rw[List.filterMap_cons,hf]at hb;exact hb
def Inv.jq(I:Inv X δ σ H s):∀b∈jg X.stack,H b=none:=λb hb=>by
 rcases aam.mp (I.nj b hb) with e| hb
 ·rw[e];exact I.free
 ·have⟨_,o,ho,_⟩:=I.ok.i9.mem hb;exact I.base.free b o ho (I.ok.FP b hb) λz=>I.ok.rE b z hb
def Inv.step{t':Nat}{d':Drawn}(I:Inv X δ σ H s)
  (Ee:∀b∈ch,(b∈X.ex\/X.s₀.heap.objs.size<=b)/\b≠X.env.locals/\(∀x c,X.env.cells.lookup x=some c->c≠b)/\∀p∈X.pn++δ,p.1≠b)
  (keep:∀b o,b≠X.env.locals->b∉X.fs->b∉ch->s.heap.get? b=some o->H b=none->h'.get? b=some o)
  (slot:∀b o,b≠X.env.locals->b∈X.fs->b∉ch->s.heap.get? b=some o->H b=none->∃sl,h'.get? b=some {o with slots:=sl}) (free:∀b o,b∉ch->s.heap.get? b=some o->H b=none->H' b=none)
  (there:∀b o,b∉ch->s.heap.get? b=some o->∃o',h'.get? b=some o')
  (jj:∀b xs,H b=some (.tup xs)->H' b=some (.tup xs)) (iA:∀b o u,H b=some (.vJ o u)->H' b=some (.vJ o u)) (iN:∀b ps,H b=some (.Ir ps)->∃more,H' b=some (.Ir (ps++more)))
  (ns:∀m,s.heap.Ns X.env.locals m->h'.Ns X.env.locals m) (av:iE X.prog X.w H' h') (hg:AllBare g'):
  Inv X δ σ H' {s with heap:=h',gens:=g',drawn:=d',toks:=t'}:=by
 have WI:∀b o,X.s₀.heap.get? b=some o->b≠X.env.locals:=λb o e=>aaH (aau (aan e) I.ok.above);have SE:∀b o,X.s₀.heap.get? b=some o->b∉X.ex->b∉ch:=λb o e hx hb=>by
  rcases(Ee b hb).1 with z| z
  ·exact hx z
  ·exact aaG (aau (aan e) z) (abj _)
 have cellK:∀x c,X.env.cells.lookup x=some c->∀v,s.heap.IsCell c v->h'.IsCell c v:=λx c e v ⟨o,ho,hd⟩=>by
  have P2:c∉ch:=λz=>(Ee c z).2.2.1 x c e rfl;by_cases hc:c∈X.fs
  ·have⟨sl,q⟩:=slot c o (I.BY x c e) hc P2 ho (I.cX x c e);exact⟨_,q,hd⟩
  ·exact⟨o,keep c o (I.BY x c e) hc P2 ho (I.cX x c e),hd⟩
 refine⟨I.ok,I.os,hg,⟨λb o e n hb hx=>?_,λb o e n hb hx=>?_,λb o e n hx=>?_,λb o e hx=>?_,λb xs e=>jj b xs (I.base.jj b xs e),λb o xs e=>iA b o xs (I.base.iA b o xs e),λb ps e=>?_⟩,?_,λx c e=>?_,?_,λx c e=>?_,λp hp=>?_,av,I.len⟩
 ·exact keep b o (WI b o e) hb (SE b o e hx) (I.base.keep b o e n hb hx) (I.base.free b o e n hx)
 ·have⟨sl,e1⟩:=I.base.slot b o e n hb hx;have⟨Xs,e2⟩:=slot b _ (WI b o e) hb (SE b o e hx) e1 (I.base.free b o e n hx);exact⟨Xs,e2⟩
 ·have⟨o',e1⟩:=I.base.there b o e hx;exact free b o' (SE b o e hx) e1 (I.base.free b o e n hx)
 ·have⟨o',e1⟩:=I.base.there b o e hx;exact there b o' (SE b o e hx) e1
 ·have⟨m1,e1⟩:=I.base.iN b ps e;have⟨m2,e2⟩:=iN b _ e1;exact⟨m1++m2,by rw[e2,Array.append_assoc]⟩
 ·have⟨m,hn,hl⟩:=I.loc;refine⟨m,ns m hn,λi x v e1 e2 e3=>?_⟩;have⟨u,r,l⟩:=hl i x v e1 e2 e3;refine⟨u,r,?_⟩;rcases l with l| ⟨k,c,e,z⟩
  ·exact .inl l
  ·exact .inr ⟨k,c,e,cellK x c e _ z⟩
 ·have⟨v,z⟩:=I.cell x c e;exact⟨v,cellK x c e v z⟩
 ·have⟨m,⟨o,_,_,ho,_⟩,_⟩:=I.loc;exact free _ o (λz=>(Ee _ z).2.1 rfl) ho I.free
 ·have⟨v,o,ho,hd⟩:=I.cell x c e;exact free c o (λz=>(Ee c z).2.2.1 x c e rfl) ho (I.cX x c e)
 ·have⟨e,n,ne,nf,d⟩:=I.pin p hp;have P2:p.1∉ch:=λz=>(Ee p.1 z).2.2.2 p hp rfl;exact⟨keep p.1 p.2 ne nf P2 e n,free p.1 p.2 P2 e n,ne,nf,d⟩
def Inv.un{t':Nat}(I:Inv X δ σ H s)(u:Un X.fs [] H H' s.heap h')(av:iE X.prog X.w H' h'):Inv X δ σ H' {s with heap:=h',toks:=t'}:=by
 have⟨m,⟨o,es,ep,ho,r⟩,_⟩:=id I.loc;have⟨sl,hL⟩:=u.any ho I.free (by simp)
 exact I.step (g':=s.gens) (d':=s.drawn) (ch:=[]) (λ_ z=>nomatch z) (λb o _ hb _ e n=>u.keep b o e n hb (by simp)) (λb o _ hb _ e n=>u.slot b o e n hb (by simp)) (λb o _ e n=>u.free b o e n (by simp)) (λb o _ e=>u.there b o e (by simp)) u.jj u.iA u.iN (λm' hm=>by
  have⟨o',SQ,Vt,j0,r'⟩:=hm;rw[ho]at j0;cases j0
  exact⟨_,SQ,Vt,hL,r'⟩) av I.bare
def Inv.call{t':Nat}{d':Drawn}(I:Inv X δ σ H s)(u:Un (jg X.stack) ch H H' s.heap h')(av:iE X.prog X.w H' h')(hg:AllBare g')
  (Ee:∀b∈ch,(b∈X.ex\/X.s₀.heap.objs.size<=b)/\b≠X.env.locals/\(∀x c,X.env.cells.lookup x=some c->c≠b)/\∀p∈X.pn++δ,p.1≠b):
  Inv X δ σ H' {s with heap:=h',gens:=g',drawn:=d',toks:=t'}:=by
 have⟨m,⟨o,es,ep,ho,r⟩,_⟩:=id I.loc;have⟨sl,hL⟩:=u.any ho I.free λz=>(Ee _ z).2.1 rfl
 exact I.step (ch:=ch) Ee (λb o hL hb hc e n=>u.keep b o e n (λz=>(aam.mp (I.nj b z)).elim hL hb) hc) (λb o _ _ hc e n=>u.any e n hc) (λb o hc e n=>u.free b o e n hc) (λb o hc e=>u.there b o e hc) u.jj u.iA u.iN (λm' hm=>by
  have⟨o',SQ,Vt,j0,r'⟩:=hm;rw[ho]at j0;cases j0
  exact⟨_,SQ,Vt,hL,r'⟩) av hg
def Inv.turned{t':Nat}{it:Addr}(I:Inv X δ σ H s)(k:∀b o,b≠it->s.heap.get? b=some o->h'.get? b=some o)(hn:H it=none)(hL:it≠X.env.locals)
  (h1:it∈X.ex\/X.s₀.heap.objs.size<=it) (h2:∀x c,X.env.cells.lookup x=some c->c≠it) (h3:∀p∈X.pn++δ,p.1≠it):Inv X δ σ H {s with heap:=h',toks:=t'}:=by
 have Wt:∀b u,H b=some u->b≠it:=λb u e z=>by rw[z,hn]at e;cases e
 refine I.step (g':=s.gens) (d':=s.drawn) (ch:=[it]) (λb hb=>?_) (λb o _ _ hc e _=>k b o (λz=>hc (by simp[z])) e) (λb o _ _ hc e _=>⟨o.slots,k b o (λz=>hc (by simp[z])) e⟩) (λ_ _ _ _ n=>n)
  (λb o hc e=>⟨o,k b o (λz=>hc (by simp[z])) e⟩) (λ_ _ e=>e) (λ_ _ _ e=>e) (λb ps e=>⟨#[],by rw[e];simp⟩) (λm hm=>?_) (λb u e=>?_) I.bare
 ·have e:b=it:=by simpa using hb
  subst e;exact⟨h1,hL,h2,h3⟩
 ·have⟨o,es,ep,ho,r⟩:=hm;exact⟨o,es,ep,k _ o (Ne.symm hL) ho,r⟩
 ·refine(I.av b u e).oq (λc v hc q=>k c v ?_ q) (λ_ q=>q) λ_ _ q=>q;rcases hc with z| z
  ·rw[z];exact Wt b u e
  ·exact Wt c _ z
def Inv.tok(I:Inv X δ σ H s)(t:Nat):Inv X δ σ H {s with toks:=t}:=I.un (h':=s.heap) (t':=t) Un.refl I.av
def Inv.kept{t':Nat}(I:Inv X δ σ H s)(k:∀b u,s.heap.get? b=some u->h'.get? b=some u):Inv X δ σ H {s with heap:=h',toks:=t'}:=I.un (Un.kept k) (I.av.kept k)
def Inv.laid{t':Nat}(I:Inv X δ σ H s)(k:∀b u,s.heap.get? b=some u->h'.get? b=some u)(hp:s.heap.objs.size<=a)(new:aA X.prog X.w (upd H a o) h' a o):
  Inv X δ σ (upd H a o) {s with heap:=h',toks:=t'}:=I.un (Un.laid k hp (I.av.fresh hp)) (I.av.laid k hp new)
def Inv.write{x e:Addr}{t':Nat}(I:Inv X δ σ H s)(mu:Rv (H x))(he:e=x\/H e=some (.own x))(k:∀b u,b≠e->s.heap.get? b=some u->h'.get? b=some u)(LX:∃u,h'.get? e=some u)
  (new:aA X.prog X.w (upd H x o) h' x o):Inv X δ σ (upd H x o) {s with heap:=h',toks:=t'}:=I.un (Un.write mu he k LX) (I.av.write mu he k LX new)
def Inv.BB{nV:List (Addr×Obj)}(I:Inv X δ σ H s)(h:∀p∈nV,s.heap.get? p.1=some p.2/\H p.1=none/\p.1≠X.env.locals/\p.1∉X.fs/\∀v,p.2.data≠ .cell v):Inv X nV σ H s:=
 ⟨I.ok,I.os,I.bare,I.base,I.loc,I.cell,I.free,I.cX,λp hp=>(aaj.mp hp).elim (λz=>I.pin p (aa1 _ z)) (h p),I.av,I.len⟩
def qI{N:List Str}(hN:N.Nodup){j:Nat}(a:N[i]? =some x)(b:N[j]? =some x):i=j:=by have⟨h1,e1⟩:=aai.mp a;have⟨h2,e2⟩:=aai.mp b;exact(List.getElem_inj hN).mp (e1.trans e2.symm)
def mB{Q:Unit->Shared->Prop}(I:Inv X δ σ H s)(hN:X.N.Nodup)(hi:X.N[i]? =some x)(hx:Loc X.env.scope x)(r:aj v u)
  (h:∀s',Inv X δ (σ.set i (some v)) H s'->(∃a,Heap.SameBut a s.heap s'.heap/\(a=X.env.locals\/X.env.cells.lookup x=some a))->Q Unit.unit s') (hf:X.fn x=true\/X.env.scope.names.lookup x=some .local:=by first| exact .inl rfl| exact .inr rfl| assumption):wpAny M A (storeName X.env x u) Q E s:=by
 have⟨m,hn,hl⟩:=id I.loc;have Hs:(X.env.scope.kind== .class|| (X.env.scope.kind== .module&&X.env.locals != X.env.globals))=false:=by rw[I.ok.kind];rfl
 have QJ:i < σ.length:=by rw[I.len];exact(aai.mp hi).1
 have BY:=I.BY;have tracked:∀{a:Addr} {h':Heap},(∃o,s.heap.get? a=some o/\H a=none)->Heap.SameBut a s.heap h'->iE X.prog X.w H h':=λ{a h'} ha hs b ob e=>by
  have⟨_,_,LR⟩:=ha;refine(I.av b ob e).oq (λc w' hc q=>(hs.2 c ?_).trans q) (λ_ q=>q) λ_ _ q=>q;rintro rfl;rcases hc with rfl| hc
  ·rw[LR]at e;cases e
  ·rw[LR]at hc;cases hc
 rcases hx with hk| hk
 ·refine wpAny_storeName_local hk hn (λh' oz hs=>?_) Hs;have⟨oL,_,_,Wl,_⟩:=id hn;refine h _ ⟨I.ok,I.os,I.bare,⟨λb o e n hb hx=>?_,λb o e n hb hx=>?_,I.base.free,λb o e hx=>?_,I.base.jj,I.base.iA,I.base.iN⟩,⟨_,oz,λj y v' e1 e2 e3=>?_⟩,λy c e=>?_,I.free,I.cX,λp hp=>?_,tracked ⟨oL,Wl,I.free⟩ hs,by simpa using I.len⟩ ⟨_,hs,.inl rfl⟩
  ·exact(hs.2 b (aaH (aau (aan e) I.ok.above))).trans (I.base.keep b o e n hb hx)
  ·have⟨sl,e1⟩:=I.base.slot b o e n hb hx;exact⟨sl,(hs.2 b (aaH (aau (aan e) I.ok.above))).trans e1⟩
  ·have⟨o',e1⟩:=I.base.there b o e hx;exact⟨o',(hs.2 b (aaH (aau (aan e) I.ok.above))).trans e1⟩
  ·by_cases hj:j=i
   ·subst hj;rw[hi]at e1;cases e1;rw[aaS QJ]at e2;cases e2;exact⟨u,r,.inl ⟨hk,by simp⟩⟩
   ·rw[aaX (Ne.symm hj)]at e2;have⟨u',r',q⟩:=hl j y v' e1 e2 e3;refine⟨u',r',?_⟩;rcases q with ⟨k,e⟩| ⟨k,c,e,z⟩
    ·refine .inl ⟨k,?_⟩;have:y≠x:=λe=>hj (qI hN e1 (e▸hi));simp[this,e]
    ·exact .inr ⟨k,c,e,z.sameBut hs (BY y c e)⟩
  ·have⟨w',z⟩:=I.cell y c e;exact⟨w',z.sameBut hs (BY y c e)⟩
  ·have⟨e,n,ne,nf,d⟩:=I.pin p hp;exact⟨(hs.2 p.1 ne).trans e,n,ne,nf,d⟩
 ·have Rn:X.fn x=true:=by
   rcases hf with z| z
   ·exact z
   ·rw[z]at hk;cases hk
  have⟨c,hc⟩:=I.ok.has x (.inl hk);have⟨w',z⟩:=I.cell x c hc;refine wpAny_storeName_cell I.ok.kind hk hc z (λh' IG hs=>?_);have⟨oc,WX,VJ⟩:=id z;refine h {s with heap:=h'} ⟨I.ok,I.os,I.bare,⟨λb o e n hb hx=>?_,λb o e n hb hx=>?_,I.base.free,λb o e hx=>?_,I.base.jj,I.base.iA,I.base.iN⟩,⟨m,hn.sameBut hs (Ne.symm (BY x c hc)),λj y v' e1 e2 e3=>?_⟩,λy c' e=>?_,I.free,I.cX,λp hp=>?_,tracked ⟨oc,WX,I.cX x c hc⟩ hs,by simpa using I.len⟩ ⟨c,hs,.inr hc⟩
  ·exact(hs.2 b (aaH (aau (aan e) (I.ok.J_ x c Rn hc)))).trans (I.base.keep b o e n hb hx)
  ·have⟨sl,e1⟩:=I.base.slot b o e n hb hx;exact⟨sl,(hs.2 b (aaH (aau (aan e) (I.ok.J_ x c Rn hc)))).trans e1⟩
  ·have⟨o',e1⟩:=I.base.there b o e hx;exact⟨o',(hs.2 b (aaH (aau (aan e) (I.ok.J_ x c Rn hc)))).trans e1⟩
  ·by_cases hj:j=i
   ·subst hj;rw[hi]at e1;cases e1;rw[aaS QJ]at e2;cases e2;exact⟨u,r,.inr ⟨.inl hk,c,hc,IG⟩⟩
   ·rw[aaX (Ne.symm hj)]at e2;have⟨u',r',q⟩:=hl j y v' e1 e2 e3;refine⟨u',r',?_⟩;rcases q with q| ⟨k,c',e,z'⟩
    ·exact .inl q
    ·refine .inr ⟨k,c',e,z'.sameBut hs ?_⟩;rintro rfl;exact hj (qI hN e1 (I.ok.inj _ _ _ e hc▸hi))
  ·by_cases jX:c'=c
   ·subst jX;exact⟨_,IG⟩
   ·have⟨w2,z2⟩:=I.cell y c' e;exact⟨w2,z2.sameBut hs jX⟩
  ·have⟨e,n,ne,nf,d⟩:=I.pin p hp;refine⟨(hs.2 p.1 ?_).trans e,n,ne,nf,d⟩;intro q;rw[q,WX]at e;have q':oc=p.2:=aaw e;exact d w' (by rw[<-q'];exact VJ)
def lh{Q:Unit->Shared->Prop}(I:Inv X δ σ H s)(hN:X.N.Nodup)(hi:X.N[i]? =some x)(hx:Loc X.env.scope x)(r:aj v u)
  (h:∀s',Inv X δ (σ.set i (some v)) H s'->Q Unit.unit s') (hf:X.fn x=true\/X.env.scope.names.lookup x=some .local:=by first| exact .inl rfl| exact .inr rfl| assumption):wpAny M A (storeName X.env x u) Q E s:=
 mB I hN hi hx r (λs' I' _=>h s' I') hf
def Inv.BP{s':Shared}(I:Inv X δ σ H s)(ho:s'.os=s.os)(u:Un (jg X.stack) ch H H' s.heap s'.heap)(av:iE X.prog X.w H' s'.heap)(hg:AllBare s'.gens)
  (Ee:∀b∈ch,(b∈X.ex\/X.s₀.heap.objs.size<=b)/\b≠X.env.locals/\(∀x c,X.env.cells.lookup x=some c->c≠b)/\∀p∈X.pn++δ,p.1≠b):Inv X δ σ H' s':=by
 have⟨h',g',d',t',o'⟩:=s';have e:o'=s.os:=ho;subst e;exact I.call (g':=g') (t':=t') (d':=d') u av hg Ee
end
abbrev XK:=Value->Option Addr->Hp->Prop
abbrev St:=List (Option V)
variable{σ:St}
abbrev VK:=V->Hp->Prop
abbrev TE:=St->Hp->VK->Prop
variable{ta te:TE}
abbrev TT:=St->Hp->(Bool->Hp->Prop)->Prop
abbrev TA:=St->Hp->(List V->Hp->Prop)->Prop
structure oy where
 nx:St->Hp->Prop
 rt:VK
 bk:St->Hp->Prop:=λ_ _=>False
 ct:St->Hp->Prop:=λ_ _=>False
abbrev TS:=oy->St->Hp->Prop
def EP(X:Cx)(δ:List (Addr×Obj))(σ:St)(Q:VK)(u:Value)(s':Shared):Prop:=∃v H',Inv X δ σ H' s'/\aj v u/\Q v H'
def TP(X:Cx)(δ:List (Addr×Obj))(σ:St)(Q:Bool->Hp->Prop)(b:Bool)(s':Shared):Prop:=∃H',Inv X δ σ H' s'/\Q b H'
def AP(X:Cx)(δ:List (Addr×Obj))(σ:St)(Q:List V->Hp->Prop)(us:List Value)(s':Shared):Prop:=∃vs H',Inv X δ σ H' s'/\Ψ vs us/\Q vs H'
def SP(X:Cx)(δ:List (Addr×Obj))(D:oy)(f:Flow)(s':Shared):Prop:=
 match f with
 | .next=>∃σ' H',Inv X δ σ' H' s'/\D.nx σ' H'
 | .brk=>∃σ' H',Inv X δ σ' H' s'/\D.bk σ' H'
 | .cont=>∃σ' H',Inv X δ σ' H' s'/\D.ct σ' H'
 | .ret u=>∃v σ' H',Inv X δ σ' H' s'/\aj v u/\D.rt v H'
def PE(X:Cx)(e:Expr)(t:TE):Prop:=
 ∀(δ:List (Addr×Obj)) (s:Shared) (σ:St) (H:Hp) (Q:VK),Inv X δ σ H s->t σ H Q->wpAny (model X.prog X.w) X.A (eval e X.env) (EP X δ σ Q) X.xe s
def PT(X:Cx)(e:Expr)(t:TT):Prop:=
 ∀(δ:List (Addr×Obj)) (s:Shared) (σ:St) (H:Hp) (Q:Bool->Hp->Prop),Inv X δ σ H s->t σ H Q->wpAny (model X.prog X.w) X.A (isTrue e X.env (eval e X.env)) (TP X δ σ Q) X.xe s
def PW(X:Cx)(e:Expr)(t:TT):Prop:=
 ∀(whole:Sem Value) (δ:List (Addr×Obj)) (s:Shared) (σ:St) (H:Hp) (Q:Bool->Hp->Prop),Inv X δ σ H s->t σ H Q->wpAny (model X.prog X.w) X.A (isTrue e X.env whole) (TP X δ σ Q) X.xe s
def PA(X:Cx)(es:List Expr)(t:TA):Prop:=
 ∀(pos:Pos) (δ:List (Addr×Obj)) (s:Shared) (σ:St) (H:Hp) (Q:List V->Hp->Prop),Inv X δ σ H s->t σ H Q->wpAny (model X.prog X.w) X.A (spliced (backTo pos (starEach es X.env))) (AP X δ σ Q) X.xe s
def PS(X:Cx)(st:Stmt)(t:TS):Prop:=
 ∀(δ:List (Addr×Obj)) (s:Shared) (σ:St) (H:Hp) (D:oy),Inv X δ σ H s->t D σ H->wpAny (model X.prog X.w) X.A (exec st X.env) (SP X δ D) X.xe s
def wc(X:Cx)(st:List Stmt)(t:TS):Prop:=
 ∀(δ:List (Addr×Obj)) (s:Shared) (σ:St) (H:Hp) (D:oy),Inv X δ σ H s->t D σ H->wpAny (model X.prog X.w) X.A (execs st X.env) (SP X δ D) X.xe s
def aT{α:Type}{t:Sem α}{Q Q':α->Shared->Prop}(h:wpAny M A t Q E s)(hQ:∀a s,Q a s->Q' a s):wpAny M A t Q' E s:=aaW h hQ λ_ _ x=>x
section
def Tf(i:Nat):TE:=λσ H Q=>∃v,σ[i]? =some (some v)/\Q v H
def tC(v:V):TE:=λ_ H Q=>Q v H
def zD(hN:X.N[i]? =some x)(hv:QB X.env.scope x)(hd:(x==("__debug__":Str))=false:=by decide)(we:(x==("__classdict__":Str))=false:=by decide):PE X (.Name x pos) (Tf i):=by
 intro δ s σ H Q I h;have⟨v,e,h⟩:=h;have⟨m,hn,hl⟩:=I.loc;have⟨u,r,l⟩:=hl i x v hN e hv;have fin:EP X δ σ Q u s:=⟨v,H,I,r,h⟩;rcases l with ⟨hk,hm⟩| ⟨hk,c,hc,La⟩
 ·exact wpAny_Name (wpAny_loadName_local I.ok.kind hk hn hm fin) hd
 ·rcases hk with hk| hk
  ·exact wpAny_Name (wpAny_loadName_cell I.ok.kind hk hc La fin) hd
  ·exact wpAny_Name (wpAny_loadName_free I.ok.kind hk hc La fin we) hd
def MR{i j pos}:PE X (.Constant (.int i) j pos) (tC (.int i)):=λ_ _ _ H _ I h=>wpAny_Constant_int ⟨.int i,H,I.tok _,⟨_,rfl⟩,h⟩
def R4{b j pos}:PE X (.Constant (.bool b) j pos) (tC (.bl b)):=λ_ _ _ H _ I h=>Constant_bool ⟨.bl b,H,I,rfl,h⟩
def NY{j pos}:PE X (.Constant .none j pos) (tC .aS):=λ_ _ _ H _ I h=>Constant_none ⟨.aS,H,I,rfl,h⟩
def NP{x j pos}:PE X (.Constant (.str x) j pos) (tC (.str x)):=λ_ _ _ H _ I h=>Calls.Constant_str ⟨.str x,H,I.tok _,⟨_,rfl⟩,h⟩
def Gl(X:Cx)(x:Str):Prop:=X.env.kindOf x=some .globalImplicit
def h8{H:Hp}(I:Inv X δ σ H s)(hg:Gl X x)(hm:X.mg x=some u)(h:Q u s)
  (hd:(x==("__debug__":Str))=false:=by decide):wpAny (model X.prog X.w) X.A (eval (.Name x pos) X.env) Q E s:=
 Calls.Name_function_global I.ok.kind hg (Calls.loadGlobal_global (by rw[I.ok.glob];exact I.mod.glob.keeps I.bk) hm h) hd
def qU{H:Hp}(I:Inv X δ σ H s)(hg:Gl X x)(hm:X.mg x=none)(hv:bootBuiltins x=some u)(h:Q u s)
  (hn:x≠"__name__":=by decide) (hd:(x==("__debug__":Str))=false:=by decide):wpAny (model X.prog X.w) X.A (eval (.Name x pos) X.env) Q E s:=by
 have⟨mb,h1,h2⟩:=I.mod.blt;exact Calls.Name_function_global I.ok.kind hg (Calls.loadGlobal_builtin (by rw[I.ok.glob];exact I.mod.glob.keeps I.bk) hm (by rw[I.ok.blt];exact h1.keeps I.bk) ((h2 x hn).trans hv) h) hd
def o_(hg:Gl X x)(hm:X.mg x=some u)(r:aj v u)(hd:(x==("__debug__":Str))=false:=by decide):PE X (.Name x pos) (tC v):=
 λ_ _ _ H _ I h=>h8 I hg hm ⟨v,H,I,r,h⟩ hd
def JU(hg:Gl X x)(hm:X.mg x=none)(hv:bootBuiltins x=some u)(r:aj v u)(hn:x≠"__name__":=by decide)(hd:(x==("__debug__":Str))=false:=by decide):PE X (.Name x pos) (tC v):=
 λ_ _ _ H _ I h=>qU I hg hm hv ⟨v,H,I,r,h⟩ hn hd
variable{a b:Expr}{tb:TE}
def tB(t:TE):TT:=λσ H Q=>t σ H λx H1=>∃c,x= .bl c/\Q c H1
def NA{t:TE}(h:PE X e t)(he:∀whole,isTrue e X.env whole=(do let v<-whole;standAt e.pos;holding [v] (truthy v)):=by intro _;rfl):PT X e (tB t):=by intro δ s σ H Q I hw;refine isTrue_plain (aT (h δ s σ H _ I hw) λv s1 xz=>?_) (he _);have⟨x,H1,I1,r1,q1⟩:=xz;have⟨d,rfl,q⟩:=q1;cases r1;exact wpAny_truthy_bool ⟨H1,I1,q⟩
variable{tA PC:TT}{rest:List Expr}
def Ul(t u:TT):TT:=λσ H Q=>t σ H λc H1=>if c=true then u σ H1 Q else Q false H1
def XI(t u:TT):TT:=λσ H Q=>t σ H λc H1=>if c=true then Q true H1 else u σ H1 Q
def Vx(t:TT):TT:=λσ H Q=>t σ H λc H1=>Q (!c) H1
def pw_and1(ha:PT X a tA):PW X (.BoolOp .And [a] pos) tA:=by
 intro wh δ s σ H Q I h;refine isTrue_and (aT (ha δ s σ H Q I h) λc s1 e=>?_);cases c with
 | true=>exact isTrue_and_nil e
 | false=>exact e
def pw_or1(ha:PT X a tA):PW X (.BoolOp .Or [a] pos) tA:=by
 intro wh δ s σ H Q I h;refine isTrue_or (aT (ha δ s σ H Q I h) λc s1 e=>?_);cases c with
 | false=>exact isTrue_or_nil e
 | true=>exact e
def pw_and(ha:PT X a tA)(hb:PW X (.BoolOp .And (b::rest) pos) PC):PW X (.BoolOp .And (a::b::rest) pos) (Ul tA PC):=by
 intro wh δ s σ H Q I h;refine isTrue_and (aT (ha δ s σ H _ I h) λc s1 xz=>?_);have⟨H1,I1,q1⟩:=xz;cases c with
 | true=>exact hb wh δ s1 σ H1 Q I1 q1
 | false=>exact⟨H1,I1,q1⟩
def pw_or(ha:PT X a tA)(hb:PW X (.BoolOp .Or (b::rest) pos) PC):PW X (.BoolOp .Or (a::b::rest) pos) (XI tA PC):=by
 intro wh δ s σ H Q I h;refine isTrue_or (aT (ha δ s σ H _ I h) λc s1 xz=>?_);have⟨H1,I1,q1⟩:=xz;cases c with
 | true=>exact⟨H1,I1,q1⟩
 | false=>exact hb wh δ s1 σ H1 Q I1 q1
def OC(ha:PT X a tA):PT X (.UnaryOp .Not a pos) (Vx tA):=by intro δ s σ H Q I h;exact isTrue_not (ha δ s σ H (λc H1=>Q (!c) H1) I h)
def Qa(ta tb:TE):TE:=λσ H Q=>ta σ H λx H1=>∃c,x= .bl c/\if c=true then tb σ H1 Q else Q (.bl false) H1
def VA(ta tb:TE):TE:=λσ H Q=>ta σ H λx H1=>∃c,x= .bl c/\if c=true then Q (.bl true) H1 else tb σ H1 Q
def O9(ta:TE):TE:=λσ H Q=>ta σ H λx H1=>∃c,x= .bl c/\Q (.bl (!c)) H1
def MP{op}{t:TE}(h:PE X a t):PE X (.BoolOp op [a] pos) t:=λδ s σ H Q I hw=>BoolOp_one (h δ s σ H Q I hw)
def Oo(ha:PE X a ta)(hb:PE X (.BoolOp .And (b::rest) pos) tb):PE X (.BoolOp .And (a::b::rest) pos) (Qa ta tb):=by
 intro δ s σ H Q I h;refine BoolOp_and (aT (ha δ s σ H _ I h) λv s1 xz=>?_);have⟨x,H1,I1,r1,q1⟩:=xz;have⟨c,rfl,q1⟩:=q1;cases r1;refine wpAny_truthy_bool ?_;cases c with
 | true=>exact hb δ s1 σ H1 Q I1 q1
 | false=>exact⟨.bl false,H1,I1,rfl,q1⟩
def QZ(ha:PE X a ta)(hb:PE X (.BoolOp .Or (b::rest) pos) tb):PE X (.BoolOp .Or (a::b::rest) pos) (VA ta tb):=by
 intro δ s σ H Q I h;refine BoolOp_or (aT (ha δ s σ H _ I h) λv s1 xz=>?_);have⟨x,H1,I1,r1,q1⟩:=xz;have⟨c,rfl,q1⟩:=q1;cases r1;refine wpAny_truthy_bool ?_;cases c with
 | false=>exact hb δ s1 σ H1 Q I1 q1
 | true=>exact⟨.bl true,H1,I1,rfl,q1⟩
def NJ(ha:PE X a ta):PE X (.UnaryOp .Not a pos) (O9 ta):=by intro δ s σ H Q I h;refine UnaryOp_ (aT (ha δ s σ H _ I h) λv s1 xz=>?_);have⟨x,H1,I1,r1,q1⟩:=xz;have⟨c,rfl,q1⟩:=q1;cases r1;exact not_of (wpAny_truthy_bool ⟨.bl (!c),H1,I1,rfl,q1⟩)
def Z5(t:TT)(ta tb:TE):TE:=λσ H Q=>t σ H λc H1=>if c=true then ta σ H1 Q else tb σ H1 Q
def EW(hc:PT X c tA)(ha:PE X a ta)(hb:PE X b tb):PE X (.IfExp c a b pos) (Z5 tA ta tb):=by
 intro δ s σ H Q I h;refine wpAny_IfExp (aT (hc δ s σ H _ I h) λd s1 xz=>?_);have⟨H1,I1,q1⟩:=xz;cases d with
 | true=>exact ha δ s1 σ H1 Q I1 q1
 | false=>exact hb δ s1 σ H1 Q I1 q1
end
def fG(K:gV)(H:Hp)(a:Addr)(xs:List V):Prop:=
 Rd H a (.lst xs)\/
  ∃(o:Obj) (its:Array Value) (n:Nat),K.lookup a=some o/\o.cls= .type "list"/\o.dict=none/\o.data= .seq its n/\its.size<=sizeLine/\Ψ xs its.toList
def jN(K:gV)(H:Hp)(a:Addr)(xs:List V):Prop:=
 Rd H a (.tup xs)\/
  ∃(o:Obj) (its:Array Value) (n:Nat),K.lookup a=some o/\o.cls= .type "tuple"/\o.data= .seq its n/\its.size<=sizeLine/\Ψ xs its.toList
def Ut:Value->Option V
 | .none=>some .aS
 | .bool b=>some (.bl b)
 | .int i _=>some (.int i)
 | .str x _=>some (.str x)
 | .bytes b _=>some (.Ec b)
 | .float b _=>some (.Nw b)
 | .ref a=>some (.ref a)
 | .type n=>some (.ty n)
 | _=>none
def aj.abs{x:V}(r:aj x u):Ut u=some x:=by
 cases x with
 | aS=>cases r;rfl
 | bl _=>cases r;rfl
 | int _=>have⟨t,rfl⟩:=r;rfl
 | str _=>have⟨t,rfl⟩:=r;rfl
 | Ec _=>have⟨t,rfl⟩:=r;rfl
 | Nw _=>have⟨t,rfl⟩:=r;rfl
 | ref _=>cases r;rfl
 | ty _=>cases r;rfl
def aj.inj{x y:V}{u:Value}(r:aj x u)(q:aj y u):x=y:=aaw (r.abs.symm.trans q.abs)
def Ψ.inj:∀{xs ys:List V} {us:List Value},Ψ xs us->Ψ ys us->xs=ys
 | _,_,_,.nil,.nil=>rfl
 | _,_,_,.cons r t,.cons r' t'=>by rw[r.inj r',Ψ.inj t t']
section
variable{H:Hp}{xs ys:List V}
def fG.of{K:gV}(h:H a=some (.lst xs)):fG K H a xs:=.inl (.inl h)
def jN.of{K:gV}(h:H a=some (.tup xs)):jN K H a xs:=.inl (.inl h)
def Inv.list(I:Inv X δ σ H s)(h:fG X.K H a xs):∃its:List Value,Ψ xs its/\PlainL s.heap a its.toArray/\xs.length<=sizeLine:=by
 rcases h with h| ⟨o,its,n,hk,hc,hd,hs,hz,r⟩
 ·have⟨z,its,n,r,e⟩:=h.ok I.av;exact⟨its,r,⟨_,n,e,rfl,rfl,rfl⟩,z⟩
 ·refine⟨its.toList,r,⟨o,n,I.gp a o hk,hc,hd,by simpa using hs⟩,?_⟩;have e:=r.length;simp only[Array.length_toList]at e;omega
def Inv.tuple(I:Inv X δ σ H s)(h:jN X.K H a xs):∃its:List Value,Ψ xs its/\IsTup s.heap a its.toArray/\xs.length<=sizeLine:=by
 rcases h with h| ⟨o,its,n,hk,hc,hs,hz,r⟩
 ·have⟨z,its,r,p⟩:=h.ok I.av;exact⟨its,r,p,z⟩
 ·refine⟨its.toList,r,⟨o,I.gp a o hk,hc,n,by simpa using hs⟩,?_⟩;have e:=r.length;simp only[Array.length_toList]at e;omega
def Inv.b8(I:Inv X δ σ H s)(h:fG X.K H a xs)(h':fG X.K H a ys):xs=ys:=by
 have⟨its,r,⟨o,n,e,_,_,d⟩,_⟩:=I.list h;have⟨its',r',⟨o',n',e',_,_,d'⟩,_⟩:=I.list h';rw[e]at e';cases e';rw[d]at d';injection d' with d1 _
 have:its=its':=by simpa using congrArg Array.toList d1
 subst this;exact r.inj r'
def Inv.jB(I:Inv X δ σ H s)(h:jN X.K H a xs)(h':jN X.K H a ys):xs=ys:=by
 have⟨its,r,⟨o,e,_,n,d⟩,_⟩:=I.tuple h;have⟨its',r',⟨o',e',_,n',d'⟩,_⟩:=I.tuple h';rw[e]at e';cases e';rw[d]at d';injection d' with d1 _
 have:its=its':=by simpa using congrArg Array.toList d1
 subst this;exact r.inj r'
end
section
variable{st:Stmt}{rest:List Stmt}{t u:TS}
def Ra:TS:=λD σ H=>D.nx σ H
def S4(t u:TS):TS:=λD σ H=>t {D with nx:=u D} σ H
def KZ:wc X [] Ra:=λ_ _ σ H _ I h=>wpAny_execs_nil ⟨σ,H,I,h⟩
def xn(h1:PS X st t)(h2:wc X rest u):wc X (st::rest) (S4 t u):=by
 intro δ s σ H D I h;refine wpAny_execs_cons (aT (h1 δ s σ H {D with nx:=u D} I h) λf s1 q=>?_);cases f with
 | next=>
  have⟨σ',H',I',q⟩:=q;exact h2 δ s1 σ' H' D I' q
 | ret v=>exact q
 | brk=>exact q
 | cont=>exact q
def Bd(h1:PS X st t):wc X [st] t:=by
 intro δ s σ H D I h;refine wpAny_execs_cons (aT (h1 δ s σ H D I h) λf s1 q=>?_);cases f with
 | next=>exact wpAny_execs_nil q
 | ret v=>exact q
 | brk=>exact q
 | cont=>exact q
def Inv.quiet{H:Hp}(I:Inv X δ σ H s):interactive X.env=false:=by simp[interactive,I.ok.kind]
def Rk(te:TE):TS:=λD σ H=>te σ H λ_ H1=>D.nx σ H1
def Bp(he:PE X e te)(hs:swapsWith e none pos.line X.env=pure false:=by rfl):PS X (.Expr e pos) (Rk te):=by intro δ s σ H D I h;exact wpAny_Expr_any (aT (he δ s σ H _ I h) λv s1 ⟨x,H1,I1,r1,q1⟩=>⟨σ,H1,I1,q1⟩) I.quiet hs
def Tw(te:TE):TS:=λD σ H=>te σ H D.rt
def Mn(he:PE X e te):PS X (.Return (some e) pos) (Tw te):=by intro δ s σ H D I h;exact wpAny_Return_some (aT (he δ s σ H _ I h) λv s1 ⟨x,H1,I1,r1,q1⟩=>⟨x,σ,H1,I1,r1,q1⟩)
def U3(c:TT)(t u:TS):TS:=λD σ H=>c σ H λb H1=>if b=true then t D σ H1 else u D σ H1
def Q1{a b:List Stmt}{tc:TT}(hc:PT X c tc)(ha:wc X a t)(hb:wc X b u):PS X (.If c a b pos) (U3 tc t u):=by
 intro δ s σ H D I h;refine wpAny_If (aT (hc δ s σ H _ I h) λd s1 xz=>?_);have⟨H1,I1,q1⟩:=xz;cases d with
 | true=>exact ha δ s1 σ H1 D I1 q1
 | false=>exact hb δ s1 σ H1 D I1 q1
end
abbrev TG:=V->St->Hp->(St->Hp->Prop)->Prop
abbrev IW:=List V->St->Hp->(St->Hp->Prop)->Prop
def PG(X:Cx)(target:Expr)(t:TG):Prop:=
 ∀(δ:List (Addr×Obj)) (s:Shared) (σ:St) (H:Hp) (v:V) (u:Value) (Q:St->Hp->Prop),Inv X δ σ H s->aj v u->t v σ H Q->
  wpAny (model X.prog X.w) X.A (assign target X.env u) (λ_ s'=>∃σ' H',Inv X δ σ' H' s'/\Q σ' H') X.xe s
def Qd(X:Cx)(ts:List Expr)(t:IW):Prop:=
 ∀(δ:List (Addr×Obj)) (s:Shared) (σ:St) (H:Hp) (vs:List V) (us:List Value) (Q:St->Hp->Prop),Inv X δ σ H s->Ψ vs us->t vs σ H Q->
  wpAny (model X.prog X.w) X.A (assignInOrder ((assignEach ts X.env).map (·.2)) us) (λ_ s'=>∃σ' H',Inv X δ σ' H' s'/\Q σ' H') X.xe s
abbrev Nt:=V->V->V->Hp->(Hp->Prop)->Prop
def PR(X:Cx)(t:Nt):Prop:=
 ∀(δ:List (Addr×Obj)) (s:Shared) (σ:St) (H:Hp) (o i v:V) (ov iv u:Value) (Q:Hp->Prop),Inv X δ σ H s->aj o ov->aj i iv->aj v u->t o i v H Q->
  wpAny (model X.prog X.w) X.A (setItem ov iv u) (λ_ s'=>∃H',Inv X δ σ H' s'/\Q H') X.xe s
section
def ix(i:Nat):TG:=λv σ H Q=>Q (σ.set i (some v)) H
def bS(hN:X.N.Nodup)(hi:X.N[i]? =some x)(hx:Loc X.env.scope x)(hf:X.fn x=true\/X.env.scope.names.lookup x=some .local:=by first| exact .inl rfl| exact .inr rfl| assumption):PG X (.Name x pos) (ix i):=by intro δ s σ H v u Q I r h;exact wpAny_assign_Name (lh I hN hi hx r (λs' I'=>⟨_,H,I',h⟩) hf)
def KR:IW:=λvs σ H Q=>vs=[]/\Q σ H
def nG(t:TG)(u:IW):IW:=λvs σ H Q=>∃v r,vs=v::r/\t v σ H λσ' H'=>u r σ' H' Q
def oE:Qd X [] KR:=by intro δ s σ H vs us Q I r h;have⟨e,h⟩:=h;subst e;cases r;exact assignInOrder_nil ⟨σ,H,I,h⟩
def dk{t:TG}{u:IW}(h1:PG X e t)(h2:Qd X es u)
  (hs:(assignEach (e::es) X.env).map (·.2)=assign e X.env::(assignEach es X.env).map (·.2):=by rfl):Qd X (e::es) (nG t u):=by
 intro δ s σ H vs us Q I r h;have⟨v,vr,e1,h⟩:=h;subst e1;cases r with
 | cons r rr=>
  rw[hs];refine assignInOrder_cons (aT (h1 δ s σ H _ _ _ I r h) λ_ s1 xz=>?_);have⟨σ1,H1,I1,q1⟩:=xz;exact h2 δ s1 σ1 H1 _ _ Q I1 rr q1
def MS(K:gV)(n:Nat)(t:IW):TG:=λv σ H Q=>∃a xs,v= .ref a/\jN K H a xs/\xs.length=n/\t xs σ H Q
def zS{k:Nat}{t:IW}{n:Nat}(hc:X.calm=true)(h:Qd X es t)
  (hn:(assignEach es X.env).length=n:=by rfl) (tD:(assignEach es X.env).findIdx? (·.1)=none:=by rfl):PG X (.Tuple es k pos) (MS X.K n t):=by
 intro δ s σ H v u Q I r hw;have⟨a,xs,e1,hq,hl,hw⟩:=hw;subst e1;cases r;have⟨its,rv,ht,hz⟩:=I.tuple hq;refine assign_Tuple_tuple (I.ok.hd hc) ht (by simp[hn,<-hl,rv.length]) tD λh' hx=>?_;have I1:Inv X δ σ H {s with heap:=h'}:=I.kept (t':=s.toks) λb o e=>hx b o (aaH (aan e)) e;exact h δ _ σ H xs _ Q I1 (by simpa using rv) hw
def VG(to ti:TE)(t:Nt):TG:=λv σ H Q=>to σ H λo H1=>ti σ H1 λi H2=>t o i v H2 λH3=>Q σ H3
def Na{o i:Expr}{to ti:TE}{t:Nt}(ho:PE X o to)(hi:PE X i ti)(hs:PR X t)
  (ha:∀v,assign (.Subscript o i pos) X.env v=(do
   let ov<-holding [v] (eval o X.env)
   let iv<-holding [v,ov] (eval i X.env)
   standAt pos
   holding [v,ov,iv] (setItem ov iv v)
   release [v,ov,iv] []):=by intro _;rfl):PG X (.Subscript o i pos) (VG to ti t):=by
 intro δ s σ H v u Q I r h;rw[ha];refine aab (wpAny_holding (aT (ho δ s σ H _ I h) λov s1 xz=>?_));have⟨x,H1,I1,r1,q1⟩:=xz;refine aab (wpAny_holding (aT (hi δ s1 σ H1 _ I1 q1) λiv s2 xz=>?_));have⟨y,H2,I2,r2,q2⟩:=xz;refine aab (wpAny_standAt (aab (wpAny_holding (aT (hs δ s2 σ H2 x y v ov iv u _ I2 r1 r2 r q2) λ_ s3 xz=>?_))));have⟨H3,I3,q3⟩:=xz;exact wpAny_release ⟨σ,H3,I3,q3⟩
def Pn(te:TE)(g:TG):TS:=λD σ H=>te σ H λx H1=>g x σ H1 D.nx
def zI{g:TG}(he:PE X e te)(hg:PG X tg g)(hs:swapsWithSole [tg] e pos.line X.env=pure false:=by rfl)(hw:swappedStores [tg] e X.env=pure none:=by rfl)
  (h1:(assignEach [tg] X.env).map (·.2)=[assign tg X.env]:=by rfl):PS X (.Assign [tg] e pos) (Pn te g):=by
 intro δ s σ H D I h;refine wpAny_Assign_stores (aT (he δ s σ H _ I h) λv s1 xz=>?_) hs hw;have⟨x,H1,I1,r1,q1⟩:=xz;rw[h1];exact aT (hg δ s1 σ H1 x v _ I1 r1 q1) λ_ s2 q=>q
def Nk{pos':Pos}(hN:X.N.Nodup)(hi:X.N[i]? =some x)(hx:Loc X.env.scope x)(he:PE X e te)(hs:swapsWith e (some (.Name x pos')) pos.line X.env=pure false:=by rfl)(hf:X.fn x=true\/X.env.scope.names.lookup x=some .local:=by first| exact .inl rfl| exact .inr rfl| assumption):
  PS X (.Assign [.Name x pos'] e pos) (Pn te (ix i)):=by
 intro δ s σ H D I h;refine wpAny_Assign_Name (aT (he δ s σ H _ I h) λv s1 xz=>?_) hs;have⟨y,H1,I1,r1,q1⟩:=xz;exact lh I1 hN hi hx r1 (λs2 I2=>⟨_,H1,I2,q1⟩) hf
end
section
def Nr(c:TT)(tb:TS):TS:=λD σ H=>∃W:Nat->St->Hp->Prop,(∃m,W m σ H)/\∀m σ H,W m σ H->
 c σ H λb H1=>if b=true then∃N:St->Hp->Prop,(∀σ' H',N σ' H'->∃m',m' < m/\W m' σ' H')/\tb {D with nx:=N,ct:=N,bk:=D.nx} σ H1 else D.nx σ H1
def Em{tc:TT}{tb:TS}(hp:PassesOwn (model X.prog X.w) X.A X.env X.xe)(hc:PT X c tc)(hb:wc X body tb):PS X (.While c body [] pos) (Nr tc tb):=by
 intro δ s σ H D I h;have⟨W,⟨m0,w0⟩,turn⟩:=h;refine wpAny_While (codeAny_whileLoop (λn s'=>∃σ' H',Inv X δ σ' H' s'/\W n σ' H') ?_ m0 ⟨σ,H,I,w0⟩);rintro n s1 ⟨σ1,H1,I1,w1⟩;refine wpAny_passesOwn hp (aT (hc δ s1 σ1 H1 _ I1 (turn n σ1 H1 w1)) λb s2 xz=>?_);have⟨H2,I2,q2⟩:=xz;cases b with
 | true=>
  have⟨N,hN,q2⟩:=q2;rw[aaB rfl];refine wpAny_passesOwn hp (aT (hb δ s2 σ1 H2 _ I2 q2) λf s3 q3=>?_);cases f with
  | next=>
   have⟨σ3,H3,I3,n3⟩:=q3;have⟨m',hm,w3⟩:=hN σ3 H3 n3;exact⟨m',hm,σ3,H3,I3,w3⟩
  | cont=>
   have⟨σ3,H3,I3,n3⟩:=q3;have⟨m',hm,w3⟩:=hN σ3 H3 n3;exact⟨m',hm,σ3,H3,I3,w3⟩
  | brk=>exact q3
  | ret v=>exact q3
 | false=>
  rw[aay aax];exact wpAny_execs_nil ⟨σ1,H2,I2,q2⟩
end
structure It where
 go:Nat->Hp->Prop
 Rg:Nat->Hp->V->Hp->Prop
 stop:Nat->Hp->Prop
def oa(X:Cx)(δ:List (Addr×Obj))(H:Hp)(b:Addr):Prop:=
 H b=none/\b≠X.env.locals/\b∉X.fs/\(b∈X.ex\/X.s₀.heap.objs.size<=b)/\(∀x c,X.env.cells.lookup x=some c->c≠b)/\∀p∈X.pn++δ,p.1≠b
def Inv.HP{H H':Hp}(I:Inv X δ σ H s)(hb:s.heap.objs.size<=b)(hn:H' b=none):oa X δ H' b:=by
 refine⟨hn,abH (aau I.lt hb),I.T6 hb,.inr (aaD I.sz hb),λx c e z=>?_,λp hp z=>?_⟩
 ·have⟨v,q⟩:=I.cell x c e;exact aaG (aau q.lt (by rw[z];exact hb)) (abj _)
 ·exact aaG (aau (aan (I.pin p hp).1) (by rw[z];exact hb)) (abj _)
structure v9(P:Program)(w:World)(K:gV)(tg:Expr)(J:It)(fp:List Addr)(it:Addr)(tn:Nat->Heap->Prop):Prop where
 mem:it∈fp
 obj:∀i h,tn i h->∀b∈fp,∃o,h.get? b=some o/\∀v,o.data≠ .cell v
 keep:∀i h h',tn i h->(∀b∈fp,∀o,h.get? b=some o->h'.get? b=some o)->tn i h'
 item:∀(X:Cx),X.prog=P->X.w=w->X.K=K->X.calm=true->∀(i:Nat) (δ:List (Addr×Obj)) (s:Shared) (σ:St) (H:Hp) (E:Value->Shared->Prop),Inv X δ σ H s->(∀b∈fp,oa X δ H b)->tn i s.heap->J.go i H->
  wpAny (model P w) X.A (pyNext (.ref it)) (λr s1=>∃u,r=some u/\
   wpAny (model P w) X.A (letOwnedTupleGo tg (.ref it) u) (λ_ s2=>∃x H',Inv X δ σ H' s2/\aj x u/\J.Rg i H x H'/\tn (i+1) s2.heap/\∀b∈fp,H' b=none) E s1) E s
 done:∀(X:Cx),X.prog=P->X.w=w->X.K=K->X.calm=true->∀(i:Nat) (δ:List (Addr×Obj)) (s:Shared) (σ:St) (H:Hp) (E:Value->Shared->Prop),Inv X δ σ H s->(∀b∈fp,oa X δ H b)->tn i s.heap->J.stop i H->
  wpAny (model P w) X.A (pyNext (.ref it)) (λr s1=>r=none/\Inv X δ σ H s1) E s
 self:∀(A:Around) (i:Nat) (s:Shared) (Q:Value->Shared->Prop) (E:Value->Shared->Prop),tn i s.heap->Q (.ref it) s->wpAny (model P w) A (pyIter (.ref it)) Q E s
abbrev TI:=St->Hp->(It->Hp->Prop)->Prop
def Jb(X:Cx)(δ:List (Addr×Obj))(σ:St)(tg:Expr)(R:It->Hp->Prop)(O3:Value)(s2:Shared):Prop:=
 ∃(it:Addr) (fp:List Addr) (tn:Nat->Heap->Prop) (J:It) (H':Hp),O3= .ref it/\Inv X δ σ H' s2/\v9 X.prog X.w X.K tg J fp it tn/\tn 0 s2.heap/\(∀b∈fp,oa X δ H' b)/\R J H'
def PI(X:Cx)(tg iter:Expr)(wi:TI):Prop:=
 ∀(δ:List (Addr×Obj)) (s:Shared) (σ:St) (H:Hp) (R:It->Hp->Prop),Inv X δ σ H s->wi σ H R->
  wpAny (model X.prog X.w) X.A (eval iter X.env) (λv s1=>wpAny (model X.prog X.w) X.A (pyIter v) (Jb X δ σ tg R) X.xe s1) X.xe s
def yE   {E : Value -> Shared -> Prop}   {it : Addr}  {o : Obj} {n : String} {vs : Array Value} {Q : Unit -> Shared -> Prop} (ho : s.heap.get? it = some o) (hc : o.cls = .type n) (hd : o.data = .fields vs)
    (hn : ["enumerate","zip","dict_itemiterator","dict_reverseitemiterator","odict_iterator","itertools.zip_longest","itertools.pairwise"].contains n = false) (hQ : Q Unit.unit s) : wpAny M A (letOwnedTupleGo tg (.ref it) u) Q E s :=by
  unfold letOwnedTupleGo
  cases tg <;> first
    | exact aar hQ
    | (cases u <;> first
        | exact aar hQ
        | (refine aab (wpAny_load ho ?_)
           rw[hc,hd];show wpAny M A (if (["enumerate","zip","dict_itemiterator","dict_reverseitemiterator","odict_iterator","itertools.zip_longest","itertools.pairwise"].contains n && vs[0]? == some (rawInt _)) = true then _ else _) Q E s;rw[aay (by intro h;rw[hn,Bool.false_and]at h;cases h)]
           exact aar hQ))
def Sx(K:gV)(a:Addr):It:=
 ⟨λi H=>∃xs x,fG K H a xs/\xs[i]? =some x,λi H x H'=>H'=H/\∀xs,fG K H a xs->xs[i]? =some x,λi H=>∃xs,fG K H a xs/\xs.length<=i⟩
def T_(K:gV)(a:Addr):It:=
 ⟨λi H=>∃xs x,jN K H a xs/\xs[i]? =some x,λi H x H'=>H'=H/\∀xs,jN K H a xs->xs[i]? =some x,λi H=>∃xs,jN K H a xs/\xs.length<=i⟩
def SO(lo:Int)(n:Nat):It:=⟨λi _=>i < n,λi H x H'=>H'=H/\x= .int (lo+i),λi _=>n<=i⟩
def Dx{K:gV}(a it:Addr):v9 P w K tg (Sx K a) [it] it (λi h=>h.IsListIter it a i) where
 mem:=by simp
 obj:=λi h st b hb=>by
  have e:b=it:=by simpa using hb
  subst e;have⟨o,e,c,d⟩:=st;exact⟨o,e,λv z=>by rw[d]at z;cases z⟩
 keep:=λi h h' st k=>st.at λo e=>k it (by simp) o e
 item:=by intro X hP hw hK hc i δ s σ H E I hf st hg;subst hP hw hK;have⟨xs,x,hq,hx⟩:=hg;have⟨its,rv,p,hz⟩:=I.list hq;have⟨u,hu,ru⟩:=rv.get hx;have⟨f0,f1,f2,f3,f4,f5⟩:=hf it (by simp);refine wpAny_pyNext_list_item st p.isList (x:=u) (by simpa using hu) λh' B1 sb=>?_;have I1:Inv X δ σ H {s with heap:=h'}:=I.turned (t':=s.toks) (λb o hb e=>(sb.2 b hb).trans e) f0 f1 f3 f4 f5;have⟨o,e,c,d⟩:=id B1;exact⟨u,rfl,yE (s:={s with heap:=h'}) e c d @_ ⟨x,H,I1,ru,⟨rfl,λys hy=>by rw[I.b8 hy hq];exact hx⟩,B1,λb hb=>(hf b hb).1⟩⟩
 done:=by intro X hP hw hK hc i δ s σ H E I hf st hg;subst hP hw hK;have⟨xs,hq,hx⟩:=hg;have⟨its,rv,p,hz⟩:=I.list hq;have⟨f0,f1,f2,f3,f4,f5⟩:=hf it (by simp);have hl:=rv.length;exact wpAny_pyNext_list_end (I.ok.hd hc) st p.isList (by simp;omega) λh' eb=>⟨rfl,I.turned (t':=s.toks) (λb o hb e=>eb b o hb e) f0 f1 f3 f4 f5⟩
 self:=λ_ _ _ _ _ st h=>wpAny_pyIter_listiter st h
def zg{K:gV}(a it:Addr):v9 P w K tg (T_ K a) [it] it (λi h=>h.IsTupleIter it a i) where
 mem:=by simp
 obj:=λi h st b hb=>by
  have e:b=it:=by simpa using hb
  subst e;have⟨o,e,c,d⟩:=st;exact⟨o,e,λv z=>by rw[d]at z;cases z⟩
 keep:=λi h h' st k=>st.at λo e=>k it (by simp) o e
 item:=by intro X hP hw hK hc i δ s σ H E I hf st hg;subst hP hw hK;have⟨xs,x,hq,hx⟩:=hg;have⟨its,rv,p,hz⟩:=I.tuple hq;have⟨u,hu,ru⟩:=rv.get hx;have⟨f0,f1,f2,f3,f4,f5⟩:=hf it (by simp);refine wpAny_pyNext_tuple_item st (show s.heap.IsTuple a its.toArray from p) (x:=u) (by simpa using hu) λh' B1 sb=>?_;have I1:Inv X δ σ H {s with heap:=h'}:=I.turned (t':=s.toks) (λb o hb e=>(sb.2 b hb).trans e) f0 f1 f3 f4 f5;have⟨o,e,c,d⟩:=id B1;exact⟨u,rfl,yE (s:={s with heap:=h'}) e c d @_ ⟨x,H,I1,ru,⟨rfl,λys hy=>by rw[I.jB hy hq];exact hx⟩,B1,λb hb=>(hf b hb).1⟩⟩
 done:=by intro X hP hw hK hc i δ s σ H E I hf st hg;subst hP hw hK;have⟨xs,hq,hx⟩:=hg;have⟨its,rv,p,hz⟩:=I.tuple hq;have⟨f0,f1,f2,f3,f4,f5⟩:=hf it (by simp);have hl:=rv.length;exact wpAny_pyNext_tuple_end (I.ok.hd hc) st (show s.heap.IsTuple a its.toArray from p) (by simp;omega) λh' eb=>⟨rfl,I.turned (t':=s.toks) (λb o hb e=>eb b o hb e) f0 f1 f3 f4 f5⟩
 self:=λ_ _ _ _ _ st h=>wpAny_pyIter_tupleiter st h
def yY{K:gV}(it:Addr)(lo:Int)(n:Nat):v9 P w K tg (SO lo n) [it] it (λi h=>IsRangeIter h it (lo+(i:Nat) * 1) ((n:Int) - (i:Nat)) 1) where
 mem:=by simp
 obj:=λi h st b hb=>by
  have e:b=it:=by simpa using hb
  subst e
  exact⟨_,st,λv z=>by
   have z':Data.fields _=Data.cell v:=z
   cases z'⟩
 keep:=λi h h' st k=>k it (by simp) _ st
 item:=by intro X hP hw hK hc i δ s σ H E I hf st hg;subst hP hw hK;have⟨f0,f1,f2,f3,f4,f5⟩:=hf it (by simp);have W:=Walks.range (prog:=X.prog) (w:=X.w) (I.ok.hd hc) it lo 1 n;refine W.item i s _ _ hg st λv h' tk hv B1 kk=>?_;have⟨t,rfl⟩:=hv;have I1:Inv X δ σ H {s with heap:=h',toks:=tk}:=I.turned (λb o hb e=>kk b o (by simpa using hb) e) f0 f1 f3 f4 f5;refine⟨_,rfl,yE (s:={s with heap:=h',toks:=tk}) (n:="range_iterator") B1 rfl rfl @_ ⟨.int (lo+i),H,I1,⟨t,?_⟩,⟨rfl,rfl⟩,B1,λb hb=>(hf b hb).1⟩⟩;rw[Int.mul_one]
 done:=by intro X hP hw hK hc i δ s σ H E I hf st hg;subst hP hw hK;have⟨f0,f1,f2,f3,f4,f5⟩:=hf it (by simp);exact wpAny_pyNext_range_end (I.ok.hd hc) st (by have:n<=i:=hg;omega) λh' eb=>⟨rfl,I.turned (t':=s.toks) (λb o hb e=>eb b o hb e) f0 f1 f3 f4 f5⟩
 self:=λ_ _ _ _ _ st h=>wpAny_pyIter_rangeiter st h
section
def ET{H:Hp}{R:It->Hp->Prop}{lo hi:Int}{t u v:Tok}{tk:Nat}(I:Inv X δ σ H s)(h1: -(2 ^ 62)<=lo)(h2:lo < 2 ^ 62)(h3: -(2 ^ 62)<=hi)(h4:hi < 2 ^ 62)
  (q:R (SO lo (hi - lo).toNat) H):wpAny (model X.prog X.w) X.A (pyIter (.ref s.heap.objs.size)) (Jb X δ σ tg R) E {s with heap:=s.heap.push {cls:=.type "range",data:=.fields #[.int lo t,.int hi u,.int 1 v]},toks:=tk}:=by
 refine wpAny_pyIter_range (IsRange.new ..) (small_one h1 h2 h3 h4) ?_;have I1:Inv X δ σ H {s with heap:=s.heap.push {cls:=.type "range",data:=.fields #[.int lo t,.int hi u,.int 1 v]},toks:=tk}:=I.kept λb o e=>aad _ e
 refine⟨(s.heap.push {cls:=.type "range",data:=.fields #[.int lo t,.int hi u,.int 1 v]}).objs.size,[(s.heap.push {cls:=.type "range",data:=.fields #[.int lo t,.int hi u,.int 1 v]}).objs.size],_,_,H,rfl,
  I1.kept (t':=tk) λb o e=>aad _ e,yY _ lo (hi - lo).toNat,?_,λb hb=>?_,q⟩
 ·have e1:lo+((0:Nat):Int) * 1=lo:=by simp
  have e2:(((hi - lo).toNat:Nat):Int) - ((0:Nat):Int)=Builtin.Range.rangeSize lo hi 1:=by rw[rangeSize_one];split <;> omega
  show IsRangeIter _ _ (lo+((0:Nat):Int) * 1) ((((hi - lo).toNat:Nat):Int) - ((0:Nat):Int)) 1;rw[e1,e2];exact aaP _ rfl
 ·have e:b=(s.heap.push {cls:=.type "range",data:=.fields #[.int lo t,.int hi u,.int 1 v]}).objs.size:=by simpa using hb
  subst e;exact I1.HP (aaq _) (I1.av.fresh (aaq _))
def QS(ta:TA):TI:=λσ H R=>ta σ H λvs H1=>∃j:Int,vs=[.int j]/\ -(2 ^ 62)<=j/\j < 2 ^ 62/\R (SO 0 j.toNat) H1
def C4{a:Expr}{ta:TA}{p:Pos}(hg:Gl X "range")(hm:X.mg "range"=none)(ha:PA X [a] ta)(hs:starEach [a] X.env=[(false,eval a X.env)]:=by rfl):PI X tg (.Call (.Name "range" p) [a] [] pos) (QS ta):=by
 intro δ s σ H R I h;refine Call_ (qU I hg hm boot_range (PyProof.Rows.callWith_type1 (aT (ha pos δ s σ H _ I h) λus s1 xz=>?_) hs rfl));have⟨vs,H1,I1,r1,q1⟩:=xz;have⟨j,e,q1,q2,q⟩:=q1;subst e;cases r1 with
 | cons r rr=>
  cases rr;have⟨t,rfl⟩:=r;exact call_range_1 (ET I1 () () q1 q2 (by simpa using q))
def Uh(wi:TI)(g:TG)(tb:TS):TS:=λD σ H=>wi σ H λJ H1=>∃W:Nat->Nat->St->Hp->Prop,(∃m,W 0 m σ H1)/\∀i m σ H,W i m σ H->
 (J.stop i H/\D.nx σ H)\/(J.go i H/\∃N:St->Hp->Prop,(∀σ' H',N σ' H'->∃m',m' < m/\W (i+1) m' σ' H')/\∀x H',J.Rg i H x H'->g x σ H' λσ2 H2=>tb {D with nx:=N,ct:=N,bk:=D.nx} σ2 H2)
def vS(fp:List Addr)(h:Heap):List (Addr×Obj):=fp.filterMap λb=>(h.get? b).map λo=>(b,o)
def bu{o:Obj}(hb:b∈fp)(e:h.get? b=some o):(b,o)∈vS fp h:=aa6.mpr ⟨b,hb,by rw[e];rfl⟩
def CG{p:Addr×Obj}(hp:p∈vS fp h):p.1∈fp/\h.get? p.1=some p.2:=by
 have⟨b,hb,e⟩:=aa6.mp hp;cases q:h.get? b with
 | none=>rw[q]at e;cases e
 | some o=>
  rw[q]at e;have e':(b,o)=p:=aaw e;subst e';exact⟨hb,q⟩
def Inv.pinned{H:Hp}(I:Inv X δ σ H s)(hf:∀b∈fp,oa X δ H b)(ho:∀b∈fp,∃o,s.heap.get? b=some o/\∀v,o.data≠ .cell v):Inv X (δ++vS fp s.heap) σ H s:=
 I.BB λp hp=>(aaj.mp hp).elim (λz=>I.pin p (aal _ z)) λz=>by have⟨hb,e⟩:=CG z;have⟨f0,f1,f2,_⟩:=hf p.1 hb;have⟨o,e',d⟩:=ho p.1 hb;rw[e]at e';cases e';exact⟨e,f0,f1,f2,d⟩
def Inv.fe{pl:List (Addr×Obj)}{H:Hp}(I:Inv X (δ++pl) σ H s):Inv X δ σ H s:=I.BB λp hp=>I.pin p (aal _ (aa1 _ hp))
def GC{iter:Expr}{wi:TI}{g:TG}{tb:TS}(hp:PassesOwn (model X.prog X.w) X.A X.env X.xe)(hc:X.calm=true)(hi:PI X tg iter wi)(hg:PG X tg g)(hb:wc X body tb)
  (hs:∀x,foldedSetIterable iter X.env x=pure x:=by intro _;rfl):PS X (.For tg iter body [] pos) (Uh wi g tb):=by
 intro δ s σ H D I h;refine wpAny_For (aT (hi δ s σ H _ I h) λv s1 h1=>aT h1 λO3 s2 h2=>?_) hs;have⟨it,fp,tn,J,H2,e,I2,T,ZI,f2,W,⟨m0,w0⟩,turn⟩:=h2;subst e;have MQ:∀{H':Hp},(∀b∈fp,H' b=none)->∀b∈fp,oa X δ H' b:=λhn b hb=>⟨hn b hb,(f2 b hb).2⟩;refine codeAny_forLoop_any (λn s'=>∃i σ' H',Inv X δ σ' H' s'/\tn i s'.heap/\(∀b∈fp,H' b=none)/\W i n σ' H') ?_ m0 ⟨0,σ,H2,I2,ZI,λb hb=>(f2 b hb).1,w0⟩;rintro n s3 ⟨i,σ3,H3,I3,WS,Xr,w3⟩;rcases turn i n σ3 H3 w3 with ⟨stop,qn⟩| ⟨go,N,hN,step⟩
 ·refine wpAny_passesOwn hp (aT (T.done X rfl rfl rfl hc i δ s3 σ3 H3 X.xe I3 (MQ Xr) WS stop) λr s4 xz=>?_);have⟨hr,I4⟩:=xz;subst hr;exact wpAny_execs_nil ⟨σ3,H3,I4,qn⟩
 ·refine wpAny_passesOwn hp (aT (T.item X rfl rfl rfl hc i δ s3 σ3 H3 X.xe I3 (MQ Xr) WS go) λr s4 xz=>?_);have⟨u,hr,h4⟩:=xz;subst hr;refine wpAny_passesOwn hp (aT h4 λ_ s5 xz=>?_);have⟨x,H5,I5,r5,y5,Vz,Ot⟩:=xz;have ZQ:=I5.pinned (MQ Ot) (T.obj _ _ Vz);refine wpAny_passesOwn hp (aT (hg _ s5 σ3 H5 x u _ ZQ r5 (step x H5 y5)) λ_ s6 xz=>?_);have⟨σ6,H6,I6,q6⟩:=xz;refine wpAny_passesOwn hp (aT (hb _ s6 σ6 H6 _ I6 q6) λf s7 q7=>?_);have again:∀{σ7:St} {H7:Hp},Inv X (δ++vS fp s5.heap) σ7 H7 s7->N σ7 H7->∃m,m < n/\∃i σ' H',Inv X δ σ' H' s7/\tn i s7.heap/\(∀b∈fp,H' b=none)/\W i m σ' H':=λ{σ7 H7} I7 n7=>by have⟨m',hm,w7⟩:=hN σ7 H7 n7;refine⟨m',hm,i+1,σ7,H7,I7.fe,T.keep _ _ _ Vz λb hb o e=>(I7.pin (b,o) (aal _ (aal _ (bu hb e)))).1,λb hb=>?_,w7⟩;have⟨o,e,d⟩:=T.obj _ _ Vz b hb;exact(I7.pin (b,o) (aal _ (aal _ (bu hb e)))).2.1
  cases f with
  | next=>have⟨σ7,H7,I7,n7⟩:=q7;exact again I7 n7
  | cont=>have⟨σ7,H7,I7,n7⟩:=q7;exact again I7 n7
  | brk=>have⟨σ7,H7,I7,q7⟩:=q7;exact⟨σ7,H7,I7.fe,q7⟩
  | ret v=>have⟨x7,σ7,H7,I7,r7,q7⟩:=q7;exact⟨x7,σ7,H7,I7.fe,r7,q7⟩
end
abbrev R2:=V->V->Hp->VK->Prop
def gQ(X:Cx)(f:Value->Value->Sem Value)(r:R2):Prop:=
 ∀(δ:List (Addr×Obj)) (s:Shared) (σ:St) (H:Hp) (x y:V) (v u:Value) (Q:VK),Inv X δ σ H s->aj x v->aj y u->r x y H Q->
  wpAny (model X.prog X.w) X.A (f v u) (EP X δ σ Q) X.xe s
def Sl(X:Cx)(f:Value->Sem Value)(r:V->Hp->VK->Prop):Prop:=
 ∀(δ:List (Addr×Obj)) (s:Shared) (σ:St) (H:Hp) (x:V) (v:Value) (Q:VK),Inv X δ σ H s->aj x v->r x H Q->
  wpAny (model X.prog X.w) X.A (f v) (EP X δ σ Q) X.xe s
def cL(X:Cx)(f:Value)(r:List V->Hp->VK->Prop):Prop:=
 ∀(δ:List (Addr×Obj)) (s:Shared) (σ:St) (H:Hp) (xs:List V) (us:List Value) (Q:VK),Inv X δ σ H s->Ψ xs us->r xs H Q->
  wpAny (model X.prog X.w) X.A (call f us) (EP X δ σ Q) X.xe s
def Qp(r:R2)(ta tb:TE):TE:=λσ H Q=>ta σ H λx H1=>tb σ H1 λy H2=>r x y H2 Q
def WJ(r:V->Hp->VK->Prop)(ta:TE):TE:=λσ H Q=>ta σ H λx H1=>r x H1 Q
def rI(C:Int->Int->Prop)(g:Int->Int->V):R2:=λx y H Q=>∃i j,x= .int i/\y= .int j/\C i j/\Q (g i j) H
def GH(g:Int->Int->V):R2:=λx y H Q=>∃i j,x= .int i/\y= .int j/\Q (g i j) H
def rU(g:Int->V):V->Hp->VK->Prop:=λx H Q=>∃i,x= .int i/\Q (g i) H
section
variable{a b:Expr}{tb tc:TE}
def NS(ha:PE X a ta)(hb:PE X b tb){H:Hp}{R:V->V->Hp->Prop}(I:Inv X δ σ H s)
  (h:ta σ H λx H1=>tb σ H1 λy H2=>R x y H2)
  (hf:∀v u s2 x y H2,Inv X δ σ H2 s2->aj x v->aj y u->R x y H2->wpAny (model X.prog X.w) X.A (f v u) Q X.xe s2):
  wpAny (model X.prog X.w) X.A (eval a X.env) (λv s₁=>wpAny (model X.prog X.w) X.A (eval b X.env) (λu s₂=>wpAny (model X.prog X.w) X.A (f v u) Q X.xe s₂) X.xe s₁) X.xe s:=by
 refine aT (ha δ s σ H _ I h) λv s1 xz=>?_;have⟨x,H1,I1,r1,q1⟩:=xz;refine aT (hb δ s1 σ H1 _ I1 q1) λu s2 xz=>?_;have⟨y,H2,I2,r2,q2⟩:=xz;exact hf v u s2 x y H2 I2 r1 r2 q2
def Qr{op:Operator}{r:R2}(ho:gQ X (binaryOp op) r)(ha:PE X a ta)(hb:PE X b tb):PE X (.BinOp a op b pos) (Qp r ta tb):=by intro δ s σ H Q I h;exact wpAny_BinOp (NS ha hb I h λv u s2 x y H2 I2 rx ry q=>ho δ s2 σ H2 x y v u Q I2 rx ry q)
def Q0{op:UnaryOp}{r:V->Hp->VK->Prop}(ho:Sl X (unaryOp op) r)(ha:PE X a ta):PE X (.UnaryOp op a pos) (WJ r ta):=by intro δ s σ H Q I h;exact UnaryOp_ (aT (ha δ s σ H _ I h) λv s1 ⟨x,H1,I1,r1,q1⟩=>ho δ s1 σ H1 x v Q I1 r1 q1)
def Pe{C:Int->Int->Prop}{g:Int->Int->Int}
  (rule:∀(i j:Int) (t u:Tok) (s:Shared) (Q:Value->Shared->Prop) (E:Value->Shared->Prop),C i j->Q (.int (g i j) s.toks) {s with toks:=s.toks+1}->wpAny (model X.prog X.w) X.A (f (.int i t) (.int j u)) Q E s):
  gQ X f (rI C λi j=>.int (g i j)):=by
 intro δ s σ H x y v u Q I rx ry h;have⟨i,j,rfl,rfl,hc,q⟩:=h;have⟨t,rfl⟩:=rx;have⟨t',rfl⟩:=ry;exact rule i j t t' s _ _ hc ⟨.int (g i j),H,I.tok _,⟨_,rfl⟩,q⟩
def Qq{g:Int->Int->Int}
  (rule:∀(i j:Int) (t u:Tok) (s:Shared) (Q:Value->Shared->Prop) (E:Value->Shared->Prop),Q (.int (g i j) s.toks) {s with toks:=s.toks+1}->wpAny (model X.prog X.w) X.A (f (.int i t) (.int j u)) Q E s):
  gQ X f (GH λi j=>.int (g i j)):=by
 intro δ s σ H x y v u Q I rx ry h;have⟨i,j,rfl,rfl,q⟩:=h;have⟨t,rfl⟩:=rx;have⟨t',rfl⟩:=ry;exact rule i j t t' s _ _ ⟨.int (g i j),H,I.tok _,⟨_,rfl⟩,q⟩
def NB{g:Int->Int->Bool}
  (rule:∀(i j:Int) (t u:Tok) (s:Shared) (Q:Value->Shared->Prop) (E:Value->Shared->Prop),Q (.bool (g i j)) s->wpAny (model X.prog X.w) X.A (f (.int i t) (.int j u)) Q E s):
  gQ X f (GH λi j=>.bl (g i j)):=by
 intro δ s σ H x y v u Q I rx ry h;have⟨i,j,rfl,rfl,q⟩:=h;have⟨t,rfl⟩:=rx;have⟨t',rfl⟩:=ry;exact rule i j t t' s _ _ ⟨.bl (g i j),H,I,rfl,q⟩
def KH(i j:Int):Prop:=0<=j/\j<=1000000/\i.natAbs < 2 ^ 64
def MI:gQ X (binaryOp .Add) (GH λi j=>.int (i+j)):=Qq λ_ _ _ _ _ _ _ q=>add_int q
def Ov:gQ X (binaryOp .Sub) (GH λi j=>.int (i - j)):=Qq λ_ _ _ _ _ _ _ q=>sub_int q
def Nd:gQ X (binaryOp .Mod) (rI (λ_ j=>0 < j) λi j=>.int (i % j)):=Pe λi j _ _ _ _ _ hc q=>by have h1:(0:Int) < j:=hc;exact mod_int' () (by rw[abz i ()];exact q)
def OB:gQ X (binaryOp .Pow) (rI KH λi j=>.int (i ^ j.toNat)):=Pe λ_ _ _ _ _ _ _ hc q=>pow_int_small hc.1 hc.2.1 hc.2.2 q
def Zi{f:Value->Sem Value}{g:Int->Int}
  (rule:∀(i:Int) (t:Tok) (s:Shared) (Q:Value->Shared->Prop) (E:Value->Shared->Prop),Q (.int (g i) s.toks) {s with toks:=s.toks+1}->wpAny (model X.prog X.w) X.A (f (.int i t)) Q E s):
  Sl X f (rU λi=>.int (g i)):=by
 intro δ s σ H x v Q I rx h;have⟨i,rfl,q⟩:=h;have⟨t,rfl⟩:=rx;exact rule i t s _ _ ⟨.int (g i),H,I.tok _,⟨_,rfl⟩,q⟩
def Mm:Sl X (unaryOp .USub) (rU λi=>.int (-i)):=Zi λ_ _ _ _ _ q=>neg_int q
end
def P0:V->V->Bool
 | .aS,.aS=>true| .aS,.int _=>true| .int _,.aS=>true| .aS,.bl _=>true| .bl _,.aS=>true| .aS,.str _=>true| .str _,.aS=>true
 | .int _,.int _=>true| .bl _,.bl _=>true| .str _,.str _=>true| .Ec _,.Ec _=>true
 | .int _,.str _=>true| .str _,.int _=>true| .bl _,.str _=>true| .str _,.bl _=>true
 | _,_=>false
def Xe:R2:=λx y H Q=>P0 x y=true/\Q (.bl (decide (x=y))) H
def Wz:R2:=λx y H Q=>P0 x y=true/\Q (.bl (!decide (x=y))) H
def Bk{i j:Int}:decide (V.int i=V.int j)=(i==j):=by rw[aa7];simp
def EV{i j:Bool}:decide (V.bl i=V.bl j)=(i==j):=by rw[aa7];simp
def Bu{i j:Str}:decide (V.str i=V.str j)=(i==j):=by rw[aa7];simp
def BZ{i j:Array UInt8}:decide (V.Ec i=V.Ec j)=(i.toList==j.toList):=by rw[aa7];cases i;cases j;simp
section
variable{a b:Expr}{tb tc:TE}
def ao{H:Hp}{Q:VK}{k k':Bool}(I:Inv X δ σ H s)(q:Q (.bl k) H)(e:k=k'):EP X δ σ Q (.bool k') s:=by subst e;exact⟨.bl k,H,I,rfl,q⟩
def LI:gQ X (compareOp .Eq) Xe:=by
 intro δ s σ H x y v u Q I rx ry h;have⟨hs,q⟩:=h;cases x with
 | aS=>
  cases rx;cases y with
  | aS=>cases ry;exact PySem.EqNone.eq_none_none (ao I q (by simp))
  | bl j=>cases ry;exact PySem.EqNone.eq_none_bool (ao I q (by simp))
  | int j=>have⟨t',rfl⟩:=ry;exact PySem.EqNone.eq_none_int (ao I q (by simp))
  | str j=>have⟨t',rfl⟩:=ry;exact PySem.EqNone.eq_none_str (ao I q (by simp))
  | _=>exact aaG (show false=true from hs) aax
 | bl i=>
  cases rx;cases y with
  | aS=>cases ry;exact PySem.EqNone.eq_bool_none (ao I q (by simp))
  | bl j=>cases ry;exact eq_bool (ao I q EV)
  | str j=>have⟨t',rfl⟩:=ry;exact PySem.EqMixed.eq_bool_str (ao I q (by simp))
  | _=>exact aaG (show false=true from hs) aax
 | int i=>
  have⟨t,rfl⟩:=rx;cases y with
  | aS=>cases ry;exact PySem.EqNone.eq_int_none (ao I q (by simp))
  | int j=>have⟨t',rfl⟩:=ry;exact eq_int (ao I q Bk)
  | str j=>have⟨t',rfl⟩:=ry;exact PySem.EqMixed.eq_int_str (ao I q (by simp))
  | _=>exact aaG (show false=true from hs) aax
 | str i=>
  have⟨t,rfl⟩:=rx;cases y with
  | aS=>cases ry;exact PySem.EqNone.eq_str_none (ao I q (by simp))
  | bl j=>cases ry;exact PySem.EqMixed.eq_str_bool (ao I q (by simp))
  | int j=>have⟨t',rfl⟩:=ry;exact PySem.EqMixed.eq_str_int (ao I q (by simp))
  | str j=>have⟨t',rfl⟩:=ry;exact eq_str (ao I q Bu)
  | _=>exact aaG (show false=true from hs) aax
 | Ec i=>
  have⟨t,rfl⟩:=rx;cases y with
  | Ec j=>have⟨t',rfl⟩:=ry;exact PySem.W.eq_bytes (ao I q BZ)
  | _=>exact aaG (show false=true from hs) aax
 | _=>cases y <;> exact aaG (show false=true from hs) aax
def PH:gQ X (compareOp .NotEq) Wz:=by
 intro δ s σ H x y v u Q I rx ry h;have⟨hs,q⟩:=h;cases x with
 | aS=>
  cases rx;cases y with
  | aS=>cases ry;exact PySem.EqNone.ne_none_none (ao I q (by simp))
  | bl j=>cases ry;exact PySem.EqNone.ne_none_bool (ao I q (by simp))
  | int j=>have⟨t',rfl⟩:=ry;exact PySem.EqNone.ne_none_int (ao I q (by simp))
  | str j=>have⟨t',rfl⟩:=ry;exact PySem.EqNone.ne_none_str (ao I q (by simp))
  | _=>exact aaG (show false=true from hs) aax
 | bl i=>
  cases rx;cases y with
  | aS=>cases ry;exact PySem.EqNone.ne_bool_none (ao I q (by simp))
  | bl j=>cases ry;exact ne_bool (ao I q (aaN not EV))
  | str j=>have⟨t',rfl⟩:=ry;exact PySem.EqMixed.ne_bool_str (ao I q (by simp))
  | _=>exact aaG (show false=true from hs) aax
 | int i=>
  have⟨t,rfl⟩:=rx;cases y with
  | aS=>cases ry;exact PySem.EqNone.ne_int_none (ao I q (by simp))
  | int j=>have⟨t',rfl⟩:=ry;exact ne_int (ao I q (aaN not Bk))
  | str j=>have⟨t',rfl⟩:=ry;exact PySem.EqMixed.ne_int_str (ao I q (by simp))
  | _=>exact aaG (show false=true from hs) aax
 | str i=>
  have⟨t,rfl⟩:=rx;cases y with
  | aS=>cases ry;exact PySem.EqNone.ne_str_none (ao I q (by simp))
  | bl j=>cases ry;exact PySem.EqMixed.ne_str_bool (ao I q (by simp))
  | int j=>have⟨t',rfl⟩:=ry;exact PySem.EqMixed.ne_str_int (ao I q (by simp))
  | str j=>have⟨t',rfl⟩:=ry;exact ne_str (ao I q (aaN not Bu))
  | _=>exact aaG (show false=true from hs) aax
 | Ec i=>
  have⟨t,rfl⟩:=rx;cases y with
  | Ec j=>have⟨t',rfl⟩:=ry;exact PySem.W.ne_bytes (ao I q (aaN not BZ))
  | _=>exact aaG (show false=true from hs) aax
 | _=>cases y <;> exact aaG (show false=true from hs) aax
def LV:gQ X (compareOp .Lt) (GH λi j=>.bl (decide (i < j))):=NB λ_ _ _ _ _ _ _ q=>lt_int q
def QV:gQ X (compareOp .LtE) (GH λi j=>.bl (decide (i<=j))):=NB λ_ _ _ _ _ _ _ q=>le_int q
def RG:gQ X (compareOp .Gt) (GH λi j=>.bl (decide (j < i))):=NB λ_ _ _ _ _ _ _ q=>gt_int q
def CH:gQ X (compareOp .In) (λx y H Q=>∃i j,x= .str i/\y= .str j/\Q (.bl (!(Builtin.Str.occurrences j i 0 j.length 1).isEmpty)) H):=by intro δ s σ H x y v u Q I rx ry h;have⟨i,j,rfl,rfl,q⟩:=h;have⟨t,rfl⟩:=rx;have⟨t',rfl⟩:=ry;exact in_str (ao I q rfl)
def GG:gQ X (compareOp .Is) (λx y H Q=>y= .aS/\Q (.bl (decide (x= .aS))) H):=by
 intro δ s σ H x y v u Q I rx ry h;have⟨rfl,q⟩:=h;cases ry;refine is_none_gen (ao I q ?_)
 cases x <;> first
  | (cases rx;rfl)
  | (have⟨t,rfl⟩:=rx;rfl)
def u_:gQ X (compareOp .NotIn) (λx y H Q=>∃i j,x= .str i/\y= .str j/\Q (.bl (!(!(Builtin.Str.occurrences j i 0 j.length 1).isEmpty))) H):=by intro δ s σ H x y v u Q I rx ry h;have⟨i,j,rfl,rfl,q⟩:=h;have⟨t,rfl⟩:=rx;have⟨t',rfl⟩:=ry;exact notIn_str (ao I q rfl)
def gQ.or{r r':R2}(h:gQ X f r)(h':gQ X f r'):gQ X f (λx y H Q=>r x y H Q\/r' x y H Q):=by
 intro δ s σ H x y v u Q I rx ry q;rcases q with q| q
 ·exact h δ s σ H x y v u Q I rx ry q
 ·exact h' δ s σ H x y v u Q I rx ry q
def il(b:Expr)(h:op≠ .In:=by decide)(h2:op≠ .NotIn:=by decide):behindInMarks op b=false:=by
 have e1:(op==CmpOp.In)=false:=by cases op <;> first| rfl| exact aaG rfl h
 have e2:(op==CmpOp.NotIn)=false:=by cases op <;> first| rfl| exact aaG rfl h2
 cases b <;> simp[behindInMarks,e1,e2]
def IX{r:R2}(ho:gQ X (compareOp op) r)(ha:PE X a ta)(hb:PE X b tb)(hm:behindInMarks op b=false):PE X (.Compare a [op] [b] pos) (Qp r ta tb):=by intro δ s σ H Q I h;exact wpAny_Compare1 (NS ha hb I h λv u s2 x y H2 I2 rx ry q=>ho δ s2 σ H2 x y v u Q I2 rx ry q) hm
def PX(t:TE):TT:=λσ H Q=>t σ H λx H'=>∃k,x= .bl k/\Q k H'
def Kr{r:R2}(ho:gQ X (compareOp op) r)(ha:PE X a ta)(hb:PE X b tb)(hm:behindInMarks op b=false):PT X (.Compare a [op] [b] pos) (PX (Qp r ta tb)):=by
 intro δ s σ H Q I h
 refine wpAny_isTrue_Compare1 (aT (ha δ s σ H _ I h) fun v s1 ⟨x,H1,I1,r1,q1⟩=>aT (hb δ s1 σ H1 _ I1 q1) fun u s2 ⟨y,H2,I2,r2,q2⟩=>
  aT (ho δ s2 σ H2 x y v u _ I2 r1 r2 q2) fun c s3 ⟨z,H3,I3,r3,k,e,q3⟩=>?_) hm
 subst e;cases r3;exact wpAny_truthy_bool ⟨H3,I3,q3⟩
def mZ:(sizeLine:Nat) < 2 ^ 63:=by rw[sizeLine_eq];decide
def AB:gQ X (binaryOp .Add) (λx y H Q=>∃i j,x= .str i/\y= .str j/\i.length+j.length<=sizeLine/\Q (.str (i++j)) H):=by intro δ s σ H x y v u Q I rx ry h;have⟨i,j,rfl,rfl,hz,q⟩:=h;have⟨t,rfl⟩:=rx;have⟨t',rfl⟩:=ry;exact add_str (λt' tk=>⟨.str (i++j),H,I.tok _,⟨_,rfl⟩,q⟩) hz
def fS{x:V}(r:Ψ [x] us):∃u,us=[u]/\aj x u:=by
 cases r with
 | cons r1 r2=>cases r2;exact⟨_,rfl,r1⟩
def Cc{x y:V}(r:Ψ [x,y] us):∃u w',us=[u,w']/\aj x u/\aj y w':=by
 cases r with
 | cons r1 r2=>
  cases r2 with
  | cons r3 r4=>cases r4;exact⟨_,_,rfl,r1,r3⟩
def Gy:cL X (.builtin "abs") (λxs H Q=>∃i,xs=[.int i]/\Q (.int (if i < 0 then -i else i)) H):=by intro δ s σ H xs us Q I r h;have⟨i,rfl,q⟩:=h;have⟨u,rfl,t,rfl⟩:=fS r;exact call_abs_int λu tk=>⟨.int (if i < 0 then -i else i),H,I.tok _,⟨_,rfl⟩,q⟩
def DC(hc:X.calm=true):cL X (.builtin "min") (λxs H Q=>∃i j,xs=[.int i,.int j]/\Q (.int (if j < i then j else i)) H):=by
 intro δ s σ H xs us Q I r h;have⟨i,j,rfl,q⟩:=h;have⟨u,w',rfl,⟨t,rfl⟩,⟨t',rfl⟩⟩:=Cc r;refine min_two_ints (I.ok.hd hc) λh' tk k=>⟨_,H,I.kept k,?_,q⟩;by_cases hj:j < i
 ·rw[aaB hj,aaB hj];exact⟨_,rfl⟩
 ·rw[aay hj,aay hj];exact⟨_,rfl⟩
def C0:cL X (.type "int") (λxs H Q=>(∃i,xs=[.int i]/\Q (.int i) H)\/∃k,xs=[.bl k]/\Q (.int (if k then 1 else 0)) H):=by
 intro δ s σ H xs us Q I r h;rcases h with ⟨i,rfl,q⟩| ⟨k,rfl,q⟩
 ·have⟨u,rfl,t,rfl⟩:=fS r;exact call_int_int ⟨.int i,H,I,⟨_,rfl⟩,q⟩
 ·have⟨u,rfl,r1⟩:=fS r;cases r1;exact call_int_bool ⟨.int (if k then 1 else 0),H,I.tok _,⟨_,rfl⟩,q⟩
end
structure yL(h:Heap)(x dx C:Addr)(mA:Str->Option Value):Prop where
 obj:h.get? x=some (PySem.W.instObj C dx)
 ns:h.Ns1 dx mA
 ne:dx≠x
def sO(n:h.Ns1 dx mA):∃od,h.get? dx=some od/\∀name,PySem.W.lookIn name od=some (mA name):=by
 have⟨o,es,ep,ho,hd,hk,_,hm⟩:=n;refine⟨o,ho,λname=>?_⟩;have e:=hm name;unfold nsFind findBy at e;rw[<-Array.find?_toList]at e;unfold PySem.W.lookIn;rw[hd];dsimp only;split
 ·rename_i y q;rw[q]at e;exact aaN some e
 ·rename_i q;rw[q]at e;have a:es.toList.any (·.refKey)=false:=by rw[List.any_eq_false];intro y hy;have⟨z,t,U7⟩:=hk y (Array.mem_toList_iff.mp hy);simp[DictEntry.refKey,U7]
  have a':¬es.toList.any (·.refKey)=true:=by rw[a];exact aax
  rw[aay a'];exact aaN some e
def yL.look{x:Addr}(I:yL h x dx C mA):∃od,PySem.W.InstAt h x (PySem.W.instObj C dx) C (some od)/\∀name,PySem.W.lookIn name od=some (mA name):=
 let ⟨od,ho,hl⟩:=sO I.ns
 ⟨od,⟨I.obj,rfl,rfl,ho⟩,hl⟩
section
variable{K:gV}{x f:Addr}{name:Str}{v:Value}
def K9{expr:Bool}(X:K.In s.heap)(I:yL s.heap x dx C mA)(hg:PySem.W.plainGet K C name=true)(hh:PySem.W.hasDictIn K C=true)
  (ha:PySem.W.findIn K (.ref C) name=some none) (hv:mA name=some v) (Xy:PySem.W.handedIn v=true) (h:Q v {s with toks:=s.toks+1}):
  wpAny (model prog w) A (getAttr (.ref x) name expr) Q E s:=by
 have⟨od,J,hl⟩:=I.look;exact PySem.W.get_value X J (PySem.W.plainGet_of hg).1 (PySem.W.findObj_own hh ha rfl (by rw[hl,hv])) Xy h
def FK{pl:Sem Bool}{Q:Value×List Value->Shared->Prop}(X:K.In s.heap)(I:yL s.heap x dx C mA)(hg:PySem.W.plainGet K C name=true)
  (hf:PySem.W.findIn K (.ref C) name=some (some (.ref f))) (ht:PySem.W.isFn K (.ref f)=true) (hv:mA name=none) (h:Q (.ref f,[.ref x]) s):
  wpAny (model prog w) A (getMethod (.ref x) name pl) Q E s:=by
 have⟨od,J,hl⟩:=I.look;exact PySem.W.method_fn X J (PySem.W.plainGet_of hg).1 (PySem.W.plainGet_of hg).2 hf (aa8.mp ht) (by show(PySem.W.lookIn name od).map (·.isSome)=some false;rw[hl,hv];rfl) h
def KS{ns:List Str}{Q:Unit->Shared->Prop}(X:K.In s.heap)(I:yL s.heap x dx C mA)
  (hs:PySem.W.findIn K (.ref C) "__setattr__"=some (some (.builtin "object.__setattr__"))) (hp:PySem.W.plainOver K C=true) (ht:PySem.W.takerIn K C name=some none) (hh:PySem.W.hasDictIn K C=true)
  (hw:PySem.Within mA ns) (hsz:ns.length<=sizeLine)
  (h:∀h',yL h' x dx C (λy=>if y=name then some v else mA y)->Heap.SameBut dx s.heap h'->Q Unit.unit {s with heap:=h',toks:=s.toks+2}):
  wpAny (model prog w) A (setAttr (.ref x) name v) Q E s:=by
 have⟨od,J,hl⟩:=I.look;refine PySem.W.set_plain X J hs (PySem.W.osa_open (s:={s with toks:=s.toks+1}) (r:=none) X J hp ht λb=>?_);have⟨cd,hc,uv⟩:=PySem.W.any_some hh;have hx:s.heap.get? x=some ⟨.ref C,some dx,.plain,#[]⟩:=I.obj;refine aab (aar (aab (aab (wpAny_loadPart hx (aab (PySem.W.Looks.here (s:={s with toks:=s.toks+1}) (PySem.W.looks_clsIn X hc) ?_))))));rw[uv];refine aar (a:=some dx) (aab (aar (aab ?_)));refine wpAny_nsSet1 (s:={s with toks:=s.toks+1}) I.ns λh' SI Wh=>?_;have⟨oD,Xg,Wj,P5,Qz,Oa⟩:=SI.count (PySem.Within.cons name v hw);refine aab (wpAny_lookBehind P5 (by rw[Qz];exact pastItsLine_dict (aaD Oa (by rw[aat];omega))) ?_);exact aar (h _ ⟨(Wh.2 _ (Ne.symm I.ne)).trans I.obj,SI,I.ne⟩ Wh)
def Ig{R:Result->Shared->Prop}{vs:List Value}(X:K.In s.heap)(hm:PySem.W.makesIn K C=true)
  (hi:PySem.W.findIn K (.ref C) "__init__"=some (some (.ref f))) (hf:PySem.W.typeIn K (.ref f)=some (.type "function"))
  (h:codeAny (model prog w) (A.under (.builtin "type.__call__" ⟨.ref C::vs,kw⟩)) (.call (.ref f) ⟨.ref (s.heap.objs.size+1)::vs,kw⟩) (PySem.W.InitBack (s.heap.objs.size+1) R)
   {s with heap:=(s.heap.push PySem.W.emptyDict).push (PySem.W.instObj C s.heap.objs.size)}):
  codeAny (model prog w) A (.call (.ref C) ⟨vs,kw⟩) R s:=by
 have⟨hh,g,d,t,os⟩:=s;exact PySem.W.make_core (PySem.W.makes_of X hm) (PySem.W.looks_findIn X hi) (λself=>PySem.W.bind_fn X self hf) (.inl rfl) h
end
def fZ(f:Str)(v:V):List (Str×V)->List (Str×V)
 | []=>[(f,v)]
 | (g,x)::r=>if g=f then (g,v)::r else (g,x)::fZ f v r
def iI(f g:Str)(v:V):∀fs:List (Str×V),(fZ f v fs).lookup g=if g=f then some v else fs.lookup g
 | []=>by
  show List.lookup g [(f,v)]=_;by_cases h:g=f
  ·have hb:(g==f)=true:=aa8.mpr h;simp only[List.lookup,hb,if_pos h]
  ·have hb:(g==f)=false:=beq_eq_false_iff_ne.mpr h;simp only[List.lookup,hb,if_neg h]
 | (k,x)::r=>by
  have ih:=iI f g v r;rw[show fZ f v ((k,x)::r)=(if k=f then (k,v)::r else (k,x)::fZ f v r) from rfl];by_cases hk:k=f
  ·rw[aaB hk];by_cases h:g=k
   ·have hb:(g==k)=true:=aa8.mpr h;simp only[List.lookup,hb,if_pos (h.trans hk)]
   ·have hb:(g==k)=false:=beq_eq_false_iff_ne.mpr h;simp only[List.lookup,hb,if_neg (λe:g=f=>h (e.trans hk.symm))]
  ·rw[aay hk];by_cases h:g=k
   ·have hb:(g==k)=true:=aa8.mpr h;simp only[List.lookup,hb,if_neg (λe:g=f=>hk (h.symm.trans e))]
   ·have hb:(g==k)=false:=beq_eq_false_iff_ne.mpr h;simp only[List.lookup,hb];exact ih
def mM(f:Str)(v:V):∀fs:List (Str×V),f∈(fZ f v fs).map (·.1)/\∀g,g∈fs.map (·.1)->g∈(fZ f v fs).map (·.1)
 | []=>⟨by simp[fZ],λg h=>by simp at h⟩
 | (k,x)::r=>by
  have⟨i1,i2⟩:=mM f v r;rw[show fZ f v ((k,x)::r)=(if k=f then (k,v)::r else (k,x)::fZ f v r) from rfl];by_cases hk:k=f
  ·rw[aaB hk];subst hk;exact⟨by simp,λg h=>by simpa using h⟩
  ·rw[aay hk];refine⟨?_,λg h=>?_⟩
   ·rw[aaJ];exact aag _ i1
   ·rw[aaJ]at h⊢;rcases aam.mp h with e| e
    ·exact aam.mpr (.inl e)
    ·exact aag _ (i2 g e)
def nY(f:Str)(v:V):∀fs:List (Str×V),(fZ f v fs).length<=fs.length+1
 | []=>by simp[fZ]
 | (k,x)::r=>by
  have ih:=nY f v r;rw[show fZ f v ((k,x)::r)=(if k=f then (k,v)::r else (k,x)::fZ f v r) from rfl];by_cases hk:k=f
  ·rw[aaB hk,aat,aat];omega
  ·rw[aay hk,aat,aat];omega
def gh.some_of{o:Option Value}(r:gh (some v) o):∃u,o=some u/\aj v u:=by
 cases o with
 | none=>exact(show False from r).elim
 | some u=>exact⟨u,rfl,r⟩
def gh.none_of{o:Option Value}(r:gh none o):o=none:=by
 cases o with
 | none=>rfl
 | some u=>exact(show False from r).elim
def tw(r:aj v u):PySem.W.handedIn u=true:=by
 cases v with
 | aS=>cases(show u=Value.none from r);rfl
 | bl b=>cases(show u=Value.bool b from r);rfl
 | int i=>have⟨t,e⟩:=(show∃t,u=Value.int i t from r);cases e;rfl
 | str x=>have⟨t,e⟩:=(show∃t,u=Value.str x t from r);cases e;rfl
 | Ec b=>have⟨t,e⟩:=(show∃t,u=Value.bytes b t from r);cases e;rfl
 | Nw b=>have⟨t,e⟩:=(show∃t,u=Value.float b t from r);cases e;rfl
 | ref a=>cases(show u=Value.ref a from r);rfl
 | ty n=>cases(show u=Value.type n from r);rfl
section
variable{H H':Hp}{fs Ef:List (Str×V)}
def oB(av:iE P w H h)(e:H a=some (.ins C dx fs)):∃mA,yL h a dx C mA/\(∀f,gh (fs.lookup f) (mA f))/\PySem.Within mA (fs.map (·.1))/\fs.length<=1000/\H dx=some (.own a):=by have⟨d,z,ne,ob,mA,n,r,q⟩:=(show aA P w H h a (.ins C dx fs) from av a _ e);exact⟨mA,⟨ob,n,ne⟩,r,q,z,d⟩
end
structure CY(K:gV)(C:Addr):Prop where
 pg:PySem.W.plainGet K C Str.empty=true
 hd:PySem.W.hasDictIn K C=true
 po:PySem.W.plainOver K C=true
 sa:PySem.W.findIn K (.ref C) "__setattr__"=some (some (.builtin "object.__setattr__"))
def CY.get{K:gV}{C:Addr}(c:CY K C)(f:Str):PySem.W.plainGet K C f=true:=c.pg
def gc(K:gV)(C:Addr)(f:Str):Prop:=PySem.W.findIn K (.ref C) f=some none
def gc.QA{K:gV}{f:Str}(n:gc K C f):PySem.W.takerIn K C f=some none:=by unfold PySem.W.takerIn;rw[show PySem.W.findIn K (.ref C) f=some none from n];rfl
structure OW(K:gV)(C:Addr)(m:Str)(f:Addr):Prop where
 at_:PySem.W.findIn K (.ref C) m=some (some (.ref f))
 fn:PySem.W.isFn K (.ref f)=true
 kp:PySem.W.keepIn K (.ref f)=true
section
variable{H:Hp}{fs:List (Str×V)}{f:Str}
def zM{b:Bool}(I:Inv X δ σ H s)(e:H a=some (.ins C dx fs))(c:CY X.K C)(n:gc X.K C f)(l:fs.lookup f=some v)
  (h:∀u s',Inv X δ σ H s'->aj v u->Q u s'):wpAny (model X.prog X.w) A (getAttr (.ref a) f b) Q E s:=by
 have⟨mA,O,r,_,_,_⟩:=oB I.av e;have⟨u,hu,ru⟩:=gh.some_of (v:=v) (o:=mA f) (by rw[<-l];exact r f);exact K9 I.gp O (c.get f) c.hd n hu (tw ru) (h u _ (I.tok _) ru)
def yQ{m:Str}{g:Addr}{pl:Sem Bool}{Q:Value×List Value->Shared->Prop}(I:Inv X δ σ H s)(e:H a=some (.ins C dx fs))(c:CY X.K C)(k:OW X.K C m g)(l:fs.lookup m=none)
  (h:Q (.ref g,[.ref a]) s):wpAny (model X.prog X.w) A (getMethod (.ref a) m pl) Q E s:=by
 have⟨mA,O,r,_,_,_⟩:=oB I.av e;have hn:mA m=none:=gh.none_of (by rw[<-l];exact r m);exact FK I.gp O (c.get m) k.at_ k.fn hn h
def yM{y:V}{Q:Unit->Shared->Prop}(I:Inv X δ σ H s)(e:H a=some (.ins C dx fs))(c:CY X.K C)(n:gc X.K C f)(hl:fs.length < 1000)(ry:aj y u)
  (h:∀s',Inv X δ σ (upd H a (.ins C dx (fZ f y fs))) s'->Q Unit.unit s'):wpAny (model X.prog X.w) A (setAttr (.ref a) f u) Q E s:=by
 have⟨mA,O,r,wi,_,ho⟩:=oB I.av e;have hz:(fs.map (·.1)).length<=sizeLine:=by rw[aac,sizeLine_eq];omega
 refine KS I.gp O c.sa c.po n.QA c.hd wi hz λh' O' sb=>h _ ?_;have hd:∃o,h'.get? dx=some o:=let ⟨o,_,_,e',_⟩:=O'.ns;⟨o,e'⟩
 refine I.write (x:=a) (e:=dx) (by rw[e];exact True.intro) (.inr ho) (λb q hb z=>(sb.2 b hb).trans z) hd ?_;refine⟨by rw[ξ O.ne];exact ho,?_,O.ne,O'.obj,_,O'.ns,λg=>?_,λg hg=>?_⟩
 ·have:=nY f y fs;omega
 ·show gh ((fZ f y fs).lookup g) (if g=f then some u else mA g);rw[iI];by_cases q:g=f
  ·rw[aaB q,aaB q];exact ry
  ·rw[aay q,aay q];exact r g
 ·by_cases q:g=f
  ·rw[q];exact(mM f y fs).1
  ·refine(mM f y fs).2 g (wi g λz=>hg ?_);show(if g=f then some u else mA g)=none;rw[aay q];exact z
def Inv.made(I:Inv X δ σ H s):Inv X δ σ (upd (upd H s.heap.objs.size (.own (s.heap.objs.size+1))) (s.heap.objs.size+1) (.ins C s.heap.objs.size []))
  {s with heap:=(s.heap.push PySem.W.emptyDict).push (PySem.W.instObj C s.heap.objs.size)}:=by
 have e1:(s.heap.push PySem.W.emptyDict).get? s.heap.objs.size=some PySem.W.emptyDict:=aaP s.heap rfl;have e2:((s.heap.push PySem.W.emptyDict).push (PySem.W.instObj C s.heap.objs.size)).get? (s.heap.objs.size+1)=some (PySem.W.instObj C s.heap.objs.size):=by have:=aaP (s.heap.push PySem.W.emptyDict) (o:=PySem.W.instObj C s.heap.objs.size) rfl;rwa[Heap.size_push]at this
 have e3:(s.heap.push PySem.W.emptyDict).Ns s.heap.objs.size (λ_=>none):=⟨PySem.W.emptyDict,#[],_,e1,rfl,(λe he=>absurd he (by simp)),λ_=>rfl⟩;have I1:=I.laid (a:=s.heap.objs.size) (o:=.own (s.heap.objs.size+1)) (h':=s.heap.push PySem.W.emptyDict) (t':=s.toks) (λb u q=>aad _ q) (aaq _) ⟨_,e1⟩;refine I1.laid (a:=s.heap.objs.size+1) (o:=.ins C s.heap.objs.size []) (t':=s.toks) (λb u q=>aad _ q) (Nat.le_of_eq (Heap.size_push _ _)) ?_;have ne:s.heap.objs.size≠s.heap.objs.size+1:=aaH (Nat.lt_succ_self _);refine⟨by rw[ξ ne,Η],aa2 _,ne,e2,λ_=>none,(Heap.Ns1.of_empty e3).at λo q=>aad _ q,λ_=>True.intro,λy hy=>aaG rfl hy⟩
def BJ{env:Env}{f:Str}(hb:attributeBase e f env (eval e env)=eval e env)
  (h:wpAny (model prog w) A (eval e env) (λo s₁=>wpAny (model prog w) A (getAttr o f true) Q E s₁) E s):wpAny (model prog w) A (eval (.Attribute e f pos) env) Q E s:=
 Attribute_any_ h (by rw[arm_eval_Attribute,hb])
end
def Vr(K:gV)(ta:TE)(f:Str):TE:=λσ H Q=>ta σ H λx H1=>∃a C dx fs v,x= .ref a/\H1 a=some (.ins C dx fs)/\CY K C/\gc K C f/\fs.lookup f=some v/\Q v H1
def UZ(K:gV)(ta tv:TE)(f:Str):TS:=λD σ H=>tv σ H λy H1=>ta σ H1 λx H2=>∃a C dx fs,x= .ref a/\H2 a=some (.ins C dx fs)/\CY K C/\gc K C f/\fs.length < 1000/\
 D.nx σ (upd H2 a (.ins C dx (fZ f y fs)))
section
variable{o value:Expr}{f:Str}{pos' rV:Pos}{tv:TE}
def MT(he:PE X e ta)(hb:attributeBase e f X.env (eval e X.env)=eval e X.env):PE X (.Attribute e f pos) (Vr X.K ta f):=by intro δ s σ H Q I h;refine BJ hb (aT (he δ s σ H _ I h) λu s1 xz=>?_);have⟨x,H1,I1,rx,a,C,dx,fs,v,ex,ea,c,n,l,q⟩:=xz;subst ex;obtain rfl:u=Value.ref a:=rx;exact zM I1 ea c n l λu' s2 I2 ru=>⟨v,H1,I2,ru,q⟩
def MC(ha:PE X o ta)(hv:PE X value tv)(hs:swapsWith value (some (.Attribute o f pos')) pos.line X.env=pure false):PS X (.Assign [.Attribute o f pos'] value pos) (UZ X.K ta tv f):=by intro δ s σ H D I h;refine plainObj_wpAny_Assign_Attribute (aT (hv δ s σ H _ I h) fun u s1 ⟨y,H1,I1,ry,q⟩=>aT (ha δ s1 σ H1 _ I1 q) λov s2 xz=>?_) hs;have⟨x,H2,I2,rx,a,C,dx,fs,ex,ea,c,n,l,q2⟩:=xz;subst ex;obtain rfl:ov=Value.ref a:=rx;exact yM I2 ea c n l ry λs3 I3=>⟨σ,_,I3,q2⟩
end
section
variable{H:Hp}{c:Value}{b:Bool}
inductive jK(K:gV)(H:Hp):V->Value->Prop where
 | aS:jK K H .aS (.type "NoneType")
 | bl (x:Bool):jK K H (.bl x) (.type "bool")
 | int (i:Int):jK K H (.int i) (.type "int")
 | str (x:Str):jK K H (.str x) (.type "str")
 | Nw (x:UInt64):jK K H (.Nw x) (.type "float")
 | lst {a:Addr} {xs:List V} (e:H a=some (.lst xs)):jK K H (.ref a) (.type "list")
 | vJ {a:Addr} {o:Obj} {xs:List V} (e:H a=some (.vJ o (.lst xs))):jK K H (.ref a) (.type "list")
 | tup {a:Addr} {xs:List V} (e:H a=some (.tup xs)):jK K H (.ref a) (.type "tuple")
 | dK {a:Addr} {Ο:List (Key×V)} (e:H a=some (.dK Ο)):jK K H (.ref a) (.type "dict")
 | dT {a:Addr} {Ο:List (List Key×V)} (e:H a=some (.dT Ο)):jK K H (.ref a) (.type "dict")
 | ins {a C dx:Addr} {fs:List (Str×V)} (e:H a=some (.ins C dx fs)) (cl:CY K C) (ha:PySem.W.findIn K (.ref C) "__class__"=some (some (.builtin "object.__class__")))
   (hn:PySem.W.specialIn K (.builtin "object.__class__") "__get__"=some (some (.builtin "getset_descriptor.__get__"))) (Wc:PySem.W.takesIn K (.builtin "object.__class__")=some true)
   (hm:PySem.W.mroIn K C (.type "object")=some true):jK K H (.ref a) (.ref C)
def Co{x:V}{t:Value}(I:Inv X δ σ H s)(rx:aj x u)(ty:jK X.K H x t)(e:PySem.W.kitOne X.K t c=some b)(h:∀tk,Q (.bool b) {s with toks:=tk}):
  wpAny (model X.prog X.w) A (call (.builtin "isinstance") [u,c]) Q E s:=by
 cases ty with
 | aS=>cases(show u=Value.none from rx);exact PySem.W.kia_one PySem.W.kitx_none I.gp True.intro e nofun h
 | bl y=>cases(show u=Value.bool y from rx);exact PySem.W.kia_one PySem.W.kitx_bool I.gp True.intro e nofun h
 | int i=>have⟨t,q⟩:=(show∃t,u=Value.int i t from rx);cases q;exact PySem.W.kia_one PySem.W.kitx_int I.gp True.intro e nofun h
 | str y=>have⟨t,q⟩:=(show∃t,u=Value.str y t from rx);cases q;exact PySem.W.kia_one PySem.W.kitx_str I.gp True.intro e nofun h
 | Nw y=>have⟨t,q⟩:=(show∃t,u=Value.float y t from rx);cases q;exact PySem.W.kia_one PySem.W.kitx_float I.gp True.intro e nofun h
 | @lst a xs ea=>
  cases(show u=Value.ref a from rx);have⟨_,_,n,_,h1⟩:=(show aA X.prog X.w H s.heap a (.lst xs) from I.av a _ ea);exact PySem.W.kia_one PySem.W.kitx_list I.gp ⟨_,h1,rfl⟩ e nofun h
 | @vJ a ob xs ea=>
  cases(show u=Value.ref a from rx);have⟨_,_,_,n,_,h1⟩:=(show aA X.prog X.w H s.heap a (.vJ ob (.lst xs)) from I.av a _ ea);exact PySem.W.kia_one PySem.W.kitx_list I.gp ⟨_,h1,rfl⟩ e nofun h
 | @tup a xs ea=>
  cases(show u=Value.ref a from rx);have⟨_,_,_,p⟩:=(show aA X.prog X.w H s.heap a (.tup xs) from I.av a _ ea);have⟨o,h1,h2,_⟩:=p;exact PySem.W.kia_one PySem.W.kitx_tuple I.gp ⟨o,h1,h2⟩ e nofun h
 | @dK a Ο ea=>
  cases(show u=Value.ref a from rx);have⟨_,_,vs,_,p⟩:=(show aA X.prog X.w H s.heap a (.dK Ο) from I.av a _ ea);have⟨o,es,ep,h1,h2,_⟩:=p;exact PySem.W.kia_one PySem.W.kitx_dict I.gp ⟨o,h1,h2.1⟩ e nofun h
 | @dT a Ο ea=>
  cases(show u=Value.ref a from rx);have⟨_,_,xs,_,o,es,ep,h1,h2,_⟩:=(show aA X.prog X.w H s.heap a (.dT Ο) from I.av a _ ea);exact PySem.W.kia_one PySem.W.kitx_dict I.gp ⟨o,h1,h2.1⟩ e nofun h
 | @ins a C dx fs ea cl ha hn Wc hm=>
  cases(show u=Value.ref a from rx);have⟨mA,O,_⟩:=oB I.av ea;have⟨od,J,_⟩:=O.look;exact PySem.W.kia_one (PySem.W.kitx_own (cl.get _) cl.hd ha hn Wc hm) I.gp J e nofun h
end
structure bp(k:Nat)(A:Around):Prop where
 hd:A.handled=none
 dp:A.depth+3 * k+5 < recursionLimit
 un:A.units+16 * k+200 < cLine
def bp.mono{j k:Nat}(r:bp k A)(h:j<=k):bp j A:=⟨r.hd,by have:=r.dp;omega,by have:=r.un;omega⟩
def bp.deeper{k:Nat}(r:bp (k+1) A)(env:Env):bp k (A.deeper env):=
 ⟨r.hd,by have:=r.dp;show A.depth+1+3 * k+5 < _;omega,by have:=r.un;show A.units+3+16 * k+200 < _;omega⟩
def yS:(A.under (.builtin "type.__call__" ⟨.ref C::us,kw⟩)).depth=A.depth+1:=by
 first| rfl| simp[Around.under,Code.weight,Code.isCreation,Code.isGuard,Code.isCaller,Code.frames,Code.isFrame,guardIds]
def Aa:(A.under (.builtin "type.__call__" ⟨.ref C::us,kw⟩)).units=A.units+1:=by
 first| rfl| simp[Around.under,Code.cUnits,Code.frames,Code.isFrame]
def bp.make{k:Nat}(r:bp (k+1) A)(C:Addr)(us:List Value)(kw:List (Str×Value)):bp k (A.under (.builtin "type.__call__" ⟨.ref C::us,kw⟩)):=
 ⟨r.hd,by have:=r.dp;rw[yS];omega,by have:=r.un;rw[Aa];omega⟩
def bp.depth{k:Nat}(r:bp k A):A.depth < recursionLimit:=by have:=r.dp;omega
def bp.units{k:Nat}(r:bp k A):A.units+64 < cLine:=by have:=r.un;omega
def bp.AD{k:Nat}(r:bp k A):A.units < cLine:=by have:=r.un;omega
def RW:TA:=λ_ H Q=>Q [] H
def Pp(ta:TE)(tr:TA):TA:=λσ H Q=>ta σ H λx H1=>tr σ H1 λxs H2=>Q (x::xs) H2
section
variable{t:TA}
def FU:PA X [] RW:=λ_ _ _ _ H Q I h=>Calls.spliced_nil ⟨[],H,I,.nil,h⟩
def vx(ha:PE X e te)(hr:PA X es t)(hs:starEach (e::es) X.env=(false,eval e X.env)::starEach es X.env:=by rfl):PA X (e::es) (Pp te t):=by intro pos δ s σ H Q I h;rw[hs];show wpAny _ _ (spliced ((false,eval e X.env)::backTo pos (starEach es X.env))) _ _ s;refine Calls.spliced_cons (aT (ha δ s σ H _ I h) λu s1 xz=>?_);have⟨x,H1,I1,r1,q1⟩:=xz;exact aT (hr pos δ s1 σ H1 _ I1 q1) λus s2 ⟨xs,H2,I2,r2,q2⟩=>⟨x::xs,H2,I2,.cons r1 r2,q2⟩
def VU(t:TA):TE:=λσ H Q=>t σ H λxs H1=>xs.length<=sizeLine/\∀p,H1 p=none->Q (.ref p) (upd H1 p (.tup xs))
def VY(t:TA):TE:=λσ H Q=>t σ H λxs H1=>xs.length<=sizeLine/\∀p,H1 p=none->Q (.ref p) (upd H1 p (.lst xs))
def Mf{x1}(h:PA X es t):PE X (.Tuple es x1 pos) (VU t):=by intro δ s σ H Q I hq;refine wpAny_Tuple_spliced (aT (h pos δ s σ H _ I hq) fun us s1 ⟨xs,H1,I1,r,z,q⟩=>⟨by rw[<-r.length];exact z,?_⟩);have hf:H1 s1.heap.objs.size=none:=I1.av.fresh (aaq _);refine⟨.ref s1.heap.objs.size,upd H1 s1.heap.objs.size (.tup xs),I1.laid (t':=s1.toks) (λb u e=>aad _ e) (aaq _) ?_,rfl,q _ hf⟩;exact⟨z,us,r,⟨_,aaP _ rfl,rfl,_,rfl⟩⟩
def FD(h:PA X es t):PE X (.List es pos) (VY t):=by intro δ s σ H Q I hq;refine wpAny_List_spliced (aT (h pos δ s σ H _ I hq) fun us s1 ⟨xs,H1,I1,r,z,q⟩=>⟨by rw[<-r.length];exact z,?_⟩);have hf:H1 s1.heap.objs.size=none:=I1.av.fresh (aaq _);refine⟨.ref s1.heap.objs.size,upd H1 s1.heap.objs.size (.lst xs),I1.laid (t':=s1.toks) (λb u e=>aad _ e) (aaq _) ?_,rfl,q _ hf⟩;exact⟨z,us,0,r,aaP _ rfl⟩
end
abbrev Sp:=List V->Hp->VK->XK->Prop
abbrev yH:=List Env->Hp->Shared->XK->Value->Shared->Prop
structure AG(P:Program)(w:World)(K:gV)(mg:Str->Option Value)(base:Heap)(A:Around)(outer:List Env)(s:Shared)(H:Hp):Prop where
 frames:A.frames=some outer
 mod:Mod K mg base
 bs:∀b o,base.get? b=some o->s.heap.get? b=some o/\H b=none
 Dk:base.objs.size<=s.heap.objs.size
 i9:s.heap.FunFrames base outer
 FP:∀b∈jg outer,H b=none
 av:iE P w H s.heap
 bare:AllBare s.gens
def CE(outer:List Env)(P:Program)(w:World)(H:Hp)(s:Shared)(Q:VK)(u:Value)(s':Shared):Prop:=
 ∃v H',s'.os=s.os/\AllBare s'.gens/\Un (jg outer) [] H H' s.heap s'.heap/\iE P w H' s'.heap/\aj v u/\Q v H'
def CR(CX:yH)(outer:List Env)(P:Program)(w:World)(H:Hp)(s:Shared)(Q:VK)(E:XK)(r:Result)(s':Shared):Prop:=
 match r with
 | .ok (.ret u)=>CE outer P w H s Q u s'
 | .ok _=>False
 | .error e=>CX outer H s E e s'
structure ay(P:Program)(w:World)(K:gV)(mg:Str->Option Value)(base:Heap)(CX:yH)(k:Nat)(f:Addr)(fd:FuncData)(ps:List Str)(sp:Sp):Prop where
 len:∀vs H Q E,sp vs H Q E->vs.length=ps.length
 run:∀(A:Around) (outer:List Env) (s:Shared) (H:Hp) (args:Args) (us:List Value) (vs:List V) (Q:VK) (E:XK),bp k A->AG P w K mg base A outer s H->BindsTo s fd args (ps.zip us)->Ψ vs us->sp vs H Q E->
  codeAny (model P w) A (.call (.ref f) args) (CR CX outer P w H s Q E) s
def AG.make{K:gV}{H:Hp}(e:AG P w K mg base A outer s H)(C:Addr)(us:List Value)(kw:List (Str×Value)):
  AG P w K mg base (A.under (.builtin "type.__call__" ⟨.ref C::us,kw⟩)) outer s H:=⟨by first| exact e.frames| (simpa [Around.under,Code.envs,Code.isFrame,pushEnvs] using e.frames),e.mod,e.bs,e.Dk,e.i9,e.FP,e.av,e.bare⟩
section
variable{H:Hp}{s':Shared}
def Inv.MA(I:Inv X δ σ H s):AG X.prog X.w X.K X.mg X.base X.A X.stack s H:=
 ⟨I.ok.frames,I.ok.mod,I.bs,aaD I.ok.Dk I.sz,I.stack,I.jq,I.av,I.bare⟩
def Inv.after{Q:VK}(I:Inv X δ σ H s)(h:CE X.stack X.prog X.w H s Q u s'):EP X δ σ Q u s':=by have⟨v,H',os,bare,un,av,r,q⟩:=h;have⟨hh,g,d,t,Sq⟩:=s';obtain rfl:Sq=s.os:=os;exact⟨v,H',I.call (h':=hh) (g':=g) (d':=d) (t':=t) (ch:=[]) un av bare (λb z=>absurd z (by simp)),r,q⟩
end
def fT(K:gV)(fd:FuncData)(ps:List Str)(ds:List Value):Prop:=
 ∀(s:Shared) (us:List Value),K.In s.heap->(us++ds).length=ps.length->BindsTo s fd ⟨us,[]⟩ (ps.zip (us++ds))
def fT.all{K:gV}{fd:FuncData}(h:∀us:List Value,us.length=ps.length->bindArgs fd ⟨us,[]⟩=pure (ps.zip us)):fT K fd ps []:=λs us _ hl=>by rw[aaO]at hl⊢;exact .of_eq (h us hl)
section
variable{CX:yH}{k:Nat}{f:Addr}{fd:FuncData}{sp:Sp}{rD:List V}{ds:List Value}{E:XK}{m:Str}{p apos:Pos}{o:Expr}{t:TA}
structure Mk(K:gV)(C f:Addr):Prop where
 makes:PySem.W.makesIn K C=true
 init:PySem.W.findIn K (.ref C) "__init__"=some (some (.ref f))
 fn:PySem.W.isFn K (.ref f)=true
 kp:PySem.W.keepIn K (.ref C)=true
end
structure Δ(N P:List Str)(sc:Scope):Prop where
 kind:sc.kind= .function
 co:sc.isCoroutine=false
 gen:sc.isGenerator=false
 nd:N.Nodup
 pre:N.take P.length=P
 par:∀x∈P,sc.names.lookup x=some .local\/sc.names.lookup x=some .cell
 N0:∀y∈sc.names,y.2≠ .free
def sZ{kindOf:Str->Option NameKind}{x:Str}:∀{binds:List (Str×Value)} {m:Str->Option Value},(∀v,(x,v)∉binds)->bindL kindOf binds m x=m x
 | [],_,_=>rfl
 | (n,v)::r,m,h=>by
  unfold bindL;rw[sZ λw hw=>h w (aag _ hw)];split
  ·have:x≠n:=by rintro rfl;exact h v aaf
   simp[this]
  ·rfl
def tI{kindOf:Str->Option NameKind}{x:Str}:∀{binds:List (Str×Value)} {m:Str->Option Value},(∀v,(x,v)∉binds)->bindC kindOf binds m x=m x
 | [],_,_=>rfl
 | (n,v)::r,m,h=>by
  unfold bindC;rw[tI λw hw=>h w (aag _ hw)];split
  ·rfl
  ·have:x≠n:=by rintro rfl;exact h v aaf
   simp[this]
def tV{kindOf:Str->Option NameKind}{x:Str}{v:Value}:∀{P:List Str} {vs:List Value} {i:Nat} {m:Str->Option Value},P.Nodup->P[i]? =some x->vs[i]? =some v->kindOf x=some .local->
  bindL kindOf (P.zip vs) m x=some v
 | [],_,_,_,_,h,_,_=>by simp at h
 | _::_,[],_,_,_,_,h,_=>by simp at h
 | p::P,w::vs,0,m,nd,h1,h2,hk=>by simp at h1 h2;subst h1;subst h2;show bindL kindOf ((p,w)::P.zip vs) m p=_;unfold bindL;rw[sZ λv hv=>(aa9.mp nd).1 (abx hv).1,aaB hk];simp
 | p::P,w::vs,i+1,m,nd,h1,h2,hk=>by show bindL kindOf ((p,w)::P.zip vs) m x=_;unfold bindL;exact tV (i:=i) (List.nodup_cons.mp nd).2 (by simpa using h1) (by simpa using h2) hk
def sX{kindOf:Str->Option NameKind}{x:Str}{v:Value}:∀{P:List Str} {vs:List Value} {i:Nat} {m:Str->Option Value},P.Nodup->P[i]? =some x->vs[i]? =some v->kindOf x≠some .local->
  bindC kindOf (P.zip vs) m x=some v
 | [],_,_,_,_,h,_,_=>by simp at h
 | _::_,[],_,_,_,_,h,_=>by simp at h
 | p::P,w::vs,0,m,nd,h1,h2,hk=>by simp at h1 h2;subst h1;subst h2;show bindC kindOf ((p,w)::P.zip vs) m p=_;unfold bindC;rw[tI λv hv=>(aa9.mp nd).1 (abx hv).1,aay hk];simp
 | p::P,w::vs,i+1,m,nd,h1,h2,hk=>by show bindC kindOf ((p,w)::P.zip vs) m x=_;unfold bindC;exact sX (i:=i) (List.nodup_cons.mp nd).2 (by simpa using h1) (by simpa using h2) hk
def jo(N:List Str)(vs:List V):St:=vs.map some++List.replicate (N.length - vs.length) none
def gf(CX:yH)(P:Program)(w:World)(K:gV)(mg:Str->Option Value)(base:Heap)(N:List Str)(qual:Str)(scope:Scope)(f:Addr)(cd:Value)(A:Around)(outer:List Env)(s:Shared)(H:Hp)(E:XK):Cx where
 prog:=P
 w:=w
 K:=K
 mg:=mg
 base:=base
 A:=A.deeper (envOfC qual scope s.heap.objs.size f cd)
 N:=N
 s₀:=s
 H₀:=H
 env:=envOfC qual scope s.heap.objs.size f cd
 outer:=outer
 stack:=envOfC qual scope s.heap.objs.size f cd::outer
 ex:=[]
 calm:=true
 fn:=λ_=>true
 pn:=[]
 xe:=λe s'=>wpAny (model P w) (A.deeper (envOfC qual scope s.heap.objs.size f cd)) (leaving (envOfC qual scope s.heap.objs.size f cd) e) (λ_ Mu=>CX outer H s E e Mu) (λe' Mu=>CX outer H s E e' Mu) s'
def yG{sc:Scope}{n:Nat}(h:sc.names.lookup x=some .cell):∃c,(cellsFrom n sc.names []).lookup x=some c:=by have q:=PySem.W.cellsFrom_some sc.names n [] (.inl h);exact abf.mp q
def CO{CX:yH}{K:gV}{N:List Str}{qual:Str}{scope:Scope}{f:Addr}{cd:Value}{s1:Shared}{H:Hp}{E:XK}{vs:List V}
  (S:Δ N ps scope) (hd:A.handled=none) (e0:AG P w K mg base A outer s H) (hl:vs.length=ps.length) (r:Ψ vs us)
  (x:InCallC s s.heap.objs.size (bindL (envOfC qual scope s.heap.objs.size f cd).kindOf (ps.zip us) λ_=>none) (cellsFrom (s.heap.objs.size+1) scope.names []) (bindC (envOfC qual scope s.heap.objs.size f cd).kindOf (ps.zip us) λ_=>none) s1):
  Inv (gf CX P w K mg base N qual scope f cd A outer s H E) [] (jo N vs) H s1:=by
 have eB:ps.length<=N.length:=by have:=aaN List.length S.pre;rw[abD]at this;omega
 have⟨h1,tk,rfl,hk⟩:=x.done;have QF:∀b:Addr,b∉(gf CX P w K mg base N qual scope f cd A outer s H E).ex:=λb z=>absurd (show b∈([]:List Addr) from z) (by simp)
 refine⟨⟨e0.mod,S.kind,rfl,rfl,aaq _,λy z c h1 h2=>?_,λy hy=>?_,λy c _ h=>?_,λ_=>hd,Around.frames_deeper e0.frames,.inr ⟨rfl,rfl⟩,λb z=>aaG z (QF b),e0.bs,e0.Dk,λb _ _=>QF b,λb z=>aaG z (QF b),e0.i9,e0.FP⟩,
  rfl,e0.bare,Un.kept hk,⟨_,x.toInCall.ns,λi y v h1 h2 h3=>?_⟩,λy c h=>⟨_,x.cell y c h⟩,e0.av.fresh (Nat.le_refl _),λy c h=>?_,λp hp=>absurd (show p∈([]:List (Addr×Obj)) from hp) (by simp),e0.av.kept hk,?_⟩
 ·exact name_of_addr x.apart (PySem.mem_of_lookup h1) (PySem.mem_of_lookup h2)
 ·have hy:scope.names.lookup y=some .cell\/scope.names.lookup y=some .free:=hy;rcases hy with hy| hy
  ·exact yG hy
  ·exact aaG rfl (S.N0 _ (PySem.mem_of_lookup hy))
 ·exact Nat.le_of_lt (x.above y c (PySem.mem_of_lookup h))
 ·have hi:i < vs.length:=by
   unfold jo at h2;by_cases hi:i < vs.length
   ·exact hi
   ·rw[List.getElem?_append_right (by simpa using hi)]at h2;rw[abp]at h2;split at h2 <;> cases h2
  have ha:vs[i]? =some v:=by
   unfold jo at h2;rw[List.getElem?_append_left (by simpa using hi),List.getElem?_map]at h2;cases e:vs[i]? with
   | none=>rw[e]at h2;cases h2
   | some a=>rw[e]at h2;cases h2;rfl
  have⟨u,hu,rv⟩:=r.get ha;have hp:ps[i]? =some y:=by rw[<-S.pre,List.getElem?_take_of_lt ()];exact h1
  have WM:ps.Nodup:=by rw[<-S.pre];exact S.nd.sublist (List.take_sublist _ _)
  refine⟨u,rv,?_⟩;rcases S.par y (aaA hp) with k| k
  ·exact .inl ⟨k,tV WM hp hu k⟩
  ·have⟨c,e⟩:=yG (n:=s.heap.objs.size+1) k;refine .inr ⟨.inl k,c,e,?_⟩;have q:=x.cell y c e;rw[sX WM hp hu (by show scope.names.lookup y≠_;rw[k];decide)]at q;exact q
 ·exact e0.av.fresh (Nat.le_of_lt (x.above y c (PySem.mem_of_lookup h)))
 ·unfold jo;show _=N.length;rw[aae,aac,aak];omega
def PV{CX:yH}{K:gV}{k:Nat}{f:Addr}{name qual:Str}{params:Arguments}{scope:Scope}{dV kV doc pm bC ct oc:Value}{an od:Option Addr}
  {z_:Array (Option Value)} {N:List Str} {sp:Sp} (lk:K.lookup f=some ⟨oc,od,.func (PySem.W.fnOf name qual params body scope dV kV doc pm an bC ct),z_⟩) (we:PySem.W.codeIn K bC qual=true) (S:Δ N ps scope)
  (len:∀vs H Q E,sp vs H Q E->vs.length=ps.length)
  (qj:∀(A:Around) (outer:List Env) (s:Shared) (H:Hp) (vs:List V) (Q:VK) (E:XK),bp k (A.deeper (envOfC qual scope s.heap.objs.size f bC))->sp vs H Q E->
   ∃t,wc (gf CX P w K mg base N qual scope f bC A outer s H E) body t/\t {nx:=λ_ H'=>Q .aS H',rt:=Q} (jo N vs) H):
  ay P w K mg base CX (k+1) f (PySem.W.fnOf name qual params body scope dV kV doc pm an bC ct) ps sp:=by
 refine⟨len,λA outer s H args us vs Q E hr e0 hb r C5=>?_⟩;have hl:=len _ _ _ _ C5;have KX:K.In s.heap:=e0.mod.Sw.keeps λb o e=>(e0.bs b o e).1;have lim:s.heap.NoLimit:=e0.mod.nolimit.keeps λb o e=>(e0.bs b o e).1;have P7:∀y∈ps.zip us,scope.names.lookup y.1=some .local\/(scope.names.lookup y.1=some .cell/\((cellsFrom (s.heap.objs.size+1) scope.names []).lookup y.1).isSome=true):=λ⟨n,v⟩ hy=>by
  rcases S.par n (abx hy).1 with q| q
  ·exact .inl q
  ·exact .inr ⟨q,PySem.W.cellsFrom_some _ _ _ (.inl q)⟩
 refine codeAny_call_function hr.depth (KX _ _ lk) rfl S.co S.gen rfl (PySem.W.codeRec_of KX we) (hb _ _ _ _ ?_);refine wpAny_newFunctionEnv_cells S.kind P7 λenv he s1 x=>?_;subst he;refine⟨lim.keeps x.toInCall.keep,codeAny_func ?_⟩;have⟨t,ht,hq⟩:=qj A outer s H vs Q E (hr.deeper _) C5;have I:Inv (gf CX P w K mg base N qual scope f bC A outer s H E) [] (jo N vs) H s1:=CO S hr.hd e0 hl r x;refine aaW (ht [] s1 (jo N vs) H _ I hq) (λfl s' hs=>?_) λe s' hs=>hs
 have fin:∀{σ':St} {H':Hp} {v:V} {u:Value},Inv (gf CX P w K mg base N qual scope f bC A outer s H E) [] σ' H' s'->aj v u->Q v H'->CE outer P w H s Q u s':=
  λ{σ' H' v u} J rv q=>⟨v,H',J.os,J.bare,J.base,J.av,rv,q⟩
 cases fl with
 | ret u=>
  have⟨v,σ',H',J,rv,q⟩:=hs;exact fin J rv q
 | next=>
  have⟨σ',H',J,q⟩:=hs;exact fin (v:=V.aS) (u:=Value.none) J rfl q
 | brk=>
  have⟨_,_,_,q⟩:=hs;exact False.elim q
 | cont=>
  have⟨_,_,_,q⟩:=hs;exact False.elim q
section
variable{p:Pos}{t:TA}{id T:String}{r:List V->Hp->VK->Prop}
def VM(r:List V->Hp->VK->Prop)(t:TA):TE:=λσ H Q=>t σ H λvs H1=>r vs H1 Q
def EH(hc:cL X (.builtin id) r)(hg:Gl X x)(hm:X.mg x=none)(hv:bootBuiltins x=some (.builtin id))(ha:PA X (e::es) t)(hn:x≠"__name__":=by decide)(ku:(x==("__debug__":Str))=false:=by decide)
  (he:starEach (e::es) X.env=(false,eval e X.env)::starEach es X.env:=by rfl) (eB:(backTo pos (starEach es X.env)).any (·.1)=false:=by rfl):PE X (.Call (.Name x p) (e::es) [] pos) (VM r t):=by
 intro δ s σ H Q I h;refine wpAny_Call_Name_kw (qU I hg hm hv ?_ hn ku);exact PyProof.Rows.callWith_builtin1 (aT (ha pos δ s σ H _ I h) λus s1 ⟨vs,H1,I1,r1,q1⟩=>hc δ s1 σ H1 vs us Q I1 r1 q1) he eB
def D7(hc:cL X (.type T) r)(hg:Gl X x)(hm:X.mg x=none)(hv:bootBuiltins x=some (.type T))(ha:PA X (e::es) t)(hn:x≠"__name__":=by decide)(ku:(x==("__debug__":Str))=false:=by decide)
  (he:starEach (e::es) X.env=(false,eval e X.env)::starEach es X.env:=by rfl) (eB:(backTo pos (starEach es X.env)).any (·.1)=false:=by rfl):PE X (.Call (.Name x p) (e::es) [] pos) (VM r t):=by
 intro δ s σ H Q I h;refine wpAny_Call_Name_kw (qU I hg hm hv ?_ hn ku);exact PyProof.Rows.callWith_type1 (aT (ha pos δ s σ H _ I h) λus s1 ⟨vs,H1,I1,r1,q1⟩=>hc δ s1 σ H1 vs us Q I1 r1 q1) he eB
end
end L2
namespace HT
open PySem PyProof.Rows
section
variable{prog:Program}{w:World}{A:Around}{E:Value->Shared->Prop}{s:Shared}
def Jo{t b:Addr}{vs ws:List Value}{Q:Value->Shared->Prop}(ht:IsTup s.heap t vs.toArray)(hb:IsTup s.heap b ws.toArray)(hv:vs≠[])
  (h1:ws=[]->Q (.ref t) s) (h2:ws≠[]->Q (.ref s.heap.objs.size) {s with heap:=s.heap.push {cls:=.type "tuple",data:=.seq (vs++ws).toArray}})
  (hsz:vs.length+ws.length<=sizeLine):wpAny (model prog w) A (binaryOp .Add (.ref t) (.ref b)) Q E s:=by
 have⟨⟨cls,dd,data,sl⟩,ho,hc,n,hd⟩:=id ht;have⟨⟨Y5,WO,data2,OO⟩,SU,W_,n2,hd2⟩:=id hb;simp only at hc hd W_ hd2;subst hc hd W_ hd2;have e:vs.toArray++ws.toArray=(vs++ws).toArray:=by simp
 by_cases hw:ws=[]
 ·exact concat_meets ⟨_,ho,rfl⟩ ⟨_,SU,rfl⟩ noFill_tuple_add seq_tuple_add PySem.F.slot_tuple_add PySem.F.entry_tuple_add (PySem.F.args_tuple_add_2 _ _)
   (tuple_addW1 t b vs.toArray ws.toArray n n2 dd WO sl OO (by simpa using hv) (by simp[hw])) ⟨ho,SU,h1 hw⟩
 ·refine concat_meets ⟨_,ho,rfl⟩ ⟨_,SU,rfl⟩ noFill_tuple_add seq_tuple_add PySem.F.slot_tuple_add PySem.F.entry_tuple_add (PySem.F.args_tuple_add_2 _ _)
   (tuple_addW2 t b vs.toArray ws.toArray n n2 dd WO sl OO (by simpa using hv) (by simpa using hw) (by rw[List.size_toArray,List.size_toArray];exact hsz)) ⟨ho,SU,?_⟩
  rw[e];exact h2 hw
def eD(n d:Nat):Option Int->Nat
 | none=>d
 | some v=>if v < 0 then (v+(n:Int)).toNat else min v.toNat n
def EI(n d:Nat):eD n d none=d:=rfl
def Bc(n d k:Nat):eD n d (some (k:Int))=min k n:=by show(if (k:Int) < 0 then ((k:Int)+(n:Int)).toNat else min (k:Int).toNat n)=min k n;rw[aay (),Int.toNat_natCast]
def MW(n d:Nat)(hd:d<=n)(o:Option Int):eD n d o<=n:=by
 cases o with
 | none=>exact hd
 | some v=>
  show(if v < 0 then (v+(n:Int)).toNat else min v.toNat n)<=n;by_cases hv:v < 0
  ·rw[aaB hv];omega
  ·rw[aay hv];exact Nat.min_le_right _ _
def B'(v:Int)(n d:Nat):(if v < 0 then max (v+(n:Int)) 0 else min v (n:Int))=((eD n d (some v):Nat):Int):=by
 show(if v < 0 then max (v+(n:Int)) 0 else min v (n:Int))=(((if v < 0 then (v+(n:Int)).toNat else min v.toNat n):Nat):Int);by_cases hv:v < 0
 ·simp only[if_pos hv];omega
 ·simp only[if_neg hv];omega
def Ac(lo hi:Option Int)(n:Nat):Builtin.Slice.sliceAdjust lo hi 1 (n:Int)=(((eD n 0 lo:Nat):Int),((eD n n hi:Nat):Int)):=by
 have h1:¬((1:Int) < 0):=()
 unfold Builtin.Slice.sliceAdjust;simp only[h1,if_false];refine Prod.ext ?_ ?_
 ·cases lo with
  | none=>rfl
  | some v=>exact B' v n 0
 ·cases hi with
  | none=>rfl
  | some v=>exact B' v n n
def Ao(i j:Nat):Builtin.Slice.slicePlaces (i:Int) (j:Int) 1=j - i:=by
 unfold Builtin.Slice.slicePlaces;have h1:(1:Int) > 0:=()
 simp only[h1,if_true,Int.ediv_one];split <;> omega
def qx{v:Value}{o:Option Int}{Q:Option Int->Shared->Prop}(p:IsPart v o)(h:Q o s):wpAny (model prog w) A (Builtin.Slice.slicePartIndex v) Q E s:=by
 cases p with
 | none=>exact slicePart_none h
 | int i t=>exact slicePart_int h
def mP{sl:Addr}{vl vu:Value}{lo hi:Option Int}{n:Nat}{Q:Int×Int×Nat->Shared->Prop}(hs:s.heap.IsSliceOf sl vl vu .none)(pl:IsPart vl lo)(pu:IsPart vu hi)
  (h:Q (((eD n 0 lo:Nat):Int),1,eD n n hi - eD n 0 lo) s):wpAny (model prog w) A (Builtin.Slice.sliceApplied (.ref sl) (pure (n:Int))) Q E s:=by
 have⟨os,Kb,WK,O4⟩:=id hs;unfold Builtin.Slice.sliceApplied Builtin.Slice.sliceFields;refine aab (aab (wpAny_field Kb O4 (x:=vl) rfl (aab (wpAny_field Kb O4 (x:=vu) rfl (aab (wpAny_field Kb O4 (x:=.none) rfl (aar ?_)))))));refine aab (slicePart_none ?_);show wpAny _ _ (if ((1:Int)==0)=true then _ else _) _ _ s;rw[aay @_];refine aab (qx pl (aab (qx pu (aab (aar ?_)))));show wpAny _ _ (match Builtin.Slice.sliceAdjust lo hi 1 (n:Int) with| (lo,hi)=>pure (lo,(1:Int),Builtin.Slice.slicePlaces lo hi 1)) _ _ s;rw[Ac lo hi n];show wpAny _ _ (pure (((eD n 0 lo:Nat):Int),(1:Int),Builtin.Slice.slicePlaces ((eD n 0 lo:Nat):Int) ((eD n n hi:Nat):Int) 1)) _ _ s;rw[Ao];exact aar h
def HG(xs:Array Value)(i k:Nat):((List.range k).filterMap λ(m:Nat)=>xs[((i:Int)+(m:Int) * 1).toNat]?).toArray=((xs.toList.drop i).take k).toArray:=by
 have e:(λ(m:Nat)=>xs[((i:Int)+(m:Int) * 1).toNat]?)=λm=>xs[i+m]? :=by
  funext m
  have:((i:Int)+(m:Int) * 1).toNat=i+m:=()
  rw[this]
 rw[e];have:=pick_run xs i k;rw[List.filterMap_map]at this;have e2:((λx=>xs[x]?) ∘ λx=>i+x)=λm=>xs[i+m]? :=rfl;rw[e2]at this;rw[this]
def k9{t sl:Addr}{items:Array Value}{vl vu:Value}{lo hi:Option Int}{Q:Value->Shared->Prop}(ht:IsTup s.heap t items)(hs:s.heap.IsSliceOf sl vl vu .none)(pl:IsPart vl lo)(pu:IsPart vu hi)
  (hw:¬(eD items.size 0 lo=0/\eD items.size items.size hi=items.size))
  (h:Q (.ref s.heap.objs.size) {s with heap:=s.heap.push {cls:=.type "tuple",data:=.seq ((items.toList.drop (eD items.size 0 lo)).take (eD items.size items.size hi - eD items.size 0 lo)).toArray}})
  (hsz:items.size<=sizeLine):wpAny (model prog w) A (getItem (.ref t) (.ref sl)) Q E s:=by
 have Bg:sizeOk (.seq ((items.toList.drop (eD items.size 0 lo)).take (eD items.size items.size hi - eD items.size 0 lo)).toArray):=by show((items.toList.drop (eD items.size 0 lo)).take (eD items.size items.size hi - eD items.size 0 lo)).toArray.size<=sizeLine;rw[aaC,abD,abg,aa4];omega
 have hj:eD items.size items.size hi<=items.size:=MW _ _ (aaq _) hi;have⟨os,Kb,WK,O4⟩:=id hs;have YU:s.TypeIs (.ref sl) "slice":=⟨os,Kb,WK⟩;unfold getItem
 try with_reducible refine wpAny_holding ?_
 first| refine aab (aar ?_)| skip
 refine aab (wpAny_sequenceKey ht.typeIs @_ ?_)
 refine aab (wpAny_callSpecial?_slot (name:=Str.ofString "__getitem__") ht.typeIs PyProof.Rows.slot_tuple_getitem
  (wpAny_call_entry PyProof.Rows.slot_tuple_getitem ht.typeIs entry_tuple_getitem ?_ (args_tuple_getitem _ _)))
 show wpAny _ _ (Builtin.Tuple.tupleItemsOf (.ref t) >>= _) _ _ s;refine aab (tupleItemsOf_ ht ?_);refine aab (wpAny_typeOf YU ?_);rw[aaB @_];refine aab (mP hs pl pu ?_);have hno:¬((((eD items.size 0 lo:Nat):Int)==0&&(1:Int)==1&&(eD items.size items.size hi - eD items.size 0 lo)==items.size)=true):=by intro q;rw[aaz,aaz]at q;have q1:((eD items.size 0 lo:Nat):Int)=0:=eq_of_beq q.1.1;have q2:eD items.size items.size hi - eD items.size 0 lo=items.size:=eq_of_beq q.2;exact hw ⟨(),()⟩
 show wpAny _ _ (if (((eD items.size 0 lo:Nat):Int)==0&&(1:Int)==1&&(eD items.size items.size hi - eD items.size 0 lo)==items.size)=true then _ else _) _ _ s;rw[aay hno,HG]
 first
  | exact aab (m:=Builtin.Tuple.tupleExact _) (wpAny_newObj_type (aar ⟨_,rfl,aar h⟩) Bg)
  | exact aab (m:=Builtin.Tuple.tupleExact _) (wpAny_newObj_type (aab (aar (aar ⟨_,rfl,aar h⟩))) Bg)
  | exact aab (aab (m:=Builtin.Tuple.tupleExact _) (wpAny_newObj_type (aar (aar ⟨_,rfl,aar h⟩)) Bg))
  | exact aab (aab (m:=Builtin.Tuple.tupleExact _) (wpAny_newObj_type (aar ⟨_,rfl,aar h⟩) Bg))
end
end HT
namespace L2
open PySem PySem.Spec PyProof.Rows
variable{X:Cx}{n:Nat}{δ:List (Addr×Obj)}{s:Shared}{its:List Value}
abbrev TO:=St->Hp->(Option Int->Hp->Prop)->Prop
def PO(X:Cx)(e:Option Expr)(t:TO):Prop:=
 ∀(δ:List (Addr×Obj)) (s:Shared) (σ:St) (H:Hp) (Q:Option Int->Hp->Prop),Inv X δ σ H s->t σ H Q->
  wpAny (model X.prog X.w) X.A (evalPart e X.env) (λu s'=>∃o H',Inv X δ σ H' s'/\IsPart u o/\Q o H') X.xe s
def IJ:TO:=λ_ H Q=>Q none H
def R1(t:TE):TO:=λσ H Q=>t σ H λx H1=>∃i,x= .int i/\Q (some i) H1
section
variable{e:Expr}{te:TE}{lo hi:Option Expr}{tl th:TO}{pos p2:Pos}
def o9:PO X none IJ:=by intro δ s σ H Q I h;rw[evalPart_none];exact aar ⟨none,H,I,.none,h⟩
def oY(h:PE X e te):PO X (some e) (R1 te):=by intro δ s σ H Q I hw;rw[evalPart_some];refine aT (h δ s σ H _ I hw) λu s1 xz=>?_;have⟨x,H1,I1,r1,q1⟩:=xz;have⟨i,rfl,q⟩:=q1;have⟨t,rfl⟩:=r1;exact⟨some i,H1,I1,.int i t,q⟩
def SK(X:Cx)(r:V->Option Int->Option Int->Hp->VK->Prop):Prop:=
 ∀(δ:List (Addr×Obj)) (s:Shared) (σ:St) (H:Hp) (x:V) (v vl vu:Value) (lo hi:Option Int) (sl:Addr) (Q:VK),Inv X δ σ H s->aj x v->s.heap.IsSliceOf sl vl vu .none->IsPart vl lo->IsPart vu hi->r x lo hi H Q->
  ∃T id,typeLookup (.type T) "__getitem__"=pure (some (.builtin id))/\s.TypeIs v T/\wpAny (model X.prog X.w) X.A (getItem v (.ref sl)) (EP X δ σ Q) X.xe s
def YX(r:V->Option Int->Option Int->Hp->VK->Prop)(te:TE)(tl th:TO):TE:=λσ H Q=>te σ H λx H1=>tl σ H1 λl H2=>th σ H2 λu H3=>r x l u H3 Q
def lC{r:V->Option Int->Option Int->Hp->VK->Prop}(hr:SK X r)(he:PE X e te)(hl:PO X lo tl)(hu:PO X hi th):PE X (.Subscript e (.Slice lo hi none p2) pos) (YX r te tl th):=by intro δ s σ H Q I h;refine Subscript_ (aT (he δ s σ H _ I h) λv s1 xz=>?_);have⟨x,H1,I1,r1,q1⟩:=xz;refine wpAny_Slice (aT (hl δ s1 σ H1 _ I1 q1) fun vl s2 ⟨l,H2,I2,pl,q2⟩=>aT (hu δ s2 σ H2 _ I2 q2) λvu s3 xz=>?_);have⟨u,H3,I3,pu,q3⟩:=xz;rw[evalPart_none];refine aar ?_;have I4:Inv X δ σ H3 {s3 with heap:=s3.heap.push {cls:=.type "slice",data:=.fields #[vl,vu,.none]}}:=I3.kept (t':=s3.toks) λb ob q=>aad _ q;have⟨T,id,hT,ht,hg⟩:=hr δ {s3 with heap:=s3.heap.push {cls:=.type "slice",data:=.fields #[vl,vu,.none]}} σ H3 x v vl vu l u s3.heap.objs.size Q I4 r1 (Heap.IsSliceOf.new ..) pl pu q3;show wpAny (model X.prog X.w) X.A (subscriptTail e (.Slice lo hi none p2) v (.ref s3.heap.objs.size)) (EP X δ σ Q) X.xe {s3 with heap:=s3.heap.push {cls:=.type "slice",data:=.fields #[vl,vu,.none]}};exact tail_any (ops:=[.ref s3.heap.objs.size,v]) ht hT hg (by with_unfolding_all rfl)
def ya(xs:List V)(lo hi:Option Int):List V:=(xs.drop (HT.eD xs.length 0 lo)).take (HT.eD xs.length xs.length hi - HT.eD xs.length 0 lo)
def nL(xs:List V)(lo hi:Option Int):(ya xs lo hi).length<=xs.length:=by unfold ya;rw[abD,abg];omega
def U5(K:gV):V->Option Int->Option Int->Hp->VK->Prop:=λx lo hi H Q=>∃a xs,x= .ref a/\jN K H a xs/\
 ¬(HT.eD xs.length 0 lo=0/\HT.eD xs.length xs.length hi=xs.length)/\∀p,H p=none->Q (.ref p) (upd H p (.tup (ya xs lo hi)))
def Od:SK X (U5 X.K):=by
 intro δ s σ H x v vl vu lo hi sl Q I rx hs pl pu h;have⟨a,xs,rfl,hx,hw,q⟩:=h;cases rx;have⟨its,r,ht,hz⟩:=I.tuple hx;have hlen:its.toArray.size=xs.length:=by rw[aaC];exact r.length.symm
 refine⟨"tuple",_,PyProof.Rows.slot_tuple_getitem.lookup,ht.typeIs,?_⟩;refine HT.k9 ht hs pl pu (by rw[hlen];exact hw) ?_ (by rw[hlen];exact hz);rw[hlen];refine⟨.ref s.heap.objs.size,_,I.laid (t':=s.toks) (o:=.tup (ya xs lo hi)) (λb ob q=>aad _ q) (aaq _) ?_,rfl,q _ (I.av.fresh (aaq _))⟩;exact⟨aaD (nL xs lo hi) hz,_,(r.drop (HT.eD xs.length 0 lo)).take (HT.eD xs.length xs.length hi - HT.eD xs.length 0 lo),IsTup.new _ _⟩
def Lc(K:gV):R2:=λx y H Q=>∃a b xs ys,x= .ref a/\y= .ref b/\jN K H a xs/\jN K H b ys/\xs≠[]/\xs.length+ys.length<=sizeLine/\
 (ys=[]->Q (.ref a) H)/\(ys≠[]->∀p,H p=none->Q (.ref p) (upd H p (.tup (xs++ys))))
def Ψ.tZ{xs:List V}{us:List Value}(r:Ψ xs us):us=[]↔xs=[]:=by
 cases r with
 | nil=>simp
 | cons _ _=>simp
def Kq:gQ X (binaryOp .Add) (Lc X.K):=by intro δ s σ H x y v u Q I rx ry h;have⟨a,b,xs,ys,rfl,rfl,ha,hb,hx,hz,q1,q2⟩:=h;cases rx;cases ry;have⟨its,r1,p1,_⟩:=I.tuple ha;have⟨Oz,r2,p2,_⟩:=I.tuple hb;refine HT.Jo p1 p2 (λz=>hx (r1.tZ.mp z)) (λz=>⟨.ref a,H,I,rfl,q1 (r2.tZ.mp z)⟩) (λz=>?_) (by rw[<-r1.length,<-r2.length];exact hz);refine⟨.ref s.heap.objs.size,_,I.laid (t':=s.toks) (o:=.tup (xs++ys)) (λb ob q=>aad _ q) (aaq _) ?_,rfl,q2 (λw=>z (r2.tZ.mpr w)) _ (I.av.fresh (aaq _))⟩;exact⟨by rw[aae];exact hz,_,r1.append r2,IsTup.new _ _⟩
end
def By(n:Nat)(i:Int):Option Nat:=if 0<=i then (if i < n then some i.toNat else none) else if -(n:Int)<=i then some (i+n).toNat else none
def iF{α:Type}(xs:List α)(i:Int):Option α:=(By xs.length i).bind λj=>xs[j]?
def Bb{i:Int}{j:Nat}(h:By n i=some j):seqIndex? i n=some j/\j < n/\ -(n:Int)<=i/\i < n:=by
 unfold By at h;by_cases h0:0<=i
 ·rw[aaB h0]at h;by_cases h1:i < n
  ·rw[aaB h1]at h;have e:i.toNat=j:=aaw h;exact⟨by rw[seqIndex_of h0 h1,e],(),(),h1⟩
  ·rw[aay h1]at h;cases h
 ·rw[aay h0]at h;by_cases h1: -(n:Int)<=i
  ·rw[aaB h1]at h;have e:(i+n).toNat=j:=aaw h;exact⟨by rw[seqIndex_neg () h1,e],(),h1,()⟩
  ·rw[aay h1]at h;cases h
def vE{α:Type}{xs:List α}{i:Int}{v:α}(h:iF xs i=some v):∃j,seqIndex? i xs.length=some j/\xs[j]? =some v/\j < xs.length/\ -(xs.length:Int)<=i/\i < xs.length:=by
 unfold iF at h;cases e:By xs.length i with
 | none=>rw[e]at h;cases h
 | some j=>
  rw[e]at h;have⟨h1,h2,h3,h4⟩:=Bb e;exact⟨j,h1,h,h2,h3,h4⟩
def au{α:Type}{xs:List α}{j:Nat}{v:α}(h:xs[j]? =some v):iF xs (j:Int)=some v:=by
 have hj:j < xs.length:=(aai.mp h).1;have e:By xs.length (j:Int)=some j:=by unfold By;rw[if_pos (),if_pos ()];simp
 unfold iF;rw[e];exact h
def Hi{α:Type}(xs:List α)(v:α):iF (xs++[v]) (-1)=some v:=by
 have hl:(xs++[v]).length=xs.length+1:=by simp
 have e:By (xs++[v]).length (-1)=some xs.length:=by
  unfold By;rw[hl,aay @_,aaB ()]
  congr 1
  omega
 unfold iF;rw[e];show(xs++[v])[xs.length]? =some v;simp
def vB(b:Expr):Prop:=∀o i,subscripted b false o i=operate [o,i] (getItem o i)
def Iw(X:Cx)(r:R2):Prop:=
 ∀(value slice:Expr) (δ:List (Addr×Obj)) (s:Shared) (σ:St) (H:Hp) (x y:V) (v u:Value) (Q:VK),Inv X δ σ H s->aj x v->aj y u->r x y H Q->
  subscripted slice false v u=operate [v,u] (getItem v u)->wpAny (model X.prog X.w) X.A (subscriptTail value slice v u) (EP X δ σ Q) X.xe s
def Om(X:Cx)(id:String)(r:V->List V->Hp->VK->Prop):Prop:=
 ∀(δ:List (Addr×Obj)) (s:Shared) (σ:St) (H:Hp) (x:V) (xs:List V) (v:Value) (us:List Value) (Q:VK),Inv X δ σ H s->aj x v->Ψ xs us->r x xs H Q->
  wpAny (model X.prog X.w) X.A (call (.builtin id) (v::us)) (EP X δ σ Q) X.xe s
section
variable{a b:Expr}{ta tb:TE}{pos:Pos}
def Iw.or{r r':R2}(h:Iw X r)(h':Iw X r'):Iw X (λx y H Q=>r x y H Q\/r' x y H Q):=by
 intro value slice δ s σ H x y v u Q I rx ry q hs;rcases q with q| q
 ·exact h value slice δ s σ H x y v u Q I rx ry q hs
 ·exact h' value slice δ s σ H x y v u Q I rx ry q hs
def PY{r:R2}(hr:Iw X r)(ha:PE X a ta)(hb:PE X b tb)(hs:vB b):PE X (.Subscript a b pos) (Qp r ta tb):=by intro δ s σ H Q I h;exact Subscript_ (NS ha hb I h λv u s2 x y H2 I2 rx ry q=>hr a b δ s2 σ H2 x y v u Q I2 rx ry q (hs _ _))
def Pj(K:gV):R2:=λx y H Q=>∃p xs i v,x= .ref p/\y= .int i/\fG K H p xs/\iF xs i=some v/\Q v H
def PK(K:gV):R2:=λx y H Q=>∃p xs i v,x= .ref p/\y= .int i/\jN K H p xs/\iF xs i=some v/\Q v H
def Sa:R2:=λx y H Q=>∃z i c,x= .str z/\y= .int i/\z.length<=sizeLine/\iF z.cps.toList i=some c/\Q (.str ⟨#[c]⟩) H
def Ky:Iw X (Pj X.K):=by
 intro value slice δ s σ H x y v u Q I rx ry h hs;have⟨p,xs,i,z,rfl,rfl,hq,he,q⟩:=h;cases rx;have⟨t,rfl⟩:=ry;have⟨its,r,pl,hz⟩:=I.list hq;have⟨j,h1,h2,h3,h4,h5⟩:=vE he;have⟨w,ew,ue⟩:=r.get h2;have hl:=r.length;have hn:=mZ;have fin:EP X δ σ Q w s:=⟨z,H,I,ue,q⟩;by_cases h0:0<=i
 ·have hj:i.toNat=j:=by rw[seqIndex_of h0 h5]at h1;exact aaw h1
  exact item_listR pl.isList h0 () (by rw[hj];simpa using ew) fin hs
 ·have hj:(i+(its.toArray.size:Int)).toNat=j:=by rw[seqIndex_neg () h4]at h1;rw[aaC,<-hl];exact aaw h1
  exact subscriptTail_builtinR (x:=w) pl.isList.typeIs slot_list_getitem.lookup
   (wpAny_getItem_list_neg (Q:=λr s'=>r=w/\EP X δ σ Q r s') pl.isList () (by rw[List.size_toArray] <;> omega) () (by rw[hj];simpa using ew) ⟨rfl,fin⟩) hs
def Of:Iw X (PK X.K):=by
 intro value slice δ s σ H x y v u Q I rx ry h hs;have⟨p,xs,i,z,rfl,rfl,hq,he,q⟩:=h;cases rx;have⟨t,rfl⟩:=ry;have⟨its,r,pl,hz⟩:=I.tuple hq;have⟨j,h1,h2,h3,h4,h5⟩:=vE he;have⟨w,ew,ue⟩:=r.get h2;have hl:=r.length;have hn:=mZ;have fin:EP X δ σ Q w s:=⟨z,H,I,ue,q⟩
 exact subscriptTail_builtinR (x:=w) pl.typeIs slot_tuple_getitem.lookup
  (getItem_tuple (j:=j) (Q:=λr s'=>r=w/\EP X δ σ Q r s') pl () () (by rw[List.size_toArray,<-hl];exact h1) (by simpa using ew) ⟨rfl,fin⟩) hs
def N3:Iw X Sa:=by
 intro value slice δ s σ H x y v u Q I rx ry h hs;have⟨z,i,c,rfl,rfl,hz,he,q⟩:=h;have⟨t,rfl⟩:=rx;have⟨t',rfl⟩:=ry;have⟨j,h1,h2,h3,h4,h5⟩:=vE he;have hl:z.cps.toList.length=z.length:=by simp[Str.length]
 rw[hl]at h1 h4 h5;have hn:=mZ
 exact tail_any (typeIs_str s z t) slot_str_getitem.lookup (getItem_str (c:=c) (by
  have e1:decide (i < -(2 ^ 63:Int))=false:=aao ();have e2:decide (i ≥ 2 ^ 63)=false:=aao ()
  rw[e1,e2,Bool.or_false]) (by rw[h1];simpa using h2) ⟨.str ⟨#[c]⟩,H,I.tok _,⟨_,rfl⟩,q⟩) hs
def WY(K:gV):R2:=λx y H Q=>Pj K x y H Q\/PK K x y H Q\/Sa x y H Q
def OK:Iw X (WY X.K):=Ky.or (Of.or N3)
def zh(its:List Value)(n j:Nat)(u:Value):Obj.mapSeq (·.setIfInBounds j u) {cls:=.type "list",data:=.seq its.toArray n}={cls:=.type "list",data:=.seq (its.set j u).toArray n}:=by simp[Obj.mapSeq]
def Inv.lst{δ:List (Addr×Obj)}{σ:St}{H:Hp}{s:Shared}{p:Addr}{xs:List V}(I:Inv X δ σ H s)(h:H p=some (.lst xs)):
  ∃(its:List Value) (n:Nat),Ψ xs its/\s.heap.get? p=some {cls:=.type "list",data:=.seq its.toArray n}/\xs.length<=sizeLine:=by
 have⟨z,its,n,r,e⟩:=I.av p _ h;exact⟨its,n,r,e,z⟩
def Inv.NX{σ:St}{H:Hp}{p:Addr}{xs ys:List V}{its':List Value}{n':Nat}{f:Obj->Obj}(I:Inv X δ σ H s)(h:H p=some (.lst xs))
  (ho:s.heap.get? p=some {cls:=.type "list",data:=.seq its.toArray n}) (hf:f {cls:=.type "list",data:=.seq its.toArray n}={cls:=.type "list",data:=.seq its'.toArray n'}) (r:Ψ ys its') (hz:ys.length<=sizeLine) (t:Nat):
  Inv X δ σ (upd H p (.lst ys)) {s with heap:=s.heap.update p f,toks:=t}:=by
 have e:(s.heap.update p f).get? p=some {cls:=.type "list",data:=.seq its'.toArray n'}:=by rw[Heap.get?_update_self f ho (by rw[hf] <;> rfl),hf]
 refine I.write (x:=p) (e:=p) (by rw[h];trivial) (.inl rfl) (λb u hb q=>(Heap.get?_update_other _ _ (Ne.symm hb)).trans q) ⟨_,e⟩ ?_;exact⟨hz,its',n',r,e⟩
def Lg:V->V->V->Hp->(Hp->Prop)->Prop:=λo i v H Q=>∃p xs k j,o= .ref p/\i= .int k/\H p=some (.lst xs)/\By xs.length k=some j/\Q (upd H p (.lst (xs.set j v)))
def Il:PR X Lg:=by
 intro δ s σ H o i v ov iv u Q I ro ri rv h;have⟨p,xs,k,j,rfl,rfl,hp,hj,q⟩:=h;cases ro;have⟨t,rfl⟩:=ri;have⟨its,n,r,ho,hz⟩:=I.lst hp;have⟨h1,h2,h3,h4⟩:=Bb hj;have hl:=r.length;have hn:=mZ
 have I':Inv X δ σ (upd H p (.lst (xs.set j v))) {s with heap:=s.heap.update p (Obj.mapSeq (·.setIfInBounds j u))}:=
  I.NX hp ho (zh its n j u) (r.set rv j) (by rw[aaY];exact hz) s.toks
 by_cases h0:0<=k
 ·have hk:k.toNat=j:=by rw[seqIndex_of h0 h4]at h1;exact aaw h1
  exact PySem.W.ki_setAt ho h0 () (by rw[aaC,<-hl];exact h4) (by rw[hk];exact⟨_,I',q⟩)
 ·have hk:(k+(its.toArray.size:Int)).toNat=j:=by rw[seqIndex_neg () h3]at h1;rw[aaC,<-hl];exact aaw h1
  exact PySem.W.ki_setBack ho () (by rw[aaC,<-hl];exact h3) () (by rw[hk];exact⟨_,I',q⟩)
def vh(lo hi:Option Int)(n:Nat):(sliceBounds lo hi none n).1=((HT.eD n 0 lo:Nat):Int)/\(sliceBounds lo hi none n).2.1=((HT.eD n n hi:Nat):Int)/\(sliceBounds lo hi none n).2.2=1:=by
 refine⟨?_,?_,rfl⟩
 ·cases lo with
  | none=>simp[sliceBounds,HT.eD]
  | some i=>
   simp only[sliceBounds,HT.eD,Option.getD_none,show(1:Int) > 0 by decide,if_true];by_cases h:i < 0
   ·simp only[h,if_true] <;> omega
   ·simp only[h,if_false] <;> omega
 ·cases hi with
  | none=>simp[sliceBounds,HT.eD]
  | some i=>
   simp only[sliceBounds,HT.eD,Option.getD_none,show(1:Int) > 0 by decide,if_true];by_cases h:i < 0
   ·simp only[h,if_true] <;> omega
   ·simp only[h,if_false] <;> omega
def so(its:List Value)(lo hi:Option Int):slicePick its.toArray lo hi none=((its.drop (HT.eD its.length 0 lo)).take (HT.eD its.length its.length hi - HT.eD its.length 0 lo)).toArray:=by have⟨h1,h2,h3⟩:=vh lo hi its.toArray.size;unfold slicePick;rw[h1,h2,h3];simp only[sliceRange_one,pick_run,List.size_toArray] <;> rfl
def SY(K:gV):V->Option Int->Option Int->Hp->VK->Prop:=λx lo hi H Q=>∃a xs,x= .ref a/\fG K H a xs/\∀p,H p=none->Q (.ref p) (upd H p (.lst (ya xs lo hi)))
def IL:SK X (SY X.K):=by intro δ s σ H x v vl vu lo hi sl Q I rx hs pl pu h;have⟨a,xs,rfl,hx,q⟩:=h;cases rx;have⟨its,r,ht,hz⟩:=I.list hx;have hlen:=r.length;refine⟨"list",_,slot_list_getitem.lookup,ht.isList.typeIs,?_⟩;refine wpAny_getItem_list_slice ht.isList hs pl pu .none (by simp) ?_ (by rw[List.size_toArray] <;> omega);rw[so,<-hlen];refine⟨.ref s.heap.objs.size,_,I.laid (t':=s.toks) (o:=.lst (ya xs lo hi)) (λb ob q=>aad _ q) (aaq _) ?_,rfl,q _ (I.av.fresh (aaq _))⟩;exact⟨aaD (nL xs lo hi) hz,_,0,(r.drop (HT.eD xs.length 0 lo)).take (HT.eD xs.length xs.length hi - HT.eD xs.length 0 lo),aaP _ rfl⟩
def dw:V->Bool
 | .aS=>true
 | .bl _=>true
 | .int _=>true
 | .str _=>true
 | _=>false
def uG:V->V->Bool
 | .aS,.aS=>true
 | .bl a,.bl b=>a==b
 | .bl a,.int b=>(if a then 1 else 0)==b
 | .int a,.bl b=>a==(if b then 1 else 0)
 | .int a,.int b=>a==b
 | .str a,.str b=>a==b
 | _,_=>false
def vX{A:Around}{y x:V}{u v:Value}(ry:aj y u)(rx:aj x v)(fy:dw y=true)(fx:dw x=true):SeqAt.EqAt A s u v (uG y x):=by
 cases y with
 | aS=>
  cases ry;cases x with
  | aS=>cases rx;exact SeqAt.EqAt.same _
  | bl b=>cases rx;exact SeqAt.EqAt.none_bool b
  | int b=>have⟨t,rfl⟩:=rx;exact SeqAt.EqAt.none_int b t
  | str b=>have⟨t,rfl⟩:=rx;exact SeqAt.EqAt.none_str b t
  | _=>exact aaG (show false=true from fx) aax
 | bl a=>
  cases ry;cases x with
  | aS=>cases rx;exact SeqAt.EqAt.bool_none a
  | bl b=>cases rx;exact SeqAt.EqAt.bool_bool a b
  | int b=>have⟨t,rfl⟩:=rx;exact SeqAt.EqAt.bool_int a b t
  | str b=>have⟨t,rfl⟩:=rx;exact SeqAt.EqAt.bool_str a b t
  | _=>exact aaG (show false=true from fx) aax
 | int a=>
  have⟨t',rfl⟩:=ry;cases x with
  | aS=>cases rx;exact SeqAt.EqAt.int_none a t'
  | bl b=>cases rx;exact SeqAt.EqAt.int_bool a t' b
  | int b=>have⟨t,rfl⟩:=rx;exact SeqAt.EqAt.int_int a t' b t
  | str b=>have⟨t,rfl⟩:=rx;exact SeqAt.EqAt.int_str a t' b t
  | _=>exact aaG (show false=true from fx) aax
 | str a=>
  have⟨t',rfl⟩:=ry;cases x with
  | aS=>cases rx;exact SeqAt.EqAt.str_none a t'
  | bl b=>cases rx;exact SeqAt.EqAt.str_bool a t' b
  | int b=>have⟨t,rfl⟩:=rx;exact SeqAt.EqAt.str_int a t' b t
  | str b=>have⟨t,rfl⟩:=rx;exact SeqAt.EqAt.str_str a t' b t
  | _=>exact aaG (show false=true from fx) aax
 | _=>exact aaG (show false=true from fy) aax
def Aw(x:V)(u:Value):Bool:=match u with
 | .none=>uG .aS x
 | .bool b=>uG (.bl b) x
 | .int i _=>uG (.int i) x
 | .str z _=>uG (.str z) x
 | _=>false
def Fp{x y:V}{u:Value}(r:aj y u)(f:dw y=true):Aw x u=uG y x:=by
 cases y with
 | aS=>cases r;rfl
 | bl b=>cases r;rfl
 | int i=>have⟨t,rfl⟩:=r;rfl
 | str z=>have⟨t,rfl⟩:=r;rfl
 | _=>exact aaG (show false=true from f) aax
def lB{x:V}:∀{xs:List V} {us:List Value},Ψ xs us->xs.all dw=true->us.any (Aw x)=xs.any λy=>uG y x
 | _,_,.nil,_=>rfl
 | y::xs,u::us,.cons r t,f=>by rw[abq,aaz]at f;rw[abr,abr,Fp r f.1,lB t f.2]
def i8{A:Around}{s:Shared}{x:V}{v:Value}(rx:aj x v)(fx:dw x=true):∀{xs:List V} {us:List Value},Ψ xs us->xs.all dw=true->∀u∈us,SeqAt.EqAt A s u v (Aw x u)
 | _,_,.nil,_=>λu hu=>by cases hu
 | y::xs,u::us,.cons r t,f=>λu' hu=>by
  rw[abq,aaz]at f;rcases aam.mp hu with rfl| hu
  ·rw[Fp r f.1];exact vX r rx f.1 fx
  ·exact i8 rx fx t f.2 u' hu
def OA(x:V)(xs:List V):Bool:=xs.any λy=>uG y x
def Sv(K:gV)(neg:Bool):R2:=λx y H Q=>∃p xs,y= .ref p/\(fG K H p xs\/jN K H p xs)/\dw x=true/\xs.all dw=true/\Q (.bl (if neg then !OA x xs else OA x xs)) H
def Dp:gQ X (compareOp .In) (Sv X.K false):=by
 intro δ s σ H x y v u Q I rx ry h;have⟨p,xs,rfl,hq,fx,fs,q⟩:=h;cases ry;rcases hq with hq| hq
 ·have⟨its,r,pl,hz⟩:=I.list hq;refine SeqAt.in_listAt (Aw x) pl.isList (λw hw=>i8 rx fx r fs w (by simpa using hw)) ⟨.bl _,H,I,rfl,?_⟩;rw[show its.toArray.any (Aw x)=its.any (Aw x) by simp,lB r fs];exact q
 ·have⟨its,r,pl,hz⟩:=I.tuple hq;refine SeqAt.in_tupleAt (Aw x) pl (λw hw=>i8 rx fx r fs w (by simpa using hw)) ⟨.bl _,H,I,rfl,?_⟩;rw[show its.toArray.any (Aw x)=its.any (Aw x) by simp,lB r fs];exact q
def uT:gQ X (compareOp .NotIn) (Sv X.K true):=by
 intro δ s σ H x y v u Q I rx ry h;have⟨p,xs,rfl,hq,fx,fs,q⟩:=h;cases ry;rcases hq with hq| hq
 ·have⟨its,r,pl,hz⟩:=I.list hq;refine SeqAt.notIn_listAt (Aw x) pl.isList (λw hw=>i8 rx fx r fs w (by simpa using hw)) ⟨.bl _,H,I,rfl,?_⟩;rw[show its.toArray.any (Aw x)=its.any (Aw x) by simp,lB r fs];exact q
 ·have⟨its,r,pl,hz⟩:=I.tuple hq;refine SeqAt.notIn_tupleAt (Aw x) pl (λw hw=>i8 rx fx r fs w (by simpa using hw)) ⟨.bl _,H,I,rfl,?_⟩;rw[show its.toArray.any (Aw x)=its.any (Aw x) by simp,lB r fs];exact q
def vG:cL X (.builtin "len") (λxs H Q=>∃p ys,xs=[.ref p]/\(fG X.K H p ys\/jN X.K H p ys)/\Q (.int ys.length) H):=by
 intro δ s σ H xs us Q I r h;have⟨p,ys,rfl,hq,q⟩:=h;have⟨u,rfl,rx⟩:=fS r;cases rx;have hn:=mZ;rcases hq with hq| hq
 ·have⟨its,r',pl,hz⟩:=I.list hq;have hlen:=r'.length;exact Calls.call_len_list pl.isList (by simp only[List.size_toArray] <;> omega) ⟨.int ys.length,H,I.tok _,⟨s.toks+1,by rw[List.size_toArray,hlen]⟩,q⟩
 ·have⟨its,r',pl,hz⟩:=I.tuple hq;have hlen:=r'.length;exact len_tuple pl (by simp only[List.size_toArray] <;> omega) ⟨.int ys.length,H,I.tok _,⟨s.toks+1,by rw[List.size_toArray,hlen]⟩,q⟩
def vv:cL X (.builtin "len") (λxs H Q=>∃z,xs=[.str z]/\z.length<=sizeLine/\Q (.int z.length) H):=by intro δ s σ H xs us Q I r h;have⟨z,rfl,hz,q⟩:=h;have⟨u,rfl,t,rfl⟩:=fS r;have hn:=mZ;exact len_str () ⟨.int z.length,H,I.tok _,⟨_,rfl⟩,q⟩
def cL.or{f:Value}{r r':List V->Hp->VK->Prop}(h:cL X f r)(h':cL X f r'):cL X f (λxs H Q=>r xs H Q\/r' xs H Q):=by
 intro δ s σ H xs us Q I rs q;rcases q with q| q
 ·exact h δ s σ H xs us Q I rs q
 ·exact h' δ s σ H xs us Q I rs q
def uh:cL X (.type "list") (λxs H Q=>∃p ys,xs=[.ref p]/\(fG X.K H p ys\/jN X.K H p ys)/\∀l,H l=none->Q (.ref l) (upd H l (.lst ys))):=by
 intro δ s σ H xs us Q I r h;have⟨p,ys,rfl,hq,q⟩:=h;have⟨u,rfl,rx⟩:=fS r;cases rx
 have fin:∀(its:List Value),Ψ ys its->ys.length<=sizeLine->∀(h':Heap) (c':Nat),(∀b o',s.heap.get? b=some o'->h'.get? b=some o')->
   h'.get? s.heap.objs.size=some {cls:=.type "list",dict:=none,data:=.seq its.toArray c',slots:= #[]}->EP X δ σ Q (.ref s.heap.objs.size) {s with heap:=h'}:=λits r' hz h' c' kp e=>
  ⟨.ref s.heap.objs.size,_,I.laid (t':=s.toks) kp (aaq _) (show aA X.prog X.w _ h' _ (.lst ys) from⟨hz,its,c',r',e⟩),rfl,q _ (I.av.fresh (aaq _))⟩
 rcases hq with hq| hq
 ·have⟨its,r',pl,hz⟩:=I.list hq;have hlen:=r'.length;have⟨o,ho,hc,n,hd⟩:=pl.isList;exact call_list_seq p (.inl rfl) ho hc hd (λh' c' kp e=>fin its r' hz h' c' kp e) (by simp only[List.size_toArray] <;> omega)
 ·have⟨its,r',pl,hz⟩:=I.tuple hq;have hlen:=r'.length;have⟨o,ho,hc,n,hd⟩:=pl;exact call_list_seq p (.inr rfl) ho hc hd (λh' c' kp e=>fin its r' hz h' c' kp e) (by simp only[List.size_toArray] <;> omega)
def si:cL X (.type "tuple") (λxs H Q=>∃p ys,xs=[.ref p]/\((fG X.K H p ys/\∀l,H l=none->Q (.ref l) (upd H l (.tup ys)))\/(jN X.K H p ys/\Q (.ref p) H))):=by
 intro δ s σ H xs us Q I r h;have⟨p,ys,rfl,h⟩:=h;have⟨u,rfl,rx⟩:=fS r;cases rx;rcases h with ⟨hq,q⟩| ⟨hq,q⟩
 ·have⟨its,r',pl,hz⟩:=I.list hq;have hlen:=r'.length;refine call_tuple_list pl.isList (λh' kp=>?_) (by simp only[List.size_toArray] <;> omega);have I1:Inv X δ σ H {s with heap:=h'}:=I.kept (t':=s.toks) kp
  have I2:Inv X δ σ (upd H h'.objs.size (.tup ys)) {s with heap:=h'.push {cls:=.type "tuple",data:=.seq its.toArray}}:=
   I1.laid (t':=s.toks) (λb o e=>aad _ e) (aaq _) (show aA X.prog X.w _ _ _ (.tup ys) from⟨hz,its,r',IsTup.new _ _⟩)
  exact⟨.ref h'.objs.size,_,I2,rfl,q _ (I1.av.fresh (aaq _))⟩
 ·have⟨its,r',pl,hz⟩:=I.tuple hq;exact call_tuple_same pl ⟨.ref p,H,I,rfl,q⟩
def W4(K:gV)(T:String)(x:V)(H:Hp):Prop:=match x with
 | .str _=>T="str"
 | .int _=>T="int"
 | .ref p=>(T="list"/\∃xs,fG K H p xs)\/(T="tuple"/\∃o,K.lookup p=some o/\o.cls= .type "tuple"/\o.dict=none)\/
   (T="dict"/\((∃Ο,H p=some (.dK Ο))\/∃Ο,H p=some (.dT Ο)))\/(T="set"/\∃S n,H p=some (.set S n))
 | _=>False
def OF{σ:St}{H:Hp}{T:String}{x:V}{v:Value}(I:Inv X δ σ H s)(r:aj x v)(ty:W4 X.K T x H):
  s.TypeIs v T/\∀a,v= .ref a->∃ob,s.heap.get? a=some ob/\ob.dict=none:=by
 cases x with
 | str z=>
  have⟨t,rfl⟩:=r;cases(show T="str" from ty);exact⟨typeIs_str s z t,λ_ e=>nomatch e⟩
 | int i=>
  have⟨t,rfl⟩:=r;cases(show T="int" from ty);exact⟨typeIs_int s i t,λ_ e=>nomatch e⟩
 | ref p=>
  cases r;rcases ty with ⟨rfl,xs,hq⟩| ⟨rfl,o,hk,hc,hd⟩| ⟨rfl,hk⟩| ⟨rfl,S,n,hk⟩
  ·have⟨its,_,pl,_⟩:=I.list hq;refine⟨pl.isList.typeIs,λa e=>?_⟩;cases e;have⟨o,n,e,c,hd,_⟩:=pl;exact⟨o,e,hd⟩
  ·refine⟨⟨o,I.gp p o hk,hc⟩,λa e=>?_⟩;cases e;exact⟨o,I.gp _ o hk,hd⟩
  ·have z:∃o,s.heap.get? p=some o/\o.ExactDict:=by
    rcases hk with ⟨Ο,hk⟩| ⟨Ο,hk⟩
    ·have⟨_,_,_,_,o,_,_,e,ex,_⟩:=I.av p _ hk;exact⟨o,e,ex⟩
    ·have⟨_,_,_,_,o,_,_,e,ex,_⟩:=I.av p _ hk;exact⟨o,e,ex⟩
   have⟨o,e,ex⟩:=z;refine⟨⟨o,e,ex.1⟩,λa e2=>?_⟩;cases e2;exact⟨o,e,ex.2.1⟩
  ·have⟨o,_,_,_,e,ex,_⟩:=I.av p _ hk;refine⟨⟨o,e,ex.1⟩,λa e2=>?_⟩;cases e2;exact⟨o,e,ex.2.1⟩
 | _=>exact False.elim ty
def YT(K:gV)(T:String)(r:V->List V->Hp->VK->Prop)(to:TE)(t:TA):TE:=λσ H Q=>to σ H λx H1=>W4 K T x H1/\t σ H1 λxs H2=>r x xs H2 Q
variable{o e:Expr}{es:List Expr}{to:TE}{t:TA}{name:Str}{apos af:Pos}{T id:String}{r:V->List V->Hp->VK->Prop}
def Ht(pa:PlainAttrs T)(slot:Slot T name id)(U4:typeOf (.builtin id)=pure (.type "method_descriptor"))(hm:Om X id r)(ho:PE X o to)(ha:PA X (e::es) t)
  (cE:attributeBase o name X.env (eval o X.env)=eval o X.env:=by rfl)
  (kM:((backTo af (starEach (e::es) X.env)).all (λx=> !x.1)&&(backToKw af (keywordEach [] X.env)).all (λx=>x.1.isSome)
   &&decide ((e::es).length+([]:List Keyword).length+(if ([]:List Keyword).isEmpty then 0 else 1) < 30))=true:=by rfl)
  (e9:(apos.endLine==af.line)=true:=by rfl) (hs:starEach (e::es) X.env=(false,eval e X.env)::starEach es X.env:=by rfl) (cf:(backTo af (starEach es X.env)).any (·.1)=false:=by rfl):
  PE X (.Call (.Attribute o name apos) (e::es) [] af) (YT X.K T r to t):=by
 intro δ s σ H Q I h;refine wpAny_Call_method_late cE kM e9 rfl (aT (ho δ s σ H _ I h) λv s1 xz=>?_);have⟨x,H1,I1,r1,ty,q1⟩:=xz;have⟨h1,h2⟩:=OF I1 r1 ty;refine⟨T,id,pa,slot,U4,h1,h2,?_⟩;have hA:=ha af δ s1 σ H1 _ I1 q1;rw[hs]at hA⊢;refine Calls.callWith_builtin (by show(false|| (backTo af (starEach es X.env)).any (·.1))=false;rw[cf] <;> rfl) (Calls.evalArgs_plain ?_);exact aT hA λus s2 ⟨vs,H2,I2,r2,q2⟩=>hm δ s2 σ H2 x vs v us Q I2 r1 r2 q2
end
def Xa(X:Cx)(id:String)(r:V->List V->Hp->VK->Prop):Prop:=
 ∀(δ:List (Addr×Obj)) (s:Shared) (σ:St) (H:Hp) (x:V) (xs:List V) (v:Value) (us:List Value) (Q:VK),Inv X δ σ H s->aj x v->Ψ xs us->r x xs H Q->
  wpAny (model X.prog X.w) X.A (call (.builtin id) (v::us)) (EP X δ σ Q) X.xe s
def Ψ.one:∀{x:V} {us:List Value},Ψ [x] us->∃u,us=[u]/\aj x u
 | _,_,.cons r .nil=>⟨_,rfl,r⟩
def Ψ.two:∀{x y:V} {us:List Value},Ψ [x,y] us->∃u v,us=[u,v]/\aj x u/\aj y v
 | _,_,_,.cons r (.cons q .nil)=>⟨_,_,rfl,r,q⟩
def Ψ.rep{xs:List V}{us:List Value}(h:Ψ xs us):∀k:Nat,Ψ (List.replicate k xs).flatten (List.replicate k us).flatten
 | 0=>.nil
 | k+1=>by rw[aa5,aa5,abl,abl];exact Ψ.append h (Ψ.rep h k)
def tX(its:List Value):∀(k:Nat) (Κ:List Value),
  List.foldl (λx1 x2=>x1++x2) Κ.toArray (List.replicate k its.toArray)=(Κ++(List.replicate k its).flatten).toArray
 | 0,Κ=>by simp
 | k+1,Κ=>by
  have e:Κ.toArray++its.toArray=(Κ++its).toArray:=by simp
  have e2:(Κ++its)++(List.replicate k its).flatten=Κ++(List.replicate (k+1) its).flatten:=by rw[aa5,abl,aaQ]
  rw[<-e2,<-tX its k (Κ++its),<-e,aa5,List.foldl_cons]
section
variable{σ:St}{H:Hp}{l b:Addr}{xs ys zs:List V}
def Inv.VW{its':List Value}{f:Array Value->Array Value}{t':Nat}(I:Inv X δ σ H s)(hH:H l=some (.lst xs))
  (e:s.heap.get? l=some {cls:=.type "list",data:=.seq its.toArray n}) (hf:f its.toArray=its'.toArray) (hv:Ψ ys its') (hz:ys.length<=sizeLine):
  Inv X δ σ (upd H l (.lst ys)) {s with heap:=s.heap.update l (Obj.mapSeq f),toks:=t'}:=by
 have q:=PySem.IsL.update e f;rw[hf]at q;refine I.write (x:=l) (e:=l) (by rw[hH];exact trivial) (.inl rfl) (λb' u hb hu=>(Heap.get?_update_other s.heap (Obj.mapSeq f) (Ne.symm hb)).trans hu) ⟨_,q⟩ ?_;exact⟨hz,its',_,hv,q⟩
def Inv.Dw{t':Nat}(I:Inv X δ σ H s)(hv:Ψ ys its)(hz:ys.length<=sizeLine):
  Inv X δ σ (upd H s.heap.objs.size (.lst ys)) {s with heap:=s.heap.push {cls:=.type "list",data:=.seq its.toArray},toks:=t'}:=
 I.laid (λ_ _ q=>aad _ q) (aaq _) ⟨hz,its,0,hv,aaP _ rfl⟩
def Inv.fresh(I:Inv X δ σ H s):H s.heap.objs.size=none:=I.av.fresh (aaq _)
def Inv.Ja(I:Inv X δ σ H s)(hH:H l=some (.lst xs)):xs.length<=sizeLine/\∃(its:List Value) (n:Nat),Ψ xs its/\xs.length=its.length/\s.heap.get? l=some {cls:=.type "list",data:=.seq its.toArray n}:=by have⟨z,its,n,r,e⟩:=I.av l _ hH;exact⟨z,its,n,r,r.length,e⟩
def E2(h:n<=sizeLine):Builtin.List.listTooLong n=false:=by unfold Builtin.List.listTooLong;exact aao ()
end
section
def Bo:V->List V->Hp->VK->Prop:=λx vs H Q=>∃l xs y,x= .ref l/\vs=[y]/\H l=some (.lst xs)/\xs.length < sizeLine/\Q .aS (upd H l (.lst (xs++[y])))
def ny:Xa X "list.append" Bo:=by intro δ s σ H x vs v us Q I rx rv h;have⟨l,xs,y,rfl,rfl,hH,hz,q⟩:=h;cases rx;have⟨u,rfl,ru⟩:=rv.one;have⟨z,its,n,r,hl,e⟩:=I.Ja hH;refine call_meets F.slot_list_append ⟨_,e,rfl⟩ F.entry_list_append (F.args_list_append_2 _ _) (PySem.list_append l its.toArray n u (by rw[aaC];omega)) ⟨e,?_⟩;refine⟨.aS,_,I.VW (its':=its++[u]) hH e (by simp) (r.append (.cons ru .nil)) ?_,rfl,q⟩;rw[aae,List.length_singleton];omega
def Nu:R2:=λx y H Q=>∃l b xs zs,x= .ref l/\y= .ref b/\H l=some (.lst xs)/\H b=some (.lst zs)/\xs.length+zs.length<=sizeLine/\∀p,H p=none->Q (.ref p) (upd H p (.lst (xs++zs)))
def Gp:gQ X (binaryOp .Add) Nu:=by
 intro δ s σ H x y v u Q I rx ry h;have⟨l,b,xs,zs,rfl,rfl,hH,hB,hz,q⟩:=h;cases rx;cases ry;have⟨z,its,n,r,hl,e⟩:=I.Ja hH;have⟨z2,Oz,n2,r2,O5,e2⟩:=I.Ja hB;refine PySem.P.add_list e e2 ?_ (by rw[aaC,aaC];omega);have ea:its.toArray++Oz.toArray=(its++Oz).toArray:=by simp
 rw[ea];exact⟨.ref _,_,I.Dw (t':=s.toks) (r.append r2) (by rw[aae];omega),rfl,q _ I.fresh⟩
def Ry:R2:=λx y H Q=>∃l k xs,x= .ref l/\y= .int k/\H l=some (.lst xs)/\ -(2 ^ 63)<=k/\k < 2 ^ 63/\xs.length * k.toNat<=sizeLine/\
 ∀p,H p=none->Q (.ref p) (upd H p (.lst (List.replicate k.toNat xs).flatten))
def K_{α:Type}(xs:List α)(k:Nat):(List.replicate k xs).flatten.length=k * xs.length:=by
 induction k with
 | zero=>simp
 | succ k ih=>rw[aa5,abl,aae,ih,Nat.succ_mul,Nat.add_comm]
def N1:gQ X (binaryOp .Mult) Ry:=by
 intro δ s σ H x y v u Q I rx ry h;have⟨l,k,xs,rfl,rfl,hH,h1,h2,hz,q⟩:=h;cases rx;have⟨t,rfl⟩:=ry;have⟨z,its,n,r,hl,e⟩:=I.Ja hH;have hlen:its.toArray.size * k.toNat<=sizeLine:=by rw[aaC,<-hl];exact hz
 have Vd:¬its.toArray.size * k.toNat > (2 ^ 63 - 1) / 8:=by
  have:(sizeLine:Nat)<=(2 ^ 63 - 1) / 8:=@_
  omega
 have VC:¬(!Builtin.List.listFitsIndex k)=true:=by rw[fitsIndex_both h1 h2];exact aax
 have Rj:¬Builtin.List.listTooLong (its.toArray.size * k.toNat)=true:=by rw[E2 hlen];exact aax
 have Uk:List.foldl (λx1 x2=>x1++x2) #[] (List.replicate (if its.toArray.isEmpty=true then 0 else k.toNat) its.toArray)=(List.replicate k.toNat its).flatten.toArray:=by
  have f0:∀m:Nat,List.foldl (λx1 x2=>x1++x2) #[] (List.replicate m its.toArray)=(List.replicate m its).flatten.toArray:=λm=>by have:=tX its m [];rw[aaI]at this;exact this
  rw[f0];cases its with
  | nil=>simp
  | cons a r'=>rw[if_neg (by simp)]
 refine wpAny_binaryOp_repeat_ref (T:="list") (U:="int") @_ ⟨_,e,rfl⟩ (λs'=>typeIs_int s' k t) noFill_list_mul F.fills_int_mul F.slot_int_rmul repeat_list F.slot_int_index.lookup
  (call_meets F.slot_int_rmul (typeIs_int s k t) F.entry_int_rmul (F.args_int_rmul_2 _ _) (int___rmul___int_list k t l its.toArray n)
   ⟨e,rfl,⟨_,e,rfl⟩,call_meets F.slot_list_mul ⟨_,e,rfl⟩ F.entry_list_mul (F.args_list_mul_2 _ _) (AutoListH.list___mul___list_int_3 l its.toArray n k t VC Vd Rj) ⟨e,?_⟩⟩)
 rw[Uk];exact⟨.ref _,_,I.Dw (t':=s.toks) (r.rep k.toNat) (by rw[K_,Nat.mul_comm];exact hz),rfl,q _ I.fresh⟩
end
end L2
namespace Att
open PySem PySem.W PySem.Calls PyProof.Rows
def ot{P:Params}{h:Heap}:∀(ns:List Int) (vs:List Value),WellAll P h vs (ns.map WData.int)->IntsAre vs ns:=by
 intro ns
 induction ns with
 | nil=>
  intro vs w;rw[abI]at w;cases w;exact .nil
 | cons n ns ih=>
  intro vs w;rw[aaJ]at w;cases w with
  | cons a b=>
   cases a;exact .cons _ _ (ih _ b)
def C2{l:OpenLaw}{n:Nat}(hn:l.most=some n){P:Params}{h:Heap}{args:List WData}{vals:List Value}
  (Jp:l.row.toRowW.claim.pre args=true) (Ug:WellAll P h vals args):
  ∃a vs ns,vals=[Value.ref a]/\args=[WData.list (ns.map WData.int)]/\h.get? a=some {cls:=.type "list",data:=.seq vs.toArray}/\IntsAre vs ns/\ns.length<=n:=by
 have X1:WShape.hasAll [] args [.list .int]=true:=(pre_splitW Jp).1;have hc:l.pre.holds [] {args:=args}=true:=(pre_splitW Jp).2;have⟨d,r,rfl,h1,h2⟩:=hasAllW_cons X1;obtain rfl:=hasAllW_nil h2;have⟨xs,rfl,h3⟩:=hasW_list h1;have⟨ns,rfl⟩:=items_int h3;have hlen:ns.length<=n:=by
  unfold OpenLaw.pre at hc;have h4:(WTm.not (.lt (.lit (.int (n:Int))) (.len (.arg 0)))).holds [] {args:=[.list (ns.map .int)]}=true:=by have h4:=(holds_andW hc).1;rw[hn]at h4;exact h4
  have h5:=condW_of h4 (w_not (w_lt w_lit (w_len_list (w_arg rfl))));rw[aac]at h5;refine Nat.le_of_not_lt λq=>?_;have q':(n:Int) < ((ns.length:Nat):Int):=()
  first
   | (rw[aaK q']at h5;exact aaG h5 @_)
   | (simp at h5;omega)
 cases Ug with
 | cons w1 w2=>
  cases w2;cases w1 with
  | list ho GR=>exact⟨_,_,ns,rfl,rfl,ho,ot ns _ GR,hlen⟩
def C6(l:OpenLaw)(args:List WData):l.row.toRowW.claim.post args (.bool true) args=true:=
 postW_of (r:=l.row.toRowW) (X:=(true==true))
  (show WShape.has [] (.bool true) .bool=true by first| rfl| decide| simp[WShape.has,WShape.arms,WShape.armsAll])
  (show(WTm.eq .res (.lit (.bool true))).value [] {args:=args,res:=some (.bool true),after:=args}=some (.bool (true==true)) from w_eq_bool (w_res rfl) w_lit) rfl
def wy{l:OpenLaw}{n:Nat}{q:Program}{loose:List Str}{XP:(Str->Option Value)->Heap->Prop}{YP:World->Heap->Prop}{d:DefRec}
  (hn:l.most=some n) (Pc:d.params.defaults=[])
  (call:∀(w:World) (s₀ s₁:Shared) (mg mb:Str->Option Value) (fa:Addr) (o:Obj) (pm cd doc:Value) (a:Addr) (vs:List Value) (ns:List Int),
   Ground q loose [] XP w s₀ mg mb s₁.heap->YP w s₁.heap->
   s₁.heap.get? fa=some o->o.data= .func (docDef d.name d.params d.body d.scope pm cd doc)->s₁.heap.CodeRec cd d.name->mg d.name=some (.ref fa)->
   s₁.heap.get? a=some {cls:=.type "list",data:=.seq vs.toArray}->IntsAre vs ns->ns.length<=n->s₁.gens= #[]->
   codeAny (model l.prog w) callerA (.call (.ref fa) ⟨[.ref a],[]⟩) (λr s'=>r= .ok (.ret (.bool true))/\OldK s₁.heap s'.heap/\s'.os=s₁.os/\AllBare s'.gens) s₁):
  WalkO q loose XP YP l.row.toRowW d [] (λf vs=>PySem.call f vs):=by
 intro w s₀ s₁ mg mb G Y fa o pm cd doc dV kV ho hd we hD Jj hg args vals as Jp aaF hrd Ug hlo;obtain rfl:dV= .none:=Dflts.none hD Pc;obtain rfl:kV= .none:=Dflts.noKw hD;have⟨a,vs,ns,rfl,rfl,MF,hints,hlen⟩:=C2 hn Jp Ug;refine enter_call (codeAny_mono (call w s₀ s₁ mg mb fa o pm cd doc a vs ns G Y ho (fd_plain hd) we Jj MF hints hlen hg) λr s' hq=>?_);have⟨rfl,h2,h3,h4⟩:=hq;exact⟨.inl ⟨.bool true,.bool true,[],rfl,λ_=>rfl,.bool true,C6 l _,λ_=>⟨List.Pairwise.nil,λ_ hm=>(nomatch hm)⟩⟩,h2,h3,h4⟩
end Att
namespace L2
open PySem PySem.Spec PyProof.Rows
def sL:∀{vs:List Value} {ns:List Int},IntsAre vs ns->Ψ (ns.map V.int) vs
 | _,_,.nil=>.nil
 | _,_,.cons n t h=>.cons ⟨t,rfl⟩ (sL h)
def Ob(H:Hp):Prop:=∀b,H b=none\/∃o xs,H b=some (.vJ o (.lst xs))
def Hl{P:Program}{w:World}{K:gV}{mg mb:Str->Option Value}{CX:yH}{k:Nat}{fa a:Addr}{fd:FuncData}{x:Str}{sp:Sp}{s₁:Shared}{vs:List Value}{ns:List Int}
  (KX:K.In s₁.heap) (BM:s₁.heap.Ns mainGlobals mg) (hb:s₁.heap.Ns builtinsNs mb) (ZO:∀x:Str,x≠"__name__"->mb x=bootBuiltins x) (U':s₁.heap.NoLimit) (hg:s₁.gens= #[])
  (ha:s₁.heap.get? a=some {cls:=.type "list",data:=.seq vs.toArray}) (hi:IntsAre vs ns) (hl:ns.length<=sizeLine) (hr:bp k callerA)
  (F:∀base:Heap,K.In base->base.Ns mainGlobals mg->ay P w K mg base CX k fa fd [x] sp) (QI:∀(s:Shared) (u:Value),BindsTo s fd ⟨[u],[]⟩ [(x,u)])
  (C5:∀H:Hp,Ob H->fG K H a (ns.map V.int)->sp [.ref a] H (λv _=>v= .bl true) λ_ _ _=>False)
  (VF:∀H e s',CX [] H s₁ (λ_ _ _=>False) e s'->False):
  codeAny (model P w) callerA (.call (.ref fa) ⟨[.ref a],[]⟩) (λr s'=>r= .ok (.ret (.bool true))/\OldK s₁.heap s'.heap/\s'.os=s₁.os/\AllBare s'.gens) s₁:=by
 have rv:=sL hi;have V2:=hi.length
 have core:∀H:Hp,Ob H->fG K H a (ns.map V.int)->iE P w H s₁.heap->(∀b,H b≠none->b=a)->(H a≠none->K.lookup a=none)->
   codeAny (model P w) callerA (.call (.ref fa) ⟨[.ref a],[]⟩) (λr s'=>r= .ok (.ret (.bool true))/\OldK s₁.heap s'.heap/\s'.os=s₁.os/\AllBare s'.gens) s₁:=by
  intro H hO hS av hA hK;have Bj:∀{b:Addr} {o:Obj},s₁.heap.get? b=some o->H b=none->(uc s₁.heap H).get? b=some o:=λe n=>FC e n;have QF:∀{b:Addr} {o:Obj} {es:Array DictEntry} {ep:Nat},s₁.heap.get? b=some o->o.data= .dict es ep->H b=none:=λ{b o es ep} e d=>by
   cases q:H b with
   | none=>rfl
   | some u=>
    have e':b=a:=hA b (by rw[q];simp);subst e';rw[ha]at e;cases e;have d':Data.seq vs.toArray _=Data.dict es ep:=d;cases d'
  have Sy:∀{b:Addr} {m:Str->Option Value},s₁.heap.Ns b m->(uc s₁.heap H).Ns b m:=λ{b m} ⟨o,es,ep,e,d,r⟩=>⟨o,es,ep,Bj e (QF e d),d,r⟩
  have Wv:K.In (uc s₁.heap H):=λb o e=>Bj (KX b o e) (by
   cases q:H b with
   | none=>rfl
   | some u=>
    have e':b=a:=hA b (by rw[q];simp);subst e'
    rw[hK (by rw[q];simp)]at e;cases e)
  have hM:Mod K mg (uc s₁.heap H):=⟨Wv,Sy BM,⟨mb,Sy hb,ZO⟩,let ⟨mc,h1,h2⟩:=U';⟨mc,Sy h1,h2⟩⟩;have e0:AG P w K mg (uc s₁.heap H) callerA [] s₁ H:=⟨rfl,hM,λb o e=>K6 e,Nat.le_of_eq (D1 _ _),trivial,λb hb=>absurd (show b∈([]:List Addr) from hb) (by simp),av,.of_eq hg⟩;refine codeAny_mono ((F _ Wv (Sy BM)).run callerA [] s₁ H ⟨[.ref a],[]⟩ [.ref a] [.ref a] _ _ hr e0 (QI s₁ (.ref a)) (.cons rfl .nil) (C5 H hO hS)) λr s' h=>?_;cases r with
  | error e=>exact(VF H e s' h).elim
  | ok fl=>
   cases fl with
   | next=>exact False.elim h
   | brk=>exact False.elim h
   | cont=>exact False.elim h
   | ret u=>
    have⟨v,H',os,bare,un,Tq,r',q⟩:=h;have q':v= .bl true:=q;subst q';obtain rfl:u=Value.bool true:=r';refine⟨rfl,OldK.of_keep λb o e=>?_,os,bare⟩;cases q:H b with
    | none=>exact un.keep b o e q (by intro z;exact absurd (show b∈([]:List Addr) from z) (by simp)) (by simp)
    | some u=>
     rcases hO b with z| ⟨ob,xs,z⟩
     ·rw[q]at z;cases z
     ·have z2:=un.iA b ob _ z;have⟨e1,_⟩:=av b _ z;have⟨e2,_⟩:=Tq b _ z2;rw[e]at e1;cases e1;exact e2
 cases hk:K.lookup a with
 | some o=>
  have e:=KX a o hk;rw[ha]at e;cases e;refine core (λ_=>none) (λ_=>.inl rfl) (.inr ⟨_,vs.toArray,_,hk,rfl,rfl,rfl,by rw[List.size_toArray,V2];exact hl,by simpa using rv⟩) (λb u z=>by have z':(none:Option HO)=some u:=z;cases z') (λb z=>absurd rfl z) λz=>absurd rfl z
 | none=>
  refine core (λb=>if b=a then some (.vJ {cls:=.type "list",data:=.seq vs.toArray} (.lst (ns.map V.int))) else none) (λb=>?_) (.inl (.inr ⟨{cls:=.type "list",data:=.seq vs.toArray},aaB rfl⟩)) (λb u z=>?_) (λb z=>?_) λ_=>hk
  ·by_cases hb:b=a
   ·exact .inr ⟨_,_,aaB hb⟩
   ·exact .inl (aay hb)
  ·by_cases hb:b=a
   ·have z':=(aaB hb).symm.trans z;cases z';subst hb;exact⟨ha,by rw[aac];exact hl,vs,_,rv,ha⟩
   ·have z':=(aay hb).symm.trans z;cases z'
  ·by_cases hb:b=a
   ·exact hb
   ·exact aaG (aay hb) z
def uD{l:PySem.W.OpenLaw}{n k:Nat}{q:Program}{loose:List Str}{XP:(Str->Option Value)->Heap->Prop}{YP:World->Heap->Prop}{d:DefRec}{K:Params->gV}{CX:World->yH}{sp:World->Sp}{x:Str}
  (hn:l.most=some n) (SI:n<=sizeLine) (Pc:d.params.defaults=[]) (hr:bp k callerA)
  (hY:∀(w:World) (h:Heap),YP w h->(K w.params).In h)
  (F:∀(w:World) (mg:Str->Option Value) (fa:Addr) (h:Heap),(K w.params).In h->h.Ns mainGlobals mg->mg d.name=some (.ref fa)->
   ∃fd:FuncData,(∀(s:Shared) (u:Value),BindsTo s fd ⟨[u],[]⟩ [(x,u)])/\
    ∀base:Heap,(K w.params).In base->base.Ns mainGlobals mg->ay l.prog w (K w.params) mg base (CX w) k fa fd [x] (sp w))
  (C5:∀(w:World) (H:Hp) (a:Addr) (ns:List Int),ns.length<=n->Ob H->fG (K w.params) H a (ns.map V.int)->sp w [.ref a] H (λv _=>v= .bl true) λ_ _ _=>False)
  (VF:∀(w:World) (H:Hp) (s:Shared) (e:Value) (s':Shared),CX w [] H s (λ_ _ _=>False) e s'->False):
  PySem.W.WalkO q loose XP YP l.row.toRowW d [] (λf vs=>PySem.call f vs):=by
 refine Att.wy hn Pc λw s₀ s₁ mg mb fa o pm cd doc a vs ns G Y ho hd we Jj MF hints hlen hg=>?_;have KX:=hY w _ Y;have⟨fd,hb,hF⟩:=F w mg fa _ KX G.T.g Jj;exact Hl KX G.T.g G.T.b G.T.builtins G.T.nolimit hg MF hints (aaD hlen SI) hr hF hb (λH hO hS=>C5 w H a ns hlen hO hS) λH e s'=>VF w H s₁ e s'
end L2
/- XQ Uw Ke (shape;Y_,My.* are QE):
  My.Adr:a structure of I_ addresses UW TY QW names (classes,CJ);My.Txt K t:a structure (Prop) of I_ equations over K;
  My.zd:{K} {implicit addresses ..} (e1:nsIn K mainGlobals "law"=some (some (.ref f))) (e2:K.lookup f=some ⟨oc,od,.func (fnOf "law" "law" params body scope dV kV doc pm an bC ct),sl⟩) (e3:codeIn K bC "law"=true) .. :∃t,My.Txt K t
set_option maxRecDepth 100000 in
set_option maxHeartbeats 0 in
def PySem.Challenge.cw_LID_holds : PySem.Challenge.rw_LID.Holds := by
 w_on;o_law;k_head;(case hw=>w_witness2)
 k_fill
 refine L2.uD (l:=PySem.Challenge.rw_LID) (n:=63) (k:=40) (x:="script") (CX:=fun w=>..) (sp:=fun _=>My.Nx) rfl @_ rfl ⟨rfl,@_,@_⟩ (fun w h Y=>PySem.W.kIn_of Y) ?F ?S ?C
 case F=>
  intro w mg fa h KX G Jj;have T:∃t,My.Txt (L2.UI KX) t:=by
   dsimp only[L2.UI]
   refine' My.zd ?e1 ?e2 ?e3 ..
   (case e1=>PySem.W.k_is)
   (case e2=>PySem.W.k_is)
   ..
  have⟨t,T⟩:=T;have e0:=Jj.symm.trans (PySem.W.mg_of KX G T.Ys);cases e0;exact⟨_,λs u=>.of_eq rfl,λbase kb nb=>My.zO T kb nb⟩
 case S=>exactλw H a ns hl hO hS=>..
 case C=>exact ..
(I_ tactic k_is has no namespace:write k_is) -/
namespace L2
open PySem PySem.Spec PyProof.Rows
variable{P prog:Program}{w:World}{mg:Str->Option Value}{base h B:Heap}{x f C:Addr}{qual:Str}{st:Stmt}{fd:FuncData}{ps N xs ys:List Str}{A:Around}{H':Hp}{M:Model}{E:Value->Shared->Prop}{s:Shared}{env:Env}{outer:List Env}{o ox:Obj}{Q:Unit->Shared->Prop}{X:Cx}{δ pn p':List (Addr×Obj)}{σ:St}{scope:Scope}{R:St->XK}{pos:Pos}{es:List Expr}{gk l_:List Value}{Γ:List Nat}{i:Nat}
def jr(s:Stmt):Arguments:=match s with
 | .FunctionDef _ a _ _ _ _ _ _ _ _=>a
 | _=>{posonlyargs:=[],args:=[],vararg:=none,kwonlyargs:=[],kw_defaults:=[],kwarg:=none,defaults:=[]}
def eP(s:Stmt):List Stmt:=match s with
 | .FunctionDef _ _ b _ _ _ _ _ _ _=>b
 | _=>[]
def π(s:Stmt):Scope:=match s with
 | .FunctionDef _ _ _ _ _ _ sc _ _ _=>sc
 | _=>{kind:=.function,names:=[],isGenerator:=false,isCoroutine:=false}
abbrev Sr:yH:=λ_ _ _ _ _ _=>False
abbrev E0:XK:=λ_ _ _=>False
structure eE(K:gV)(x qual:Str)(st:Stmt)(f:Addr)(fd:FuncData):Prop where
 ex:∃(oc:Value) (od:Option Addr) (kV doc pm:Value) (an:Option Addr) (bC ct:Value) (z_:Array (Option Value)),
  fd=PySem.W.fnOf x qual (jr st) (eP st) (π st) .none kV doc pm an bC ct/\K.lookup f=some ⟨oc,od,.func fd,z_⟩/\PySem.W.codeIn K bC qual=true
 kp:PySem.W.keepIn K (.ref f)=true
section
variable{K:gV}
def eE.binds{x:Str}(F:eE K x qual st f fd)
  (h:∀(kV doc pm:Value) (an:Option Addr) (bC ct:Value) (us:List Value),us.length=ps.length->bindArgs (PySem.W.fnOf x qual (jr st) (eP st) (π st) .none kV doc pm an bC ct) ⟨us,[]⟩=pure (ps.zip us)):fT K fd ps []:=by
 have⟨oc,od,kV,doc,pm,an,bC,ct,z_,rfl,lk,we⟩:=F.ex;exact .all (h kV doc pm an bC ct)
def Ih{x:Str}{oc:Value}{od an:Option Addr}{z_:Array (Option Value)}{kV doc pm bC ct:Value}(l:K.lookup f=some ⟨oc,od,.func (PySem.W.fnOf x qual (jr st) (eP st) (π st) .none kV doc pm an bC ct),z_⟩)
  (c:PySem.W.codeIn K bC qual=true) (k:PySem.W.keepIn K (.ref f)=true):eE K x qual st f (PySem.W.fnOf x qual (jr st) (eP st) (π st) .none kV doc pm an bC ct):=⟨⟨oc,od,kV,doc,pm,an,bC,ct,z_,rfl,l,c⟩,k⟩
end
def BK{k:Nat}(hr:bp k A):A.units+1 < cLine:=abm (Nat.add_le_add_left (by decide:1<=64) _) hr.units
def AK{A B:Prop}(h:B):if false=true then A else B:=by rw[aay aax];exact h
def y_{A B:Prop}(h:A):if true=true then A else B:=by rw[aaB rfl];exact h
def cT(H H':Hp):Prop:=∀b o,H b=some o->H' b=some o
def cT.refl(H:Hp):cT H H:=λ_ _ h=>h
def cT.trans{H H1 H2:Hp}(a:cT H H1)(b:cT H1 H2):cT H H2:=λc o h=>b c o (a c o h)
def cT.free{H:Hp}(e:cT H H'){l:Addr}(h:H' l=Option.none):H l=Option.none:=by
 cases q:H l with
 | none=>rfl
 | some o=>
  rw[e l o q]at h;cases h
def cT.seq{K:gV}{H:Hp}{a:Addr}{xs:List V}(e:cT H H')(h:fG K H a xs):fG K H' a xs:=by
 rcases h with (h| ⟨o,h⟩)| h
 ·exact .inl (.inl (e _ _ h))
 ·exact .inl (.inr ⟨o,e _ _ h⟩)
 ·exact .inr h
section
def aA.here{H:Hp}{a:Addr}{o:HO}(x:aA P w H h a o):∃ob,h.get? a=some ob:=by
 cases o with
 | lst xs=>have⟨_,_,_,_,e⟩:=x;exact⟨_,e⟩
 | tup xs=>have⟨_,_,_,ob,e,_⟩:=x;exact⟨ob,e⟩
 | dK Ο=>have⟨_,_,_,_,ob,_,_,e,_⟩:=x;exact⟨ob,e⟩
 | dT Ο=>have⟨_,_,_,_,ob,_,_,e,_⟩:=x;exact⟨ob,e⟩
 | set S n=>have⟨ob,_,_,_,e,_⟩:=x;exact⟨ob,e⟩
 | ins C dx fs=>have⟨_,_,_,e,_⟩:=x;exact⟨_,e⟩
 | own y=>exact x
 | xd fs=>have⟨_,⟨ob,_,_,e,_⟩,_⟩:=x;exact⟨ob,e⟩
 | Su lo hi=>have⟨_,_,_,e⟩:=x;exact⟨_,e⟩
 | vJ ob u=>have⟨e,_⟩:=x;exact⟨_,e⟩
 | Ir ps=>exact⟨_,show h.get? a=some _ from x⟩
 | met f y=>exact⟨_,show h.get? a=some _ from x⟩
 | ext φ=>have⟨_,z,_⟩:=x;exact z
def xP(B:Heap)(l:List Env)(x:Addr)(o:Obj)(fl:Value)(h:Heap):Prop:=
 B.StaysIn h/\B.get? x=none/\h.FunFrames B l/\∃(vs:Array Value) (T:Addr) (oT:Obj) (ts:Array Value),h.get? x=some {o with data:=.fields vs}/\vs[2]? =some .none/\vs[1]? =some (.ref T)/\
  B.get? T=none/\T≠x/\h.get? T=some oT/\oT.data= .fields ts/\ts[3]? =some fl
section
variable{l:List Env}{L:Addr}{vs:Array Value}
def ie{h':Heap}{T:Addr}{oT:Obj}{ts:Array Value}(hT:h.get? T=some oT)(hd:oT.data= .fields ts)(k:∀b,b≠T->h'.get? b=h.get? b):h.UpToSlots h':=λb ob e hn=>
 ⟨ob.slots,(k b λz=>by rw[z,hT]at e;cases e;exact hn _ hd).trans e⟩
def jy{h':Heap}(hl:h.FunFrames B l)(u:h.UpToSlots h'):h'.FunFrames B l:=hl.of_keeps λb ob e hn=>by have⟨sl,q⟩:=u b ob e hn;exact⟨_,q,rfl⟩
def rp{head:Value}{ZY:Bool}(Gv:A.frames=some (env::outer))(hf:env.frame=some L)(hB:B.StaysIn s.heap)(hn:B.get? x=none)(hl:s.heap.FunFrames B (env::outer))(hx:s.heap.get? x=some {o with data:=.fields vs})(h1:1 < vs.size)(h2:vs[2]? =some .none)
  (h:∀h',xP B (env::outer) x o (rawInt L) h'->s.heap.UpToSlots h'->Q Unit.unit {s with heap:=h'}):
  wpAny M A (do let a<-frameOf env;let pl<-entryPlaceOf L ZY;let n<-EntryCells.newEntry head a .none (rawInt L) .none pl;setField (.ref x) 1 n) Q E s:=by
 refine aab (wpAny_frameOf_fun Gv hl hf λg1 S1=>aab (wpAny_entryPlaceOf λpl eB=>?_));have nx:x∉(env::outer).filterMap (·.frame):=λz=>by have⟨_,ob,e,d⟩:=hl.mem z;rw[hx]at e;cases e;exact d _ rfl
 have Vp:g1.get? x=some {o with data:=.fields vs}:=(S1.2.1 x nx).trans hx;unfold EntryCells.newEntry newFields;refine aab (wpAny_newObj_type ?_ (eB.sizeOk5 _ _ _ _ _));have IF:=aad (h:=g1) {cls:=.type "traceback",dict:=none,data:=.fields ([head,.ref L,.none,rawInt L,.none]++(if pl.isEmpty then List.replicate 6 Value.none else pl)).toArray} Vp;refine wpAny_setField IF rfl h1 (h _ ?_ ?_)
 ·have up1:∀b ob,b≠x->g1.get? b=some ob->((g1.push {cls:=.type "traceback",dict:=none,data:=.fields ([head,.ref L,.none,rawInt L,.none]++(if pl.isEmpty then List.replicate 6 Value.none else pl)).toArray}).update x (Obj.mapFields (·.setIfInBounds 1 (Value.ref g1.objs.size)))).get? b=some ob:=λb ob nb e=>
   (Heap.get?_update_other _ _ (Ne.symm nb)).trans (aad _ e)
  have neT:g1.objs.size≠x:=abH (aan Vp)
  refine⟨λb ob e=>up1 b ob (λz=>by rw[z,hn]at e;cases e) ((S1.2.1 b λz=>by rw[(hl.mem z).1]at e;cases e).trans (hB b ob e)),hn,hl.of_keeps λb ob e d=>?_,vs.setIfInBounds 1 (.ref g1.objs.size),g1.objs.size,_,_,Heap.get?_update_self _ IF rfl,by rw[Array.getElem?_setIfInBounds_ne @_];exact h2,by simp[h1],?_,neT,
   (Heap.get?_update_other _ _ (Ne.symm neT)).trans (aaP g1 rfl),rfl,?_⟩
  ·have⟨sl,q⟩:=S1.2.2 b ob e;exact⟨_,up1 b _ (λz=>by rw[z,hx]at e;cases e;exact d _ rfl) q,rfl⟩
  ·cases q:B.get? g1.objs.size with
   | none=>rfl
   | some ob=>
    have:=aan (hB _ _ q);rw[<-S1.1]at this;exact aaG this (abj _)
  ·first
    | (simp;done)
    | (rcases eB with rfl| ⟨_,_,_,_,_,_,_,rfl⟩ <;> simp)
 ·intro b ob e d;have⟨sl,q⟩:=S1.2.2 b ob e;refine⟨sl,?_⟩;rw[Heap.get?_update_other _ _ (λz:x=b=>by rw[<-z,hx]at e;cases e;exact d _ rfl)];exact aad _ q
def iL(Gv:A.frames=some (env::outer))(hf:env.frame=some L)(hB:B.StaysIn s.heap)(hn:B.get? x=none)(hl:s.heap.FunFrames B (env::outer))(hx:s.heap.get? x=some {o with data:=.fields vs})(h1:vs[1]? =some .none)(h2:vs[2]? =some .none)
  (h:∀h',xP B (env::outer) x o (rawInt L) h'->s.heap.UpToSlots h'->Q Unit.unit {s with heap:=h'}):wpAny M A (noteFrame (.ref x) env) Q E s:=by
 unfold noteFrame;simp only[hf];refine aab (wpAny_field hx rfl h1 ?_);rw[aay @_];exact rp Gv hf hB hn hl hx (aaT.mp h1).1 h2 h
def G8(Gv:A.frames=some (env::outer))(hf:env.frame=some L)(R:xP B (env::outer) x o .none s.heap)
  (h:∀h',xP B (env::outer) x o (rawInt L) h'->s.heap.UpToSlots h'->Q Unit.unit {s with heap:=h'}):wpAny M A (noteFrame (.ref x) env) Q E s:=by
 have⟨hB,hn,hl,vs,T,oT,ts,hx,h2,h1,nT,Gq,hT,dT,h3⟩:=R;unfold noteFrame;simp only[hf];refine aab (wpAny_field hx rfl h1 ?_);rw[if_pos (show(Value.ref T != Value.none)=true by simp)];refine aab (wpAny_field hT dT h3 ?_);rw[if_neg (show¬((Value.none==rawInt L)=true) by simp[rawInt])];refine aab (wpAny_setField hT dT (aaT.mp h3).1 ?_);have AE:∀b,b≠T->(s.heap.update T (Obj.mapFields (·.setIfInBounds 3 Value.none))).get? b=s.heap.get? b:=λb nb=>Heap.get?_update_other _ _ (Ne.symm nb);have u:=ie hT dT AE;exact rp Gv hf (λb ob e=>(AE b λz=>by rw[z,nT]at e;cases e).trans (hB b ob e)) hn (jy hl u) ((AE x (Ne.symm Gq)).trans hx) (aaT.mp h1).1 h2 λh' F' u'=>h h' F' (u.trans u')
def lI{fl:Value}(R:xP B l x o fl s.heap)(h:∀h',xP B l x o .none h'->s.heap.UpToSlots h'->Q Unit.unit {s with heap:=h'}):wpAny M A (setFlight (.ref x) none) Q E s:=by have⟨hB,hn,hl,vs,T,oT,ts,hx,h2,h1,nT,Gq,hT,dT,h3⟩:=R;unfold setFlight;refine aab (wpAny_field hx rfl h1 ?_);rw[if_pos (show(Value.ref T != Value.none)=true by simp)];have z3:=(aaT.mp h3).1;have AE:∀b,b≠T->(s.heap.update T (Obj.mapFields (·.setIfInBounds 3 ((none:Option Addr).elim Value.none λf=>rawInt f)))).get? b=s.heap.get? b:=λb nb=>Heap.get?_update_other _ _ (Ne.symm nb);have u:=ie hT dT AE;refine wpAny_setField hT dT z3 (h _ ⟨λb ob e=>(AE b λz=>by rw[z,nT]at e;cases e).trans (hB b ob e),hn,jy hl u,vs,T,_,_,(AE x (Ne.symm Gq)).trans hx,h2,h1,nT,Gq,Heap.get?_update_self _ hT (Obj.isFreed_of_fields (Obj.data_mapFields dT _)),Obj.data_mapFields dT _,by simp[z3]⟩ u)
def Am{fl:Value}(R:xP B (env::outer) x o fl h):xP B outer x o fl h:=by have⟨hB,hn,⟨_,_,hl⟩,r⟩:=R;exact⟨hB,hn,hl,r⟩
end
structure yI(P:Program)(w:World)(l:List Env)(H H':Hp)(h h' B:Heap)(x:Addr)(o:Obj):Prop where
 un:Un (jg l) [] H H' h h'
 ok:iE P w H' B
 wb:xP B l x o .none h'
 Kf:∀b u,h.get? b=some u->H b=none->b∉jg l->B.get? b=some u
 IA:∀b u,h.get? b=some u->b∉jg l->∃u',B.get? b=some u'
variable{l:List Env}{H:Hp}{h' Oy:Heap}
def yI.av(F:yI P w l H H' h h' B x o):iE P w H' h':=F.ok.kept F.wb.1
def yI.nx(F:yI P w l H H' h h' B x o):H' x=none:=by
 cases e:H' x with
 | none=>rfl
 | some u=>
  have⟨ob,q⟩:=aA.here (F.ok x u e);rw[F.wb.2.1]at q;cases q
def yI.on(F:yI P w l H H' h h' B x o)(f:xP B l x o .none Oy)(u:h'.UpToSlots Oy):yI P w l H H' h Oy B x o where
 un :=⟨λb o e n hb _=>f.1 b o (F.Kf b o e n hb),
  λb o e n hb hx=>by
   have⟨sl,e1⟩:=F.un.slot b o e n hb hx;have⟨_,o',j0,hd⟩:=F.wb.2.2.1.mem hb;rw[e1]at j0;cases j0;have⟨OO,e2⟩:=u b _ e1 hd;exact⟨OO,e2⟩,
  F.un.free,
  λb o e _=>by
   by_cases hb:b∈jg l
   ·have⟨_,o',j0,hd⟩:=F.wb.2.2.1.mem hb;have⟨sl,e2⟩:=u b _ j0 hd;exact⟨_,e2⟩
   ·have⟨o',q⟩:=F.IA b o e hb;exact⟨o',f.1 _ _ q⟩,
  F.un.jj,F.un.iA,F.un.iN⟩
 ok:=F.ok
 wb:=f
 Kf:=F.Kf
 IA:=F.IA
end
def bP(P:Program)(w:World):yH:=λouter H s E e s'=>
 ∃x o H' B,e= .ref x/\s'.os=s.os/\AllBare s'.gens/\yI P w outer H H' s.heap s'.heap B x o/\E o.cls o.dict H'
section
variable{H:Hp}{Oy:Heap}
def yI.leave(I:Inv X δ σ H s)(hex:X.ex=[])(tD:∀b∈jg X.outer,b∈jg X.stack)(ok:iE X.prog X.w H' B)(f:xP B X.outer x ox .none Oy)(To:X.s₀.heap.get? x=none)
  (Kf:∀b o,b≠x->s.heap.get? b=some o->H b=none->b∉jg X.stack->B.get? b=some o)
  (IA:∀b o,b≠x->s.heap.get? b=some o->b∉jg X.stack->∃o',B.get? b=some o')
  (sl:∀b o,s.heap.get? b=some o->b∈jg X.stack->∃sl,Oy.get? b=some {o with slots:=sl})
  (free:∀b o,s.heap.get? b=some o->H b=none->H' b=none)
  (jj:∀b xs,H b=some (.tup xs)->H' b=some (.tup xs)) (iA:∀b o u,H b=some (.vJ o u)->H' b=some (.vJ o u))
  (iN:∀b ps,H b=some (.Ir ps)->∃more,H' b=some (.Ir (ps++more))):yI X.prog X.w X.outer X.H₀ H' X.s₀.heap Oy B x ox:=by
 have nX:∀b o,X.s₀.heap.get? b=some o->b≠x:=λb o e z=>by rw[z,To]at e;cases e
 have iB:∀b:Addr,b∉X.ex:=λb z=>by rw[hex]at z;cases z
 have nS:∀b o,X.s₀.heap.get? b=some o->b∉jg X.outer->b∉jg X.stack:=λb o e hb z=>
  (aam.mp (I.nj b z)).elim (λq=>aaH (aau (aan e) I.ok.above) q) hb
 refine⟨⟨λb o e n hb _=>?_,λb o e n hb _=>?_,λb o e n _=>?_,λb o e _=>?_,λb xs e=>jj b xs (I.base.jj b xs e),λb o u e=>iA b o u (I.base.iA b o u e),λb ps e=>?_⟩,ok,f,λb o e n hb=>?_,λb o e hb=>?_⟩
 ·exact f.1 b o (Kf b o (nX b o e) (I.base.keep b o e n hb (iB b)) (I.base.free b o e n (iB b)) (nS b o e hb))
 ·have⟨s1,e1⟩:=I.base.slot b o e n hb (iB b);have⟨s2,e2⟩:=sl b _ e1 (tD b hb);exact⟨s2,e2⟩
 ·have⟨o',e1⟩:=I.base.there b o e (iB b);exact free b o' e1 (I.base.free b o e n (iB b))
 ·have⟨o',e1⟩:=I.base.there b o e (iB b);by_cases hb:b∈jg X.stack
  ·have⟨s2,e2⟩:=sl b _ e1 hb;exact⟨_,e2⟩
  ·have⟨o2,q⟩:=IA b o' (nX b o e) e1 hb;exact⟨o2,f.1 _ _ q⟩
 ·have⟨m1,e1⟩:=I.base.iN b ps e;have⟨m2,e2⟩:=iN b _ e1;exact⟨m1++m2,by rw[e2,Array.append_assoc]⟩
 ·exact Kf b o (nX b o e) (I.base.keep b o e n hb (iB b)) (I.base.free b o e n (iB b)) (nS b o e hb)
 ·have⟨o',e1⟩:=I.base.there b o e (iB b);exact IA b o' (nX b o e) e1 (nS b o e hb)
end
def cP(CX:yH)(X:Cx)(R:St->XK):Prop:=∀(δ:List (Addr×Obj)) (σ:St) (H:Hp) (s:Shared) (e:Value) (s':Shared),Inv X δ σ H s->CX X.stack H s (R σ) e s'->X.xe e s'
def rq(X:Cx)(R:St->XK):Prop:=∀(δ:List (Addr×Obj)) (σ:St) (H:Hp) (s:Shared) (x:Addr) (o:Obj) (vs:Array Value),Inv X δ σ H s->s.heap.get? x=some {o with data:=.fields vs}->vs[1]? =some .none->vs[2]? =some .none->X.s₀.heap.get? x=none->H x=none->
 R σ o.cls o.dict H->X.xe (.ref x) s
section
variable{K:gV}{cd:Value}{s₀:Shared}{H₀:Hp}{E:XK}
def o4:∀b∈jg outer,b∈jg (env::outer):=λb hb=>by have⟨en,he,hf⟩:=aa6.mp hb;exact aa6.mpr ⟨en,aag _ he,hf⟩
def Θ:cP (bP P w) (gf (bP P w) P w K mg base N qual scope f cd A outer s₀ H₀ E) (λ_=>E):=by
 intro δ σ H s e s' I hx;have⟨x,o,H',B,rfl,os,bare,F,hE⟩:=hx;show wpAny _ _ (do noteFrame (.ref x) _;setFlight (.ref x) none) _ _ s';refine aab (G8 (B:=B) I.ok.frames rfl F.wb λh4 f4 u4=>lI f4 λh5 f5 u5=>?_);refine⟨x,o,H',B,rfl,os.trans I.os,bare,yI.leave I rfl o4 F.ok (Am f5) ?_ (λb o _=>F.Kf b o) (λb o _=>F.IA b o) (λb o q hb=>?_) (λb o q n=>F.un.free b o q n (by simp)) F.un.jj F.un.iA F.un.iN,hE⟩
 ·show s₀.heap.get? x=none;cases q:s₀.heap.get? x with
  | none=>rfl
  | some u=>
   have⟨u',e1⟩:=I.base.there x u q nofun;by_cases hb:x∈jg (gf (bP P w) P w K mg base N qual scope f cd A outer s₀ H₀ E).stack
   ·have⟨vs,_,_,_,PB,_⟩:=F.wb.2.2.2;have⟨_,o',j0,hd⟩:=F.wb.2.2.1.mem hb;rw[PB]at j0;cases j0;exact aaG rfl (hd _)
   ·have⟨u2,e2⟩:=F.IA x u' e1 hb;rw[F.wb.2.1]at e2;cases e2
 ·have⟨sl,e1⟩:=F.un.slot b o q (I.jq b hb) hb (by simp);have⟨_,o',j0,hd⟩:=F.wb.2.2.1.mem hb;rw[e1]at j0;cases j0;have⟨OO,e2⟩:=(u4.trans u5) b _ e1 hd;exact⟨OO,e2⟩
def bf:rq (gf (bP P w) P w K mg base N qual scope f cd A outer s₀ H₀ E) (λ_=>E):=by
 intro δ σ H s x o vs I hx h1 h2 To nH hE;show wpAny _ _ (do noteFrame (.ref x) _;setFlight (.ref x) none) _ _ s
 have Rz:∀env∈(gf (bP P w) P w K mg base N qual scope f cd A outer s₀ H₀ E).stack,∀b,env.frame=some b->b∈x::jg (gf (bP P w) P w K mg base N qual scope f cd A outer s₀ H₀ E).stack:=
  λenv he b hb=>aag _ (aa6.mpr ⟨env,he,hb⟩)
 refine aab (iL (B:=PySem.W.hideAll s.heap (x::jg (gf (bP P w) P w K mg base N qual scope f cd A outer s₀ H₀ E).stack)) I.ok.frames rfl (λb o q=>PySem.W.of_hideAll _ q) (PySem.W.hideAll_none _ aaf)
  (PySem.W.funFrames_hide I.stack Rz) hx h1 h2 λh4 f4 u4=>lI f4 λh5 f5 u5=>?_)
 have UT:∀b u,b≠x->s.heap.get? b=some u->b∉jg (gf (bP P w) P w K mg base N qual scope f cd A outer s₀ H₀ E).stack->(PySem.W.hideAll s.heap (x::jg (gf (bP P w) P w K mg base N qual scope f cd A outer s₀ H₀ E).stack)).get? b=some u:=
  λb u nb q hb=>PySem.W.hideAll_get _ q λz=>(aam.mp z).elim nb hb
 refine⟨x,o,H,_,rfl,I.os,I.bare,yI.leave I rfl o4 (λa o e=>(I.av a o e).oq (λb v hb q=>?_) (λ_ q=>q) λ_ _ q=>q) (Am f5) To
  (λb o nb q _ hb=>UT b o nb q hb) (λb o nb q hb=>⟨o,UT b o nb q hb⟩) (λb o q hb=>?_) (λ_ _ _ n=>n) (λ_ _ q=>q) (λ_ _ _ q=>q) (λb ps q=>⟨#[],by rw[q];simp⟩),hE⟩
 ·have tr:H b≠none:=λn=>by
   rcases hb with hb| hb
   ·rw[hb,e]at n;cases n
   ·rw[hb]at n;cases n
  exact UT b v (λz=>tr (by rw[z];exact nH)) q λz=>tr (I.jq b z)
 ·have⟨_,o',j0,hd⟩:=I.stack.mem hb;rw[q]at j0;cases j0;exact(u4.trans u5) b o q hd
end
def NC(sp:Sp)(rD:List V)(R:St->XK)(t:TA):TE:=λσ H Q=>t σ H λvs H1=>sp (vs++rD) H1 Q (R σ)
section
variable{CX:yH}{k:Nat}{sp:Sp}{rD:List V}{ds:List Value}{x:Str}{p:Pos}{e:Expr}{t:TA}
def Bw{H:Hp}{Q:VK}{us:List Value}{vs:List V}(F:ay X.prog X.w X.K X.mg X.base CX k f fd ps sp)(hr:bp k X.A)(hb:fT X.K fd ps ds)(hd:Ψ rD ds)(hx:cP CX X R)
  (I:Inv X δ σ H s) (r:Ψ vs us) (h:sp (vs++rD) H Q (R σ)):wpAny (model X.prog X.w) X.A (call (.ref f) us) (EP X δ σ Q) X.xe s:=by
 have r2:Ψ (vs++rD) (us++ds):=r.append hd;have hl:(us++ds).length=ps.length:=by rw[<-r2.length];exact F.len _ _ _ _ h
 refine wpAny_call (codeAny_mono (F.run X.A X.stack s H ⟨us,[]⟩ (us++ds) (vs++rD) Q (R σ) hr I.MA (hb s us I.gp hl) r2 h) λr s' hq=>?_);cases r with
 | error e=>exact hx δ σ H s e s' I hq
 | ok fl=>
  cases fl with
  | ret u=>exact I.after hq
  | next=>exact False.elim hq
  | brk=>exact False.elim hq
  | cont=>exact False.elim hq
def GQ(F:ay X.prog X.w X.K X.mg X.base CX k f fd ps sp)(hr:bp k X.A)(hg:Gl X x)(hm:X.mg x=some (.ref f))(hk:PySem.W.keepIn X.K (.ref f)=true)(hb:fT X.K fd ps ds)(hd:Ψ rD ds)(hx:cP CX X R)
  (ha:PA X (e::es) t) (ku:(x==("__debug__":Str))=false:=by decide) (he:starEach (e::es) X.env=(false,eval e X.env)::starEach es X.env:=by rfl) (eB:(backTo pos (starEach es X.env)).any (·.1)=false:=by rfl):
  PE X (.Call (.Name x p) (e::es) [] pos) (NC sp rD R t):=by
 intro δ s σ H Q I h;refine wpAny_Call_Name_kw (h8 I hg hm ?_ ku);refine PySem.W.callWith_K (h₀:=X.base) I.ok.mod.Sw hk (aT (ha pos δ s σ H _ I h) fun us s1 ⟨vs,H1,I1,r,q⟩=>⟨I1.gp,?_⟩) he eB;exact Bw F hr hb hd hx I1 r q
end
structure cR(K:gV)(C:Addr)(gk:List Value)(newId:String):Prop where
 ok:PySem.W.excIn K C gk newId=true
def Bf{K:gV}{N:Addr}{h0:Heap}{m:Str->Option Value}(q:PySem.W.nsOkIn K N=true)(X0:K.In h0)(X:K.In h)(n:h0.Ns N m):h.Ns N m:=by
 have⟨o,es,ep,e,r⟩:=n;cases z:K.lookup N with
 | none=>unfold PySem.W.nsOkIn at q;rw[z]at q;cases q
 | some ob=>
  have e0:=X0 _ _ z;rw[e]at e0;cases e0;exact⟨o,es,ep,X _ _ z,r⟩
def cR.obj{K:gV}{newId:String}{h0:Heap}(c:cR K C gk newId)(X0:K.In h0):
  ∃bm N nm q bs hdct sn sub ab col dd k0 k1 k2 k3 k5 mN,mN ("__init__":Str)=none/\
   ∀h:Heap,K.In h->h.get? C=some (excClassObj nm q C N bs bm hdct sn sub ab col dd k0 k1 k2 k3 k5 newId)/\h.Ns N mN/\OwnTail h gk bm:=by
 have q:=c.ok;unfold PySem.W.excIn at q;split at q
 ·rename_i dd cd sl ho;split at q
  ·rename_i C' bm k0 k1 k2 k3 n k5 hm hs;rw[aaz,aaz,aaz,aaz,aaz]at q;have⟨⟨⟨⟨⟨q1,q2⟩,q3⟩,q4⟩,q5⟩,q6⟩:=q;cases aa8.mp q1;cases aa8.mp q2;have q3:cd.hasDel=false:=by simpa using q3
   have Mv:sl= #[k0,k1,k2,k3,some (.builtin newId),k5]:=by cases sl with| mk l=>exact aaN Array.mk hs
   have⟨c1,c2,c3,c4,c5,c6,c7,c8,c9,As,zF⟩:=cd;cases(show c3=_ from hm);cases(show zF=_ from q3);subst Mv;refine⟨bm,c4,c1,c5,c2,c6,c7,c8,c9,As,dd,k0,k1,k2,k3,k5,h0.nsMap c4,PySem.W.nsMap_none_of_in X0 q5 (aa8.mp q6),λh X=>⟨X _ _ ho,?_,PySem.W.tail_of_in X q4⟩⟩;exact Bf q5 X0 X (.of_isNs (PySem.W.isNs_of_in X0 q5))
  ·cases q
 ·cases q
def OT(C:Addr)(R:St->XK)(t:TA):TS:=λ_ σ H=>t σ H λvs H1=>vs.length<=sizeLine/\R σ (.ref C) none H1
section
variable{t:TA}{Bn newId aP:String}{x:Str}{np af:Pos}{e:Expr}
def Ha(hR:rq X R)(hc:X.calm=true)(hex:X.ex=[])(F:ExcBaseFacts Bn newId aP gk)(c:cR X.K C gk newId)(hg:Gl X x)(hm:X.mg x=some (.ref C))(ha:PA X (e::es) t)
  (ku:(x==("__debug__":Str))=false:=by decide) (he:starEach (e::es) X.env=(false,eval e X.env)::starEach es X.env:=by rfl) (eB:(backTo af (starEach es X.env)).any (·.1)=false:=by rfl):
  PS X (.Raise (some (.Call (.Name x np) (e::es) [] af)) none pos) (OT C R t):=by
 intro δ s σ H D I h;have⟨bm,N,nm,q,bs,hdct,sn,sub,ab,col,dd,k0,k1,k2,k3,k5,mN,FN,Lv⟩:=c.obj I.gp;refine wpAny_Raise_call_subT (nm:=nm) (q:=q) (C:=C) (N:=N) (bs:=bs) (bm:=bm) (hdct:=hdct) (sn:=sn) (sub:=sub) (ab:=ab) (col:=col) (dd:=dd) (k0:=k0) (k1:=k1) (k2:=k2) (k3:=k3) (k5:=k5) F ((Lv _ I.gp).2.2.hasType F.hasBase) (I.ok.hd hc) (by rw[he];show(false|| (backTo af (starEach es X.env)).any (·.1))=false;rw[eB];rfl) FN (h8 I hg hm ⟨rfl,?_⟩ ku);have h2:=ha af δ s σ H _ I h;rw[he]at h2⊢;refine Calls.evalArgs_plain (aaW h2 (λus s2 z=>?_) λ_ _ y=>y);have⟨vs,H1,I1,r,hz,hq⟩:=z;have⟨g1,g2,g3⟩:=Lv _ I1.gp;refine⟨rfl,by rw[<-r.length];exact hz,g1,g2,g3,λh' x M=>?_⟩;have⟨t,hx,_,_⟩:=M.there;refine hR δ σ H1 {s2 with heap:=h'} x {cls:=.ref C,data:=.fields #[]} _ (I1.kept (t':=s2.toks) M.keeps) hx rfl rfl ?_ ?_ hq
 ·cases q:X.s₀.heap.get? x with
  | none=>rfl
  | some u=>
   have⟨u',e1⟩:=I1.base.there x u q (by rw[hex];simp);rw[M.new]at e1;cases e1
 ·cases q:H1 x with
  | none=>rfl
  | some u=>
   have⟨ob,e1⟩:=aA.here (I1.av x u q);rw[M.new]at e1;cases e1
end
def Cx.ND(X:Cx)(R:St->XK)(δ:List (Addr×Obj)):Cx:={X with
 pn:=X.pn++δ
 xe:=λe s'=>∃nV σ H s,Inv {X with pn:=X.pn++δ} nV σ H s/\bP X.prog X.w X.stack H s (R σ) e s'}
def Cx.bB(X:Cx)(x:Addr)(pn:List (Addr×Obj)):Cx:={X with
 A:=X.A.mark (some (.ref x))
 calm:=false
 pn:=pn
 xe:=λ_ _=>False}
def Cx.Ok.W7(ok:X.Ok)(pn:List (Addr×Obj))(E:Value->Shared->Prop):({X with pn:=pn,xe:=E}:Cx).Ok:=
 ⟨ok.mod,ok.kind,ok.glob,ok.blt,ok.above,ok.inj,ok.has,ok.J_,ok.hd,ok.frames,ok.Ls,ok.Iv,ok.bs,ok.Dk,ok.rG,ok.rE,ok.i9,ok.FP⟩
def Cx.Ok.LO(ok:({X with pn:=pn,xe:=E}:Cx).Ok):X.Ok:=
 ⟨ok.mod,ok.kind,ok.glob,ok.blt,ok.above,ok.inj,ok.has,ok.J_,ok.hd,ok.frames,ok.Ls,ok.Iv,ok.bs,ok.Dk,ok.rG,ok.rE,ok.i9,ok.FP⟩
def Cx.Ok.bB(ok:X.Ok)(x:Addr)(pn:List (Addr×Obj)):(Cx.bB X x pn).Ok:=
 ⟨ok.mod,ok.kind,ok.glob,ok.blt,ok.above,ok.inj,ok.has,ok.J_,nofun,ok.frames,ok.Ls,ok.Iv,ok.bs,ok.Dk,ok.rG,ok.rE,ok.i9,ok.FP⟩
def Cx.Ok.J1(ok:(Cx.bB X x pn).Ok)(hd:X.calm=true->X.A.handled=none):X.Ok:=
 ⟨ok.mod,ok.kind,ok.glob,ok.blt,ok.above,ok.inj,ok.has,ok.J_,hd,ok.frames,ok.Ls,ok.Iv,ok.bs,ok.Dk,ok.rG,ok.rE,ok.i9,ok.FP⟩
section
variable{H:Hp}
def Inv.Vv(I:Inv X δ σ H s)(E:Value->Shared->Prop):Inv {X with pn:=X.pn++δ,xe:=E} [] σ H s:=
 ⟨I.ok.W7 _ _,I.os,I.bare,I.base,I.loc,I.cell,I.free,I.cX,λp hp=>I.pin p (by rwa[aaO]at hp),I.av,I.len⟩
def Inv.kF(I:Inv {X with pn:=X.pn++δ,xe:=E} p' σ H s):Inv X δ σ H s:=
 ⟨Cx.Ok.LO I.ok,I.os,I.bare,I.base,I.loc,I.cell,I.free,I.cX,λp hp=>I.pin p (aa1 _ hp),I.av,I.len⟩
def SP.kF{D:oy}{f:Flow}{s':Shared}(h:SP {X with pn:=X.pn++δ,xe:=E} p' D f s'):SP X δ D f s':=by
 cases f with
 | next=>have⟨a,b,I,q⟩:=h;exact⟨a,b,Inv.kF I,q⟩
 | brk=>have⟨a,b,I,q⟩:=h;exact⟨a,b,Inv.kF I,q⟩
 | cont=>have⟨a,b,I,q⟩:=h;exact⟨a,b,Inv.kF I,q⟩
 | ret u=>have⟨v,a,b,I,r,q⟩:=h;exact⟨v,a,b,Inv.kF I,r,q⟩
def Inv.Nb(I:Inv X δ σ H s)(x:Addr){oe:Obj}(hx:s.heap.get? x=some oe)(hn:H x=none)(hL:x≠X.env.locals)(hf:x∉X.fs)(hd:∀v,oe.data≠ .cell v):Inv (Cx.bB X x (X.pn++δ++[(x,oe)])) [] σ H s:=
 ⟨I.ok.bB _ _,I.os,I.bare,I.base,I.loc,I.cell,I.free,I.cX,λp hp=>by
  rw[aaO]at hp;rcases aaj.mp hp with z| z
  ·exact I.pin p z
  ·have e:p=(x,oe):=by simpa using z
   subst e
   exact⟨hx,hn,hL,hf,hd⟩,I.av,I.len⟩
def Inv.NM(I:Inv X δ σ H s)(x:Addr):Inv (Cx.bB X x (X.pn++δ)) [] σ H s:=
 ⟨I.ok.bB _ _,I.os,I.bare,I.base,I.loc,I.cell,I.free,I.cX,λp hp=>I.pin p (by rwa[aaO]at hp),I.av,I.len⟩
def Inv.mf{more:List (Addr×Obj)}(I:Inv (Cx.bB X x (X.pn++δ++more)) p' σ H s)(hd:X.calm=true->X.A.handled=none):Inv X δ σ H s:=
 ⟨Cx.Ok.J1 I.ok hd,I.os,I.bare,I.base,I.loc,I.cell,I.free,I.cX,λp hp=>I.pin p (aa1 _ (aa1 _ hp)),I.av,I.len⟩
def yI.back{s':Shared}(I:Inv X δ σ H s)(os:s'.os=s.os)(bare:AllBare s'.gens)(F:yI X.prog X.w X.stack H H' s.heap s'.heap B x o):Inv X δ σ H' s':=
 I.BP os F.un F.av bare (λb z=>absurd z (by simp))
end
section
variable{K:gV}
def yg{D:Addr}{fk:String}{oe:Obj}{Q:Bool->Shared->Prop}(X:K.In s.heap)(d:cR K D l_ fk)(hb:l_.contains (.type "BaseException")=true)
  (hu:PySem.W.subIn K (.ref C) (.ref D)=some true) (hx:s.heap.get? x=some oe) (hc:oe.cls= .ref C) (h:Q true s):wpAny M A (excMatches (.ref x) (.ref D)) Q E s:=by
 have⟨hp,g,dr,t,os⟩:=s;have⟨ZX,N',nm',q',bs',Wi,sn',XU,ab',Y7,IQ,k0',k1',k2',k3',k5',mN',XN,QL⟩:=d.obj X;have hD:=(QL _ X).1;have Oa:(Value.ref D::ZX).contains (.type "BaseException")=true:=by rw[List.contains_cons,(QL _ X).2.2.hasType hb,Bool.or_true]
 have UM:=PySem.W.looks_subIn (M:=M) X hu;have f:=tc_notTuple;unfold excMatches
 repeat (first| (with_reducible refine wpAny_loadPart_at hx ?_;rw[hc])| with_reducible refine wpAny_loadPart_at hD ?_| (with_reducible refine wpAny_isSubtype_exc hD ?_;rw[Oa])| with_reducible refine UM.at ?_| wp_step)
 exact h
end
section
variable{H H1:Hp}{s0:Shared}{h0:Heap}
def EB(I:Inv X δ σ H' s)(tD:X.stack=X.env::X.outer)(hf:X.env.frame=some X.env.locals)(F:yI X.prog X.w X.stack H1 H' h0 s.heap B x o):∃vs:Array Value,vs[2]? =some .none/\Inv (Cx.bB X x (X.pn++δ++[(x,{o with data:=.fields vs})])) [] σ H' s:=by
 have⟨vs,_,_,_,hx,V0,_⟩:=F.wb.2.2.2;have P_:∀b∈jg X.stack,x≠b:=λb hb z=>by subst z;have⟨_,o',j0,hd⟩:=F.wb.2.2.1.mem hb;rw[hx]at j0;cases j0;exact hd _ rfl
 refine⟨vs,V0,Inv.Nb I x hx F.nx (P_ _ (by rw[tD];exact aa6.mpr ⟨X.env,aaf,hf⟩)) (λz=>P_ x (by rw[tD];exact o4 x z) rfl) (λv q=>by cases q)⟩
end
def Ji:cP (bP X.prog X.w) (Cx.ND X R δ) R:=by intro nV σ H s e s' I hx;exact⟨nV,σ,H,s,⟨Cx.Ok.W7 (Cx.Ok.LO I.ok) _ _,I.os,I.bare,I.base,I.loc,I.cell,I.free,I.cX,I.pin,I.av,I.len⟩,hx⟩
def iD(env:Env):List (Str×NameKind)->List (Str×Addr)->List (Str×Addr)
 | [],Κ=>Κ
 | p::r,Κ=>iD env r (if p.2== .free then (p.1,(env.cells.lookup p.1).getD 0)::Κ else Κ)
def hU(h:∀p∈scope.names,p.2= .free->(env.cells.lookup p.1).isSome=true):closureFor scope env=pure (iD env scope.names []):=by
 have key:∀(l:List (Str×NameKind)) (Κ:List (Str×Addr)),(∀p∈l,p.2= .free->(env.cells.lookup p.1).isSome=true)->
   (forIn l Κ (λ(p:Str×NameKind) (r:List (Str×Addr))=>(if p.2== .free then (do let c<-cellOf env p.1;pure (ForInStep.yield ((p.1,c)::r))) else pure (ForInStep.yield r):Sem (ForInStep (List (Str×Addr))))))=(pure (iD env l Κ):Sem (List (Str×Addr))):=by
  intro l
  induction l with
  | nil=>intro Κ _;rfl
  | cons p r ih=>
   intro Κ hp;rw[List.forIn_cons];have Wa:=λa=>ih a λq hq=>hp q (aag _ hq);have⟨n,k⟩:=p;by_cases hk:k= .free
   ·subst hk;have hs:=hp (n,.free) aaf rfl;cases hl:env.cells.lookup n with
    | none=>rw[show env.cells.lookup (n,NameKind.free).1=none from hl]at hs;cases hs
    | some c=>
     have e1:iD env ((n,.free)::r) Κ=iD env r ((n,c)::Κ):=by show iD env r (if (NameKind.free==NameKind.free)=true then (n,(env.cells.lookup n).getD 0)::Κ else Κ)=_;rw[aaB @_,hl];rfl
     have e2:cellOf env n=pure c:=by unfold cellOf;rw[hl]
     rw[e1];have e3:(NameKind.free==NameKind.free)=true:=@_
     simp only[e3,if_true,e2,pure_bind];exact Wa _
   ·have hb:(k==NameKind.free)=false:=by simpa using hk
    have e1:iD env ((n,k)::r) Κ=iD env r Κ:=by show iD env r (if (k==NameKind.free)=true then (n,(env.cells.lookup n).getD 0)::Κ else Κ)=_;rw[hb,aay @_]
    rw[e1];simp only[hb,Bool.false_eq_true,if_false,pure_bind];exact Wa _
 have:=key scope.names [] h;unfold closureFor
 first
  | exact this
  | (simp only[bind_pure];exact this)
  | (rw[bind_pure];exact this)
def ng{env:Env}{y:Str}{c:Addr}:∀(l:List (Str×NameKind)) (Κ:List (Str×Addr)),(∀p∈l,p.2= .free->(env.cells.lookup p.1).isSome=true)->
  (Κ.lookup y=some c->env.cells.lookup y=some c)->(iD env l Κ).lookup y=some c->env.cells.lookup y=some c
 | [],Κ,_,ha,h=>ha h
 | (n,k)::r,Κ,hp,ha,h=>by
  refine ng r _ (λq hq=>hp q (aag _ hq)) (λe=>?_) h;split at e
  ·rename_i hk;rw[abh]at e;cases q:(y==n) with
   | true=>
    rw[q]at e;have e':(env.cells.lookup n).getD 0=c:=aaw e;have hn:y=n:=by simpa using q
    subst hn;have hs:=hp (y,k) List.mem_cons_self (by simpa using hk);cases z:env.cells.lookup y with
    | none=>rw[show env.cells.lookup (y,k).1=none from z]at hs;cases hs
    | some d=>rw[z]at e';rw[<-e'];rfl
   | false=>rw[q]at e;exact ha e
  ·exact ha e
def i_{env:Env}{y:Str}:∀(l:List (Str×NameKind)) (Κ:List (Str×Addr)),((y,NameKind.free)∈l\/(Κ.lookup y).isSome=true)->((iD env l Κ).lookup y).isSome=true
 | [],Κ,h=>by
  rcases h with h| h
  ·cases h
  ·exact h
 | (n,k)::r,Κ,h=>by
  refine i_ r _ ?_;by_cases hy:y=n
  ·subst hy;by_cases hk:k= .free
   ·subst hk;right;show(List.lookup y (if (NameKind.free==NameKind.free)=true then (y,(env.cells.lookup y).getD 0)::Κ else Κ)).isSome=true;rw[aaB @_,abh,abE];rfl
   ·rcases h with h| h
    ·rcases aam.mp h with z| z
     ·exact aaG (Prod.mk.inj z).2.symm hk
     ·exact .inl z
    ·right;rw[if_neg (by simpa using hk)];exact h
  ·rcases h with h| h
   ·rcases aam.mp h with z| z
    ·exact aaG (Prod.mk.inj z).1 hy
    ·exact .inl z
   ·right;split
    ·rw[List.lookup_cons,show(y==n)=false by simpa using hy];exact h
    ·exact h
def Cx.comp(X:Cx)(Nc:List Str)(scope:Scope)(C:Addr)(s:Shared)(H:Hp)(fp:List Addr):Cx:={X with
 N:=Nc
 s₀:=s
 H₀:=H
 env:=compEnvC scope (iD X.env scope.names []) C X.env
 outer:=X.stack
 ex:=fp
 fn:=λ_=>false
 pn:=[]
 xe:=λ_ _=>False}
def Δ.of{P:List Str}{sc:Scope}(h:(sc.kind,sc.isCoroutine,sc.isGenerator)=(.function,false,false))(h2:N.Nodup/\N.take P.length=P/\(∀x∈P,sc.names.lookup x=some .local\/sc.names.lookup x=some .cell)/\(∀y∈sc.names,y.2≠ .free):=by decide+kernel):Δ N P sc:=by have⟨a,b,c,d⟩:=h2;exact⟨aaN (·.1) h,aaN (·.2.1) h,aaN (·.2.2) h,a,b,c,d⟩
structure Ξ(X:Cx)(scope:Scope)(xs ys:List Str)(Γ:List Nat):Prop where
 kind:scope.kind= .function
 uV:∀p∈scope.names,p.2≠ .cell
 names:∀p∈scope.names,p.2= .local->scope.names.lookup p.1=some .local
 own:∀x∈xs,scope.names.lookup x=some .local
 free:∀p∈scope.names,p.2= .free->X.env.scope.names.lookup p.1=some .cell
 nd:(xs++ys).Nodup
 W5:∀q∈ys.zip Γ,X.N[q.2]? =some q.1/\X.env.scope.names.lookup q.1=some .cell/\scope.names.lookup q.1=some .free
 len:ys.length=Γ.length
def Ξ.of{sc:Scope}(_:Δ N ps sc)(hN:X.N=N)(hs:X.env.scope=sc)(k:scope.kind= .function)(h:(∀p∈scope.names,p.2≠ .cell)/\(∀p∈scope.names,p.2= .local->scope.names.lookup p.1=some .local)/\(∀x∈xs,scope.names.lookup x=some .local)/\(∀p∈scope.names,p.2= .free->sc.names.lookup p.1=some .cell)/\(xs++ys).Nodup/\(∀q∈ys.zip Γ,N[q.2]? =some q.1/\sc.names.lookup q.1=some .cell/\scope.names.lookup q.1=some .free)/\ys.length=Γ.length:=by decide+kernel):Ξ X scope xs ys Γ:=by subst hN hs;have⟨a,b,c,d,e,f,g⟩:=h;exact⟨k,a,b,c,d,e,f,g⟩
def zQ{env:Env}{y:Str}:∀{l:List (Str×NameKind)},(∀p∈l,p.2≠ .cell)->
  ((l.map λ(n,k)=>if (k==NameKind.free&&env.scope.kind== .function&&env.kindOf n==some .cell) then (n,NameKind.cell) else (n,k)).lookup y=some .cell\/
   (l.map λ(n,k)=>if (k==NameKind.free&&env.scope.kind== .function&&env.kindOf n==some .cell) then (n,NameKind.cell) else (n,k)).lookup y=some .free)->(y,NameKind.free)∈l
 | [],_,h=>by rcases h with h| h <;> cases h
 | (n,k)::r,hc,h=>by
  have ih:=@zQ env y r (λp hp=>hc p (aag _ hp));rw[aaJ]at h;by_cases q:(k==NameKind.free&&env.scope.kind== .function&&env.kindOf n==some .cell)=true
  ·have hk:k= .free:=by rw[aaz,aaz]at q;simpa using q.1.1
   subst hk;by_cases hy:y=n
   ·subst hy;exact aaf
   ·refine aag _ (ih ?_);have hb:(y==n)=false:=by simpa using hy
    simp only[q,if_true,List.lookup_cons,hb]at h;exact h
  ·by_cases hy:y=n
   ·subst hy;have hb:(y==y)=true:=by simp
    simp only[q,Bool.false_eq_true,if_false,List.lookup_cons,hb]at h;rcases h with h| h
    ·exact aaG (aaw h) (hc (y,k) aaf)
    ·rw[<-aaw h];exact aaf
   ·refine aag _ (ih ?_);have hb:(y==n)=false:=by simpa using hy
    simp only[q,Bool.false_eq_true,if_false,List.lookup_cons,hb]at h;exact h
def qv{env:Env}{y:Str}(hk:env.scope.kind= .function)(hy:env.kindOf y=some .cell):∀{l:List (Str×NameKind)},l.lookup y=some .free->
  (l.map λ(n,k)=>if (k==NameKind.free&&env.scope.kind== .function&&env.kindOf n==some .cell) then (n,NameKind.cell) else (n,k)).lookup y=some .cell
 | [],h=>by cases h
 | (n,k)::r,h=>by
  have ih:=@qv env y hk hy r;rw[aaJ];rw[abh]at h;by_cases e:y=n
  ·subst e;have hb:(y==y)=true:=by simp
   rw[hb]at h;have:k= .free:=aaw h;subst this;have q:(NameKind.free==NameKind.free&&env.scope.kind== .function&&env.kindOf y==some .cell)=true:=by rw[hk,hy];rfl
   simp only[q,if_true,List.lookup_cons,hb]
  ·have hb:(y==n)=false:=by simpa using e
   rw[hb]at h;by_cases q:(k==NameKind.free&&env.scope.kind== .function&&env.kindOf n==some .cell)=true
   ·simp only[q,if_true,List.lookup_cons,hb];exact ih h
   ·simp only[q,Bool.false_eq_true,if_false,List.lookup_cons,hb];exact ih h
def Ξ.has(S:Ξ X scope xs ys Γ)(ok:X.Ok):∀p∈scope.names,p.2= .free->(X.env.cells.lookup p.1).isSome=true:=λp hp hf=>by have⟨c,e⟩:=ok.has p.1 (.inl (S.free p hp hf));rw[e];rfl
def Av{α β:Type}:∀{xs:List α} {ys:List β} {j:Nat} {x:α} {y:β},xs[j]? =some x->ys[j]? =some y->(x,y)∈xs.zip ys
 | x::xs,y::ys,0,_,_,h1,h2=>by cases h1;cases h2;exact aaf
 | x::xs,y::ys,j+1,_,_,h1,h2=>aag _ (Av (xs:=xs) (ys:=ys) (j:=j) h1 h2)
 | [],_,_,_,_,h1,_=>by simp at h1
 | _::_,[],_,_,_,_,h2=>by simp at h2
def f_(Γ:List Nat)(σ:St):St:=Γ.map λi=>(σ[i]?).join
def n9(n:Nat)(gg:TG):Prop:=∀v (os cs:St) H (Q:St->Hp->Prop),os.length=n->gg v (os++cs) H Q->gg v (os++cs) H λσ' H'=>(∃Sq:St,Sq.length=n/\σ'=Sq++cs)/\Q σ' H'
def p7(J:It)(n:Nat)(gg:TG)(tc:TT)(te:TE)(cs:St)(Q:VK)(H1:Hp)(D:Addr):Prop:=
 ∃W:Nat->Nat->List V->Hp->Prop,(∃m,W 0 m [] (upd H1 D (.lst [])))/\∀i m ys H2,W i m ys H2->H2 D=some (.lst ys)/\
  ((J.stop i H2/\Q (.ref D) H2)\/(J.go i H2/\∀x H3,J.Rg i H2 x H3->∀os:St,os.length=n->gg x (os++cs) H3 λσ' Z2=>tc σ' Z2 λb H4=>match b with
   | true=>te σ' H4 λy H5=>H5 D=some (.lst ys)/\ys.length < sizeLine/\∃m',m' < m/\W (i+1) m' (ys++[y]) (upd H5 D (.lst (ys++[y])))
   | false=>∃m',m' < m/\W (i+1) m' ys H4))
def uQ(wi:TI)(n:Nat)(gg:TG)(tc:TT)(te:TE)(Γ:List Nat):TE:=λσ H Q=>wi σ H λJ H1=>∀D,H1 D=none->p7 J n gg tc te (f_ Γ σ) Q H1 D
def TB(cs:List Expr)(env:Env):Sem Bool:=match cs with
 | []=>pure true
 | c::_=>isTrue c env (eval c env)
def N6(X:Cx)(cs:List Expr)(t:TT):Prop:=
 (cs=[]\/∃c,cs=[c])/\∀(δ:List (Addr×Obj)) (s:Shared) (σ:St) (H:Hp) (Q:Bool->Hp->Prop),Inv X δ σ H s->t σ H Q->wpAny (model X.prog X.w) X.A (TB cs X.env) (TP X δ σ Q) X.xe s
def j9{elt target iter:Expr}{cs:List Expr}{scope:Scope}{pos:Pos}{it Κ:Value}{env:Env}(h:cs=[]\/∃c,cs=[c]):
  compTurn (.ListComp elt [⟨target,iter,cs,0⟩] scope pos) 0 it Κ env=(standAt iter.pos >>= λ_=>pyNext it >>= λr=>match r with
   | none=>pure (.done .next)
   | some v=>letOwnedTupleGo target it v >>= λ_=>assign target env v >>= λ_=>TB cs env >>= λok=>
    (if ok=true then (eval elt env >>= λx=>call (.builtin "list.append") [Κ,x] >>= λ_=>pure Unit.unit) >>= λ_=>again (.compLoop (.ListComp elt [⟨target,iter,cs,0⟩] scope pos) 0 it Κ env)
     else again (.compLoop (.ListComp elt [⟨target,iter,cs,0⟩] scope pos) 0 it Κ env))):=by
 rcases h with rfl| ⟨c,rfl⟩ <;> (unfold compTurn TB;dsimp only[List.getElem?_cons_zero,List.getElem?_cons_succ,List.getElem?_nil];simp only[List.forIn_cons,List.forIn_nil,bind_assoc,pure_bind,if_true];rfl)
section
variable{elt iter tg:Expr}{cs:List Expr}{wi:TI}{gg:TG}{tc:TT}{te:TE}
def sN(S:Ξ X scope xs ys Γ)(hc:X.calm=true)(hg:∀C s H fp,PG (Cx.comp X (xs++ys) scope C s H fp) tg gg)(hk:n9 xs.length gg)(ht:∀C s H fp,N6 (Cx.comp X (xs++ys) scope C s H fp) cs tc)(he:∀C s H fp,PE (Cx.comp X (xs++ys) scope C s H fp) elt te)
    {H2:Hp} {s2:Shared} {it:Addr} {fp:List Addr} {tn:Nat->Heap->Prop} {J:It} {Q:V->Hp->Prop} {PQ:Value->Addr->Result->Shared->Prop} (I:Inv X δ σ H2 s2) (T:v9 X.prog X.w X.K tg J fp it tn) (t0:tn 0 s2.heap) (f2:∀b∈fp,oa X δ H2 b)
  (h:∀D,H2 D=none->p7 J xs.length gg tc te (f_ Γ σ) Q H2 D)
  (Uz:∀D C s' H',Inv X δ σ H' s'->Q (.ref D) H'->(∃m,s'.heap.Ns C m)->H' C=none->X.s₀.heap.objs.size<=C->C≠X.env.locals->(∀z c,X.env.cells.lookup z=some c->c≠C)->(∀p∈X.pn++δ,p.1≠C)->PQ (.ref D) C (.ok .next) s'):
  wpAny (model X.prog X.w) X.A (newList []) (λΚ s3=>wpAny (model X.prog X.w) X.A (newFunctionEnv scope X.env.globals (iD X.env scope.names []) [] X.env.qual none .none (some X.env)) (λfH s4=>
   codeAny (model X.prog X.w) X.A (.compStart (.ListComp elt [⟨tg,iter,cs,0⟩] scope pos) 0 (.ref it) Κ {fH with scope:=relabel scope X.env}) (PQ Κ fH.locals) s4) X.xe s3) X.xe s2:=by
 have hD:H2 s2.heap.objs.size=none:=I.fresh;have⟨W,⟨m0,w0⟩,step⟩:=h _ hD;refine wpAny_newObj_type ?_;have I3:Inv X δ σ (upd H2 s2.heap.objs.size (.lst [])) {s2 with heap:=s2.heap.push {cls:=.type "list",data:=.seq ([]:List Value).toArray}}:=Inv.Dw (t':=s2.toks) I (ys:=[]) (its:=[]) .nil (aa2 _);generalize Uj:upd H2 s2.heap.objs.size (.lst [])=H3 at I3 w0;generalize Tu:({s2 with heap:=s2.heap.push {cls:=.type "list",data:=.seq ([]:List Value).toArray}}:Shared)=s3 at I3;have OJ:∀b∈fp,H3 b=none:=λb hb=>by have⟨o,e,_⟩:=T.obj _ _ t0 b hb;rw[<-Uj,ξ (aaH (aan e))];exact(f2 b hb).1
 have t3:tn 0 s3.heap:=T.keep _ _ _ t0 λb hb o e=>by rw[<-Tu];exact aad _ e
 refine wpAny_newFunctionEnv S.uV (λy hy=>nomatch hy) (λh4 UJ UK=>?_) S.kind;have hC:H3 s3.heap.objs.size=none:=I3.fresh
 have kp:∀b o,s3.heap.get? b=some o->h4.get? b=some o:=λb o e=>
  (UK.2 b (aaH (aan e))).trans (aad _ e)
 generalize N8:({s3 with heap:=h4,toks:=s3.toks+([]:List (Str×Value)).length}:Shared)=s4;have e4:s4.heap=h4:=by rw[<-N8]
 have BY:∀z c,X.env.cells.lookup z=some c->c≠s3.heap.objs.size:=λz c e q=>by have⟨v,w⟩:=I3.cell z c e;exact abj _ (q▸w.lt)
 have gC:∀z c,(iD X.env scope.names []).lookup z=some c->X.env.cells.lookup z=some c:=λz c e=>ng scope.names [] (S.has I.ok) nofun e;have Si:s3.heap.objs.size≠X.env.locals:=abH I3.lt;have ok:(Cx.comp X (xs++ys) scope s3.heap.objs.size s3 H3 fp).Ok:=by
  refine⟨I3.ok.mod,S.kind,I3.ok.glob,I3.ok.blt,aaq _,λz z' c e1 e2=>I3.ok.inj z z' c (gC z c e1) (gC z' c e2),λz hz=>?_,λz c hz=>(by cases hz),I3.ok.hd,I3.ok.frames,.inl rfl,λb hb=>⟨?_,λz c e=>?_⟩,I3.bs,?_,λb o e hb=>?_,λb hb hf=>?_,I3.stack,I3.jq⟩
  ·have:=i_ (env:=X.env) scope.names [] (.inl (zQ S.uV hz));exact abf.mp this
  ·have⟨o,e,_⟩:=T.obj _ _ t3 b hb;exact aaH (aan e)
  ·exact(f2 b hb).2.2.2.2.1 z c (gC z c e)
  ·exact aaD I3.ok.Dk I3.sz
  ·have⟨_,_,_,hy,_⟩:=f2 b hb;have e0:=(I3.ok.bs b o e).1;rcases hy with hy| hy
   ·exact I3.ok.rG b o e hy
   ·exact aaG (aau (aan e0) hy) (abj _)
  ·have⟨_,hl,Tv,_⟩:=f2 b hb;exact(aam.mp (I3.nj b hf)).elim hl Tv
 have hlen:((List.replicate xs.length (none:Option V))++f_ Γ σ).length=(xs++ys).length:=by rw[aae,aae,aak,S.len];unfold f_;rw[aac]
 have I4:Inv X δ σ H3 s4:=by rw[<-N8];exact I3.kept kp
 have Ic:Inv (Cx.comp X (xs++ys) scope s3.heap.objs.size s3 H3 fp) [] ((List.replicate xs.length (none:Option V))++f_ Γ σ) H3 s4:=by
  refine⟨ok,by rw[<-N8];rfl,I4.bare,Un.kept (by rw[e4];exact kp),⟨_,by rw[e4];exact UJ,λi z v e1 e2 e3=>?_⟩,λz c e=>I4.cell z c (gC z c e),hC,λz c e=>I4.cX z c (gC z c e),(λp hp=>nomatch hp),I4.av,hlen⟩;have e1:(xs++ys)[i]? =some z:=e1;by_cases hi:i < xs.length
  ·rw[aav (by rw[aak];exact hi),abp,aaB hi]at e2;cases e2
  ·obtain⟨j,rfl⟩:∃j,i=xs.length+j:=⟨i - xs.length,()⟩;have e1:ys[j]? =some z:=by rw[aaE (),aba]at e1;exact e1
   have e2:(f_ Γ σ)[j]? =some (some v):=by rw[aaE (by rw[aak];omega),aak,aba]at e2;exact e2
   unfold f_ at e2;rw[aaM]at e2;cases hi:Γ[j]? with
   | none=>rw[hi]at e2;cases e2
   | some i=>
    rw[hi]at e2;have e2:(σ[i]?).join=some v:=aaw e2;have e2:σ[i]? =some (some v):=by
     cases q:σ[i]? with
     | none=>rw[q]at e2;cases e2
     | some o=>rw[q]at e2;exact aaN some e2
    have⟨c1,c2,c3⟩:=S.W5 (z,i) (Av e1 hi);have c4:=qv (env:=X.env) I.ok.kind c2 c3;have c3:(z,NameKind.free)∈scope.names:=PySem.mem_of_lookup c3;have⟨m,hn,hl⟩:=I4.loc;have⟨u,r,lk⟩:=hl i z v c1 e2 (.inr (.inl c2));refine⟨u,r,.inr ⟨.inl c4,?_⟩⟩;rcases lk with ⟨k,_⟩| ⟨_,c,IG,z'⟩
    ·exact aaG ((show X.env.scope.names.lookup z=some .local from k).symm.trans c2) @_
    ·have⟨d,hd⟩:=abf.mp (i_ (env:=X.env) scope.names [] (.inl c3));have:=gC z d hd;rw[IG]at this;cases this;exact⟨c,hd,z'⟩
 have loop:codeAny (model X.prog X.w) X.A (.compLoop (.ListComp elt [⟨tg,iter,cs,0⟩] scope pos) 0 (.ref it) (.ref s2.heap.objs.size) (compEnvC scope (iD X.env scope.names []) s3.heap.objs.size X.env)) (PQ (.ref s2.heap.objs.size) s3.heap.objs.size) s4:=by
  have MJ:∀{H':Hp},(∀b∈fp,H' b=none)->∀b∈fp,oa (Cx.comp X (xs++ys) scope s3.heap.objs.size s3 H3 fp) [] H' b:=λhn b hb=>
   ⟨hn b hb,(ok.Iv b hb).1,ok.rE b hb,.inl hb,(ok.Iv b hb).2,(λp hp=>nomatch hp)⟩
  refine codeAny_loop rfl (λn s'=>∃(i:Nat) (zs:List V) (os:St) (H':Hp),os.length=xs.length/\Inv (Cx.comp X (xs++ys) scope s3.heap.objs.size s3 H3 fp) [] (os++f_ Γ σ) H' s'/\tn i s'.heap/\(∀b∈fp,H' b=none)/\W i n zs H') (λn s5 z=>?_) m0 ⟨0,[],List.replicate xs.length none,H3,by rw[aak],Ic,T.keep _ _ _ t3 (λb hb o e=>by rw[e4];exact kp b o e),OJ,w0⟩;have⟨i,zs,os,H5,l5,I5,t5,Ot,w5⟩:=z;show wpAny _ _ ((compTurn _ 0 (.ref it) _ _).onRaise _) _ _ s5;refine wpAny_noted ?_;rw[j9 (ht s3.heap.objs.size s3 H3 fp).1];refine aab (wpAny_standAt (aab ?_));obtain⟨pJ,stop| go⟩:=step i n zs H5 w5
  ·have⟨stop,q⟩:=stop;refine aT (T.done (Cx.comp X (xs++ys) scope s3.heap.objs.size s3 H3 fp) rfl rfl rfl hc i [] s5 _ H5 _ I5 (MJ Ot) t5 stop) λr s6 xz=>?_;have⟨hr,I6⟩:=xz;subst hr;refine aar (Uz _ _ s6 H5 ?_ q ?_ I6.free ?_ Si BY λp hp z=>?_)
   ·refine I3.BP I6.os I6.base I6.av I6.bare λb hb=>?_;have⟨_,g1,_,g3,g4,g5⟩:=f2 b hb;exact⟨g3,g1,g4,g5⟩
   ·have⟨m,hn,_⟩:=I6.loc;exact⟨m,hn⟩
   ·exact I3.sz
   ·exact aaH (aan (I3.pin p hp).1) z
  ·have⟨go,turn⟩:=go;refine aT (T.item (Cx.comp X (xs++ys) scope s3.heap.objs.size s3 H3 fp) rfl rfl rfl hc i [] s5 _ H5 _ I5 (MJ Ot) t5 go) λr s6 xz=>?_;have⟨u,hr,h6⟩:=xz;subst hr;refine aab (aT h6 λ_ s7 xz=>?_);have⟨y,H7,I7,r7,y7,t7,UE⟩:=xz;have TN:=I7.pinned (MJ UE) (T.obj _ _ t7);refine aab (aaW (hg _ _ _ _ _ s7 _ H7 y u _ TN r7 (hk y os _ H7 _ l5 (turn y _ y7 os l5))) (λ_ s8 z8=>?_) λ_ _ f=>f.elim);have⟨σ8,H8,I8,⟨QG,l8,e8⟩,q8⟩:=z8;subst e8;refine aab (aaW ((ht _ _ _ _).2 _ s8 _ _ _ I8 q8) (λb s9 z9=>?_) λ_ _ f=>f.elim);have⟨H9,I9,q9⟩:=z9;cases b with
   | false=>
    have⟨m9,Te,w9⟩:=q9;refine aar ⟨rfl,m9,Te,i+1,zs,QG,_,l8,I9.fe,T.keep _ _ _ t7 λb hb o e=>(I9.pin (b,o) (aal _ (aal _ (bu hb e)))).1,λb hb=>?_,w9⟩;have⟨o,e,_⟩:=T.obj _ _ t7 b hb;exact(I9.pin (b,o) (aal _ (aal _ (bu hb e)))).2.1
   | true=>
    refine aab (aab (aaW (he _ _ _ _ _ s9 _ _ _ I9 q9) (λUS UD Ur=>?_) λ_ _ f=>f.elim));have⟨v10,Rf,VP,Vw,QU,VI,Vg,Ow,V1⟩:=Ur;refine aab (aaW (ny (X:=Cx.comp X (xs++ys) scope s3.heap.objs.size s3 H3 fp) _ UD _ Rf (.ref s2.heap.objs.size) [v10] _ [US] (λ_ H'=>H'=upd Rf s2.heap.objs.size (.lst (zs++[v10]))) VP rfl (.cons Vw .nil) ⟨_,zs,v10,rfl,rfl,QU,VI,rfl⟩) (λ_ X_ VX=>?_) λ_ _ f=>f.elim);have⟨_,ZV,Og,_,TQ⟩:=VX;subst TQ;refine aar (aar ⟨rfl,Vg,Ow,i+1,zs++[v10],QG,_,l8,Og.fe,T.keep _ _ _ t7 λb hb o e=>(Og.pin (b,o) (aal _ (aal _ (bu hb e)))).1,λb hb=>?_,V1⟩);have⟨o,e,_⟩:=T.obj _ _ t7 b hb;exact(Og.pin (b,o) (aal _ (aal _ (bu hb e)))).2.1
 exact codeAny_compStart_list loop (T.self X.A 0 _ _ _ (T.keep _ _ _ t3 (λb hb o e=>by rw[e4];exact kp b o e)) loop)
def HY(S:Ξ X scope xs ys Γ)(hc:X.calm=true)(hi:PI X tg iter wi)(hg:∀C s H fp,PG (Cx.comp X (xs++ys) scope C s H fp) tg gg)(hk:n9 xs.length gg)(ht:∀C s H fp,N6 (Cx.comp X (xs++ys) scope C s H fp) cs tc)(he:∀C s H fp,PE (Cx.comp X (xs++ys) scope C s H fp) elt te)(hs:∀x,foldedSetIterable iter X.env x=pure x:=by intro _;rfl):
  PE X (.ListComp elt [⟨tg,iter,cs,0⟩] scope pos) (uQ wi xs.length gg tc te Γ):=by
 intro δ s σ H Q I h;rw[eval_ListComp];refine wpAny_comprehension_free (use:=none) rfl hs (hU (S.has I.ok)) S.kind S.names (aT (hi δ s σ H _ I h) λv s1 h1=>aT h1 λO3 s2 h2=>?_);have⟨it,fp,tn,J,H2,rfl,I2,T,t0,f2,q⟩:=h2;refine sN S hc hg hk ht he (Q:=Q) I2 T t0 f2 q λD C s' H' I' q' n' hC hz hL jX hp=>?_;have⟨m,n'⟩:=n';exact⟨m,n',λh' sb=>⟨.ref D,H',I'.turned (it:=C) (t':=s'.toks) (λb o hb e=>(sb.2 b hb).trans e) hC hL (.inr hz) jX hp,rfl,q'⟩⟩
def wK{y:Str}{py gr:Pos}(hN:X.N.Nodup)(Dd:X.N[i]? =some y)(hy:Loc X.env.scope y)(S:Ξ X scope xs ys Γ)(hc:X.calm=true)(hi:PI X tg iter wi)(hg:∀C s H fp,PG (Cx.comp X (xs++ys) scope C s H fp) tg gg)(hk:n9 xs.length gg)(ht:∀C s H fp,N6 (Cx.comp X (xs++ys) scope C s H fp) cs tc)(he:∀C s H fp,PE (Cx.comp X (xs++ys) scope C s H fp) elt te)
  (Ap:swapsWith (.ListComp elt [⟨tg,iter,cs,0⟩] scope pos) (some (.Name y py)) gr.line X.env=pure true) (hs:∀x,foldedSetIterable iter X.env x=pure x)
  (hf:X.fn y=true\/X.env.scope.names.lookup y=some .local):
  PS X (.Assign [.Name y py] (.ListComp elt [⟨tg,iter,cs,0⟩] scope pos) gr) (λD σ H=>uQ wi xs.length gg tc te Γ σ H λv H1=>D.nx (σ.set i (some v)) H1):=by
 intro δ s σ H D I h;rw[exec_Assign_Name_used _ _ _ _ Ap];refine aab (wpAny_standAt (aab ?_));show wpAny _ _ (do let _<-comprehension (.ListComp elt [⟨tg,iter,cs,0⟩] scope pos) scope X.env _ (newList []) false (eval iter X.env) (some (assign (.Name y py) X.env))) _ _ s;refine aab (aaW (wpAny_comprehension_free (use:=some (assign (.Name y py) X.env)) (Q:=λ_ s'=>SP X δ D .next s') rfl hs (hU (S.has I.ok)) S.kind S.names (aT (hi δ s σ H _ I h) λv s1 h1=>aT h1 λO3 s2 h2=>?_)) (λ_ s' hq=>aar (aar hq)) λ_ _ e=>e);have⟨it,fp,tn,J,H2,rfl,I2,T,t0,f2,q⟩:=h2;refine sN S hc hg hk ht he (Q:=λv H1=>D.nx (σ.set i (some v)) H1) I2 T t0 f2 q λDl C s' H' I' q' n' hC hz hL jX hp=>?_;have⟨m,n'⟩:=n';show wpAny _ _ (assign (.Name y py) X.env (.ref Dl)) _ _ s';refine wpAny_assign_Name (mB I' hN Dd hy (v:=.ref Dl) rfl (λs3 I3 ME=>?_) hf);have⟨a,ME,ha⟩:=ME;have TF:C≠a:=by
  rcases ha with rfl| ha
  ·exact hL
  ·exact(jX _ _ ha).symm
 exact⟨m,n'.sameBut ME TF,λh' sb=>⟨_,H',I3.turned (it:=C) (t':=s3.toks) (λb o hb e=>(sb.2 b hb).trans e) hC hL (.inr hz) jX hp,q'⟩⟩
end
section
variable{K:gV}
def eE.WZ{x:Str}{k:Nat}{sp:Sp}(F:eE K x qual st f fd)(S:Δ N ps (π st))(len:∀vs H Q E,sp vs H Q E->vs.length=ps.length)
  (qj:∀(bC:Value) (A:Around) (outer:List Env) (s:Shared) (H:Hp) (vs:List V) (Q:VK) (E:XK),bp k (A.deeper (envOfC qual (π st) s.heap.objs.size f bC))->sp vs H Q E->
   ∃t,wc (gf (bP P w) P w K mg base N qual (π st) f bC A outer s H E) (eP st) t/\t {nx:=λ_ H'=>Q .aS H',rt:=Q} (jo N vs) H):ay P w K mg base (bP P w) (k+1) f fd ps sp:=by
 have⟨oc,od,kV,doc,pm,an,bC,ct,z_,rfl,lk,we⟩:=F.ex;exact PV lk we S len λA outer s H vs Q E hr C5=>qj bC A outer s H vs Q E hr C5
end
def gX:cP (bP P w) X (λ_=>E0):=by intro δ σ H s e s' _ hx;have⟨_,_,_,_,_,_,_,_,hE⟩:=hx;exact hE.elim
def log2_lt{n:Nat}{k:Nat}(h:n < 2 ^ k)(hk:0 < k):n.log2 < k:=by
 by_cases h0:n=0
 ·rw[h0,show Nat.log2 0=0 from rfl];exact hk
 ·exact(Nat.log2_lt h0).mpr h
def ow(i:Int):Prop:=i.natAbs < 2 ^ 8000
def D0{i j:Int}(hi:ow i)(hj:ow j):IntMulOk i j:=by
 have b:∀{i:Int},ow i->Builtin.Int.intBits i<=8000:=λ{i} h=>by
  unfold Builtin.Int.intBits;split
  ·exact aa2 _
  ·have:=log2_lt (k:=8000) h @_;omega
 have b1:=b hi;have b2:=b hj;have h3:Builtin.Int.intTooBig (Builtin.Int.intBits i+Builtin.Int.intBits j)=false:=by
  unfold Builtin.Int.intTooBig;refine aao ?_;have:(bitsLine:Int)=134217728:=@_
  omega
 unfold IntMulOk;rw[h3,abB];exact aax
section
def IV:gQ X (binaryOp .Mult) (rI (λi j=>ow i/\ow j) λi j=>.int (i * j)):=Pe λ_ _ _ _ _ _ _ hc q=>mul_int q (D0 hc.1 hc.2)
def ye:gQ X (binaryOp .FloorDiv) (rI (λ_ j=>j≠0/\ow j) λi j=>.int (i.fdiv j)):=Pe λ_ _ _ _ _ _ _ hc q=>
 floordiv_int hc.1 q (.inl (PyProof.noPylong_of_log2 (aau (log2_lt (k:=8000) hc.2 @_) @_)))
end
def FW:V->Option Value
 | .ty T=>some (.type T)
 | .ref C=>some (.ref C)
 | _=>none
def B6{c:V}{u t:Value}(r:aj c u)(h:FW c=some t):u=t:=by
 cases c with
 | ty T=>cases r;exact aaw h
 | ref C=>cases r;exact aaw h
 | _=>cases h
section
def x9:cL X (.builtin "isinstance") (λxs H Q=>∃x c t t' b,xs=[x,c]/\jK X.K H x t/\FW c=some t'/\PySem.W.kitOne X.K t t'=some b/\Q (.bl b) H):=by intro δ s σ H xs us Q I r h;have⟨x,c,t,t',b,rfl,ty,hc,hk,q⟩:=h;have⟨u,u',rfl,r1,r2⟩:=Cc r;cases B6 r2 hc;exact Co I r1 ty hk λtk=>⟨.bl b,H,I.tok tk,rfl,q⟩
end
def qd:List V->List V->Bool
 | [],[]=>true
 | x::xs,y::ys=>uG x y&&qd xs ys
 | _,_=>false
def kR:∀(xs ys:List V) (e:Nat->Bool),(∀j x y,xs[j]? =some x->ys[j]? =some y->e j=uG x y)->((List.range (min xs.length ys.length)).all e&&xs.length==ys.length)=qd xs ys
 | [],[],e,_=>rfl
 | [],_::_,e,_=>by simp[qd]
 | _::_,[],e,_=>by simp[qd]
 | x::xs,y::ys,e,h=>by
  have ih:=kR xs ys (λj=>e (j+1)) λj x y h1 h2=>h (j+1) x y h1 h2;have h0:e 0=uG x y:=h 0 x y rfl rfl;show _=(uG x y&&qd xs ys);rw[<-ih,<-h0];have e1:min (x::xs).length (y::ys).length=min xs.length ys.length+1:=by simp only[List.length_cons];omega
  rw[e1,abv,abq,List.all_map];have e2:((x::xs).length==(y::ys).length)=(xs.length==ys.length):=by simp only[List.length_cons];rw[Bool.eq_iff_iff];simp
  rw[e2,Bool.and_assoc];rfl
def RO(K:gV):R2:=λx y H Q=>∃a b xs ys,x= .ref a/\y= .ref b/\jN K H a xs/\jN K H b ys/\xs.all dw=true/\ys.all dw=true/\Q (.bl (qd xs ys)) H
def PN(K:gV):R2:=λx y H Q=>∃a b xs ys,x= .ref a/\y= .ref b/\jN K H a xs/\jN K H b ys/\xs.all dw=true/\ys.all dw=true/\Q (.bl (!qd xs ys)) H
def ma:∀{xs:List V} {j:Nat} {x:V},xs.all dw=true->xs[j]? =some x->dw x=true
 | _::_,0,_,h,e=>by rw[abq,aaz]at h;cases e;exact h.1
 | _::_,j+1,_,h,e=>by rw[abq,aaz]at h;exact ma h.2 e
section
def NZ(hu:X.A.units < cLine):gQ X (compareOp .NotEq) (PN X.K):=by
 intro δ s σ H x y v u Q I rx ry h;have⟨a,b,xs,ys,rfl,rfl,h1,h2,f1,f2,q⟩:=h;cases rx;cases ry;have⟨i1,v1,t1,_⟩:=I.tuple h1;have⟨i2,v2,t2,_⟩:=I.tuple h2;have l1:=v1.length;have l2:=v2.length;refine SeqAt.RcNeAt.tuples (e:=λj=>match xs[j]?,ys[j]? with| some x,some y=>uG x y| _,_=>true) (show s.heap.IsTuple a i1.toArray from t1) (show s.heap.IsTuple b i2.toArray from t2) hu (λj h1 h2=>?_) _ _ _ _ ?_
 ·have b1:j < i1.length:=by simpa using h1
  have b2:j < i2.length:=by simpa using h2
  have e1:xs[j]? =some (xs[j]'()):=aaa _;have e2:ys[j]? =some (ys[j]'()):=aaa _;have⟨u1,g1,r1⟩:=v1.get e1;have⟨u2,g2,r2⟩:=v2.get e2;rw[aaa b1]at g1;rw[aaa b2]at g2;have w1:i1.toArray[j]=u1:=by simpa using Option.some.inj g1
  have w2:i2.toArray[j]=u2:=by simpa using Option.some.inj g2
  rw[w1,w2];simp only[e1,e2];exact vX r1 r2 (ma f1 e1) (ma f2 e2)
 ·rw[List.size_toArray,List.size_toArray,<-l1,<-l2,kR xs ys _ (λj x y h1 h2=>by simp only[h1,h2])];exact⟨.bl (!qd xs ys),H,I,rfl,q⟩
def HR(hu:X.A.units < cLine):gQ X (compareOp .Eq) (RO X.K):=by
 intro δ s σ H x y v u Q I rx ry h;have⟨a,b,xs,ys,rfl,rfl,h1,h2,f1,f2,q⟩:=h;cases rx;cases ry;have⟨i1,v1,t1,_⟩:=I.tuple h1;have⟨i2,v2,t2,_⟩:=I.tuple h2;have l1:=v1.length;have l2:=v2.length;refine SeqAt.eq_tupleAt (e:=λj=>match xs[j]?,ys[j]? with| some x,some y=>uG x y| _,_=>true) (show s.heap.IsTuple a i1.toArray from t1) (show s.heap.IsTuple b i2.toArray from t2) hu (λj h1 h2=>?_) ?_
 ·have b1:j < i1.length:=by simpa using h1
  have b2:j < i2.length:=by simpa using h2
  have e1:xs[j]? =some (xs[j]'()):=aaa _;have e2:ys[j]? =some (ys[j]'()):=aaa _;have⟨u1,g1,r1⟩:=v1.get e1;have⟨u2,g2,r2⟩:=v2.get e2;rw[aaa b1]at g1;rw[aaa b2]at g2;have w1:i1.toArray[j]=u1:=by simpa using Option.some.inj g1
  have w2:i2.toArray[j]=u2:=by simpa using Option.some.inj g2
  rw[w1,w2];simp only[e1,e2];exact vX r1 r2 (ma f1 e1) (ma f2 e2)
 ·rw[List.size_toArray,List.size_toArray,<-l1,<-l2,kR xs ys _ (λj x y h1 h2=>by simp only[h1,h2])];exact⟨.bl (qd xs ys),H,I,rfl,q⟩
end
section
variable{K:gV}{D:Addr}{od:Option Obj}
def qr{Q:Option Value->Shared->Prop}(X:K.In s.heap)(I:PySem.W.InstAt s.heap x ox D od)(Vy:PySem.W.findIn K (.ref D) "__getattribute__"=some (some (.builtin "BaseException.__getattribute__")))
  (XF:PySem.W.findIn K (.ref D) "__getattr__"=some none) (ha:PySem.W.findIn K (.ref D) "__class__"=some (some (.builtin "object.__class__"))) (hm:PySem.W.mroIn K D (.type "object")=some true) (XZ:PySem.W.subIn K (.ref D) (.type "BaseException")=some true)
  (h:Q (some (.ref D)) {s with toks:=s.toks+1}):wpAny (model prog w) A (getAttr? (.ref x) "__class__") Q E s:=by
 have⟨hh,g,d,t,os⟩:=s;have L0:=I.type (M:=model prog w);have L1:=PySem.W.looks_findIn (M:=model prog w) X Vy;have L2:=PySem.W.looks_findIn (M:=model prog w) X XF;have L4:=PySem.W.looks_subIn (M:=model prog w) X XZ;have f3:=F.excAttr_ValueError.ga.bind (.ref x);have IF:(Value.builtin "BaseException.__getattribute__"==Value.builtin "object.__getattribute__")=false:=by decide+kernel
 have Vp:(onTheHeap (Value.ref D)&&Value.builtin "BaseException.__getattribute__"==Value.builtin "object.__getattribute__")=false:=by rw[IF];rfl
 have ZZ:(false&&onTheHeap (Value.builtin "BaseException.__getattribute__"))=false:=rfl;unfold getAttr? getAttrBy? getAttrBy
 repeat (any_goals (first| assumption| with_reducible refine L0.at ?_| with_reducible refine L1.at ?_| with_reducible refine L2.at ?_| wp_step))
 refine codeAny_call_builtin F.excAttr_ValueError.ga.plain F.entry_bexc_ga ?_;have hk:builtinKind "BaseException.__getattribute__"=some .slot:=by decide+kernel
 have C5:splitId "BaseException.__getattribute__"=some ("BaseException","__getattribute__"):=by decide+kernel
 have har:=F.args_bexc_ga (.ref x) (.str "__class__" t);simp only[checkBuiltinCall,hk,C5];refine aab ?_;unfold isInstance;have L3:=PySem.W.looks_findIn (M:=model prog w) X ha;have f5:=F.typeOf_object_class;have f6:=F.slot_gs_get.lookup;have f7:=F.slot_gs_set.lookup;have hg:∀{R:Result->Shared->Prop} {A:Around},R (.ok (.ret (.ref D))) ⟨hh,g,d,t+1,os⟩->codeAny (model prog w) A (.call (.builtin "getset_descriptor.__get__") ⟨[.builtin "object.__class__",.ref x,.ref D],[]⟩) R ⟨hh,g,d,t+1,os⟩:=λhr=>PySem.W.class_get (s:=⟨hh,g,d,t+1,os⟩) X I hm hr
 repeat (any_goals (first| assumption| with_reducible refine L0.at ?_| with_reducible refine L4.at ?_| with_reducible refine L3.at ?_| wp_step))
 refine hg ?_
 repeat (any_goals (first| assumption| wp_step))
end
structure iu(K:gV)(C:Addr):Prop where
 cls:PySem.W.isClsIn K C=true
 ga:PySem.W.findIn K (.ref C) "__getattribute__"=some (some (.builtin "BaseException.__getattribute__"))
 gt:PySem.W.findIn K (.ref C) "__getattr__"=some none
 cl:PySem.W.findIn K (.ref C) "__class__"=some (some (.builtin "object.__class__"))
 ob:PySem.W.mroIn K C (.type "object")=some true
 be:PySem.W.subIn K (.ref C) (.type "BaseException")=some true
def iu.data{K:gV}(c:iu K C):∃cl dd cd sl,K.lookup C=some ⟨cl,dd,.cls cd,sl⟩:=by
 have q:=c.cls;unfold PySem.W.isClsIn PySem.W.clsIn at q;split at q
 ·rename_i cl dd cd sl ho;exact⟨cl,dd,cd,sl,ho⟩
 ·cases q
def Ie{K:gV}(c:iu K C):PySem.W.KitX K (.ref x) (.ref C) (λh=>∃od,PySem.W.InstAt h x ox C od) where
 ty:=λ_ _ _ ⟨_,I⟩=>I.type
 it:=λM h X _=>by have⟨cl,dd,cd,sl,ho⟩:=c.data;intro A' Q' E' s' k q;unfold isType loadHead;exact aab (wpAny_loadPart (k _ _ (X _ _ ho)) (aar q))
 ne:=λh tp dd its n sl X WR=>by have⟨cl,IQ,cd,Xs,ho⟩:=c.data;refine Bool.eq_false_iff.mpr λq=>?_;have e:C=tp:=Value.ref.inj (aa8.mp q);rw[<-e,X _ _ ho]at WR;cases WR
 ca:=λX ⟨_,I⟩ k=>qr X I c.ga c.gt c.cl c.ob c.be k
def tY(X:Cx)(x C:Addr)(dx:Option Addr):Prop:=∃(o:Obj) (vs:Array Value),(x,({o with data:=.fields vs}:Obj))∈X.pn/\vs[2]? =some .none/\o.cls= .ref C/\o.dict=dx
def Qs(K:gV)(x C:Addr)(dx:Option Addr):List V->Hp->VK->Prop:=λxs H Q=>∃t t' b,xs=[.ref x,t]/\(∀d,dx=some d->∃o,H d=some o)/\FW t=some t'/\PySem.W.kitOne K (.ref C) t'=some b/\Q (.bl b) H
section
def ur{dx:Option Addr}(e:tY X x C dx)(c:iu X.K C):cL X (.builtin "isinstance") (Qs X.K x C dx):=by
 intro δ s σ H xs us Q I r h;have⟨t,t',b,rfl,FX,hc,hk,q⟩:=h;have⟨u,u',rfl,r1,r2⟩:=Cc r;cases B6 r2 hc;cases r1;have⟨⟨oc,WT,YS,z_⟩,vs,hp,_,ho,hd⟩:=e;have hx:=(I.pin _ (aa1 _ hp)).1;have J:∃od,PySem.W.InstAt s.heap x ⟨oc,WT,.fields vs,z_⟩ C od:=by
  cases WT with
  | none=>exact⟨none,hx,ho,rfl,trivial⟩
  | some d=>
   have⟨j0,e1⟩:=FX d hd.symm;have⟨ob,e2⟩:=aA.here (I.av d j0 e1);exact⟨some ob,hx,ho,rfl,e2⟩
 exact PySem.W.kia_one (Ie c) I.gp J hk nofun λtk=>⟨.bl b,H,I.tok tk,rfl,q⟩
end
section
variable{H:Hp}{n:Str}
def Ci{v:V}(I:Inv X δ σ H s)(hN:X.N.Nodup)(hi:X.N[i]? =some n)(hk:X.env.scope.names.lookup n=some .local)(hv:σ[i]? =some (some v))(h:∀s',Inv X δ (σ.set i none) H s'->Q Unit.unit s'):wpAny M A (unbindName X.env n) Q E s:=by
 have⟨m,hn,hl⟩:=id I.loc;have⟨u,r,lk⟩:=hl i n v hi hv (.inl hk);have hm:m n=some u:=by
  rcases lk with ⟨_,e⟩| ⟨k,_⟩
  ·exact e
  ·rcases k with k| k
   ·exact aaG ((show X.env.scope.names.lookup n=some .cell from k).symm.trans hk) @_
   ·exact aaG ((show X.env.scope.names.lookup n=some .free from k).symm.trans hk) @_
 have Hs:(X.env.scope.kind== .class|| (X.env.scope.kind== .module&&X.env.locals != X.env.globals))=false:=by rw[I.ok.kind];rfl
 have⟨oL,_,_,Wl,_⟩:=id hn;refine wpAny_unbindName_local hk hn hm Hs λh' u' oz hs=>h _ ⟨I.ok,I.os,I.bare,⟨λb o e n hb hx=>?_,λb o e n hb hx=>?_,I.base.free,λb o e hx=>?_,I.base.jj,I.base.iA,I.base.iN⟩,⟨_,oz,λj y v' e1 e2 e3=>?_⟩,λy c e=>?_,I.free,I.cX,λp hp=>?_,λb ob e=>?_,by simpa using I.len⟩
 ·exact(hs.2 b (aaH (aau (aan e) I.ok.above))).trans (I.base.keep b o e n hb hx)
 ·have⟨sl,e1⟩:=I.base.slot b o e n hb hx;exact⟨sl,(hs.2 b (aaH (aau (aan e) I.ok.above))).trans e1⟩
 ·have⟨o',e1⟩:=I.base.there b o e hx;exact⟨o',(hs.2 b (aaH (aau (aan e) I.ok.above))).trans e1⟩
 ·by_cases hj:j=i
  ·subst hj;have Qb:j < σ.length:=(aai.mp hv).1;rw[aaS Qb]at e2;cases e2
  ·rw[aaX (Ne.symm hj)]at e2;have⟨u2,r2,q⟩:=hl j y v' e1 e2 e3;refine⟨u2,r2,?_⟩;rcases q with ⟨k,e⟩| ⟨k,c,e,z⟩
   ·refine .inl ⟨k,?_⟩;have:y≠n:=λe=>hj (qI hN e1 (e▸hi));simp[this,e]
   ·exact .inr ⟨k,c,e,z.sameBut hs (I.BY y c e)⟩
 ·have⟨w',z⟩:=I.cell y c e;exact⟨w',z.sameBut hs (I.BY y c e)⟩
 ·have⟨e,n,ne,nf,d⟩:=I.pin p hp;exact⟨(hs.2 p.1 ne).trans e,n,ne,nf,d⟩
 ·refine(I.av b ob e).oq (λc w' hc q=>(hs.2 c ?_).trans q) (λ_ q=>q) λ_ _ q=>q;rintro rfl;have fr:=I.free;rcases hc with hc| hc
  ·rw[hc,e]at fr;cases fr
  ·rw[hc]at fr;cases fr
def jJ(I:Inv X δ σ H s)(hN:X.N.Nodup)(hi:X.N[i]? =some n)(hk:X.env.scope.names.lookup n=some .local)(h:∀s',Inv X δ (σ.set i none) H s'->Q Unit.unit s'):
  wpAny M A (do bindName X.env n .none;unbindBehindTheSuite X.env n pos) Q E s:=by
 have Qb:i < σ.length:=by rw[I.len];exact(aai.mp hi).1
 refine aab (wpAny_bindName (lh I hN hi (.inl hk) (v:=.aS) rfl (λs1 I1=>?_) (.inr hk)));unfold unbindBehindTheSuite;refine wpAny_onRaise (Ci I1 hN hi hk (v:=.aS) (by rw[aaS Qb]) λs2 I2=>h s2 ?_);rw[List.set_set]at I2;exact I2
end
def Lo(i:Nat)(D:oy):oy:=⟨λσ H=>D.nx (σ.set i none) H,D.rt,λσ H=>D.bk (σ.set i none) H,λσ H=>D.ct (σ.set i none) H⟩
def Q9(K:gV)(D:Addr)(i:Nat)(CC:Addr->Option Addr->Prop)(tb:(St->XK)->TS)(ts:Addr->Addr->Option Addr->TS):TS:=λDn σ H=>∃R:St->XK,tb R Dn σ H/\
 ∀σ' cls od H',R σ' cls od H'->∃C,cls= .ref C/\CC C od/\PySem.W.subIn K (.ref C) (.ref D)=some true/\∀x,H' x=none->ts x C od (Lo i Dn) (σ'.set i (some (.ref x))) H'
section
variable{body:List Stmt}{D:Addr}{dn n:Str}{b₀:Stmt}{bB:List Stmt}{u3 np:Pos}{tb:(St->XK)->TS}{ts:Addr->Addr->Option Addr->TS}{fk:String}
def KN(CC:Addr->Option Addr->Prop)(hN:X.N.Nodup)(hi:X.N[i]? =some n)(hk:X.env.scope.names.lookup n=some .local)(hc:X.calm=true)(tD:X.stack=X.env::X.outer)(hf:X.env.frame=some X.env.locals)(d:cR X.K D l_ fk)(Ga:l_.contains (.type "BaseException")=true)(hg:Gl X dn)(hm:X.mg dn=some (.ref D))
  (hb:∀(R:St->XK) (δ:List (Addr×Obj)),wc (Cx.ND X R δ) body (tb R))
  (hs:∀(x C:Addr) (od:Option Addr) (pn:List (Addr×Obj)),CC C od->tY (Cx.bB X x pn) x C od->wc (Cx.bB X x pn) (b₀::bB) (ts x C od)) (ku:(dn==("__debug__":Str))=false:=by decide):
  PS X (.Try body [.ExceptHandler (some (.Name dn np)) (some n) (b₀::bB) u3] [] [] pos) (Q9 X.K D i CC tb ts):=by
 intro δ s σ H Dn I h;have⟨R,h1,h2⟩:=h;refine wpAny_Try_except (aaW (hb R δ [] s σ H Dn (Inv.Vv I _) h1) (λfl s1 z=>?_) λe s1 z=>?_)
 ·have z':SP X δ Dn fl s1:=SP.kF z;cases fl with
  | next=>exact wpAny_execs_nil z'
  | brk=>exact z'
  | cont=>exact z'
  | ret u=>exact z'
 ·have⟨nV,σ',H1,s0,I0,hx⟩:=z;have⟨x,o,H',B,rfl,os,bare,F,hE⟩:=hx;have I0:Inv X δ σ' H1 s0:=Inv.kF (E:=X.xe) I0;have⟨C,ec,jX,hu,UR⟩:=h2 σ' _ _ H' hE;have Gv:X.A.frames=some (X.env::X.outer):=by rw[<-tD];exact I0.ok.frames
  refine G8 (B:=B) Gv hf (by rw[<-tD];exact F.wb) λh4 f4 u4=>?_;refine lI f4 λh5 f5 u5=>?_;have F5:=F.on (by rw[tD];exact f5) (u4.trans u5);have I5:Inv X δ σ' H' {s1 with heap:=h5}:=F5.back I0 os bare;have⟨v5,_,_,_,Zp,_⟩:=f5.2.2.2;refine wpAny_handleBy_cons (codeAny_handlers_test (h8 (X:=Cx.bB X x (X.pn++δ)) (Inv.NM I5 x) hg hm ?_ ku)) (by intro q;cases q);refine yg I5.gp d Ga hu Zp ec (codeAny_handlers_suite_as ?_);refine lI f5 λh6 f6 u6=>?_;have F6:=F5.on (by rw[tD];exact f6) u6;have I6:Inv X δ σ' H' {s1 with heap:=h6}:=F6.back I0 os bare;have⟨vs,V0,J⟩:=EB I6 tD hf F6;refine lh (X:=Cx.bB X x (X.pn++δ++[(x,{o with data:=.fields vs})])) J hN hi (.inl hk) (v:=.ref x) rfl (λs7 I7=>?_) (.inr hk);refine aaW (hs x C o.dict _ jX ⟨o,vs,aal _ aaf,V0,ec,rfl⟩ [] s7 _ H' (Lo i Dn) I7 (UR x F6.nx)) (λfl s8 z=>?_) λ_ _ z=>z.elim;cases fl with
  | next=>have⟨a,b,I8,q⟩:=z;exact jJ (Inv.mf I8 I0.ok.hd) hN hi hk λs9 I9=>⟨_,b,I9,q⟩
  | brk=>have⟨a,b,I8,q⟩:=z;exact jJ (Inv.mf I8 I0.ok.hd) hN hi hk λs9 I9=>⟨_,b,I9,q⟩
  | cont=>have⟨a,b,I8,q⟩:=z;exact jJ (Inv.mf I8 I0.ok.hd) hN hi hk λs9 I9=>⟨_,b,I9,q⟩
  | ret u=>have⟨v,a,b,I8,r,q⟩:=z;exact jJ (Inv.mf I8 I0.ok.hd) hN hi hk λs9 I9=>⟨v,_,b,I9,r,q⟩
end
def D_(bs:List Bool):(List.range bs.length).any (λi=>bs.getD i false)=bs.any id:=by
 induction bs with
 | nil=>rfl
 | cons b bs ih=>
  rw[aat,abv,abr,List.any_map,abr,<-ih];rfl
def uB:∀{bs:List Bool} {us:List Value},Ψ (bs.map V.bl) us->us=bs.map Value.bool
 | [],_,r=>by cases r;rfl
 | b::bs,_,r=>by
  cases r with
  | cons h t=>
   cases h;rw[uB t];rfl
def xA{bs:List Bool}:TruthOf prog w A (λi v=>(bs.map Value.bool).toArray[i]? =some v) (λi=>bs.getD i false):=by
 intro i v s Q E h q;have h':(bs.map Value.bool)[i]? =some v:=by simpa using h
 rw[aaM]at h';cases e:bs[i]? with
 | none=>rw[e]at h';cases h'
 | some b=>
  rw[e]at h';cases h';have q':Q b s:=by
   have eb:bs.getD i false=b:=by rw[abA,e];rfl
   exact eb▸q
  exact wpAny_truthy_bool q'
def Ql(K:gV):List V->Hp->VK->Prop:=λxs H Q=>∃(p:Addr) (bs:List Bool),xs=[.ref p]/\fG K H p (bs.map V.bl)/\Q (.bl (bs.any id)) H
section
def EE (hc : X.calm = true) : cL X (.builtin "any") (Ql X.K) :=by
  intro δ s σ H xs us Q I r h;obtain⟨p,bs,rfl,hq,q⟩ :=h;obtain⟨u,rfl,r1⟩ :=fS r;cases r1;obtain⟨its,rv,pl,hz⟩ :=I.list hq;have NG :=uB rv;subst NG;refine call_any_walk (wpAny_pyIter_list pl.isList ?_);have lp : p < s.heap.objs.size :=by obtain⟨o,e,_⟩ :=pl.isList;exact aan e
  refine⟨s.heap.objs.size,_,_,_,_,_,λi =>bs.getD i false,rfl,Walks.list (show X.A.in1.handled = none from I.ok.hd hc) s.heap.objs.size p (aaH lp) (bs.map Value.bool).toArray,⟨⟨_,aaP _ rfl,rfl,rfl⟩,pl.isList.at λo e =>aad _ e⟩,xA,λh' tk hk =>?_⟩;refine⟨.bl (bs.any id),H,I.kept λb o e =>hk b o (λz =>by have : b = s.heap.objs.size :=(by simpa using z);exact Nat.lt_irrefl _ (this ▸ Heap.lt_size e)) (Heap.get?_push_of_some _ e),?_,q⟩;rw[aaC,aac,D_];rfl
end
end L2
namespace PySem
open Sem (wp)
section
variable{prog:Program}{w:World}{A:Around}{E:Value->Shared->Prop}{h:Heap}{g:Array GenState}{d:Drawn}{t:Nat}{os:OsState}
variable{nm q:Str}{C N:Addr}{bs bm gk:List Value}{hdct:Bool}{sn:List Str}{sub:List Value}{ab:Bool}{col:Option Bool}{dd:Option Addr}{k0 k1 k2 k3 k5:Option Value}{B newId aP:String}
def om(F:ExcBaseFacts B newId aP gk)(T:OwnTail h gk bm){mN:Str->Option Value}{rest:List Value}{fI:Addr}{oI:Obj}{Q:Fin->Shared->Prop}
  (hC:h.get? C=some (excClassObj nm q C N bs bm hdct sn sub ab col dd k0 k1 k2 k3 k5 newId)) (hn:h.Ns N mN) (hi:mN "__init__"=some (.ref fI))
  (Qf:h.get? fI=some oI) (PF:oI.cls= .type "function")
  (hq:∀h' e,Heap.MadeExcOf h h' e (.ref C) rest->
   wpAny (model prog w) A (call (.ref fI) (.ref e::rest)) (λr s'=>r= .none/\Q (.done (.ret (.ref e))) s') E ⟨h',g,d,t,os⟩) (hrest:rest.length<=sizeLine:=by size_fits):
  wpAny (model prog w) A (Builtin.«type.__call__» ⟨.ref C::rest,[]⟩) Q E ⟨h,g,d,t,os⟩:=by
 repeat (first| with_reducible refine wpAny_loadPart_at hC ?_| with_reducible refine wpAny_madeBy_exc hC ?_| wp_step)
 refine codeAny_call_builtin_code (Code.quiet_builtin _ F.quiet) (wpAny_check_new_subT F T hC ?_);refine codeAny_exc_new_subT F T hC ?_ hrest;show wpAny _ _ _ _ _ _
 have Lj:=aad {cls:=.ref C,data:=.fields #[.ref h.objs.size,.none,.none,.none,.bool false,.none]}
  (aad {cls:=.type "tuple",data:=.seq rest.toArray} hC)
 have Ny:=aad {cls:=.ref C,data:=.fields #[.ref h.objs.size,.none,.none,.none,.bool false,.none]}
  (aad {cls:=.type "tuple",data:=.seq rest.toArray} Qf)
 have O_:((h.push {cls:=.type "tuple",data:=.seq rest.toArray}).push {cls:=.ref C,data:=.fields #[.ref h.objs.size,.none,.none,.none,.bool false,.none]}).Ns N mN:=
  let ⟨o,es,ep,e,r⟩:=hn;⟨o,es,ep,aad _ (aad _ e),r⟩
 have Pm:((h.push {cls:=.type "tuple",data:=.seq rest.toArray}).push
   {cls:=.ref C,data:=.fields #[.ref h.objs.size,.none,.none,.none,.bool false,.none]}).get? (h.objs.size+1)=some
   {cls:=.ref C,data:=.fields #[.ref h.objs.size,.none,.none,.none,.bool false,.none]}:=by heap_get
 have UM:(Value.ref C::bm).contains (.ref C)=true:=by simp
 have T₁:=T.keeps (h':=(h.push {cls:=.type "tuple",data:=.seq rest.toArray}).push {cls:=.ref C,data:=.fields #[.ref h.objs.size,.none,.none,.none,.bool false,.none]})
  λb o e=>aad _ (aad _ e)
 unfold isInstance
 repeat (first| with_reducible refine wpAny_loadPart_at Pm ?_| (with_reducible refine wpAny_isSubtype_exc Lj ?_;rw[UM])| wp_step)
 show wpAny _ _ (typeLookup (.ref C) _) _ _ _;refine wpAny_typeLookup_tail Lj O_ T₁ F.mroIs F.init.lookup ?_;rw[hi];refine wpAny_holding (aab ?_);unfold bindSpecial;refine aab (wpAny_typeOf (T:="function") ⟨_,Ny,PF⟩ ?_);rw[aaB @_];refine aar (aab (aaW (hq _ (h.objs.size+1) ⟨λb o hb=>aad _ (aad _ hb),Heap.get?_none_of_le (Nat.le_succ _),h.objs.size,Pm,Heap.get?_none_of_le (aaq _),?_⟩) (λr s' hr=>?_) λ_ _ x=>x))
 ·exact aad _ (Heap.get?_push_at rfl rfl)
 ·have⟨rfl,hQ⟩:=hr
  wp_walk
  exact hQ
def zT(F:ExcBaseFacts B newId aP gk)(T:OwnTail h gk bm){mN:Str->Option Value}{rest:List Value}{fI:Addr}{oI:Obj}{Q:Value->Shared->Prop}
  (hC:h.get? C=some (excClassObj nm q C N bs bm hdct sn sub ab col dd k0 k1 k2 k3 k5 newId)) (hn:h.Ns N mN) (hi:mN "__init__"=some (.ref fI))
  (Qf:h.get? fI=some oI) (PF:oI.cls= .type "function")
  (hq:∀h' e,Heap.MadeExcOf h h' e (.ref C) rest->
   wpAny (model prog w) (A.under (.builtin "type.__call__" ⟨.ref C::rest,[]⟩)) (call (.ref fI) (.ref e::rest)) (λr s'=>r= .none/\Q (.ref e) s') E ⟨h',g,d,t,os⟩) (hrest:rest.length<=sizeLine:=by size_fits):
  wpAny (model prog w) A (call (.ref C) rest) Q E ⟨h,g,d,t,os⟩:=by
 have f1:=tc_lookup;have f2:=tc_bind (.ref C);have hT:(⟨h,g,d,t,os⟩:Shared).TypeIs (.ref C) "type":=⟨_,hC,rfl⟩;refine wpAny_call (codeAny_of_tree ?_);show wpAny _ _ (callAny (.ref C) _) _ _ _
 repeat (any_goals (first| assumption| with_reducible refine wpAny_loadPart_at hC ?_| wp_step))
 refine⟨rfl,?_⟩;refine codeAny_call_builtin_at (Code.quiet_builtin _ (by decide+kernel)) entry_typeCall (wpAny_check_type_call_sub hC (om (hrest:=hrest) F T hC hn hi Qf PF λh' e hm=>?_));exact hq h' e hm
def Af(F:ExcBaseFacts B newId aP gk)(T:OwnTail h gk bm){rest:List Value}{e t0:Addr}{oe:Obj}{vs:Array Value}{Q:Value->Shared->Prop}
  (hC:h.get? C=some (excClassObj nm q C N bs bm hdct sn sub ab col dd k0 k1 k2 k3 k5 newId)) (he:h.get? e=some oe) (Hs:oe.cls= .ref C) (Ng:oe.data= .fields vs) (h0:vs[0]? =some (.ref t0))
  (hq:∀h',(∀b o,b≠e->h.get? b=some o->h'.get? b=some o)->h'.get? e=some (Obj.mapFields (·.setIfInBounds 0 (.ref h.objs.size)) oe)->Q .none ⟨h',g,d,t,os⟩) (hrest:rest.length<=sizeLine:=by size_fits):
  wpAny (model prog w) A (call (.builtin aP) (.ref e::rest)) Q E ⟨h,g,d,t,os⟩:=by
 refine wpAny_call (codeAny_call_builtin F.init.plain F.initEntry (wpAny_check_init_subT F T hC he Hs ?_));unfold Builtin.«BaseException.__init__»;dsimp only;rw[if_neg (by simp)];unfold newTuple Builtin.BaseException.bexcPut;have hsz:0 < vs.size:=(aaT.mp h0).1;have Fe:=aad (h:=h) {cls:=.type "tuple",data:=.seq rest.toArray} he;refine aab (wpAny_newObj_type (aab (aab (wpAny_field Fe Ng h0 (aab (wpAny_setField Fe Ng hsz ?_))))) (by show rest.toArray.size<=sizeLine;rw[aaC];exact hrest));refine wpAny_letGo (aar (hq _ (λb o nb hb=>?_) ?_))
 ·rw[Heap.get?_update_other _ _ (Ne.symm nb)];exact aad _ hb
 ·rw[Heap.get?_update_self _ Fe (Obj.isFreed_of_fields (Obj.data_mapFields Ng _))]
end
end PySem
namespace PySem.W
open PySem PySem.Builtin PySem.Builtin.ObjectAttr
variable{prog:Program}{E:Value->Shared->Prop}{od:Option Obj}{vs:Array Value}{Q:Unit->Shared->Prop}
def xR:Slot "BaseException" "__getattribute__" "BaseException.__getattribute__":=
 .of (owner:="BaseException") (n:="__getattribute__") (by rw[typeLookup_type,builtinLookup_eq_fast];kernel_rfl) (by decide+kernel) (by decide+kernel) (by decide+kernel)
  (by first| exact .inl (by decide+kernel)| exact .inr (by decide+kernel)) (by rw[isSubtype_type];kernel_rfl)
def DL:entryFor table "BaseException.__getattribute__"=some Builtin.«object.__getattribute__»:=entryFor_alias (id':="object.__getattribute__") (by rw[fastTable_eq_tree];kernel_rfl) (by decide+kernel) (by decide+kernel) (by rw[fastTable_eq_tree];kernel_rfl)
def GB(a b:Value):argsOk "BaseException.__getattribute__" ⟨[a,b],[]⟩:=by unfold argsOk;kernel_rfl
def oU(l:List Value):Bool:=l==[.type "ValueError",.type "Exception",.type "BaseException",.type "object"]
def ve:List Value->Bool
 | .ref c::r=>oU (.ref c::r)|| ve r
 | l=>oU l
def nW(self:Value){l:List Value}(e:oU l=true):refuseLoop self "__setattr__" l=pure Unit.unit:=by rw[aa8.mp e];exact PySem.F.store_ValueError.passes self
def rm(self:Value):∀(l:List Value),ve l=true->refuseLoop self "__setattr__" l=pure Unit.unit
 | [],e=>nW self e
 | v::r,e=>by
  cases v with
  | ref c=>
   rw[refuseLoop_ref];rcases(Bool.or_eq_true _ _).mp e with z| z
   ·exact absurd z (by unfold oU;simp)
   ·exact rm self r z
  | _=>exact nW self e
section
variable{w:World}{A:Around}{s:Shared}{K:Frag}{x C:Addr}{ox:Obj}{name:Str}{v:Value}
def VH{expr:Bool}{Q:Value->Shared->Prop}(X:K.In s.heap)(I:InstAt s.heap x ox C od)(Vy:findIn K (.ref C) "__getattribute__"=some (some (.builtin "BaseException.__getattribute__")))(hk:findIn K (.ref C) "__getattr__"=some none)
  (hi:subIn K (.ref C) (.type "BaseException")=some true) (hf:findObj K C od name=some (.value v)) (hh:handedIn v=true) (h:Q v {s with toks:=s.toks+1}):wpAny (model prog w) A (getAttr (.ref x) name expr) Q E s:=by
 have L0:=I.type (M:=model prog w);refine aab (wpAny_mkText (wpAny_holding (aab (L0 _ _ _ _ (λ_ _ e=>e) (aab (looks_findIn X Vy _ _ _ _ (λ_ _ e=>e) ?_))))));dsimp only;rw[show(onTheHeap (Value.ref C)&&Value.builtin "BaseException.__getattribute__"==Value.builtin "object.__getattribute__")=false from by rw[show(Value.builtin "BaseException.__getattribute__"==Value.builtin "object.__getattribute__")=false from by decide+kernel,abB],aay @_];have hb:Looks (model prog w) s.heap (hookBefore (.ref C)) none:=looks_hook X (mc:=.ref C) hk;refine aab (hb _ _ _ _ (λ_ _ e=>e) (aab (wpAny_attempt (wpAny_holding ?_))));unfold callGetattribute;rw[show(expr&&onTheHeap (Value.builtin "BaseException.__getattribute__"))=false from abB _,aay @_];unfold boundAndCalled;rw[xR.bind];refine aab (aar ?_);show wpAny _ _ (call (.builtin "BaseException.__getattribute__") [.ref x,.str name s.toks]) _ _ _;refine wpAny_call ?_;refine codeAny_call_builtin xR.plain DL ?_;refine@check_slot (model prog w) _ _ {s with toks:=s.toks+1} "BaseException.__getattribute__" "BaseException" "__getattribute__" (.ref x) [.str name s.toks] [] _ (by decide+kernel) (by decide+kernel) (L0.andThen (looks_subIn X hi)) (GB (.ref x) (.str name s.toks)) ?_;have L1:=looks_find (M:=model prog w) X I hf;unfold Builtin.«object.__getattribute__»;refine aab (aar ?_);refine aab (aar (aab (L0.here (s:={s with toks:=s.toks+1}) (aab (L1.here (s:={s with toks:=s.toks+1}) ?_)))));refine aar ?_;show wpAny _ _ (handedOut v) _ _ _;rw[handedOut_of hh];exact aar h
end
section
variable{w:World}{A:Around}{s:Shared}{K:Frag}{x C:Addr}{ox:Obj}{name:Str}{v:Value}{R:Result->Shared->Prop}
def lJ(K:Frag)(C:Addr):Bool:=(clsIn K C).any λcd=>ve cd.mro&&cd.mro.contains (.type "object")&& !cd.mro.isEmpty&&cd.hasDict
def QY{tk:Tok}(X:K.In s.heap)(I:InstAt s.heap x ox C od)(hp:lJ K C=true)(ht:takerIn K C name=some none)
  (h:∀b cd,clsIn K C=some cd->cd.hasDict=true->wpAny (model prog w) A.in1 (storeInOwnDict (.ref x) (.ref C) (.str name tk) name v b)
   (λfin s'=>match fin with| .done f=>R (.ok f) s'| .again c'=>c'.quiet=true/\codeAny (model prog w) A c' R s') (λe s'=>R (.error e) s') s):
  codeAny (model prog w) A (.call (.builtin "object.__setattr__") ⟨[.ref x,.str name tk,v],[]⟩) R s:=by
 have SF:=PySem.F.store_object;have⟨cd,hc,ho⟩:=any_some hp;rw[aaz,aaz,aaz]at ho;have⟨⟨⟨ho,h2⟩,h3⟩,h4⟩:=ho;have ne:cd.mro.isEmpty=false:=by simpa using h3
 have sub:Looks (model prog w) s.heap (isInstance (.ref x) (.type "object")) true:=I.type.andThen (looks_mroIn X (by unfold mroIn;rw[hc,Option.bind_some,if_neg (by rw[ne];decide),h2]));refine codeAny_call_builtin SF.slot.plain SF.entry (@check_slot (model prog w) _ _ s "object.__setattr__" "object" "__setattr__" (.ref x) [.str name tk,v] [] _ SF.kind SF.split sub (SF.args (.ref x) (.str name tk) v) ?_);have⟨attr,ha,hr⟩:=Option.bind_eq_some_iff.mp ht;have hm:Looks (model prog w) s.heap (mroOf (.ref C)) cd.mro:=(looks_clsIn X hc).andThen .now;have L3:Looks (model prog w) s.heap (storeTaker? attr) none:=by
  cases attr with
  | none=>exact .now
  | some a=>
   have⟨b,hb,e⟩:=Option.map_eq_some_iff.mp hr;refine(looks_takesIn X hb).andThen ?_;cases b
   ·exact .now
   ·cases e
 rw[osa_eq,refuse_eq];refine aab (aab (I.type.here (aab (hm.here ?_))));rw[rm _ _ ho];refine aar (aab (I.type.here (aab ((looks_findIn X ha).here (aab (L3.here ?_))))));exact h _ cd hc h4
abbrev dQ(C:Addr)(od:Option Addr)(vs:Array Value):Obj:={cls:=.ref C,dict:=od,data:=.fields vs}
def Qk(X:K.In s.heap)(hx:s.heap.get? x=some (dQ C none vs))
  (hs:findIn K (.ref C) "__setattr__"=some (some (.builtin "object.__setattr__"))) (hp:lJ K C=true) (ht:takerIn K C name=some none)
  (h:∀h' dx,s.heap.get? dx=none->dx≠x->(∀b o,b≠x->s.heap.get? b=some o->h'.get? b=some o)->h'.get? x=some (dQ C (some dx) vs)->h'.Ns1 dx (λy=>if y=name then some v else none)->Q Unit.unit {s with heap:=h',toks:=s.toks+2}):
  wpAny (model prog w) A (setAttr (.ref x) name v) Q E s:=by
 have I:InstAt s.heap x (dQ C none vs) C none:=⟨hx,rfl,rfl,trivial⟩;refine set_plain X I hs (QY (s:={s with toks:=s.toks+1}) X I hp ht λb cd hc uv=>?_);refine aab (aar (aab ?_));show wpAny _ _ (instanceDict x true) _ _ _;unfold instanceDict;refine aab (wpAny_loadPart hx ?_);dsimp only;refine aab (Looks.here (s:={s with toks:=s.toks+1}) (looks_clsIn X hc) ?_);rw[uv,if_neg @_,if_neg (by simp[typeHasDict])];have L6:(s.heap.push {cls:=.type "dict",data:=.dict #[]}).get? x=some (dQ C none vs):=aad _ hx;have Um:x≠s.heap.objs.size:=aaH (aan hx);refine aab (wpAny_alloc' ?_);refine aab (wpAny_update' L6 ?_);refine aar ?_
 have XE:((s.heap.push {cls:=.type "dict",data:=.dict #[]}).update x λo=>{cls:=o.cls,dict:=some s.heap.objs.size,data:=o.data,slots:=o.slots}).get? s.heap.objs.size
   =some {cls:=.type "dict",data:=.dict #[]}:=
  (Heap.get?_update_ne _ _ _ _ Um.symm).trans (Heap.get?_push_at rfl rfl)
 have ZA:((s.heap.push {cls:=.type "dict",data:=.dict #[]}).update x λo=>{cls:=o.cls,dict:=some s.heap.objs.size,data:=o.data,slots:=o.slots}).Ns s.heap.objs.size (λ_=>none):=
  ⟨_,#[],_,XE,rfl,λe he=>absurd he (by simp),λ_=>rfl⟩
 show wpAny _ _ (storeInDict s.heap.objs.size (.str name s.toks) name v) _ _ _;unfold storeInDict newKeyGuard;refine aab (aar (aab (wpAny_nsSet1 (Heap.Ns1.of_empty ZA) λh' oz hs=>?_)));have⟨oD,Xg,Wj,P5,Qz,Oa⟩:=oz.count (Within.cons name v Within.nil);refine aab (wpAny_lookBehind P5 (by rw[Qz];exact pastItsLine_dict (aaD Oa (by rw[aat,List.length_nil,sizeLine_eq];omega))) ?_);refine aar (h h' s.heap.objs.size (Heap.get?_none_of_le (aaq _)) Um.symm (λb ob Yy hb=>?_) ?_ oz)
 ·exact(hs.2 b (aaH (aan hb))).trans ((Heap.get?_update_ne _ _ _ _ Yy).trans (aad _ hb))
 ·exact(hs.2 x Um).trans (Heap.get?_update_self _ L6 rfl)
def RD{dx:Addr}{mA:Str->Option Value}{ns:List Str}(X:K.In s.heap)(hx:s.heap.get? x=some (dQ C (some dx) vs))(jZ:dx≠x)(BM:s.heap.Ns1 dx mA)(hw:Within mA ns)(hsz:ns.length<=1000)
  (hs:findIn K (.ref C) "__setattr__"=some (some (.builtin "object.__setattr__"))) (hp:lJ K C=true) (ht:takerIn K C name=some none)
  (h:∀h',(∀b o,b≠dx->s.heap.get? b=some o->h'.get? b=some o)->h'.Ns1 dx (λy=>if y=name then some v else mA y)->Q Unit.unit {s with heap:=h',toks:=s.toks+2}):
  wpAny (model prog w) A (setAttr (.ref x) name v) Q E s:=by
 have⟨o0,_,_,ho0,_⟩:=id BM;have I:InstAt s.heap x (dQ C (some dx) vs) C (some o0):=⟨hx,rfl,rfl,ho0⟩;refine set_plain X I hs (QY (s:={s with toks:=s.toks+1}) X I hp ht λb cd hc uv=>?_);refine aab (aar (aab ?_));show wpAny _ _ (instanceDict x true) _ _ _;unfold instanceDict;refine aab (wpAny_loadPart hx ?_);dsimp only;refine aab (Looks.here (s:={s with toks:=s.toks+1}) (looks_clsIn X hc) ?_);rw[uv,aay @_];refine aar ?_;show wpAny _ _ (storeInDict dx (.str name s.toks) name v) _ _ _;unfold storeInDict newKeyGuard;refine aab (aar (aab (wpAny_nsSet1 (s:={s with toks:=s.toks+1}) BM λh' oz hs=>?_)));have⟨oD,Xg,Wj,P5,Qz,Oa⟩:=oz.count (Within.cons name v hw);refine aab (wpAny_lookBehind P5 (by rw[Qz];exact pastItsLine_dict (aaD Oa (by rw[aat,sizeLine_eq];omega))) ?_);exact aar (h h' (λb ob hb e=>(hs.2 b hb).trans e) oz)
end
end PySem.W
namespace PySem
open Sem (wp)
section
variable{M:Model}{A:Around}{E:Value->Shared->Prop}{env:Env}
variable{nm q:Str}{C N:Addr}{bs bm:List Value}{hdct:Bool}{sn:List Str}{sub:List Value}{ab:Bool}{col:Option Bool}{dd:Option Addr}{k0 k1 k2 k3 k5:Option Value}{newId:String}
def kJ{s:Shared}{x:Sem Value}{Q:Flow->Shared->Prop}(cE:bm.contains (.type "BaseException")=true)(hh:A.handled=none)
  (h:wpAny M A x (λv s₁=>∃e od vs,v= .ref e/\s₁.heap.get? C=some (excClassObj nm q C N bs bm hdct sn sub ab col dd k0 k1 k2 k3 k5 newId)/\
   s₁.heap.get? e=some (PySem.W.dQ C od vs)/\vs[1]? =some .none/\E (.ref e) s₁) E s):
  wpAny M A (raiseStmt env (some x) none) Q E s:=by
 have XY:(Value.ref C::bm).contains (.type "BaseException")=true:=by rw[List.contains_cons,cE,Bool.or_true]
 unfold raiseStmt;refine aab (aaW h (λv s₁ h₁=>?_) λ_ _ x=>x);have⟨e,od,vs,rfl,hC,he,h1,hE⟩:=h₁;have⟨hp,g,d,tk,os⟩:=s₁
 repeat (first| with_reducible refine wpAny_field he rfl h1 ?_| with_reducible refine wpAny_loadPart_at he ?_| with_reducible refine wpAny_loadPart_at hC ?_| (with_reducible refine wpAny_isSubtype_exc hC ?_;rw[XY])| wp_step)
 exact wpAny_raiseNew_none hh hE
end
section
variable{prog:Program}{w:World}{A:Around}{E:Value->Shared->Prop}{s:Shared}{env:Env}
variable{nm q:Str}{C N fI:Addr}{bs bm gk:List Value}{hdct:Bool}{sn:List Str}{sub:List Value}{ab:Bool}{col:Option Bool}{dd:Option Addr}{k0 k1 k2 k3 k5:Option Value}{B newId aP:String}
def xT(F:ExcBaseFacts B newId aP gk){mN:Str->Option Value}{x:Str}{np af pos:Pos}{args:List Expr}{Q:Flow->Shared->Prop}
  (cE:bm.contains (.type "BaseException")=true) (hh:A.handled=none) (cf:(backTo af (starEach args env)).any (·.1)=false) (hi:mN "__init__"=some (.ref fI))
  (h :wpAny (model prog w) A (eval (.Name x np) env) (λf s₁=>f= .ref C/\wpAny (model prog w) A (evalArgs (.ref C) true (backTo af (starEach args env)) [])
   (λa s₂=>a.kw=[]/\a.pos.length<=sizeLine/\s₂.heap.get? C=some (excClassObj nm q C N bs bm hdct sn sub ab col dd k0 k1 k2 k3 k5 newId)/\s₂.heap.Ns N mN/\OwnTail s₂.heap gk bm/\(∃oI,s₂.heap.get? fI=some oI/\oI.cls= .type "function")/\
    ∀h' e,Heap.MadeExcOf s₂.heap h' e (.ref C) a.pos->wpAny (model prog w) (A.under (.builtin "type.__call__" ⟨.ref C::a.pos,[]⟩)) (call (.ref fI) (.ref e::a.pos))
     (λr s'=>r= .none/\s'.heap.get? C=some (excClassObj nm q C N bs bm hdct sn sub ab col dd k0 k1 k2 k3 k5 newId)/\∃od vs,s'.heap.get? e=some (PySem.W.dQ C od vs)/\vs[1]? =some .none/\E (.ref e) s') E {s₂ with heap:=h'}) E s₁) E s):
  wpAny (model prog w) A (exec (.Raise (some (.Call (.Name x np) args [] af)) none pos) env) Q E s:=by
 rw[arm_exec_Raise]
 first
  | refine aab (wpAny_standAt (kJ (C:=C) (nm:=nm) (q:=q) (N:=N) (bs:=bs) (bm:=bm) (hdct:=hdct) (sn:=sn) (sub:=sub) (ab:=ab) (col:=col) (dd:=dd) (k0:=k0) (k1:=k1) (k2:=k2) (k3:=k3) (k5:=k5) (newId:=newId) cE hh (aab (aaW (wpAny_Call_ofName (aaW h (λf s₁ h₁=>?_) λ_ _ x=>x)) (λv s₃ h₃=>aab (wpAny_standAt (aar h₃))) λ_ _ x=>x))))
  | (simp only[evalOpt,Option.map];refine wpAny_bind (wpAny_standAt (kJ (C:=C) (nm:=nm) (q:=q) (N:=N) (bs:=bs) (bm:=bm) (hdct:=hdct) (sn:=sn) (sub:=sub) (ab:=ab) (col:=col) (dd:=dd) (k0:=k0) (k1:=k1) (k2:=k2) (k3:=k3) (k5:=k5) (newId:=newId) cE hh (wpAny_bind (wpAny_mono (wpAny_Call_ofName (wpAny_mono h (λf s₁ h₁=>?_) λ_ _ x=>x)) (λv s₃ h₃=>wpAny_bind (wpAny_standAt (wpAny_pure h₃))) λ_ _ x=>x)))))
  | (refine aab (wpAny_standAt (kJ (C:=C) (nm:=nm) (q:=q) (N:=N) (bs:=bs) (bm:=bm) (hdct:=hdct) (sn:=sn) (sub:=sub) (ab:=ab) (col:=col) (dd:=dd) (k0:=k0) (k1:=k1) (k2:=k2) (k3:=k3) (k5:=k5) (newId:=newId) cE hh ?_));refine aab (aaW (wpAny_Call_ofName (aaW h (λf s₁ h₁=>?_) λ_ _ x=>x)) (λv s₃ h₃=>aab (wpAny_standAt (aar h₃))) λ_ _ x=>x))
 have⟨rfl,h₁⟩:=h₁;unfold callWith;refine aab (wpAny_holding (aaW h₁ (λa s₂ h₂=>aab (wpAny_standAt ?_)) λ_ _ x=>x));have⟨apos,Zq⟩:=a;have⟨Z3,hlen,hC,hn,T,⟨oI,Qf,PF⟩,h₂⟩:=h₂;obtain rfl:Zq=[]:=Z3;have⟨hp,g,d,tk,os⟩:=s₂;simp only[cf];refine aab (wpAny_keeperOf_exc hC ?_);refine aab (zT (hrest:=hlen) F T hC hn hi Qf PF λh' e hm=>aaW (h₂ h' e hm) (λr s' hr=>?_) λ_ _ x=>x);have⟨rfl,Zx,od,vs,he,h1,hE⟩:=hr;exact⟨rfl,aab (wpAny_holding (wpAny_point (aar ⟨e,od,vs,rfl,Zx,he,h1,hE⟩)))⟩
end
end PySem
namespace L2
open PySem PySem.Spec PyProof.Rows
variable{h:Heap}{C:Addr}{od:Option Addr}{X:Cx}{δ:List (Addr×Obj)}{gk:List Value}{newId:String}
def xO(a C:Addr)(od:Option Addr):HO:=.ext λh=>∃ob vs,h.get? a=some ob/\ob.cls= .ref C/\ob.dict=od/\ob.data= .fields vs
def xN(a C:Addr)(od:Option Addr):HO:=.ext λh=>∃(vs:Array Value) (t0:Addr),h.get? a=some (PySem.W.dQ C od vs)/\vs[0]? =some (.ref t0)/\vs[1]? =some .none/\vs[2]? =some .none
section
variable{P:Program}{w:World}{H:Hp}{a:Addr}
def Gm{vs:Array Value}{t0:Addr}(e:h.get? a=some (PySem.W.dQ C od vs))(h0:vs[0]? =some (.ref t0))(h1:vs[1]? =some .none)(h2:vs[2]? =some .none):aA P w H h a (xN a C od):=
 ⟨⟨vs,t0,e,h0,h1,h2⟩,⟨_,e⟩,λg1 g2 ⟨vs,t0,e,h0,h1,h2⟩ k=>⟨vs,t0,k _ e,h0,h1,h2⟩⟩
def Bi(x:iE P w H h)(e:H a=some (xN a C od)):∃(vs:Array Value) (t0:Addr),h.get? a=some (PySem.W.dQ C od vs)/\vs[0]? =some (.ref t0)/\vs[1]? =some .none/\vs[2]? =some .none:=(x a _ e).1
def iE.aS{P:Program}{w:World}{H:Hp}{a:Addr}(x:iE P w H h)(e:h.get? a=none):H a=none:=by
 cases q:H a with
 | none=>rfl
 | some u=>
  have⟨ob,z⟩:=aA.here (x a u q);rw[e]at z;cases z
end
def Ip(x:Addr)(H:Hp):Hp:=λb=>if b=x then none else H b
def qk{x:Addr}{H:Hp}:Ip x H x=none:=by unfold Ip;rw[if_pos rfl]
def cV{x b:Addr}{H:Hp}(h:b≠x):Ip x H b=H b:=by unfold Ip;rw[if_neg h]
section
variable{σ:St}{H:Hp}{s:Shared}{a x dx:Addr}{o:HO}{h':Heap}
def Inv.P6(I:Inv X δ σ H s)(hn:H a=none)(h0:X.s₀.heap.get? a=none)(hl:X.env.locals≠a)(hc:∀z c,X.env.cells.lookup z=some c->c≠a)(hp:∀p∈X.pn++δ,p.1≠a)(new:aA X.prog X.w (upd H a o) s.heap a o):Inv X δ σ (upd H a o) s:=by
 refine⟨I.ok,I.os,I.bare,⟨I.base.keep,I.base.slot,λb u q n hx=>?_,I.base.there,λb xs q=>?_,λb u xs q=>?_,λb ps q=>?_⟩,I.loc,I.cell,?_,λz c q=>?_,λp q=>?_,λb u e=>?_,I.len⟩
 ·rw[ξ (λz=>by rw[z,h0]at q;cases q)];exact I.base.free b u q n hx
 ·have:=I.base.jj b xs q;rw[ξ (aw this hn)];exact this
 ·have:=I.base.iA b u xs q;rw[ξ (aw this hn)];exact this
 ·have⟨m,e⟩:=I.base.iN b ps q;exact⟨m,by rw[ξ (aw e hn)];exact e⟩
 ·rw[ξ hl];exact I.free
 ·rw[ξ (hc z c q)];exact I.cX z c q
 ·have⟨e,n,r⟩:=I.pin p q;exact⟨e,by rw[ξ (hp p q)];exact n,r⟩
 ·by_cases hb:b=a
  ·subst hb;rw[Η]at e;cases e;exact new
  ·rw[ξ hb]at e;exact(I.av b u e).oq (λc v _ q=>q) (λc q=>by rw[ξ (aw q hn)];exact q) λc xs q=>by rw[ξ (aw q hn)];exact q
def Inv.GS{s1:Shared}{H1:Hp}{σ1:St}(I1:Inv X δ σ1 H1 s1)(hex:X.ex=[])(hg:s1.heap.get? a=none)(I:Inv X δ σ H s)(hn:H a=none)(new:aA X.prog X.w (upd H a o) s.heap a o):Inv X δ σ (upd H a o) s:=by
 have no:∀b u,s1.heap.get? b=some u->b≠a:=λb u q z=>by rw[z,hg]at q;cases q
 refine I.P6 hn ?_ ?_ (λz c q=>?_) (λp q=>?_) new
 ·cases q:X.s₀.heap.get? a with
  | none=>rfl
  | some u=>
   have⟨u',e1⟩:=I1.base.there a u q (by rw[hex];simp);rw[hg]at e1;cases e1
 ·have⟨m,⟨ob,_,_,e,_⟩,_⟩:=I1.loc;exact no _ _ e
 ·have⟨v,ob,e,_⟩:=I1.cell z c q;exact no _ _ e
 ·exact no _ _ (I1.pin p q).1
def Inv.drop{φ:Heap->Prop}(I:Inv X δ σ H s)(e:H x=some (.ext φ)):Inv X δ σ (Ip x H) s:=by
 have nx:∀b u,H b=some u->(∀ψ,u≠ .ext ψ)->b≠x:=λb u q nu z=>by rw[z,e]at q;cases q;exact nu _ rfl
 refine⟨I.ok,I.os,I.bare,⟨I.base.keep,I.base.slot,λb u q n hx=>?_,I.base.there,λb xs q=>?_,λb u xs q=>?_,λb ps q=>?_⟩,I.loc,I.cell,?_,λz c q=>?_,λp q=>?_,λb u q=>?_,I.len⟩
 ·by_cases hb:b=x
  ·rw[hb,qk]
  ·rw[cV hb];exact I.base.free b u q n hx
 ·have:=I.base.jj b xs q;rw[cV (nx b _ this λ_ z=>nomatch z)];exact this
 ·have:=I.base.iA b u xs q;rw[cV (nx b _ this λ_ z=>nomatch z)];exact this
 ·have⟨m,z⟩:=I.base.iN b ps q;exact⟨m,by rw[cV (nx b _ z λ_ y=>nomatch y)];exact z⟩
 ·rw[cV λz=>by have:=I.free;rw[z,e]at this;cases this];exact I.free
 ·have:=I.cX z c q;rw[cV λy=>by rw[y,e]at this;cases this];exact this
 ·have⟨e1,n,r⟩:=I.pin p q;exact⟨e1,by rw[cV λy=>by rw[y,e]at n;cases n];exact n,r⟩
 ·by_cases hb:b=x
  ·rw[hb,qk]at q;cases q
  ·rw[cV hb]at q;exact(I.av b u q).oq (λc v _ z=>z) (λc z=>by rw[cV (nx c _ z λ_ y=>nomatch y)];exact z) λc xs z=>by rw[cV (nx c _ z λ_ y=>nomatch y)];exact z
end
def y6 (K:gV) (C:Addr) (gk:List Value) (newId:String) (fI:Addr):Bool:=
 match List.lookup C K with
 | some {cls:=Value.type "type",dict:=_,data:=Data.cls cd,slots:=sl}=>
  match cd.mro,sl.toList with
  | Value.ref C'::bm,[_,_,_,_,some (Value.builtin n),_]=>
   C'==C&&n==newId&& !cd.hasDel&&PySem.W.tailIn K gk bm&&PySem.W.nsOkIn K cd.ns&&
    PySem.W.nsIn K cd.ns "__init__"==some (some (.ref fI))
  | _,_=>false
 | _=>false
def yR{K:gV}{N:Addr}{mg:Str->Option Value}{n:Str}{v:Value}(X:K.In h)(G:h.Ns N mg)(e:PySem.W.nsIn K N n=some (some v)):mg n=some v:=by
 have⟨o,es,ep,ho,hd,_,hf⟩:=G;unfold PySem.W.nsIn at e;split at e
 ·rename_i c d SQ n' sl q;have:=X _ _ q;rw[ho]at this;cases this;cases hd;split at e
  ·rename_i he;cases e;rw[<-hf];unfold nsFind findBy;rw[<-Array.find?_toList,he];rfl
  ·split at e <;> cases e
 ·cases e
structure eR(K:gV)(C:Addr)(gk:List Value)(newId:String)(fI:Addr):Prop where
 ok:y6 K C gk newId fI=true
 fn:PySem.W.isFn K (.ref fI)=true
 sa:PySem.W.findIn K (.ref C) "__setattr__"=some (some (.builtin "object.__setattr__"))
 over:PySem.W.lJ K C=true
def eR.obj{K:gV}{fI:Addr}{h0:Heap}(c:eR K C gk newId fI)(X0:K.In h0):
  ∃bm N nm q bs hdct sn sub ab col dd k0 k1 k2 k3 k5 mN,mN ("__init__":Str)=some (.ref fI)/\
   ∀h:Heap,K.In h->h.get? C=some (excClassObj nm q C N bs bm hdct sn sub ab col dd k0 k1 k2 k3 k5 newId)/\h.Ns N mN/\OwnTail h gk bm:=by
 have q:=c.ok;unfold y6 at q;split at q
 ·rename_i dd cd sl ho;split at q
  ·rename_i C' bm k0 k1 k2 k3 n k5 hm hs;rw[aaz,aaz,aaz,aaz,aaz]at q;have⟨⟨⟨⟨⟨q1,q2⟩,q3⟩,q4⟩,q5⟩,q6⟩:=q;cases aa8.mp q1;cases aa8.mp q2;have q3:cd.hasDel=false:=by simpa using q3
   have Mv:sl= #[k0,k1,k2,k3,some (.builtin newId),k5]:=by cases sl with| mk l=>exact aaN Array.mk hs
   have⟨c1,c2,c3,c4,c5,c6,c7,c8,c9,As,zF⟩:=cd;cases(show c3=_ from hm);cases(show zF=_ from q3);subst Mv;refine⟨bm,c4,c1,c5,c2,c6,c7,c8,c9,As,dd,k0,k1,k2,k3,k5,h0.nsMap c4,yR X0 (.of_isNs (PySem.W.isNs_of_in X0 q5)) (aa8.mp q6),λh X=>⟨X _ _ ho,?_,PySem.W.tail_of_in X q4⟩⟩;exact Bf q5 X0 X (.of_isNs (PySem.W.isNs_of_in X0 q5))
  ·cases q
 ·cases q
structure AN(K:gV)(D:Addr)(aP:String):Prop where
 sp:PySem.W.specialIn K (.ref D) "__getattribute__"=some (some (.builtin "type.__getattribute__"))
 rd:PySem.W.readsIn K D (.type "type")=true
 fd:PySem.W.findCls K (.ref D) (.type "type") "__init__"=some (.val (.builtin aP))
 hi:PySem.W.handedIn (.builtin aP)=true
def tBI(C:Addr)(t:TA):TE:=λσ H Q=>t σ H λvs H1=>∃x y od,vs=[.ref x,y]/\H1 x=some (xN x C od)/\Q .aS H1
section
variable{D fI:Addr}{t:TA}{te ta:TE}{Bn aP:String}{dn:Str}{p apos pos pos':Pos}{e1 e2 o value:Expr}{f:Str}
def Fg{pl:Sem Bool}(F:ExcBaseFacts Bn newId aP gk)(c:eR X.K C gk newId fI)(d:AN X.K D aP)(hg:Gl X dn)(hm:X.mg dn=some (.ref D))(ha:PA X [e1,e2] t)(ku:(dn==("__debug__":Str))=false:=by decide)
  (tD:starEach [e1,e2] X.env=(false,eval e1 X.env)::starEach [e2] X.env:=by rfl) (eB:(backTo pos (starEach [e2] X.env)).any (·.1)=false:=by rfl)
  (ht:eval (.Call (.Attribute (.Name dn p) "__init__" apos) [e1,e2] [] pos) X.env=(do
   let ov<-eval (.Name dn p) X.env
   standAt apos.atName
   let (f,first)<-holding [ov] (getMethod ov "__init__" pl)
   callWith pos f first (backTo pos (starEach [e1,e2] X.env)) (backToKw pos (keywordEach [] X.env))):=by rfl):
  PE X (.Call (.Attribute (.Name dn p) "__init__" apos) [e1,e2] [] pos) (tBI C t):=by
 intro δ s σ H Q I h;refine PySem.W.methodCall_KW (pl:=pl) (h8 I hg hm ?_ ku) ht;refine PySem.W.method_cls I.gp d.sp (PySem.W.cls_value I.gp d.rd d.fd d.hi ?_);have I0:=I.tok (s.toks+1);have h2:=ha pos δ _ σ H _ I0 h;show wpAny _ _ (callWith pos (.builtin aP) [] (backTo pos (starEach [e1,e2] X.env)) []) _ _ _;rw[tD]at h2⊢;refine Calls.callWith_builtin (by show(false|| (backTo pos (starEach [e2] X.env)).any (·.1))=false;rw[eB] <;> rfl) (Calls.evalArgs_plain ?_);refine aT h2 λus s2 xz=>?_;have⟨vs,H2,I2,r2,x,y,od,ev,hx,q⟩:=xz;subst ev;have⟨u1,u2,rfl,ru1,ru2⟩:=r2.two;cases ru1;have⟨bm,N,nm,q',bs,hdct,sn,sub,ab,col,dd,k0,k1,k2,k3,k5,mN,FN,Lv⟩:=c.obj I2.gp;have⟨g1,g2,g3⟩:=Lv _ I2.gp;have⟨ws,t0,IF,w0,w1,w2⟩:=Bi I2.av hx;have⟨hp,gg,dr,tk,os⟩:=s2;refine Af (rest:=[u2]) F g3 g1 IF rfl rfl w0 (λh' hk he=>?_) (by show 1<=sizeLine;decide);have I3:Inv X δ σ (upd H2 x (xN x C od)) {(⟨hp,gg,dr,tk,os⟩:Shared) with heap:=h',toks:=tk}:=by refine I2.write (x:=x) (e:=x) (by rw[hx];exact trivial) (.inl rfl) hk ⟨_,he⟩ ?_;have X8:h'.get? x=some (PySem.W.dQ C od (ws.setIfInBounds 0 (.ref hp.objs.size))):=he;have hz:0 < ws.size:=(aaT.mp w0).1;exact Gm X8 (t0:=hp.objs.size) (by simp[hz]) (by rw[Array.getElem?_setIfInBounds_ne @_];exact w1) (by rw[Array.getElem?_setIfInBounds_ne @_];exact w2)
 have eH:upd H2 x (xN x C od)=H2:=by
  funext b
  by_cases hb:b=x
  ·rw[hb,Η,hx]
  ·rw[ξ hb]
 rw[eH]at I3;exact⟨.aS,H2,I3,rfl,q⟩
def Inv.Ml{σ:St}{H:Hp}{s:Shared}{dx:Addr}{fs gs:List (Str×V)}{h':Heap}{t':Nat}(I:Inv X δ σ H s)(e:H dx=some (.xd fs))(k:∀b u,b≠dx->s.heap.get? b=some u->h'.get? b=some u)(LX:∃u,h'.get? dx=some u)
  (new:aA X.prog X.w (upd H dx (.xd gs)) h' dx (.xd gs)):Inv X δ σ (upd H dx (.xd gs)) {s with heap:=h',toks:=t'}:=by
 have nd:∀b,H b=none->b≠dx:=λb n z=>by rw[z,e]at n;cases n
 have nx:∀b u,H b=some u->(∀l,u≠ .xd l)->b≠dx:=λb u q nu z=>by rw[z,e]at q;cases q;exact nu _ rfl
 refine I.un ⟨λb u q n _ _=>k b u (nd b n) q,λb u q n _ _=>⟨u.slots,k b u (nd b n) q⟩,λb u q n _=>by rw[ξ (nd b n)];exact n,λb u q _=>?_,
  λb xs q=>by rw[ξ (nx b _ q λ_ z=>nomatch z)];exact q,λb u xs q=>by rw[ξ (nx b _ q λ_ z=>nomatch z)];exact q,λb ps q=>⟨#[],by rw[ξ (nx b _ q λ_ z=>nomatch z),q];simp⟩⟩ λb u q=>?_
 ·by_cases hb:b=dx
  ·rw[hb];exact LX
  ·exact⟨u,k b u hb q⟩
 ·by_cases hb:b=dx
  ·subst hb;rw[Η]at q;cases q;exact new
  ·rw[ξ hb]at q;refine(I.av b u q).oq (λc v hc z=>k c v ?_ z) (λc z=>by rw[ξ (nx c _ z λ_ y=>nomatch y)];exact z) λc xs z=>by rw[ξ (nx c _ z λ_ y=>nomatch y)];exact z
   rcases hc with hc| hc
   ·rw[hc];exact hb
   ·exact nx c _ hc λ_ y=>nomatch y
structure HK(K:gV)(C:Addr)(f:Str):Prop where
 at_:PySem.W.takerIn K C f=some none
def sXF(C:Addr)(f:Str)(to tv:TE):TS:=λD σ H=>tv σ H λy H1=>to σ H1 λu H2=>∃x,u= .ref x/\
 ((H2 x=some (xN x C none)/\∀dx,H2 dx=none->dx≠x->D.nx σ (upd (upd H2 x (xN x C (some dx))) dx (.xd [(f,y)])))\/
  (∃dx fs,H2 x=some (xN x C (some dx))/\dx≠x/\H2 dx=some (.xd fs)/\fs.length < 1000/\D.nx σ (upd H2 dx (.xd (fZ f y fs)))))
def Jx(hex:X.ex=[])(c:eR X.K C gk newId fI)(n:HK X.K C f)(ho:PE X o ta)(hv:PE X value te)(hs:swapsWith value (some (.Attribute o f pos')) pos.line X.env=pure false:=by rfl):PS X (.Assign [.Attribute o f pos'] value pos) (sXF C f ta te):=by
 intro δ s σ H D I h;refine plainObj_wpAny_Assign_Attribute (aT (hv δ s σ H _ I h) fun u s1 ⟨y,H1,I1,ry,q⟩=>aT (ho δ s1 σ H1 _ I1 q) λov s2 xz=>?_) hs;have⟨xv,H2,I2,rx,x,ex,q2⟩:=xz;subst ex;obtain rfl:ov=Value.ref x:=rx;rcases q2 with ⟨hx,q2⟩| ⟨dx,fs,hx,jZ,FX,hlen,q2⟩
 ·have⟨ws,t0,IF,w0,w1,w2⟩:=Bi I2.av hx;refine PySem.W.Qk I2.gp IF c.sa c.over n.at_ λh' dx hn jZ hk he BM=>?_;have Q8:H2 dx=none:=I2.av.aS hn;have I3:Inv X δ σ (upd H2 x (xN x C (some dx))) {s2 with heap:=h',toks:=s2.toks+2}:=I2.write (x:=x) (e:=x) (by rw[hx];exact trivial) (.inl rfl) hk ⟨_,he⟩ (Gm he w0 w1 w2);have ZL:upd H2 x (xN x C (some dx)) dx=none:=by rw[ξ jZ];exact Q8
  refine⟨σ,_,I2.GS (o:=.xd [(f,y)]) hex hn I3 ZL (show∃mA,h'.Ns1 dx mA/\∀g,gh (List.lookup g [(f,y)]) (mA g) from⟨_,BM,λg=>?_⟩),q2 dx Q8 jZ⟩;show gh (List.lookup g [(f,y)]) (if g=f then some u else none);by_cases hg:g=f
  ·subst hg;rw[aaB rfl];have:List.lookup g [(g,y)]=some y:=by rw[abh,abE]
   rw[this];exact ry
  ·rw[aay hg];have:List.lookup g [(f,y)]=none:=by rw[List.lookup_cons,show(g==f)=false by simpa using hg];rfl
   rw[this];trivial
 ·have⟨ws,t0,IF,w0,w1,w2⟩:=Bi I2.av hx;have⟨mA,BM,hr⟩:=(show aA X.prog X.w H2 s2.heap dx (.xd fs) from I2.av dx _ FX);have hw:PySem.Within mA (fs.map (·.1)):=λg hg=>by
   have:=hr g;cases hl:fs.lookup g with
   | none=>rw[hl]at this;cases hm:mA g with
    | none=>exact aaG hm hg
    | some z=>rw[hm]at this;exact this.elim
   | some v=>
    have:=PySem.mem_of_lookup hl;exact aah.mpr ⟨_,this,rfl⟩
  refine PySem.W.RD I2.gp IF jZ BM hw (by rw[aac];omega) c.sa c.over n.at_ λh' hk RY=>?_;refine⟨σ,_,I2.Ml FX hk (let ⟨ob,_,_,e,_⟩:=RY;⟨ob,e⟩) (show∃mA,h'.Ns1 dx mA/\∀g,gh ((fZ f y fs).lookup g) (mA g) from⟨_,RY,λg=>?_⟩),q2⟩;show gh ((fZ f y fs).lookup g) (if g=f then some u else mA g);rw[iI];by_cases q:g=f
  ·rw[aaB q,aaB q];exact ry
  ·rw[aay q,aay q];exact hr g
end
def Ju(C:Addr)(sp:Sp)(R:St->XK)(t:TA):TS:=λ_ σ H=>t σ H λvs H1=>vs.length<=sizeLine/\∀x,H1 x=none->
 sp (.ref x::vs) (upd H1 x (xN x C none)) (λv H2=>v= .aS/\∃od,H2 x=some (xN x C od)/\R σ (.ref C) od (Ip x H2)) E0
section
variable{fI:Addr}{R:St->XK}{t:TA}{Bn aP:String}{x:Str}{np af pos:Pos}{e:Expr}{es:List Expr}{k:Nat}{fd:FuncData}{ps:List Str}{sp:Sp}
def DW(hR:rq X R)(hc:X.calm=true)(hex:X.ex=[])(F:ExcBaseFacts Bn newId aP gk)(c:eR X.K C gk newId fI)(G:ay X.prog X.w X.K X.mg X.base (bP X.prog X.w) k fI fd ps sp)(hr:bp (k+1) X.A)(hb:fT X.K fd ps [])(hg:Gl X x)(hm:X.mg x=some (.ref C))(ha:PA X (e::es) t)
  (ku:(x==("__debug__":Str))=false:=by decide) (he:starEach (e::es) X.env=(false,eval e X.env)::starEach es X.env:=by rfl) (eB:(backTo af (starEach es X.env)).any (·.1)=false:=by rfl):
  PS X (.Raise (some (.Call (.Name x np) (e::es) [] af)) none pos) (Ju C sp R t):=by
 intro δ s σ H D I h;have⟨bm,N,nm,q,bs,hdct,sn,sub,ab,col,dd,k0,k1,k2,k3,k5,mN,FN,Lv⟩:=c.obj I.gp;refine xT (nm:=nm) (q:=q) (C:=C) (N:=N) (bs:=bs) (bm:=bm) (hdct:=hdct) (sn:=sn) (sub:=sub) (ab:=ab) (col:=col) (dd:=dd) (k0:=k0) (k1:=k1) (k2:=k2) (k3:=k3) (k5:=k5) F ((Lv _ I.gp).2.2.hasType F.hasBase) (I.ok.hd hc) (by rw[he];show(false|| (backTo af (starEach es X.env)).any (·.1))=false;rw[eB];rfl) FN (h8 I hg hm ⟨rfl,?_⟩ ku);have h2:=ha af δ s σ H _ I h;rw[he]at h2⊢;refine Calls.evalArgs_plain (aaW h2 (λus s2 z=>?_) λ_ _ y=>y);have⟨vs,H1,I1,r,hz,hq⟩:=z;have⟨g1,g2,g3⟩:=Lv _ I1.gp;have Rn:∃oI,s2.heap.get? fI=some oI/\oI.cls= .type "function":=by have q:PySem.W.typeIn X.K (.ref fI)=some (.type "function"):=aa8.mp c.fn;unfold PySem.W.typeIn at q;dsimp only at q;have⟨ob,ho,YH⟩:=Option.map_eq_some_iff.mp q;exact⟨ob,I1.gp _ _ ho,YH⟩
 refine⟨rfl,by rw[<-r.length];exact hz,g1,g2,g3,Rn,λh' e M=>?_⟩;have⟨t0,hx,_,_⟩:=M.there;have V_:H1 e=none:=I1.av.aS M.new;have I2:Inv X δ σ (upd H1 e (xN e C none)) {s2 with heap:=h'}:=I1.GS (o:=xN e C none) hex M.new (I1.kept (t':=s2.toks) M.keeps) V_ (Gm hx rfl rfl rfl);have C5:=hq e V_;have r2:Ψ (V.ref e::vs) (Value.ref e::us):=.cons rfl r;have hl:(Value.ref e::us).length=ps.length:=by rw[<-r2.length];exact G.len _ _ _ _ C5
 refine wpAny_call (codeAny_mono (G.run _ X.stack _ _ ⟨Value.ref e::us,[]⟩ (Value.ref e::us) _ _ E0 (hr.make C us []) (I2.MA.make C us []) (by have:=hb _ (Value.ref e::us) I2.gp (by rw[aaO];exact hl);rwa[aaO]at this) r2 C5) λrr s' eK=>?_);cases rr with
 | error er=>exact(gX (X:=X) δ σ _ _ er s' I2 eK:X.xe er s')
 | ok fl=>
  cases fl with
  | ret u=>
   have⟨v,H',I3,rv,ev,od,Sn,Zu⟩:=I2.after eK;subst ev;have⟨ws,t1,Ws,w0,w1,w2⟩:=Bi I3.av Sn;refine⟨rv,(Lv _ I3.gp).1,od,ws,Ws,w1,?_⟩;refine hR δ σ (Ip e H') s' e (PySem.W.dQ C od ws) ws (I3.drop Sn) Ws w1 w2 ?_ qk Zu;cases q0:X.s₀.heap.get? e with
   | none=>rfl
   | some u0=>
    have⟨u',e1⟩:=I1.base.there e u0 q0 (by rw[hex];simp);rw[M.new]at e1;cases e1
  | next=>exact False.elim eK
  | brk=>exact False.elim eK
  | cont=>exact False.elim eK
end
structure OP(K:gV)(C:Addr)(f:Str):Prop where
 no:PySem.W.findIn K (.ref C) f=some none
 hd:PySem.W.hasDictIn K C=true
def tXN(x:Addr)(f:Str)(od:Option Addr)(ta:TE):TE:=λσ H Q=>ta σ H λu H1=>∃dx fs v,u= .ref x/\od=some dx/\H1 dx=some (.xd fs)/\fs.lookup f=some v/\Q v H1
section
variable{e:Expr}{f:Str}{pos:Pos}{ta:TE}{x:Addr}
def G7(ex:tY X x C od)(ty:iu X.K C)(xa:OP X.K C f)(he:PE X e ta)(hb:attributeBase e f X.env (eval e X.env)=eval e X.env:=by rfl):PE X (.Attribute e f pos) (tXN x f od ta):=by intro δ s σ H Q I h;refine BJ hb (aT (he δ s σ H _ I h) λu s1 xz=>?_);have⟨xv,H1,I1,rx,dx,fs,v,eu,eo,hd,hl,q⟩:=xz;subst eu;obtain rfl:u=Value.ref x:=rx;have⟨⟨oc,odd,YS,z_⟩,vs,hp,_,h3,h4⟩:=ex;have h1:=(I1.pin _ (aa1 _ hp)).1;have⟨mA,BM,hr⟩:=(show aA X.prog X.w H1 s1.heap dx (.xd fs) from I1.av dx _ hd);have⟨od',ZD,YD⟩:=sO BM;have⟨w,hw,ue⟩:=gh.some_of (v:=v) (o:=mA f) (by rw[<-hl];exact hr f);cases(show oc= .ref C from h3);cases(show odd=some dx from h4.trans eo);have J:PySem.W.InstAt s1.heap x ⟨.ref C,some dx,.fields vs,z_⟩ C (some od'):=⟨h1,rfl,rfl,ZD⟩;exact PySem.W.VH I1.gp J ty.ga ty.gt ty.be (PySem.W.findObj_own xa.hd xa.no rfl (by rw[YD,hw])) (tw ue) ⟨v,H1,I1.tok _,ue,q⟩
end
inductive Dt where
 | aS
 | bl (b:Bool)
 | int (i:Int)
 | str (x:Str)
 | tup (xs:List Dt)
 | lst (xs:List Dt)
 | obj (C:Addr) (ns:List Str) (xs:List Dt)
 | loc (k:Nat)
 | ref (a:Addr)
 | ty (n:String)
 | oK (ns:List Int)
 | kt (xs:List Dt)
 | exc (C:Addr) (ns:List Str) (xs:List Dt)
 | Eo (x C:Addr) (od:Option Addr) (ns:List Str) (xs:List Dt)
inductive MO where
 | lst (xs:List Dt)
 | ins (C:Addr) (ns:List Str) (xs:List Dt)
 | rB (ks:List Key) (xs:List Dt)
 | raw (u:Addr->HO)
abbrev Ms:=List MO
abbrev En:=List (Option Dt)
mutual
def Den(K:gV)(G:Hp)(L:List Addr):Dt->V->Prop
 | .aS,v=>v= .aS
 | .bl b,v=>v= .bl b
 | .int i,v=>v= .int i
 | .str x,v=>v= .str x
 | .tup ds,v=>∃a vs,v= .ref a/\G a=some (.tup vs)/\Λ K G L ds vs
 | .lst ds,v=>∃a vs,v= .ref a/\G a=some (.lst vs)/\Λ K G L ds vs
 | .obj C ns ds,v=>∃a dx vs,v= .ref a/\G a=some (.ins C dx (ns.zip vs))/\ns.length=ds.length/\Λ K G L ds vs
 | .loc k,v=>∃a,v= .ref a/\L[k]? =some a
 | .ref a,v=>v= .ref a
 | .ty n,v=>v= .ty n
 | .oK ns,v=>∃a,v= .ref a/\fG K G a (ns.map V.int)
 | .kt ds,v=>∃a vs,v= .ref a/\jN K G a vs/\Λ K G L ds vs
 | .exc C ns ds,v=>∃a od vs,v= .ref a/\G a=some (xO a C od)/\((ns=[]/\od=none)\/∃dx,od=some dx/\G dx=some (.xd (ns.zip vs)))/\ns.length=ds.length/\Λ K G L ds vs
 | .Eo x _ od ns ds,v=>∃vs,v= .ref x/\((ns=[]/\od=none)\/∃dx,od=some dx/\G dx=some (.xd (ns.zip vs)))/\ns.length=ds.length/\Λ K G L ds vs
def Λ(K:gV)(G:Hp)(L:List Addr):List Dt->List V->Prop
 | [],vs=>vs=[]
 | d::ds,vs=>∃v r,vs=v::r/\Den K G L d v/\Λ K G L ds r
end
def Pre(L L':List Addr):Prop:=∃t,L'=L++t
def Pre.refl(L:List Addr):Pre L L:=⟨[],by simp⟩
def Pre.trans{a b c:List Addr}(h:Pre a b)(h':Pre b c):Pre a c:=by have⟨t,rfl⟩:=h;have⟨u,rfl⟩:=h';exact⟨t++u,by simp⟩
def Pre.get{a b:List Addr}(h:Pre a b){k:Nat}{x:Addr}(e:a[k]? =some x):b[k]? =some x:=by have⟨t,rfl⟩:=h;have hk:k < a.length:=(aai.mp e).1;rw[aav hk];exact e
def cT.rd{H H':Hp}{a:Addr}{u:HO}(e:cT H H')(h:Rd H a u):Rd H' a u:=by
 rcases h with h| ⟨o,h⟩
 ·exact .inl (e _ _ h)
 ·exact .inr ⟨o,e _ _ h⟩
def cT.M8{K:gV}{H H':Hp}{a:Addr}{xs:List V}(e:cT H H')(h:jN K H a xs):jN K H' a xs:=by
 rcases h with h| h
 ·exact .inl (e.rd h)
 ·exact .inr h
section
variable{K:gV}{G G':Hp}{L L':List Addr}
mutual
def Den.mono(g:cT G G')(l:Pre L L'):∀(d:Dt) (v:V),Den K G L d v->Den K G' L' d v
 | .aS,_,h=>h
 | .bl _,_,h=>h
 | .int _,_,h=>h
 | .str _,_,h=>h
 | .tup ds,_,⟨a,vs,e,h1,h2⟩=>⟨a,vs,e,g _ _ h1,Λ.mono g l ds vs h2⟩
 | .lst ds,_,⟨a,vs,e,h1,h2⟩=>⟨a,vs,e,g _ _ h1,Λ.mono g l ds vs h2⟩
 | .obj C ns ds,_,⟨a,dx,vs,e,h1,hn,h2⟩=>⟨a,dx,vs,e,g _ _ h1,hn,Λ.mono g l ds vs h2⟩
 | .loc k,_,⟨a,e,h1⟩=>⟨a,e,l.get h1⟩
 | .ref _,_,h=>h
 | .ty _,_,h=>h
 | .oK _,_,⟨a,e,h1⟩=>⟨a,e,g.seq h1⟩
 | .kt ds,_,⟨a,vs,e,h1,h2⟩=>⟨a,vs,e,g.M8 h1,Λ.mono g l ds vs h2⟩
 | .exc _ _ ds,_,⟨a,od,vs,e,h1,h2,h3,h4⟩=>⟨a,od,vs,e,g _ _ h1,h2.imp (λz=>z) (λ⟨dx,z1,z2⟩=>⟨dx,z1,g _ _ z2⟩),h3,Λ.mono g l ds vs h4⟩
 | .Eo _ _ _ _ ds,_,⟨vs,e,h2,h3,h4⟩=>⟨vs,e,h2.imp (λz=>z) (λ⟨dx,z1,z2⟩=>⟨dx,z1,g _ _ z2⟩),h3,Λ.mono g l ds vs h4⟩
def Λ.mono(g:cT G G')(l:Pre L L'):∀(ds:List Dt) (vs:List V),Λ K G L ds vs->Λ K G' L' ds vs
 | [],_,h=>h
 | d::ds,_,⟨v,r,e,h1,h2⟩=>⟨v,r,e,Den.mono g l d v h1,Λ.mono g l ds r h2⟩
end
def Λ.pair:∀{ds:List Dt} {vs:List V},Λ K G L ds vs->Paired (Den K G L) ds vs
 | [],_,h=>by have h:_=_:=h;subst h;exact .nil
 | d::ds,_,⟨v,r,e,h1,h2⟩=>by subst e;exact .cons h1 (Λ.pair h2)
def Λ.of:∀{ds:List Dt} {vs:List V},Paired (Den K G L) ds vs->Λ K G L ds vs
 | _,_,.nil=>rfl
 | _,_,.cons h t=>⟨_,_,rfl,h,Λ.of t⟩
end
section
variable{α β:Type}{F:α->β->Prop}
def B7:∀{xs:List α} {us:List β} {i:Nat} {x:α},Paired F xs us->xs[i]? =some x->∃u,us[i]? =some u/\F x u
 | _,_,_,_,.nil,e=>by simp at e
 | _,_,0,_,.cons r _,e=>by simp at e;subst e;exact⟨_,rfl,r⟩
 | _,_,i+1,x,.cons _ t,e=>by have⟨u,h1,h2⟩:=B7 (i:=i) (x:=x) t (by simpa using e);exact⟨u,by simpa using h1,h2⟩
def Ba{x:α}{u:β}(r:F x u):∀{xs:List α} {us:List β} (i:Nat),Paired F xs us->Paired F (xs.set i x) (us.set i u)
 | _,_,_,.nil=>.nil
 | _,_,0,.cons _ t=>.cons r t
 | _,_,i+1,.cons q t=>.cons q (Ba r i t)
def uZ:∀{xs ys:List α} {us ws:List β},Paired F xs us->Paired F ys ws->Paired F (xs++ys) (us++ws)
 | _,_,_,_,.nil,s=>s
 | _,_,_,_,.cons r t,s=>.cons r (uZ t s)
def pU:∀{xs:List α} {us:List β} (n:Nat),Paired F xs us->Paired F (xs.drop n) (us.drop n)
 | _,_,0,r=>r
 | _,_,_+1,.nil=>.nil
 | _,_,n+1,.cons _ t=>pU n t
def BW{xs:List α}{us:List β}(h:Paired F xs us):∀k:Nat,Paired F (List.replicate k xs).flatten (List.replicate k us).flatten
 | 0=>.nil
 | k+1=>by rw[aa5,aa5,abl,abl];exact uZ h (BW h k)
end
section
variable{K:gV}{G:Hp}{L:List Addr}
def Λ.length{ds:List Dt}{vs:List V}(h:Λ K G L ds vs):ds.length=vs.length:=Paired.length h.pair
def Λ.get{ds:List Dt}{vs:List V}{i:Nat}{d:Dt}(h:Λ K G L ds vs)(e:ds[i]? =some d):∃v,vs[i]? =some v/\Den K G L d v:=B7 h.pair e
def Λ.app{ds es:List Dt}{vs us:List V}(h:Λ K G L ds vs)(h':Λ K G L es us):Λ K G L (ds++es) (vs++us):=.of (uZ h.pair h'.pair)
def eV:∀{ns:List Int},Λ K G L (ns.map Dt.int) (ns.map V.int)
 | []=>rfl
 | n::ns=>⟨_,_,rfl,rfl,eV⟩
def aC{d:Dt}{vs:List V}(h:Λ K G L [d] vs):∃v,vs=[v]/\Den K G L d v:=by have⟨v,r,rfl,h1,h2⟩:=h;have h2:r=[]:=h2;subst h2;exact⟨v,rfl,h1⟩
def fi{d e:Dt}{vs:List V}(h:Λ K G L [d,e] vs):∃v u,vs=[v,u]/\Den K G L d v/\Den K G L e u:=by have⟨v,r,rfl,h1,h2⟩:=h;have⟨u,rfl,h3⟩:=aC h2;exact⟨v,u,rfl,h1,h3⟩
end
def Eb(K:gV)(G:Hp)(L:List Addr)(H:Hp)(a:Addr):MO->Prop
 | .lst ds=>∃vs,H a=some (.lst vs)/\Λ K G L ds vs
 | .ins C ns ds=>∃dx vs,H a=some (.ins C dx (ns.zip vs))/\ns.length=ds.length/\Λ K G L ds vs
 | .rB ks ds=>∃vs,H a=some (.dK (ks.zip vs))/\ks.length=ds.length/\Λ K G L ds vs
 | .raw u=>H a=some (u a)
structure Rl(K:gV)(G:Hp)(L:List Addr)(M:Ms)(H:Hp):Prop where
 sub:cT G H
 len:L.length=M.length
 nd:L.Nodup
 fF:∀(k:Nat) (a:Addr) (m:MO),L[k]? =some a->M[k]? =some m->G a=none/\Eb K G L H a m
structure Ex(G:Hp)(L:List Addr)(H:Hp)(G':Hp)(L':List Addr)(H':Hp):Prop where
 g:cT G G'
 l:Pre L L'
 fr:∀b,G b=none->H b≠none->G' b=none
 out:∀b o,H b=some o->b∉L->H' b=some o
 new:∀b∈L',b∈L\/H b=none
 sA:∀b,H b≠none->H' b≠none
def Ex.refl(G:Hp)(L:List Addr)(H:Hp):Ex G L H G L H:=⟨.refl _,.refl _,λ_ h _=>h,λ_ _ h _=>h,λ_ h=>.inl h,λ_ h=>h⟩
def Ex.trans{G:Hp}{L:List Addr}{H G1:Hp}{L1:List Addr}{H1 G2:Hp}{L2:List Addr}{H2:Hp}(a:Ex G L H G1 L1 H1)(b:Ex G1 L1 H1 G2 L2 H2):Ex G L H G2 L2 H2 where
 g:=a.g.trans b.g
 l:=a.l.trans b.l
 fr:=λx h1 h2=>b.fr x (a.fr x h1 h2) (a.sA x h2)
 out:=λx o h1 h2=>b.out x o (a.out x o h1 h2) λz=>(a.new x z).elim h2 λq=>by rw[h1]at q;cases q
 new:=λx h=>by
  rcases b.new x h with z| z
  ·exact a.new x z
  ·right;cases q:H x with
   | none=>rfl
   | some o=>exact absurd z (a.sA x (by rw[q];simp))
 sA:=λx h=>b.sA x (a.sA x h)
def Eb.there{K:gV}{G:Hp}{L:List Addr}{H:Hp}{a:Addr}{m:MO}(h:Eb K G L H a m):H a≠none:=by
 cases m with
 | lst ds=>have⟨vs,e,_⟩:=h;rw[e];simp
 | ins C ns ds=>have⟨dx,vs,e,_⟩:=h;rw[e];simp
 | rB ks ds=>have⟨vs,e,_⟩:=h;rw[e];simp
 | raw u=>have h:H a=some (u a):=h;rw[h];simp
def Eb.mono{K:gV}{G G':Hp}{L L':List Addr}{H H':Hp}{a:Addr}{m:MO}(g:cT G G')(l:Pre L L')(e:H' a=H a)(h:Eb K G L H a m):Eb K G' L' H' a m:=by
 cases m with
 | lst ds=>have⟨vs,e1,h⟩:=h;exact⟨vs,e.trans e1,Λ.mono g l _ _ h⟩
 | ins C ns ds=>have⟨dx,vs,e1,h0,h⟩:=h;exact⟨dx,vs,e.trans e1,h0,Λ.mono g l _ _ h⟩
 | rB ks ds=>have⟨vs,e1,h0,h⟩:=h;exact⟨vs,e.trans e1,h0,Λ.mono g l _ _ h⟩
 | raw u=>exact e.trans h
section
variable{K:gV}{G:Hp}{L:List Addr}{M:Ms}{H:Hp}{p:Addr}{o:HO}
def Rl.ux(r:Rl K G L M H){a:Addr}(h:a∈L):∃(k:Nat) (m:MO),L[k]? =some a/\M[k]? =some m/\G a=none/\Eb K G L H a m:=by
 have⟨k,hk,e⟩:=List.getElem_of_mem h;have e1:L[k]? =some a:=by rw[aaa hk,e]
 have e2:M[k]? =some (M[k]'(by rw[<-r.len];exact hk)):=aaa _;exact⟨k,_,e1,e2,r.fF k a _ e1 e2⟩
def Rl.DP(r:Rl K G L M H)(hp:H p=none):p∉L:=λz=>by have⟨k,m,_,_,_,h⟩:=r.ux z;exact h.there hp
def Rl.Nn(r:Rl K G L M H)(hp:H p=none):Rl K (upd G p o) L M (upd H p o) where
 sub:=λb u e=>by
  by_cases hb:b=p
  ·subst hb;rw[Η]at e⊢;exact e
  ·rw[ξ hb]at e⊢;exact r.sub b u e
 len:=r.len
 nd:=r.nd
 fF:=λk a m h1 h2=>by have⟨q1,q2⟩:=r.fF k a m h1 h2;have hb:a≠p:=λz=>q2.there (by rw[z];exact hp);exact⟨by rw[ξ hb];exact q1,q2.mono (λb u e=>by rw[ξ (λz=>by rw[z,r.sub.free hp]at e;cases e)];exact e) (.refl _) (ξ hb)⟩
def Rl.RN(r:Rl K G L M H)(hp:H p=none):Ex G L H (upd G p o) L (upd H p o) where
 g:=λb u e=>by rw[ξ (λz=>by rw[z,r.sub.free hp]at e;cases e)];exact e
 l:=.refl _
 fr:=λb h1 h2=>by rw[ξ (λz=>h2 (by rw[z];exact hp))];exact h1
 out:=λb u h1 _=>by rw[ξ (λz=>by rw[z,hp]at h1;cases h1)];exact h1
 new:=λb h=>.inl h
 sA:=λb h=>by rw[ξ (λz=>h (by rw[z];exact hp))];exact h
def Rl.NH{m:MO}(r:Rl K G L M H)(hp:H p=none)(hm:Eb K G (L++[p]) (upd H p o) p m):Rl K G (L++[p]) (M++[m]) (upd H p o) where
 sub:=λb u e=>by rw[ξ (λz=>by rw[z,r.sub.free hp]at e;cases e)];exact r.sub b u e
 len:=by rw[aae,aae,r.len];rfl
 nd:=List.nodup_append.mpr ⟨r.nd,by simp,λa ha b hb=>by
  have e:b=p:=by simpa using hb
  rw[e];exactλz=>r.DP hp (z▸ha)⟩
 fF:=λk a m' h1 h2=>by
  by_cases hk:k < L.length
  ·rw[aav hk]at h1;rw[aav (by rw[<-r.len];exact hk)]at h2;have⟨q1,q2⟩:=r.fF k a m' h1 h2;exact⟨q1,q2.mono (.refl _) ⟨[p],rfl⟩ (ξ λz=>q2.there (by rw[z];exact hp))⟩
  ·have e:k=L.length:=by have:=(aai.mp h1).1;rw[aae]at this;simp at this;omega
   rw[e,aaE (aaq _)]at h1;rw[e,r.len,aaE (aaq _)]at h2;simp at h1 h2;subst h1 h2;exact⟨r.sub.free hp,hm⟩
def Rl.Vh(r:Rl K G L M H)(hp:H p=none):Ex G L H G (L++[p]) (upd H p o) where
 g:=.refl _
 l:=⟨[p],rfl⟩
 fr:=λb h1 _=>h1
 out:=λb u h1 _=>by rw[ξ (λz=>by rw[z,hp]at h1;cases h1)];exact h1
 new:=λb h=>by
  rcases aaj.mp h with z| z
  ·exact .inl z
  ·have e:b=p:=by simpa using z
   right;rw[e];exact hp
 sA:=λb h=>by rw[ξ (λz=>h (by rw[z];exact hp))];exact h
def Rl.setM{k:Nat}{a:Addr}{m:MO}(r:Rl K G L M H)(hk:L[k]? =some a)(hm:Eb K G L (upd H a o) a m):Rl K G L (M.set k m) (upd H a o) where
 sub:=λb u e=>by have⟨k',m',e1,e2,q1,_⟩:=r.ux (aaA hk);rw[ξ (λz=>by rw[z,q1]at e;cases e)];exact r.sub b u e
 len:=by rw[aaY];exact r.len
 nd:=r.nd
 fF:=λk' a' m' h1 h2=>by
  by_cases e:k'=k
  ·subst e;rw[hk]at h1;cases h1;have hl:k' < M.length:=by rw[<-r.len];exact(aai.mp hk).1
   rw[aaS hl]at h2;cases h2;have⟨_,_,_,_,q1,_⟩:=r.ux (aaA hk);exact⟨q1,hm⟩
  ·rw[aaX (λz=>e z.symm)]at h2;have⟨q1,q2⟩:=r.fF k' a' m' h1 h2;have ne:a'≠a:=λz=>by subst z;exact e ((List.getElem?_inj (aai.mp h1).1 r.nd).mp (h1.trans hk.symm))
   exact⟨q1,q2.mono (.refl _) (.refl _) (ξ ne)⟩
def Rl.MK{k:Nat}{a:Addr}(r:Rl K G L M H)(hk:L[k]? =some a):Ex G L H G L (upd H a o) where
 g:=.refl _
 l:=.refl _
 fr:=λb h1 _=>h1
 out:=λb u h1 h2=>by rw[ξ (λz=>h2 (by rw[z];exact aaA hk))];exact h1
 new:=λb h=>.inl h
 sA:=λb h=>by
  by_cases e:b=a
  ·rw[e,Η];simp
  ·rw[ξ e];exact h
end
structure gm(K:gV)(G:Hp)(L:List Addr)(ρ:En)(σ:St):Prop where
 len:ρ.length=σ.length
 fF:∀(i:Nat) (d:Dt),ρ[i]? =some (some d)->∃v,σ[i]? =some (some v)/\Den K G L d v
section
variable{K:gV}{G G':Hp}{L L':List Addr}{H H':Hp}{ρ:En}{σ:St}
def gm.mono(h:gm K G L ρ σ)(e:Ex G L H G' L' H'):gm K G' L' ρ σ:=⟨h.len,λi d q=>let ⟨v,a,b⟩:=h.fF i d q;⟨v,a,Den.mono e.g e.l d v b⟩⟩
def gm.set(h:gm K G L ρ σ)(i:Nat){d:Dt}{v:V}(q:Den K G L d v):gm K G L (ρ.set i (some d)) (σ.set i (some v)):=by
 refine⟨by rw[aaY,aaY];exact h.len,λj d' e=>?_⟩;by_cases hj:i=j
 ·subst hj;have hl:i < ρ.length:=by have:=(aai.mp e).1;rwa[aaY]at this
  rw[aaS hl]at e;cases e;exact⟨v,aaS (by rw[<-h.len];exact hl),q⟩
 ·rw[aaX hj]at e;have⟨u,a,b⟩:=h.fF j d' e;exact⟨u,by rw[aaX hj];exact a,b⟩
end
abbrev DQ:=Dt->Ms->Prop
abbrev DX:=En->Addr->List (Str×Dt)->Ms->Prop
def KG(K:gV)(G:Hp)(L:List Addr)(H:Hp)(fs:List (Str×Dt))(od:Option Addr):Prop:=
 (fs=[]/\od=none)\/fs≠[]/\∃dx vs,od=some dx/\G dx=some (.xd ((fs.map (·.1)).zip vs))/\Λ K G L (fs.map (·.2)) vs
def o6(K:gV)(G:Hp)(L:List Addr)(H:Hp)(R:St->XK)(x:DX):Prop:=
 ∀σ ρ C fs M' G' L' H' od,x ρ C fs M'->Ex G L H G' L' H'->Rl K G' L' M' H'->gm K G' L' ρ σ->KG K G' L' H' fs od->R σ (.ref C) od H'
def o6.on{K:gV}{G:Hp}{L:List Addr}{H G1:Hp}{L1:List Addr}{H1:Hp}{R:St->XK}{x:DX}(h:o6 K G L H R x)(e:Ex G L H G1 L1 H1):o6 K G1 L1 H1 R x:=
 λσ ρ C fs M' G' L' H' od q e' r n y=>h σ ρ C fs M' G' L' H' od q (e.trans e') r n y
def iB:DX:=λ_ _ _ _=>False
def m7{K:gV}{G:Hp}{L:List Addr}{H:Hp}{R:St->XK}:o6 K G L H R iB:=λ_ _ _ _ _ _ _ _ _ q=>q.elim
abbrev DE:=En->Ms->DQ->DX->Prop
abbrev DT:=En->Ms->(Bool->Ms->Prop)->DX->Prop
abbrev DA:=En->Ms->(List Dt->Ms->Prop)->DX->Prop
structure jU where
 nx:En->Ms->Prop
 rt:DQ
 bk:En->Ms->Prop:=λ_ _=>False
 ct:En->Ms->Prop:=λ_ _=>False
 x:DX:=iB
abbrev DS:=jU->En->Ms->Prop
inductive Fin(K:gV)(G0:Hp)(L0:List Addr)(H0:Hp)(q:DQ)(v:V)(H:Hp):Prop
 | mk (d:Dt) (G:Hp) (L:List Addr) (M:Ms) (e:Ex G0 L0 H0 G L H) (r:Rl K G L M H) (n:Den K G L d v) (h:q d M)
inductive r_(K:gV)(G0:Hp)(L0:List Addr)(H0:Hp)(q:Bool->Ms->Prop)(b:Bool)(H:Hp):Prop
 | mk (G:Hp) (L:List Addr) (M:Ms) (e:Ex G0 L0 H0 G L H) (r:Rl K G L M H) (h:q b M)
inductive OX(K:gV)(G0:Hp)(L0:List Addr)(H0:Hp)(q:List Dt->Ms->Prop)(vs:List V)(H:Hp):Prop
 | mk (ds:List Dt) (G:Hp) (L:List Addr) (M:Ms) (e:Ex G0 L0 H0 G L H) (r:Rl K G L M H) (n:Λ K G L ds vs) (h:q ds M)
inductive eL(K:gV)(G0:Hp)(L0:List Addr)(H0:Hp)(q:En->Ms->Prop)(σ:St)(H:Hp):Prop
 | mk (ρ:En) (G:Hp) (L:List Addr) (M:Ms) (e:Ex G0 L0 H0 G L H) (r:Rl K G L M H) (n:gm K G L ρ σ) (h:q ρ M)
def vL(K:gV)(G0:Hp)(L0:List Addr)(H0:Hp)(Dn:jU):oy:=⟨eL K G0 L0 H0 Dn.nx,Fin K G0 L0 H0 Dn.rt,eL K G0 L0 H0 Dn.bk,eL K G0 L0 H0 Dn.ct⟩
inductive i7(K:gV)(R:St->XK)(t:DE)(σ:St)(H:Hp)(Q:VK):Prop
 | mk (G:Hp) (L:List Addr) (ρ:En) (M:Ms) (q:DQ) (x:DX) (r:Rl K G L M H) (n:gm K G L ρ σ) (h:t ρ M q x) (hx:o6 K G L H R x) (hQ:∀v H1,Fin K G L H q v H1->Q v H1)
inductive vj(K:gV)(R:St->XK)(t:DT)(σ:St)(H:Hp)(Q:Bool->Hp->Prop):Prop
 | mk (G:Hp) (L:List Addr) (ρ:En) (M:Ms) (q:Bool->Ms->Prop) (x:DX) (r:Rl K G L M H) (n:gm K G L ρ σ) (h:t ρ M q x) (hx:o6 K G L H R x) (hQ:∀b H1,r_ K G L H q b H1->Q b H1)
inductive Qy(K:gV)(R:St->XK)(t:DA)(σ:St)(H:Hp)(Q:List V->Hp->Prop):Prop
 | mk (G:Hp) (L:List Addr) (ρ:En) (M:Ms) (q:List Dt->Ms->Prop) (x:DX) (r:Rl K G L M H) (n:gm K G L ρ σ) (h:t ρ M q x) (hx:o6 K G L H R x) (hQ:∀vs H1,OX K G L H q vs H1->Q vs H1)
structure OM(A B:oy):Prop where
 nx:∀σ H,A.nx σ H->B.nx σ H
 rt:∀v H,A.rt v H->B.rt v H
 bk:∀σ H,A.bk σ H->B.bk σ H
 ct:∀σ H,A.ct σ H->B.ct σ H
inductive Km(K:gV)(R:St->XK)(t:DS)(De:oy)(σ:St)(H:Hp):Prop
 | mk (G:Hp) (L:List Addr) (ρ:En) (M:Ms) (Dn:jU) (r:Rl K G L M H) (n:gm K G L ρ σ) (h:t Dn ρ M) (hx:o6 K G L H R Dn.x) (hQ:OM (vL K G L H Dn) De)
def JE(X:Cx)(R:St->XK)(e:Expr)(t:DE):Prop:=PE X e (i7 X.K R t)
def JT(X:Cx)(R:St->XK)(e:Expr)(t:DT):Prop:=PT X e (vj X.K R t)
def JW(X:Cx)(R:St->XK)(e:Expr)(t:DT):Prop:=PW X e (vj X.K R t)
def JA(X:Cx)(R:St->XK)(es:List Expr)(t:DA):Prop:=PA X es (Qy X.K R t)
def JS(X:Cx)(R:St->XK)(st:Stmt)(t:DS):Prop:=PS X st (Km X.K R t)
def zZ(X:Cx)(R:St->XK)(st:List Stmt)(t:DS):Prop:=wc X st (Km X.K R t)
section
variable{K:gV}{G0:Hp}{L0:List Addr}{H0 G1:Hp}{L1:List Addr}{H1:Hp}
def Fin.back{q:DQ}(e:Ex G0 L0 H0 G1 L1 H1){v:V}{H:Hp}(h:Fin K G1 L1 H1 q v H):Fin K G0 L0 H0 q v H:=let ⟨d,G,L,M,a,b,c,f⟩:=h;⟨d,G,L,M,e.trans a,b,c,f⟩
def eL.back{q:En->Ms->Prop}(e:Ex G0 L0 H0 G1 L1 H1){v:St}{H:Hp}(h:eL K G1 L1 H1 q v H):eL K G0 L0 H0 q v H:=let ⟨d,G,L,M,a,b,c,f⟩:=h;⟨d,G,L,M,e.trans a,b,c,f⟩
def r_.back{q:Bool->Ms->Prop}(e:Ex G0 L0 H0 G1 L1 H1){v:Bool}{H:Hp}(h:r_ K G1 L1 H1 q v H):r_ K G0 L0 H0 q v H:=let ⟨G,L,M,a,b,f⟩:=h;⟨G,L,M,e.trans a,b,f⟩
def vL.back{Dn:jU}(e:Ex G0 L0 H0 G1 L1 H1):OM (vL K G1 L1 H1 Dn) (vL K G0 L0 H0 Dn):=⟨λ_ _ h=>eL.back e h,λ_ _ h=>Fin.back e h,λ_ _ h=>eL.back e h,λ_ _ h=>eL.back e h⟩
def SP.imp{X:Cx}{δ:List (Addr×Obj)}{A B:oy}(e:OM A B){f:Flow}{s:Shared}(h:SP X δ A f s):SP X δ B f s:=by
 cases f with
 | next=>have⟨a,b,I,q⟩:=h;exact⟨a,b,I,e.nx _ _ q⟩
 | brk=>have⟨a,b,I,q⟩:=h;exact⟨a,b,I,e.bk _ _ q⟩
 | cont=>have⟨a,b,I,q⟩:=h;exact⟨a,b,I,e.ct _ _ q⟩
 | ret u=>have⟨v,a,b,I,r,q⟩:=h;exact⟨v,a,b,I,r,e.rt _ _ q⟩
end
section
variable{X:Cx}{R:St->XK}{e:Expr}
def JE.of{te:TE}{t:DE}(h:PE X e te)(hw:∀σ H G L ρ M q x,Rl X.K G L M H->gm X.K G L ρ σ->t ρ M q x->o6 X.K G L H R x->te σ H (Fin X.K G L H q)):JE X R e t:=by intro δ s σ H Q I ⟨G,L,ρ,M,q,x,r,n,ht,hx,hQ⟩;refine aT (h δ s σ H _ I (hw σ H G L ρ M q x r n ht hx)) λu s1 ⟨v,H1,I1,rv,f⟩=>⟨v,H1,I1,rv,hQ v H1 f⟩
def JT.of{te:TT}{t:DT}(h:PT X e te)(hw:∀σ H G L ρ M q x,Rl X.K G L M H->gm X.K G L ρ σ->t ρ M q x->o6 X.K G L H R x->te σ H (r_ X.K G L H q)):JT X R e t:=by intro δ s σ H Q I ⟨G,L,ρ,M,q,x,r,n,ht,hx,hQ⟩;refine aT (h δ s σ H _ I (hw σ H G L ρ M q x r n ht hx)) λu s1 ⟨H1,I1,f⟩=>⟨H1,I1,hQ u H1 f⟩
def JW.of{te:TT}{t:DT}(h:PW X e te)(hw:∀σ H G L ρ M q x,Rl X.K G L M H->gm X.K G L ρ σ->t ρ M q x->o6 X.K G L H R x->te σ H (r_ X.K G L H q)):JW X R e t:=by intro wh δ s σ H Q I ⟨G,L,ρ,M,q,x,r,n,ht,hx,hQ⟩;refine aT (h wh δ s σ H _ I (hw σ H G L ρ M q x r n ht hx)) λu s1 ⟨H1,I1,f⟩=>⟨H1,I1,hQ u H1 f⟩
def JA.of{es:List Expr}{te:TA}{t:DA}(h:PA X es te)(hw:∀σ H G L ρ M q x,Rl X.K G L M H->gm X.K G L ρ σ->t ρ M q x->o6 X.K G L H R x->te σ H (OX X.K G L H q)):JA X R es t:=by intro pos δ s σ H Q I ⟨G,L,ρ,M,q,x,r,n,ht,hx,hQ⟩;refine aT (h pos δ s σ H _ I (hw σ H G L ρ M q x r n ht hx)) λu s1 ⟨v,H1,I1,rv,f⟩=>⟨v,H1,I1,rv,hQ v H1 f⟩
def JS.of{st:Stmt}{te:TS}{t:DS}(h:PS X st te)(hw:∀σ H G L ρ M Dn,Rl X.K G L M H->gm X.K G L ρ σ->t Dn ρ M->o6 X.K G L H R Dn.x->te (vL X.K G L H Dn) σ H):JS X R st t:=by intro δ s σ H De I ⟨G,L,ρ,M,Dn,r,n,ht,hx,hQ⟩;exact aT (h δ s σ H _ I (hw σ H G L ρ M Dn r n ht hx)) λu s1 f=>SP.imp hQ f
def zZ.of{st:List Stmt}{te:TS}{t:DS}(h:wc X st te)(hw:∀σ H G L ρ M Dn,Rl X.K G L M H->gm X.K G L ρ σ->t Dn ρ M->o6 X.K G L H R Dn.x->te (vL X.K G L H Dn) σ H):zZ X R st t:=by intro δ s σ H De I ⟨G,L,ρ,M,Dn,r,n,ht,hx,hQ⟩;exact aT (h δ s σ H _ I (hw σ H G L ρ M Dn r n ht hx)) λu s1 f=>SP.imp hQ f
end
def aH(i:Nat):DE:=λρ M q _=>match ρ[i]? with
 | some (some d)=>q d M
 | _=>False
def dC(d:Dt):DE:=λ_ M q _=>q d M
def cz(f:Dt->Dt->Ms->DQ->Prop)(a b:DE):DE:=λρ M q x=>a ρ M (λd1 M1=>b ρ M1 (λd2 M2=>f d1 d2 M2 q) x) x
def L7(f:Dt->Ms->DQ->Prop)(a:DE):DE:=λρ M q x=>a ρ M (λd1 M1=>f d1 M1 q) x
def fC:DA:=λ_ M q _=>q [] M
def bW(a:DE)(r:DA):DA:=λρ M q x=>a ρ M (λd M1=>r ρ M1 (λds M2=>q (d::ds) M2) x) x
def vP(f:List Dt->Ms->DQ->Prop)(a:DA):DE:=λρ M q x=>a ρ M (λds M1=>f ds M1 q) x
def lr(K:gV)(r:R2)(f:Dt->Dt->Ms->DQ->Prop):Prop:=
 ∀G0 L0 H0 G L M H v1 v2 d1 d2 q,Ex G0 L0 H0 G L H->Rl K G L M H->Den K G L d1 v1->Den K G L d2 v2->f d1 d2 M q->r v1 v2 H (Fin K G0 L0 H0 q)
def VZ(K:gV)(r:V->Hp->VK->Prop)(f:Dt->Ms->DQ->Prop):Prop:=
 ∀G0 L0 H0 G L M H v1 d1 q,Ex G0 L0 H0 G L H->Rl K G L M H->Den K G L d1 v1->f d1 M q->r v1 H (Fin K G0 L0 H0 q)
def Bx(K:gV)(r:List V->Hp->VK->Prop)(f:List Dt->Ms->DQ->Prop):Prop:=
 ∀G0 L0 H0 G L M H vs ds q,Ex G0 L0 H0 G L H->Rl K G L M H->Λ K G L ds vs->f ds M q->r vs H (Fin K G0 L0 H0 q)
def RF(K:gV)(T:String)(r:V->List V->Hp->VK->Prop)(f:Dt->List Dt->Ms->DQ->Prop):Prop:=
 ∀G0 L0 H0 G L M H v d vs ds q,Ex G0 L0 H0 G L H->Rl K G L M H->Den K G L d v->Λ K G L ds vs->f d ds M q->r v vs H (Fin K G0 L0 H0 q)
section
variable{K:gV}{R:St->XK}{ta tb:DE}{tc:DA}{σ:St}{H G:Hp}{L:List Addr}{ρ:En}{M:Ms}{q:DQ}{x:DX}
def Aj{r:R2}{f:Dt->Dt->Ms->DQ->Prop}(od:lr K r f)(rl:Rl K G L M H)(n:gm K G L ρ σ)(h:cz f ta tb ρ M q x)(hx:o6 K G L H R x):Qp r (i7 K R ta) (i7 K R tb) σ H (Fin K G L H q):=by refine⟨G,L,ρ,M,_,x,rl,n,h,hx,λv H1 xz=>?_⟩;have⟨d1,G1,L1,M1,e1,r1,n1,h1⟩:=xz;refine⟨G1,L1,ρ,M1,_,x,r1,n.mono e1,h1,hx.on e1,λv2 H2 xz=>?_⟩;have⟨d2,G2,L2,M2,e2,r2,n2,h2⟩:=xz;exact od G L H G2 L2 M2 H2 v v2 d1 d2 q (e1.trans e2) r2 (Den.mono e2.g e2.l _ _ n1) n2 h2
def Ru{r:V->Hp->VK->Prop}{f:Dt->Ms->DQ->Prop}(od:VZ K r f)(rl:Rl K G L M H)(n:gm K G L ρ σ)(h:L7 f ta ρ M q x)(hx:o6 K G L H R x):WJ r (i7 K R ta) σ H (Fin K G L H q):=by refine⟨G,L,ρ,M,_,x,rl,n,h,hx,λv H1 xz=>?_⟩;have⟨d1,G1,L1,M1,e1,r1,n1,h1⟩:=xz;exact od G L H G1 L1 M1 H1 v d1 q e1 r1 n1 h1
def Mb{r:List V->Hp->VK->Prop}{f:List Dt->Ms->DQ->Prop}(od:Bx K r f)(rl:Rl K G L M H)(n:gm K G L ρ σ)(h:vP f tc ρ M q x)(hx:o6 K G L H R x):VM r (Qy K R tc) σ H (Fin K G L H q):=by refine⟨G,L,ρ,M,_,x,rl,n,h,hx,λv H1 xz=>?_⟩;have⟨d1,G1,L1,M1,e1,r1,n1,h1⟩:=xz;exact od G L H G1 L1 M1 H1 v d1 q e1 r1 n1 h1
end
section
variable{X:Cx}{R:St->XK}{a b c:Expr}{ta tb:DE}{pos:Pos}
def jv(i:Nat){x:Str}{pos:Pos}(hN:X.N[i]? =some x:=by rfl)(hv:QB X.env.scope x:=by first| exact Or.inl rfl| exact Or.inr (Or.inl rfl)| exact Or.inr (Or.inr rfl))(hd:(x==("__debug__":Str))=false:=by decide)
  (we:(x==("__classdict__":Str))=false:=by decide):JE X R (.Name x pos) (aH i):=.of (zD hN hv hd we) λσ H G L ρ M q x r n h hx=>by
 unfold aH at h;split at h
 ·rename_i d e;have⟨v,e1,h1⟩:=n.fF i d e;exact⟨v,e1,d,G,L,M,.refl _ _ _,r,h1,h⟩
 ·exact h.elim
def K8{d:Dt}{v:V}{e:Expr}(h:PE X e (tC v))(hd:∀G L,Den X.K G L d v):JE X R e (dC d):=.of h λσ H G L ρ M q x r n h hx=>⟨d,G,L,M,.refl _ _ _,r,hd G L,h⟩
def ο{i j pos}:JE X R (.Constant (.int i) j pos) (dC (.int i)):=K8 MR λ_ _=>rfl
def mm{b j pos}:JE X R (.Constant (.bool b) j pos) (dC (.bl b)):=K8 R4 λ_ _=>rfl
def Eu{j pos}:JE X R (.Constant .none j pos) (dC .aS):=K8 NY λ_ _=>rfl
def χ{x j pos}:JE X R (.Constant (.str x) j pos) (dC (.str x)):=K8 NP λ_ _=>rfl
def rZ{op:Operator}{r:R2}{f:Dt->Dt->Ms->DQ->Prop}(ho:gQ X (binaryOp op) r)(od:lr X.K r f)(ja:JE X R a ta)(jb:JE X R b tb):JE X R (.BinOp a op b pos) (cz f ta tb):=
 .of (Qr ho ja jb) λσ H G L ρ M q x r n h hx=>Aj od r n h hx
def Ta{op:UnaryOp}{r:V->Hp->VK->Prop}{f:Dt->Ms->DQ->Prop}(ho:Sl X (unaryOp op) r)(od:VZ X.K r f)(ja:JE X R a ta):JE X R (.UnaryOp op a pos) (L7 f ta):=
 .of (Q0 ho ja) λσ H G L ρ M q x r n h hx=>Ru od r n h hx
def qX{op:CmpOp}{r:R2}{f:Dt->Dt->Ms->DQ->Prop}(ho:gQ X (compareOp op) r)(od:lr X.K r f)(ja:JE X R a ta)(jb:JE X R b tb)(hm:behindInMarks op b=false):JE X R (.Compare a [op] [b] pos) (cz f ta tb):=
 .of (IX ho ja jb hm) λσ H G L ρ M q x r n h hx=>Aj od r n h hx
def Rc{r:R2}{f:Dt->Dt->Ms->DQ->Prop}(hr:Iw X r)(od:lr X.K r f)(ja:JE X R a ta)(jb:JE X R b tb)(hs:vB b):JE X R (.Subscript a b pos) (cz f ta tb):=
 .of (PY hr ja jb hs) λσ H G L ρ M q x r n h hx=>Aj od r n h hx
def Ε{env:Env}{es:List Expr}{c j p}:starEach (.Constant c j p::es) env=(false,eval (.Constant c j p) env)::starEach es env:=rfl
def Ly{env:Env}{es:List Expr}{c p}:starEach (.Name c p::es) env=(false,eval (.Name c p) env)::starEach es env:=rfl
def Ι{env:Env}{es:List Expr}{a o b p}:starEach (.BinOp a o b p::es) env=(false,eval (.BinOp a o b p) env)::starEach es env:=rfl
def cy{env:Env}{es:List Expr}{a b c p}:starEach (.Call a b c p::es) env=(false,eval (.Call a b c p) env)::starEach es env:=rfl
def aJ{env:Env}{es:List Expr}{a b p}:starEach (.Subscript a b p::es) env=(false,eval (.Subscript a b p) env)::starEach es env:=rfl
def Lq{env:Env}{es:List Expr}{a b p}:starEach (.Tuple a b p::es) env=(false,eval (.Tuple a b p) env)::starEach es env:=rfl
def K'{env:Env}{es:List Expr}{a o b p}:starEach (.Compare a o b p::es) env=(false,eval (.Compare a o b p) env)::starEach es env:=rfl
def AU{env:Env}{es:List Expr}{a b p}:starEach (.UnaryOp a b p::es) env=(false,eval (.UnaryOp a b p) env)::starEach es env:=rfl
def η:JA X R [] fC:=.of FU λσ H G L ρ M q x r n h hx=>⟨[],G,L,M,.refl _ _ _,r,rfl,h⟩
def ε{e:Expr}{es:List Expr}{te:DE}{t:DA}(ha:JE X R e te)(hr:JA X R es t)(hs:starEach (e::es) X.env=(false,eval e X.env)::starEach es X.env:=by first| exact Ε| exact Ly| exact Ι| exact cy| exact aJ| exact Lq| exact K'| exact AU| rfl):JA X R (e::es) (bW te t):=
 .of (vx ha hr hs) λσ H G L ρ M q x rl n h hx=>by refine⟨G,L,ρ,M,_,x,rl,n,h,hx,λv H1 xz=>?_⟩;have⟨d1,G1,L1,M1,e1,r1,n1,h1⟩:=xz;refine⟨G1,L1,ρ,M1,_,x,r1,n.mono e1,h1,hx.on e1,λv2 H2 xz=>?_⟩;have⟨d2,G2,L2,M2,e2,r2,n2,h2⟩:=xz;exact⟨d1::d2,G2,L2,M2,e1.trans e2,r2,⟨_,_,rfl,Den.mono e2.g e2.l _ _ n1,n2⟩,h2⟩
def ai{c:Str}{p:Pos}{es:List Expr}{te:DE}{t:DA}(ha:JE X R (.Name c p) te)(hr:JA X R es t):JA X R (.Name c p::es) (bW te t):=ε ha hr Ly
def Kd(t:DA):DE:=λρ M q x=>t ρ M (λds M1=>ds.length<=sizeLine/\q (.tup ds) M1) x
def IY(t:DA):DE:=λρ M q x=>t ρ M (λds M1=>ds.length<=sizeLine/\q (.lst ds) M1) x
def EC(t:DA):DE:=λρ M q x=>t ρ M (λds M1=>ds.length<=sizeLine/\q (.loc M1.length) (M1++[.lst ds])) x
def eh{K:gV}{G0:Hp}{L0:List Addr}{H0 G:Hp}{L:List Addr}{M:Ms}{H:Hp}{p:Addr}{o:HO}{d:Dt}{q:DQ}(e:Ex G0 L0 H0 G L H)(r:Rl K G L M H)(hp:H p=none)(hd:Den K (upd G p o) L d (.ref p))(h:q d M):Fin K G0 L0 H0 q (.ref p) (upd H p o):=
 ⟨d,upd G p o,L,M,e.trans (r.RN hp),r.Nn hp,hd,h⟩
def k_{K:gV}{G:Hp}{L:List Addr}{M:Ms}{H:Hp}{p:Addr}{ds:List Dt}{vs:List V}(r:Rl K G L M H)(hp:H p=none)(h:Λ K G L ds vs):Den K (upd G p (.tup vs)) L (.tup ds) (.ref p):=
 ⟨p,vs,rfl,Η,Λ.mono (r.RN hp).g (.refl _) _ _ h⟩
def ju{K:gV}{G:Hp}{L:List Addr}{M:Ms}{H:Hp}{p:Addr}{ds:List Dt}{vs:List V}(r:Rl K G L M H)(hp:H p=none)(h:Λ K G L ds vs):Den K (upd G p (.lst vs)) L (.lst ds) (.ref p):=
 ⟨p,vs,rfl,Η,Λ.mono (r.RN hp).g (.refl _) _ _ h⟩
def uX{K:gV}{G0:Hp}{L0:List Addr}{H0 G:Hp}{L:List Addr}{M:Ms}{H:Hp}{p:Addr}{q:DQ}{ds:List Dt}{vs:List V}(e:Ex G0 L0 H0 G L H)(r:Rl K G L M H)(hp:H p=none)(hd:Λ K G L ds vs)(h:q (.loc M.length) (M++[.lst ds])):Fin K G0 L0 H0 q (.ref p) (upd H p (.lst vs)):=
 ⟨.loc M.length,G,L++[p],M++[.lst ds],e.trans (r.Vh hp),r.NH (m:=.lst ds) hp ⟨vs,Η,Λ.mono (.refl _) ⟨[p],rfl⟩ _ _ hd⟩,⟨p,rfl,by rw[<-r.len,List.getElem?_append_right (Nat.le_refl _)];simp⟩,h⟩
variable{es:List Expr}{t:DA}
def bQ{x1}(h:JA X R es t):JE X R (.Tuple es x1 pos) (Kd t):=.of (Mf h) λσ H G L ρ M q x rl n h hx=>by refine⟨G,L,ρ,M,_,x,rl,n,h,hx,fun v H1 ⟨d1,G1,L1,M1,e1,r1,n1,h1⟩=>⟨by rw[<-n1.length];exact h1.1,λp hp=>?_⟩⟩;exact eh e1 r1 hp (k_ r1 hp n1) h1.2
def aZ(h:JA X R es t):JE X R (.List es pos) (IY t):=.of (FD h) λσ H G L ρ M q x rl n h hx=>by refine⟨G,L,ρ,M,_,x,rl,n,h,hx,fun v H1 ⟨d1,G1,L1,M1,e1,r1,n1,h1⟩=>⟨by rw[<-n1.length];exact h1.1,λp hp=>?_⟩⟩;exact eh e1 r1 hp (ju r1 hp n1) h1.2
def Hq(h:JA X R es t):JE X R (.List es pos) (EC t):=.of (FD h) λσ H G L ρ M q x rl n h hx=>by refine⟨G,L,ρ,M,_,x,rl,n,h,hx,fun v H1 ⟨d1,G1,L1,M1,e1,r1,n1,h1⟩=>⟨by rw[<-n1.length];exact h1.1,λp hp=>?_⟩⟩;exact uX e1 r1 hp n1 h1.2
def kY(t:DE):DT:=λρ M q x=>t ρ M (λd M1=>match d with
 | .bl b=>q b M1
 | _=>False) x
def Rp(t u:DT):DT:=λρ M q x=>t ρ M (λc M1=>(c=true->u ρ M1 q x)/\(c=false->q false M1)) x
def W0(t u:DT):DT:=λρ M q x=>t ρ M (λc M1=>(c=true->q true M1)/\(c=false->u ρ M1 q x)) x
def PJ(t:DT):DT:=λρ M q x=>t ρ M (λc M1=>q (!c) M1) x
def NW{K:gV}{t:DE}{σ:St}{H G:Hp}{L:List Addr}{ρ:En}{M:Ms}{q:Bool->Ms->Prop}{x:DX}(rl:Rl K G L M H)(n:gm K G L ρ σ)(h:kY t ρ M q x)(hx:o6 K G L H R x):tB (i7 K R t) σ H (r_ K G L H q):=by
 refine⟨G,L,ρ,M,_,x,rl,n,h,hx,λv H1 xz=>?_⟩;have⟨d1,G1,L1,M1,e1,r1,n1,h1⟩:=xz
 (try dsimp only at h1)
 split at h1
 ·rename_i b;exact⟨b,n1,G1,L1,M1,e1,r1,h1⟩
 ·exact h1.elim
def dq{e:Expr}{t:DE}(h:JE X R e t)(he:∀whole,isTrue e X.env whole=(do let v<-whole;standAt e.pos;holding [v] (truthy v)):=by intro _;rfl):JT X R e (kY t):=
 .of (NA h he) λσ H G L ρ M q x rl n h hx=>NW rl n h hx
def g7{op:CmpOp}{r:R2}{f:Dt->Dt->Ms->DQ->Prop}(ho:gQ X (compareOp op) r)(od:lr X.K r f)(ja:JE X R a ta)(jb:JE X R b tb)(hm:behindInMarks op b=false):JT X R (.Compare a [op] [b] pos) (kY (cz f ta tb)):=
 .of (Kr ho ja jb hm) λσ H G L ρ M q x rl n h hx=>by
  have h:cz f ta tb ρ M (λd M1=>match d with| .bl b=>q b M1| _=>False) x:=h;refine⟨G,L,ρ,M,_,x,rl,n,h,hx,λv H1 xz=>?_⟩;have⟨d1,G1,L1,M1,e1,r1,n1,h1⟩:=xz;refine⟨G1,L1,ρ,M1,_,x,r1,n.mono e1,h1,hx.on e1,λv2 H2 xz=>?_⟩;have⟨d2,G2,L2,M2,e2,r2,n2,h2⟩:=xz;have:=od G L H G2 L2 M2 H2 v v2 d1 d2 _ (e1.trans e2) r2 (Den.mono e2.g e2.l _ _ n1) n2 h2;have e:(λx H'=>∃k,x=V.bl k/\r_ X.K G L H q k H')=Fin X.K G L H (λd M1=>match d with| .bl b=>q b M1| _=>False):=by
   funext y H'
   apply propext;constructor
   ·rintro⟨k,rfl,G3,L3,M3,e3,r3,h3⟩;exact⟨.bl k,G3,L3,M3,e3,r3,rfl,h3⟩
   ·rintro⟨d,G3,L3,M3,e3,r3,n3,h3⟩;split at h3
    ·rename_i k;exact⟨k,n3,G3,L3,M3,e3,r3,h3⟩
    ·exact h3.elim
  rw[e];exact this
def JW.jt{e:Expr}{t:DT}(h:JW X R e t):JT X R e t:=h _
variable{t1 t2:DT}{rest:List Expr}
def Jt(ha:JT X R a t1):JW X R (.BoolOp .And [a] pos) t1:=pw_and1 ha
def kW(ha:JT X R a t1):JW X R (.BoolOp .Or [a] pos) t1:=pw_or1 ha
def Mt(ha:JT X R a t1)(hb:JW X R (.BoolOp .And (b::rest) pos) t2):JW X R (.BoolOp .And (a::b::rest) pos) (Rp t1 t2):=.of (pw_and ha hb) λσ H G L ρ M q x rl n h hx=>by
 refine⟨G,L,ρ,M,_,x,rl,n,h,hx,λc H1 xz=>?_⟩;have⟨G1,L1,M1,e1,r1,h1⟩:=xz;cases c with
 | true=>exact y_ ⟨G1,L1,ρ,M1,_,x,r1,n.mono e1,h1.1 rfl,hx.on e1,λb H2 f=>r_.back e1 f⟩
 | false=>exact AK ⟨G1,L1,M1,e1,r1,h1.2 rfl⟩
def nZ(ha:JT X R a t1)(hb:JW X R (.BoolOp .Or (b::rest) pos) t2):JW X R (.BoolOp .Or (a::b::rest) pos) (W0 t1 t2):=.of (pw_or ha hb) λσ H G L ρ M q x rl n h hx=>by
 refine⟨G,L,ρ,M,_,x,rl,n,h,hx,λc H1 xz=>?_⟩;have⟨G1,L1,M1,e1,r1,h1⟩:=xz;cases c with
 | true=>exact y_ ⟨G1,L1,M1,e1,r1,h1.1 rfl⟩
 | false=>exact AK ⟨G1,L1,ρ,M1,_,x,r1,n.mono e1,h1.2 rfl,hx.on e1,λb H2 f=>r_.back e1 f⟩
def mK(ha:JT X R a t1):JT X R (.UnaryOp .Not a pos) (PJ t1):=.of (OC ha) λσ H G L ρ M q x rl n h hx=>
 ⟨G,L,ρ,M,_,x,rl,n,h,hx,λ_ _ ⟨G,L,M,e,r,h⟩=>⟨G,L,M,e,r,h⟩⟩
def RP(t u:DE):DE:=λρ M q x=>t ρ M (λd M1=>match d with
 | .bl c=>(c=true->u ρ M1 q x)/\(c=false->q (.bl false) M1)
 | _=>False) x
def V9(t u:DE):DE:=λρ M q x=>t ρ M (λd M1=>match d with
 | .bl c=>(c=true->q (.bl true) M1)/\(c=false->u ρ M1 q x)
 | _=>False) x
def RJ(t:DE):DE:=λρ M q x=>t ρ M (λd M1=>match d with
 | .bl c=>q (.bl (!c)) M1
 | _=>False) x
def W6(t:DT)(u v:DE):DE:=λρ M q x=>t ρ M (λc M1=>(c=true->u ρ M1 q x)/\(c=false->v ρ M1 q x)) x
def dY{op}{t:DE}(h:JE X R a t):JE X R (.BoolOp op [a] pos) t:=MP h
def ck(ha:JE X R a ta)(hb:JE X R (.BoolOp .And (b::rest) pos) tb):JE X R (.BoolOp .And (a::b::rest) pos) (RP ta tb):=.of (Oo ha hb) λσ H G L ρ M q x rl n h hx=>by
 refine⟨G,L,ρ,M,_,x,rl,n,h,hx,λv H1 xz=>?_⟩;have⟨d1,G1,L1,M1,e1,r1,n1,h1⟩:=xz
 (try dsimp only at h1)
 split at h1
 ·rename_i c;refine⟨c,n1,?_⟩;cases c with
  | true=>exact y_ ⟨G1,L1,ρ,M1,_,x,r1,n.mono e1,h1.1 rfl,hx.on e1,λb H2 f=>Fin.back e1 f⟩
  | false=>exact AK ⟨.bl false,G1,L1,M1,e1,r1,rfl,h1.2 rfl⟩
 ·exact h1.elim
def RL(ha:JE X R a ta)(hb:JE X R (.BoolOp .Or (b::rest) pos) tb):JE X R (.BoolOp .Or (a::b::rest) pos) (V9 ta tb):=.of (QZ ha hb) λσ H G L ρ M q x rl n h hx=>by
 refine⟨G,L,ρ,M,_,x,rl,n,h,hx,λv H1 xz=>?_⟩;have⟨d1,G1,L1,M1,e1,r1,n1,h1⟩:=xz
 (try dsimp only at h1)
 split at h1
 ·rename_i c;refine⟨c,n1,?_⟩;cases c with
  | true=>exact y_ ⟨.bl true,G1,L1,M1,e1,r1,rfl,h1.1 rfl⟩
  | false=>exact AK ⟨G1,L1,ρ,M1,_,x,r1,n.mono e1,h1.2 rfl,hx.on e1,λb H2 f=>Fin.back e1 f⟩
 ·exact h1.elim
def Ar(ha:JE X R a ta):JE X R (.UnaryOp .Not a pos) (RJ ta):=.of (NJ ha) λσ H G L ρ M q x rl n h hx=>by
 refine⟨G,L,ρ,M,_,x,rl,n,h,hx,λv H1 xz=>?_⟩;have⟨d1,G1,L1,M1,e1,r1,n1,h1⟩:=xz
 (try dsimp only at h1)
 split at h1
 ·rename_i c;exact⟨c,n1,.bl (!c),G1,L1,M1,e1,r1,rfl,h1⟩
 ·exact h1.elim
def Ld{c:Expr}(hc:JT X R c t1)(ha:JE X R a ta)(hb:JE X R b tb):JE X R (.IfExp c a b pos) (W6 t1 ta tb):=.of (EW hc ha hb) λσ H G L ρ M q x rl n h hx=>by
 refine⟨G,L,ρ,M,_,x,rl,n,h,hx,λc H1 xz=>?_⟩;have⟨G1,L1,M1,e1,r1,h1⟩:=xz;cases c with
 | true=>exact y_ ⟨G1,L1,ρ,M1,_,x,r1,n.mono e1,h1.1 rfl,hx.on e1,λb H2 f=>Fin.back e1 f⟩
 | false=>exact AK ⟨G1,L1,ρ,M1,_,x,r1,n.mono e1,h1.2 rfl,hx.on e1,λb H2 f=>Fin.back e1 f⟩
end
def sC:DS:=λDn ρ M=>Dn.nx ρ M
def qE(t u:DS):DS:=λDn ρ M=>t {Dn with nx:=u Dn} ρ M
def WN(c:DT)(t u:DS):DS:=λDn ρ M=>c ρ M (λb M1=>(b=true->t Dn ρ M1)/\(b=false->u Dn ρ M1)) Dn.x
def RT(t:DE):DS:=λDn ρ M=>t ρ M Dn.rt Dn.x
def m8(i:Nat)(t:DE):DS:=λDn ρ M=>t ρ M (λd M1=>Dn.nx (ρ.set i (some d)) M1) Dn.x
def A_(t:DE):DS:=λDn ρ M=>t ρ M (λ_ M1=>Dn.nx ρ M1) Dn.x
def Ti(t:DS):DS:=λDn ρ M=>∃J:En->Ms->Prop,t {Dn with nx:=J} ρ M/\∀ρ' M',J ρ' M'->Dn.nx ρ' M'
section
variable{X:Cx}{R:St->XK}{st:Stmt}{rest:List Stmt}{t u:DS}{e:Expr}{te:DE}{pos:Pos}
def Α:zZ X R [] sC:=.of KZ λσ H G L ρ M Dn rl n h hx=>⟨ρ,G,L,M,.refl _ _ _,rl,n,h⟩
def μ(h1:JS X R st t):zZ X R [st] t:=Bd h1
def θ(h1:JS X R st t)(h2:zZ X R rest u):zZ X R (st::rest) (qE t u):=.of (xn h1 h2) λσ H G L ρ M Dn rl n h hx=>by refine⟨G,L,ρ,M,_,rl,n,h,hx,⟨λσ1 H1 xz=>?_,λ_ _ f=>f,λ_ _ f=>f,λ_ _ f=>f⟩⟩;have⟨ρ1,G1,L1,M1,e1,r1,n1,h1⟩:=xz;exact⟨G1,L1,ρ1,M1,Dn,r1,n1,h1,hx.on e1,vL.back e1⟩
def Β(he:JE X R e te):JS X R (.Return (some e) pos) (RT te):=.of (Mn he) λσ H G L ρ M Dn rl n h hx=>⟨G,L,ρ,M,_,_,rl,n,h,hx,λ_ _ f=>f⟩
def oX(he:JE X R e te)(hs:swapsWith e none pos.line X.env=pure false:=by rfl):JS X R (.Expr e pos) (A_ te):=.of (Bp he hs) λσ H G L ρ M Dn rl n h hx=>by refine⟨G,L,ρ,M,_,_,rl,n,h,hx,λv H1 ⟨d1,G1,L1,M1,e1,r1,n1,h1⟩=>⟨ρ,G1,L1,M1,e1,r1,n.mono e1,h1⟩⟩
def Υ{c:Expr}{a b:List Stmt}{tc:DT}(hc:JT X R c tc)(ha:zZ X R a t)(hb:zZ X R b u):JS X R (.If c a b pos) (WN tc t u):=.of (Q1 hc ha hb) λσ H G L ρ M Dn rl n h hx=>by
 refine⟨G,L,ρ,M,_,_,rl,n,h,hx,λc H1 xz=>?_⟩;have⟨G1,L1,M1,e1,r1,h1⟩:=xz;cases c with
 | true=>exact y_ ⟨G1,L1,ρ,M1,Dn,r1,n.mono e1,h1.1 rfl,hx.on e1,vL.back e1⟩
 | false=>exact AK ⟨G1,L1,ρ,M1,Dn,r1,n.mono e1,h1.2 rfl,hx.on e1,vL.back e1⟩
def τ(i:Nat){x:Str}{pos':Pos}(hN:X.N.Nodup)(he:JE X R e te)(hi:X.N[i]? =some x:=by rfl)(hx:Loc X.env.scope x:=by first| exact .inl rfl| exact .inr rfl)(hs:swapsWith e (some (.Name x pos')) pos.line X.env=pure false:=by rfl)(hf:X.fn x=true\/X.env.scope.names.lookup x=some .local:=by first| exact .inl rfl| exact .inr rfl| assumption):
  JS X R (.Assign [.Name x pos'] e pos) (m8 i te):=.of (Nk hN hi hx he hs hf) λσ H G L ρ M Dn rl n h hx=>by
 refine⟨G,L,ρ,M,_,_,rl,n,h,hx,λv H1 ⟨d1,G1,L1,M1,e1,r1,n1,h1⟩=>⟨_,G1,L1,M1,e1,r1,(n.mono e1).set i n1,h1⟩⟩
def cj(h:JS X R st t):JS X R st (Ti t):=.of h λσ H G L ρ M Dn rl n h hx=>by have⟨J,h1,h2⟩:=h;refine⟨G,L,ρ,M,_,rl,n,h1,hx,⟨λσ1 H1 ⟨ρ1,G1,L1,M1,e1,r1,n1,h1⟩=>⟨ρ1,G1,L1,M1,e1,r1,n1,h2 _ _ h1⟩,λ_ _ f=>f,λ_ _ f=>f,λ_ _ f=>f⟩⟩
end
abbrev SR:=Addr->List (Str×Dt)->Ms->Prop
abbrev DF:=List Dt->Ms->DQ->SR->Prop
inductive eN(K:gV)(T:DF)(vs:List V)(H:Hp)(Q:VK)(E:XK):Prop
 | mk (G:Hp) (L:List Addr) (ds:List Dt) (M:Ms) (q:DQ) (x:SR) (r:Rl K G L M H) (n:Λ K G L ds vs) (h:T ds M q x) (hQ:∀v H1,Fin K G L H q v H1->Q v H1) (hE:∀C fs M1 G1 L1 H1 od,x C fs M1->Ex G L H G1 L1 H1->Rl K G1 L1 M1 H1->KG K G1 L1 H1 fs od->E (.ref C) od H1)
def j'(N:List Str)(ds:List Dt):En:=ds.map some++List.replicate (N.length - ds.length) none
def yd{K:gV}{G:Hp}{L:List Addr}{N:List Str}{ds:List Dt}{vs:List V}(h:Λ K G L ds vs):gm K G L (j' N ds) (jo N vs):=by
 have hl:=h.length;refine⟨by unfold j' jo;simp[hl],λi d e=>?_⟩;unfold j' at e;unfold jo;by_cases hi:i < ds.length
 ·rw[List.getElem?_append_left (by simpa using hi),List.getElem?_map]at e;rw[List.getElem?_append_left (by simpa [<-hl] using hi),List.getElem?_map];cases q:ds[i]? with
  | none=>rw[q]at e;cases e
  | some d'=>
   rw[q]at e;cases e;have⟨v,e1,h1⟩:=h.get q;exact⟨v,by rw[e1];rfl,h1⟩
 ·rw[List.getElem?_append_right (by simpa using Nat.le_of_not_lt hi),List.getElem?_replicate]at e;split at e <;> cases e
section
variable{P:Program}{w:World}{K:gV}{mg:Str->Option Value}{base:Heap}
def eE.ip{x qual:Str}{st:Stmt}{f:Addr}{fd:FuncData}{N ps:List Str}{k:Nat}{T:DF}(F:eE K x qual st f fd)(S:Δ N ps (π st))(len:∀ds M q x,T ds M q x->ds.length=ps.length)
  (qj:∀(bC:Value) (A:Around) (outer:List Env) (s:Shared) (H:Hp) (E:XK),bp k (A.deeper (envOfC qual (π st) s.heap.objs.size f bC))->
   ∃t,zZ (gf (bP P w) P w K mg base N qual (π st) f bC A outer s H E) (λ_=>E) (eP st) t/\∀ds M q x,T ds M q x->t {nx:=λ_ M'=>q .aS M',rt:=q,x:=λ_=>x} (j' N ds) M):
  ay P w K mg base (bP P w) (k+1) f fd ps (eN K T):=by
 refine F.WZ S (λvs H Q E h=>?_) (λbC A outer s H vs Q E hr h=>?_)
 ·have⟨G,L,ds,M,q,x,rl,n,hT,_⟩:=h;rw[<-n.length];exact len _ _ _ _ hT
 ·have⟨t,j,ht⟩:=qj bC A outer s H E hr;have⟨G,L,ds,M,q,x,rl,n,hT,hQ,hE⟩:=h;refine⟨_,j,G,L,j' N ds,M,_,rl,yd n,ht ds M q x hT,λσ ρ C fs M' G' L' H' od hx e r _ y=>hE C fs M' G' L' H' od hx e r y,⟨λσ' H' ⟨ρ',G',L',M',e,r,_,h⟩=>hQ _ _ ⟨.aS,G',L',M',e,r,rfl,h⟩,λv H' f=>hQ v H' f,λ_ _ ⟨_,_,_,_,_,_,_,h⟩=>h.elim,λ_ _ ⟨_,_,_,_,_,_,_,h⟩=>h.elim⟩⟩
structure aV(P:Program)(w:World)(K:gV)(mg:Str->Option Value)(base:Heap)(k:Nat)(x:Str)(ps:List Str)(T:DF)(f:Addr)(fd:FuncData):Prop where
 ok:ay P w K mg base (bP P w) k f fd ps (eN K T)
 b:fT K fd ps []
 m:mg x=some (.ref f)
 kp:PySem.W.keepIn K (.ref f)=true
end
def sH(T:DF)(t:DA):DE:=λρ M q x=>t ρ M (λds M1=>T ds M1 q (λC fs M'=>x ρ C fs M')) x
section
variable{X:Cx}{R:St->XK}{T:DF}{k k':Nat}{f:Addr}{fd:FuncData}{ps:List Str}{x:Str}{p pos:Pos}{e:Expr}{es:List Expr}{t:DA}
def aK(C:aV X.prog X.w X.K X.mg X.base k x ps T f fd)(hr:bp k' X.A)(hx:cP (bP X.prog X.w) X R)(ha:JA X R (e::es) t)(hk:k<=k':=by decide)(hg:Gl X x:=by rfl)(ku:(x==("__debug__":Str))=false:=by decide)
  (he:starEach (e::es) X.env=(false,eval e X.env)::starEach es X.env:=by rfl) (eB:(backTo pos (starEach es X.env)).any (·.1)=false:=by rfl):JE X R (.Call (.Name x p) (e::es) [] pos) (sH T t):=
 .of (GQ C.ok (hr.mono hk) hg C.m C.kp C.b .nil hx ha ku he eB) λσ H G L ρ M q x rl n h hx=>by refine⟨G,L,ρ,M,_,x,rl,n,h,hx,λvs H1 xz=>?_⟩;have⟨ds,G1,L1,M1,e1,r1,n1,h1⟩:=xz;show eN X.K T (vs++[]) H1 _ _;rw[aaO];exact⟨G1,L1,ds,M1,q,_,r1,n1,h1,λv H' f=>Fin.back e1 f,λC fs M' G' L' H' od hq e' r' y=>hx σ ρ C fs M' G' L' H' od hq (e1.trans e') r' (n.mono (e1.trans e')) y⟩
end
def HE(C:Addr)(t:DA):DS:=λDn ρ M=>t ρ M (λds M1=>ds.length<=sizeLine/\Dn.x ρ C [] M1) Dn.x
section
variable{X:Cx}{R:St->XK}{C:Addr}{t:DA}{Bn newId aP:String}{gk:List Value}{x:Str}{np af pos:Pos}{e:Expr}{es:List Expr}
def aN(hR:rq X R)(F:ExcBaseFacts Bn newId aP gk)(c:cR X.K C gk newId)(hm:X.mg x=some (.ref C))(ha:JA X R (e::es) t)(hc:X.calm=true:=by rfl)(hex:X.ex=[]:=by rfl)(hg:Gl X x:=by rfl)
  (ku:(x==("__debug__":Str))=false:=by decide) (he:starEach (e::es) X.env=(false,eval e X.env)::starEach es X.env:=by rfl) (eB:(backTo af (starEach es X.env)).any (·.1)=false:=by rfl):
  JS X R (.Raise (some (.Call (.Name x np) (e::es) [] af)) none pos) (HE C t):=.of (Ha hR hc hex F c hg hm ha ku he eB) λσ H G L ρ M Dn rl n h hx=>by
 refine⟨G,L,ρ,M,_,_,rl,n,h,hx,fun vs H1 ⟨ds,G1,L1,M1,e1,r1,n1,h1⟩=>⟨by rw[<-n1.length];exact h1.1,?_⟩⟩;exact hx σ ρ C [] M1 G1 L1 H1 none h1.2 e1 r1 (n.mono e1) (.inl ⟨rfl,rfl⟩)
end
structure Yl(K:gV)(J:It)(xs:List Dt)(G0:Hp)(L0:List Addr):Prop where
 go:∀(i:Nat) G L M H (d:Dt),cT G0 G->Pre L0 L->Rl K G L M H->xs[i]? =some d->J.go i H/\∀v H',J.Rg i H v H'->∃G',Ex G L H G' L H'/\Rl K G' L M H'/\Den K G' L d v
 stop:∀(i:Nat) G L M H,cT G0 G->Pre L0 L->Rl K G L M H->xs.length<=i->J.stop i H
inductive PU(K:gV)(G0:Hp)(L0:List Addr)(H0:Hp)(q:List Dt->Ms->Prop)(J:It)(H:Hp):Prop
 | mk (xs:List Dt) (G:Hp) (L:List Addr) (M:Ms) (e:Ex G0 L0 H0 G L H) (r:Rl K G L M H) (y:Yl K J xs G L) (h:q xs M)
inductive SX(K:gV)(R:St->XK)(t:DA)(σ:St)(H:Hp)(Q:It->Hp->Prop):Prop
 | mk (G:Hp) (L:List Addr) (ρ:En) (M:Ms) (q:List Dt->Ms->Prop) (x:DX) (r:Rl K G L M H) (n:gm K G L ρ σ) (h:t ρ M q x) (hx:o6 K G L H R x) (hQ:∀J H1,PU K G L H q J H1->Q J H1)
def JI(X:Cx)(R:St->XK)(tg iter:Expr)(t:DA):Prop:=PI X tg iter (SX X.K R t)
def Jb.imp{X:Cx}{δ:List (Addr×Obj)}{σ:St}{tg:Expr}{R R':It->Hp->Prop}(hR:∀J H,R J H->R' J H){v:Value}{s:Shared}(h:Jb X δ σ tg R v s):Jb X δ σ tg R' v s:=by have⟨it,fp,tn,J,H',a,b,c,d,e,f⟩:=h;exact⟨it,fp,tn,J,H',a,b,c,d,e,hR J H' f⟩
def oN{K:gV}{G:Hp}{L:List Addr}{a:Addr}{ds:List Dt}{vs:List V}(h:∀G':Hp,cT G G'->fG K G' a vs)(n:Λ K G L ds vs):Yl K (Sx K a) ds G L where
 go:=λi G1 L1 M1 H1 d g l r e=>by
  have⟨v,e1,n1⟩:=n.get e;have hs:=h H1 (g.trans r.sub)
  exact⟨⟨vs,v,hs,e1⟩,fun v' H' ⟨eH,y⟩=>by
   subst eH;have e2:=y vs hs;rw[e1]at e2;cases e2
   exact⟨G1,.refl _ _ _,r,Den.mono g l _ _ n1⟩⟩
 stop:=λi G1 L1 M1 H1 g l r e=>⟨vs,h H1 (g.trans r.sub),by rw[<-n.length];exact e⟩
def v7{K:gV}{G:Hp}{L:List Addr}{a:Addr}{ds:List Dt}{vs:List V}(h:∀G':Hp,cT G G'->jN K G' a vs)(n:Λ K G L ds vs):Yl K (T_ K a) ds G L where
 go:=λi G1 L1 M1 H1 d g l r e=>by
  have⟨v,e1,n1⟩:=n.get e;have hs:=h H1 (g.trans r.sub)
  exact⟨⟨vs,v,hs,e1⟩,fun v' H' ⟨eH,y⟩=>by
   subst eH;have e2:=y vs hs;rw[e1]at e2;cases e2
   exact⟨G1,.refl _ _ _,r,Den.mono g l _ _ n1⟩⟩
 stop:=λi G1 L1 M1 H1 g l r e=>⟨vs,h H1 (g.trans r.sub),by rw[<-n.length];exact e⟩
def iW(lo:Int)(n:Nat):List Dt:=(List.range n).map λk:Nat=>Dt.int (lo+(k:Int))
def N7{K:gV}{G:Hp}{L:List Addr}{lo:Int}{n:Nat}:Yl K (SO lo n) (iW lo n) G L where
 go :=λi G1 L1 M1 H1 d g l r e=>by
  unfold iW at e;rw[aaM]at e;have hi:i < n:=by
   cases q:(List.range n)[i]? with
   | none=>rw[q]at e;cases e
   | some j=>
    have:=(aai.mp q).1;rwa[List.length_range]at this
  rw[List.getElem?_range hi]at e;cases e;exact⟨hi,λv' H' ⟨eH,y⟩=>by subst eH y;exact⟨G1,.refl _ _ _,r,rfl⟩⟩
 stop:=λi G1 L1 M1 H1 g l r e=>by show n<=i;unfold iW at e;simpa using e
section
variable{X:Cx}{R:St->XK}{tg iter:Expr}
def JI.of{wi:TI}{t:DA}(h:PI X tg iter wi)(hw:∀σ H G L ρ M q x,Rl X.K G L M H->gm X.K G L ρ σ->t ρ M q x->o6 X.K G L H R x->wi σ H (PU X.K G L H q)):JI X R tg iter t:=by intro δ s σ H Q I ⟨G,L,ρ,M,q,x,r,n,ht,hx,hQ⟩;exact aT (h δ s σ H _ I (hw σ H G L ρ M q x r n ht hx)) λu s1 f=>aT f λu2 s2 f2=>Jb.imp hQ f2
def GF(t:DA):DA:=λρ M q x=>t ρ M (λds M1=>match ds with
 | [.int j]=>(-(2 ^ 62)<=j/\j < 2 ^ 62)/\q (iW 0 j.toNat) M1
 | _=>False) x
def fw{a:Expr}{t:DA}{p pos:Pos}(hm:X.mg "range"=none)(ha:JA X R [a] t)(hg:Gl X "range":=by rfl)(hs:starEach [a] X.env=[(false,eval a X.env)]:=by rfl):JI X R tg (.Call (.Name "range" p) [a] [] pos) (GF t):=
 .of (C4 hg hm ha hs) λσ H G L ρ M q x rl n h hx=>by
  refine⟨G,L,ρ,M,_,x,rl,n,h,hx,λvs H1 xz=>?_⟩;have⟨ds,G1,L1,M1,e1,r1,n1,h1⟩:=xz
  (try dsimp only at h1)
  split at h1
  ·rename_i j;have⟨v,rfl,n2⟩:=aC n1;have n2:v= .int j:=n2;subst n2;exact⟨j,rfl,h1.1.1,h1.1.2,_,G1,L1,M1,e1,r1,N7,h1.2⟩
  ·exact h1.elim
end
def GD(K:gV)(gg:TG)(g:Dt->En->(En->Prop)->Prop):Prop:=
 ∀G L M H d v ρ σ (k:En->Prop) (Q:St->Hp->Prop),Rl K G L M H->Den K G L d v->gm K G L ρ σ->g d ρ k->(∀ρ' σ',gm K G L ρ' σ'->k ρ'->Q σ' H)->gg v σ H Q
def gN(i:Nat):Dt->En->(En->Prop)->Prop:=λd ρ k=>k (ρ.set i (some d))
def bV{K:gV}{i:Nat}:GD K (ix i) (gN i):=λG L M H d v ρ σ k Q rl n en h hQ=>hQ _ _ (en.set i n) h
def g2(i j:Nat):Dt->En->(En->Prop)->Prop:=λd ρ k=>match d with
 | .tup [a,b]=>k ((ρ.set i (some a)).set j (some b))
 | _=>False
def HA{K:gV}{i j:Nat}:GD K (MS K 2 (nG (ix i) (nG (ix j) KR))) (g2 i j):=λG L M H d v ρ σ k Q rl n en h hQ=>by
 unfold g2 at h;split at h
 ·rename_i a b;have⟨p,vs,rfl,e,n⟩:=n;have⟨v1,v2,rfl,n1,n2⟩:=fi n;exact⟨p,_,rfl,.inl (.inl (rl.sub _ _ e)),rfl,v1,_,rfl,v2,_,rfl,rfl,hQ _ _ ((en.set i n1).set j n2) h⟩
 ·exact h.elim
def vN(g:Dt->En->(En->Prop)->Prop)(tb:DS)(Dn:jU):List Dt->En->Ms->Prop
 | [],ρ,M=>Dn.nx ρ M
 | x::xs,ρ,M=>g x ρ λρ'=>tb {Dn with nx:=vN g tb Dn xs,ct:=vN g tb Dn xs,bk:=Dn.nx} ρ' M
def QC(ti:DA)(g:Dt->En->(En->Prop)->Prop)(tb:DS):DS:=λDn ρ M=>ti ρ M (λxs M1=>vN g tb Dn xs ρ M1) Dn.x
section
variable{X:Cx}{R:St->XK}{tg iter:Expr}{body:List Stmt}{ti:DA}{gg:TG}{g:Dt->En->(En->Prop)->Prop}{tb:DS}{pos:Pos}
def F_(hi:JI X R tg iter ti)(hg:PG X tg gg)(gd:GD X.K gg g)(hb:zZ X R body tb)(hp:PassesOwn (model X.prog X.w) X.A X.env X.xe:=by first| exact PassesOwn.never| exact PassesOwn.leaving)(hc:X.calm=true:=by rfl)(hs:∀x,foldedSetIterable iter X.env x=pure x:=by intro _;rfl):
  JS X R (.For tg iter body [] pos) (QC ti g tb):=.of (GC hp hc hi hg hb hs) λσ H G L ρ M Dn rl n h hx=>by
 refine⟨G,L,ρ,M,_,_,rl,n,h,hx,λJ H1 xz=>?_⟩;have⟨xs,G1,L1,M1,e1,r1,y,h1⟩:=xz;refine⟨λi m σ' H'=>m+i=xs.length/\eL X.K G1 L1 H1 (λρ' M'=>vN g tb Dn (xs.drop i) ρ' M') σ' H',⟨xs.length,rfl,ρ,G1,L1,M1,.refl _ _ _,r1,n.mono e1,by rw[abC];exact h1⟩,?_⟩;rintro i m σ' H' ⟨hm,ρ',G',L',M',e',r',n',h'⟩;by_cases hi:i < xs.length
 ·right;have hd:xs[i]? =some xs[i]:=aaa hi;have⟨go,yl⟩:=y.go i G' L' M' H' _ e'.g e'.l r' hd;rw[abn hi]at h';refine⟨go,eL X.K G1 L1 H1 (λρ' M'=>vN g tb Dn (xs.drop (i+1)) ρ' M'),λσ2 H2 f=>⟨m - 1,(),(),f⟩,λv H2 hy=>?_⟩;have⟨G2,e2,r2,n2⟩:=yl v H2 hy;refine gd G2 L' M' H2 _ v ρ' σ' _ _ r2 n2 (n'.mono e2) h' λρ3 σ3 n3 h3=>?_;refine⟨G2,L',ρ3,M',_,r2,n3,h3,hx.on (e1.trans (e'.trans e2)),⟨λ_ _ f=>eL.back (e'.trans e2) f,λ_ _ f=>Fin.back (e1.trans (e'.trans e2)) f,λ_ _ f=>eL.back (e1.trans (e'.trans e2)) f,λ_ _ f=>eL.back (e'.trans e2) f⟩⟩
 ·left;refine⟨y.stop i G' L' M' H' e'.g e'.l r' (),ρ',G',L',M',e1.trans e',r',n',?_⟩;rw[abw ()]at h';exact h'
end
abbrev DK:=En->Ms->(List Dt->(Ms->Prop)->Ms->Prop)->DX->Prop
structure NO(K:gV)(J:It)(xs:List Dt)(ok:Ms->Prop)(G0:Hp)(L0:List Addr):Prop where
 go:∀(i:Nat) G L M H (d:Dt),cT G0 G->Pre L0 L->Rl K G L M H->ok M->xs[i]? =some d->J.go i H/\∀v H',J.Rg i H v H'->∃G',Ex G L H G' L H'/\Rl K G' L M H'/\Den K G' L d v
 stop:∀(i:Nat) G L M H,cT G0 G->Pre L0 L->Rl K G L M H->ok M->xs.length<=i->J.stop i H
inductive UN(K:gV)(G0:Hp)(L0:List Addr)(H0:Hp)(q:List Dt->(Ms->Prop)->Ms->Prop)(J:It)(H:Hp):Prop
 | mk (xs:List Dt) (ok:Ms->Prop) (G:Hp) (L:List Addr) (M:Ms) (e:Ex G0 L0 H0 G L H) (r:Rl K G L M H) (y:NO K J xs ok G L) (h:q xs ok M)
inductive TZ(K:gV)(R:St->XK)(t:DK)(σ:St)(H:Hp)(Q:It->Hp->Prop):Prop
 | mk (G:Hp) (L:List Addr) (ρ:En) (M:Ms) (q:List Dt->(Ms->Prop)->Ms->Prop) (x:DX) (r:Rl K G L M H) (n:gm K G L ρ σ) (h:t ρ M q x) (hx:o6 K G L H R x) (hQ:∀J H1,UN K G L H q J H1->Q J H1)
def JK(X:Cx)(R:St->XK)(tg iter:Expr)(t:DK):Prop:=PI X tg iter (TZ X.K R t)
def Xo(t:DA):DK:=λρ M q x=>t ρ M (λxs M1=>q xs (λ_=>True) M1) x
def B0{X:Cx}{R:St->XK}{tg iter:Expr}{t:DA}(h:JI X R tg iter t):JK X R tg iter (Xo t):=by intro δ s σ H Q I ⟨G,L,ρ,M,q,x,r,n,ht,hx,hQ⟩;refine h δ s σ H Q I ⟨G,L,ρ,M,_,x,r,n,ht,hx,λJ H1 ⟨xs,G1,L1,M1,e1,r1,y,hq⟩=>hQ J H1 ⟨xs,_,G1,L1,M1,e1,r1,⟨λi G L M H d g l r _ e=>y.go i G L M H d g l r e,λi G L M H g l r _ e=>y.stop i G L M H g l r e⟩,hq⟩⟩
def gY(Γ:List Nat)(ρ:En):En:=Γ.map λi=>(ρ[i]?).join
def ir(g:Dt->En->(En->Prop)->Prop)(tc:DT)(te:DE)(ρ0:En)(ok:Ms->Prop):List Dt->List Dt->Ms->(List Dt->Ms->Prop)->Prop
 | [],Κ,M,k=>ok M/\k Κ M
 | x::xs,Κ,M,k=>ok M/\g x ρ0 λρ'=>tc ρ' M (λb M1=>match b with
  | true=>te ρ' M1 (λd M2=>ir g tc te ρ0 ok xs (Κ++[d]) M2 k) iB
  | false=>ir g tc te ρ0 ok xs Κ M1 k) iB
def Fd(n:Nat)(ti:DK)(g:Dt->En->(En->Prop)->Prop)(tc:DT)(te:DE)(Γ:List Nat):DE:=λρ M q x=>ti ρ M (λxs ok M1=>xs.length<=sizeLine/\ir g tc te (List.replicate n none++gY Γ ρ) ok xs [] M1 (λys M2=>q (.lst ys) M2)) x
def B4{K:gV}{G:Hp}{L:List Addr}{ρ:En}{σ os:St}{n:Nat}(h:gm K G L ρ σ)(Γ:List Nat)(hl:os.length=n):gm K G L (List.replicate n none++gY Γ ρ) (os++f_ Γ σ):=by
 have lc:(gY Γ ρ).length=(f_ Γ σ).length:=by unfold gY f_;simp
 refine⟨by rw[aae,aae,aak,hl,lc],λi d' e=>?_⟩;by_cases hi:i < n
 ·rw[aav (by rw[aak];exact hi),abp,aaB hi]at e;cases e
 ·rw[aaE (by rw[aak];omega),aak]at e;rw[aaE (),hl];unfold gY at e;unfold f_;rw[aaM]at e⊢;cases q:Γ[i - n]? with
  | none=>rw[q]at e;cases e
  | some j=>
   rw[q]at e;have e:(ρ[j]?).join=some d':=aaw e;have e:ρ[j]? =some (some d'):=by
    cases z:ρ[j]? with
    | none=>rw[z]at e;cases e
    | some o=>rw[z]at e;exact aaN some e
   have⟨v,hv,dn⟩:=h.fF j d' e;exact⟨v,by show some ((σ[j]?).join)=_;rw[hv];rfl,dn⟩
def yq{K:gV}{J:It}{gg:TG}{g:Dt->En->(En->Prop)->Prop}{tc:DT}{te:DE}{Γ:List Nat}{nn:Nat}{ρ:En}{σ:St}{G1:Hp}{L1:List Addr}{M1:Ms}{H1:Hp}{xs:List Dt}{ok:Ms->Prop}{Dl:Addr}{Q:VK}{k:List Dt->Ms->Prop}(gd:GD K gg g)(r1:Rl K G1 L1 M1 H1)(n:gm K G1 L1 ρ σ)(y:NO K J xs ok G1 L1)(hD:H1 Dl=none)(hz:xs.length<=sizeLine)
  (h:ir g tc te (List.replicate nn none++gY Γ ρ) ok xs [] M1 k)
  (fin:∀G2 L2 M2 H2 ds vs,Ex G1 L1 H1 G2 L2 H2->Rl K G2 L2 M2 H2->G2 Dl=none->Dl∉L2->H2 Dl=some (.lst vs)->Λ K G2 L2 ds vs->k ds M2->Q (.ref Dl) H2):
  p7 J nn gg (vj K (λ_=>E0) tc) (i7 K (λ_=>E0) te) (f_ Γ σ) Q H1 Dl:=by
 refine⟨λi m ys H2=>m+i=xs.length/\H2 Dl=some (.lst ys)/\∃Κ G2 L2 M2,Ex G1 L1 H1 G2 L2 H2/\Rl K G2 L2 M2 H2/\G2 Dl=none/\Dl∉L2/\Λ K G2 L2 Κ ys/\Κ.length<=i/\ir g tc te (List.replicate nn none++gY Γ ρ) ok (xs.drop i) Κ M2 k,⟨xs.length,rfl,Η,[],G1,L1,M1,?_⟩,?_⟩
 ·have gn:G1 Dl=none:=r1.sub.free hD;refine⟨⟨.refl _,.refl _,λ_ h _=>h,λb u h1 _=>by rw[ξ (λz=>by rw[z,hD]at h1;cases h1)];exact h1,λ_ h=>.inl h,λb h=>by rw[ξ (λz=>h (by rw[z];exact hD))];exact h⟩,⟨λb u e=>by rw[ξ (λz=>by rw[z,gn]at e;cases e)];exact r1.sub b u e,r1.len,r1.nd,λi a m h1 h2=>?_⟩,gn,r1.DP hD,rfl,aaq _,by rw[abC];exact h⟩;have⟨q1,q2⟩:=r1.fF i a m h1 h2;exact⟨q1,q2.mono (.refl _) (.refl _) (ξ λz=>q2.there (by rw[z];exact hD))⟩
 ·rintro i m ys H2 ⟨hm,pJ,Κ,G2,L2,M2,e2,r2,g2,l2,n2,la,h2⟩;refine⟨pJ,?_⟩;have ne1:∀{b:Addr} {u:HO},H1 b=some u->b≠Dl:=λe z=>by rw[z,hD]at e;cases e
  by_cases hi:i < xs.length
  ·right;have hd:xs[i]? =some xs[i]:=aaa hi;rw[abn hi]at h2;have⟨av,h2⟩:=h2;have⟨go,yl⟩:=y.go i G2 L2 M2 H2 _ e2.g e2.l r2 av hd;refine⟨go,λv H3 hy os Kb=>?_⟩;have⟨G3,e3,r3,n3⟩:=yl v H3 hy;have h3:H3 Dl=some (.lst ys):=e3.out _ _ pJ l2;have g3:G3 Dl=none:=e3.fr _ g2 (by rw[pJ];simp);refine gd G3 L2 M2 H3 _ v _ _ _ _ r3 n3 (B4 ((n.mono e2).mono e3) Γ Kb) h2 λρ' σ' n' h'=>?_;refine⟨G3,L2,ρ',M2,_,iB,r3,n',h',m7,λb H4 xz=>?_⟩;have⟨G4,L4,M4,e4,r4,h4⟩:=xz;have KL:H4 Dl=some (.lst ys):=e4.out _ _ h3 l2;have g4:G4 Dl=none:=e4.fr _ g3 (by rw[h3];simp);have l4:Dl∉L4:=λz=>(e4.new _ z).elim l2 λq=>by rw[h3]at q;cases q
   have IC:=e3.trans e4;cases b with
   | false=>
    exact⟨m - 1,(),(),KL,Κ,G4,L4,M4,e2.trans IC,r4,g4,l4,Λ.mono IC.g IC.l _ _ n2,(),h4⟩
   | true=>
    refine⟨G4,L4,ρ',M4,_,iB,r4,n'.mono e4,h4,m7,λv5 H5 xz=>?_⟩;have⟨d5,G5,L5,M5,e5,r5,n5,h5⟩:=xz;have Tn:H5 Dl=some (.lst ys):=e5.out _ _ KL l4;have g5:G5 Dl=none:=e5.fr _ g4 (by rw[KL];simp);have l5:Dl∉L5:=λz=>(e5.new _ z).elim l4 λq=>by rw[KL]at q;cases q
    have Oi:=IC.trans e5;have PM:ys.length=Κ.length:=by rw[<-n2.length]
    refine⟨Tn,(),m - 1,(),(),Η,Κ++[d5],G5,L5,M5,?_,?_,g5,l5,(Λ.mono Oi.g Oi.l _ _ n2).app ⟨_,_,rfl,n5,rfl⟩,by rw[aae];show Κ.length+1<=i+1;omega,h5⟩
    ·have CB:=e2.trans Oi
     exact⟨CB.g,CB.l,CB.fr,λb u h1 h2=>by rw[ξ (ne1 h1)];exact CB.out b u h1 h2,CB.new,λb h=>by
      by_cases hb:b=Dl
      ·rw[hb,Η];simp
      ·rw[ξ hb];exact CB.sA b h⟩
    ·refine⟨λb u e=>by rw[ξ (λz=>by rw[z,g5]at e;cases e)];exact r5.sub b u e,r5.len,r5.nd,λi a m h1 h2=>?_⟩;have⟨q1,q2⟩:=r5.fF i a m h1 h2;exact⟨q1,q2.mono (.refl _) (.refl _) (ξ λz=>l5 (by rw[<-z];exact aaA h1))⟩
  ·left;rw[abw ()]at h2;exact⟨y.stop i G2 L2 M2 H2 e2.g e2.l r2 h2.1 (),fin G2 L2 M2 H2 Κ ys e2 r2 g2 l2 pJ n2 h2.2⟩
section
variable{K:gV}{G1:Hp}{L1:List Addr}{H1 G:Hp}{L:List Addr}{M:Ms}{H:Hp}{p:Addr}{ds:List Dt}{vs:List V}{q:DQ}
def uA(e:Ex G1 L1 H1 G L H)(r:Rl K G L M H)(Iu:H1 p=none)(hg:G p=none)(hl:p∉L)(h:H p=some (.lst vs))(n:Λ K G L ds vs)(k:q (.lst ds) M):Fin K G1 L1 H1 q (.ref p) H:=by
 have g1:cT G (upd G p (.lst vs)):=λb u e=>by rw[ξ (λz=>by rw[z,hg]at e;cases e)];exact e
 refine⟨.lst ds,upd G p (.lst vs),L,M,⟨e.g.trans g1,e.l,λb h1 h2=>?_,e.out,e.new,e.sA⟩,⟨λb u e=>?_,r.len,r.nd,λk a m h1 h2=>?_⟩,⟨p,vs,rfl,Η,Λ.mono g1 (.refl _) _ _ n⟩,k⟩
 ·rw[ξ (λz=>h2 (by rw[z];exact Iu))];exact e.fr b h1 h2
 ·by_cases hb:b=p
  ·rw[hb,Η]at e;rw[hb];cases e;exact h
  ·rw[ξ hb]at e;exact r.sub b u e
 ·have⟨q1,q2⟩:=r.fF k a m h1 h2;have hb:a≠p:=λz=>hl (by rw[<-z];exact aaA h1);exact⟨by rw[ξ hb];exact q1,q2.mono g1 (.refl _) rfl⟩
def Ks(e:Ex G1 L1 H1 G L H)(r:Rl K G L M H)(Iu:H1 p=none)(hg:G p=none)(hl:p∉L)(h:H p=some (.lst vs))(n:Λ K G L ds vs)(k:q (.loc M.length) (M++[.lst ds])):Fin K G1 L1 H1 q (.ref p) H:=by
 refine⟨.loc M.length,G,L++[p],M++[.lst ds],⟨e.g,e.l.trans ⟨[p],rfl⟩,e.fr,e.out,λb hb=>?_,e.sA⟩,⟨r.sub,by rw[List.length_append,List.length_append,r.len];rfl,List.nodup_append.mpr ⟨r.nd,by simp,λa ha b hb=>?_⟩,λk a m h1 h2=>?_⟩,⟨p,rfl,by rw[<-r.len,List.getElem?_append_right (Nat.le_refl _)];simp⟩,k⟩
 ·rcases aaj.mp hb with z| z
  ·exact e.new b z
  ·have e:b=p:=by simpa using z
   right;rw[e];exact Iu
 ·have e:b=p:=by simpa using hb
  rw[e];exactλz=>hl (z▸ha)
 ·by_cases hk:k < L.length
  ·rw[aav hk]at h1;rw[aav (by rw[<-r.len];exact hk)]at h2;have⟨q1,q2⟩:=r.fF k a m h1 h2;exact⟨q1,q2.mono (.refl _) ⟨[p],rfl⟩ rfl⟩
  ·have e:k=L.length:=by have:=(aai.mp h1).1;rw[aae]at this;simp at this;omega
   rw[e,aaE (aaq _)]at h1;rw[e,r.len,aaE (aaq _)]at h2;simp at h1 h2;subst h1 h2;exact⟨hg,vs,h,Λ.mono (.refl _) ⟨[p],rfl⟩ _ _ n⟩
def Se(b:Bool)(q:DQ)(ys:List Dt)(M:Ms):Prop:=match b with
 | false=>q (.lst ys) M
 | true=>q (.loc M.length) (M++[.lst ys])
def A2{b:Bool}(e:Ex G1 L1 H1 G L H)(r:Rl K G L M H)(Iu:H1 p=none)(hg:G p=none)(hl:p∉L)(h:H p=some (.lst vs))(n:Λ K G L ds vs)(k:Se b q ds M):Fin K G1 L1 H1 q (.ref p) H:=by
 cases b
 ·exact uA e r Iu hg hl h n k
 ·exact Ks e r Iu hg hl h n k
end
def bz{n i:Nat}(h:i < n):n9 n (ix i):=λv os cs H Q hl hq=>⟨⟨os.set i (some v),by rw[aaY];exact hl,List.set_append_left _ _ ()⟩,hq⟩
section
variable{X:Cx}{elt iter tg:Expr}{xs:List Str}{scope:Scope}{pos:Pos}{ys:List Str}{Γ:List Nat}
def cD{i:Nat}{x:Str}{px:Pos}(S:Ξ X scope xs ys Γ)(h:xs[i]? =some x)(C:Addr)(s:Shared)(H:Hp)(fp:List Addr):PG (Cx.comp X (xs++ys) scope C s H fp) (.Name x px) (ix i):=by
 have hm:x∈xs:=aaA h;have hi:(xs++ys)[i]? =some x:=by rw[aav (aai.mp h).1];exact h
 exact bS S.nd hi (.inl (lookup_relabel_local (S.own x hm))) (.inr (lookup_relabel_local (S.own x hm)))
end
def lH:DT:=λ_ M q _=>q true M
def TV(X:Cx)(cs:List Expr)(t:DT):Prop:=N6 X cs (vj X.K (λ_=>E0) t)
def eS{X:Cx}:TV X [] lH:=⟨.inl rfl,λδ s σ H Q I ⟨G,L,ρ,M,q,x,r,n,h,hx,hQ⟩=>aar ⟨H,I,hQ true H ⟨G,L,M,.refl _ _ _,r,h⟩⟩⟩
def JZ{X:Cx}{c:Expr}{t:DT}(h:JT X (λ_=>E0) c t):TV X [c] t:=⟨.inr ⟨c,rfl⟩,h⟩
def LY(b:Bool)(g:Dt->En->(En->Prop)->Prop)(tc:DT)(te:DE)(cs:En)(q:DQ):List Dt->(Ms->Prop)->Ms->Prop:=λzs ok M1=>zs.length<=sizeLine/\ir g tc te cs ok zs [] M1 (Se b q)
section
variable{X:Cx}{R:St->XK}{elt iter tg:Expr}{cs:List Expr}{xs:List Str}{scope:Scope}{pos:Pos}{gg:TG}{g:Dt->En->(En->Prop)->Prop}{ti:DK}{tc:DT}{te:DE}{ys:List Str}{Γ:List Nat}(b:Bool)(S:Ξ X scope xs ys Γ)(hi:JK X R tg iter ti)(hg:∀C s H fp,PG (Cx.comp X (xs++ys) scope C s H fp) tg gg)(gd:GD X.K gg g)(hk:n9 xs.length gg)(ht:∀C s H fp,TV (Cx.comp X (xs++ys) scope C s H fp) cs tc)(he:∀C s H fp,JE (Cx.comp X (xs++ys) scope C s H fp) (λ_=>E0) elt te)(hc:X.calm=true)(hs:∀x,foldedSetIterable iter X.env x=pure x)
include S hi hg gd hk ht he hc hs
def Px{t:DE}(e:∀ρ M q x,t ρ M q x->ti ρ M (LY b g tc te (List.replicate xs.length none++gY Γ ρ) q) x):JE X R (.ListComp elt [⟨tg,iter,cs,0⟩] scope pos) t:=
 .of (HY (tc:=vj X.K (λ_=>E0) tc) (te:=i7 X.K (λ_=>E0) te) S hc hi hg hk ht he hs) λσ H G L ρ M q x rl n h hx=>⟨G,L,ρ,M,_,x,rl,n,e _ _ _ _ h,hx,λJ H1 ⟨xs,ok,G1,L1,M1,e1,r1,y,hz,h1⟩ D hD=>yq gd r1 (n.mono e1) y hD hz h1 λG2 L2 M2 H2 ds vs e2 r2 g2 l2 h2 n2 k=>Fin.back e1 (A2 e2 r2 hD g2 l2 h2 n2 k)⟩
def Vn{i:Nat}{y:Str}{py gr:Pos}(hN:X.N.Nodup)(Dd:X.N[i]? =some y)(hy:Loc X.env.scope y)(Ap:swapsWith (.ListComp elt [⟨tg,iter,cs,0⟩] scope pos) (some (.Name y py)) gr.line X.env=pure true)(hf:X.fn y=true\/X.env.scope.names.lookup y=some .local){t:DE}(e:∀ρ M q x,t ρ M q x->ti ρ M (LY b g tc te (List.replicate xs.length none++gY Γ ρ) q) x):
  JS X R (.Assign [.Name y py] (.ListComp elt [⟨tg,iter,cs,0⟩] scope pos) gr) (m8 i t):=.of (wK (tc:=vj X.K (λ_=>E0) tc) (te:=i7 X.K (λ_=>E0) te) hN Dd hy S hc hi hg hk ht he Ap hs hf) λσ H G L ρ M Dn rl n h hx=>by
 refine⟨G,L,ρ,M,_,_,rl,n,e _ _ _ _ h,hx,fun J H1 ⟨xs,ok,G1,L1,M1,e1,r1,y,hz,h1⟩ D hD=>yq gd r1 (n.mono e1) y hD hz h1 λG2 L2 M2 H2 ds vs e2 r2 g2 l2 h2 n2 k=>?_⟩;have⟨d,G3,L3,M3,e3,r3,n3,h3⟩:=A2 (q:=λd M=>Dn.nx (ρ.set i (some d)) M) e2 r2 hD g2 l2 h2 n2 k;exact⟨_,G3,L3,M3,e1.trans e3,r3,((n.mono e1).mono e3).set i n3,h3⟩
end
def pd(te:DE)(cs:En):List Dt->List Dt->Ms->(List Dt->Ms->Prop)->Prop
 | [],Κ,M,k=>k Κ M
 | x::xs,Κ,M,k=>te (some x::cs) M (λd M1=>pd te cs xs (Κ++[d]) M1 k) iB
def tM(ti:DA)(te:DE)(Γ:List Nat):DE:=λρ M q x=>ti ρ M (λxs M1=>xs.length<=sizeLine/\pd te (gY Γ ρ) xs [] M1 (λys M2=>q (.lst ys) M2)) x
def Fl(ti:DA)(te:DE)(Γ:List Nat):DE:=λρ M q x=>ti ρ M (λxs M1=>xs.length<=sizeLine/\pd te (gY Γ ρ) xs [] M1 (λys M2=>q (.loc M2.length) (M2++[.lst ys]))) x
def oJ{te:DE}{cs:En}:∀xs,pd te cs xs=ir (gN 0) lH te (none::cs) (λ_=>True) xs
 | []=>funext λΚ=>funext λM=>funext λk=>(true_and _).symm
 | x::xs=>funext λΚ=>funext λM=>funext λk=>by show te (some x::cs) M (λd M1=>pd te cs xs (Κ++[d]) M1 k) iB=(True/\te (some x::cs) M (λd M1=>ir (gN 0) lH te (none::cs) (λ_=>True) xs (Κ++[d]) M1 k) iB);rw[oJ xs,true_and]
section
variable{X:Cx}{R:St->XK}{elt iter:Expr}{x:Str}{px:Pos}{scope:Scope}{pos:Pos}{ti:DA}{te:DE}{ys:List Str}{Γ:List Nat}
def uN(S:Ξ X scope [x] ys Γ)(hi:JI X R (.Name x px) iter ti)(he:∀C s H fp,JE (Cx.comp X (x::ys) scope C s H fp) (λ_=>E0) elt te)(hc:X.calm=true:=by rfl)(hs:∀x,foldedSetIterable iter X.env x=pure x:=by intro _;rfl):JE X R (.ListComp elt [⟨.Name x px,iter,[],0⟩] scope pos) (tM ti te Γ):=Px false S (B0 hi) (cD S (i:=0) rfl) bV (bz (Nat.zero_lt_succ 0)) (λ_ _ _ _=>eS) he hc hs λρ M q x h=>by unfold tM at h;simp only[oJ]at h;exact h
def Jh(S:Ξ X scope [x] ys Γ)(hi:JI X R (.Name x px) iter ti)(he:∀C s H fp,JE (Cx.comp X (x::ys) scope C s H fp) (λ_=>E0) elt te)(hc:X.calm=true:=by rfl)(hs:∀x,foldedSetIterable iter X.env x=pure x:=by intro _;rfl):JE X R (.ListComp elt [⟨.Name x px,iter,[],0⟩] scope pos) (Fl ti te Γ):=Px true S (B0 hi) (cD S (i:=0) rfl) bV (bz (Nat.zero_lt_succ 0)) (λ_ _ _ _=>eS) he hc hs λρ M q x h=>by unfold Fl at h;simp only[oJ]at h;exact h
def zW{i:Nat}{y:Str}{py gr:Pos}(hN:X.N.Nodup)(Dd:X.N[i]? =some y)(hy:Loc X.env.scope y)(S:Ξ X scope [x] ys Γ)(hi:JI X R (.Name x px) iter ti)(he:∀C s H fp,JE (Cx.comp X (x::ys) scope C s H fp) (λ_=>E0) elt te)(hc:X.calm=true:=by rfl)(Ap:swapsWith (.ListComp elt [⟨.Name x px,iter,[],0⟩] scope pos) (some (.Name y py)) gr.line X.env=pure true:=by rfl)(hs:∀x,foldedSetIterable iter X.env x=pure x:=by intro _;rfl)(hf:X.fn y=true\/X.env.scope.names.lookup y=some .local:=by first| exact .inl rfl| exact .inr rfl| assumption):JS X R (.Assign [.Name y py] (.ListComp elt [⟨.Name x px,iter,[],0⟩] scope pos) gr) (m8 i (tM ti te Γ)):=Vn false S (B0 hi) (cD S (i:=0) rfl) bV (bz (Nat.zero_lt_succ 0)) (λ_ _ _ _=>eS) he hc hs hN Dd hy Ap hf λρ M q x h=>by unfold tM at h;simp only[oJ]at h;exact h
end
def fin_same{K:gV}{G0:Hp}{L0:List Addr}{H0 G:Hp}{L:List Addr}{M:Ms}{H:Hp}{d:Dt}{v:V}{q:DQ}(e:Ex G0 L0 H0 G L H)(r:Rl K G L M H)(n:Den K G L d v)(h:q d M):Fin K G0 L0 H0 q v H:=⟨d,G,L,M,e,r,n,h⟩
def az{K:gV}{G0:Hp}{L0:List Addr}{H0 G:Hp}{L:List Addr}{M:Ms}{H:Hp}{d:Dt}{v:V}{q:DQ}(e:Ex G0 L0 H0 G L H)(r:Rl K G L M H)(h:q d M)(n:Den K G L d v:=by rfl):Fin K G0 L0 H0 q v H:=⟨d,G,L,M,e,r,n,h⟩
def dI:Dt->Dt->Ms->DQ->Prop
 | .int i,.int j,M,q=>q (.int (i+j)) M
 | .str a,.str b,M,q=>a.length+b.length<=sizeLine/\q (.str (a++b)) M
 | .lst a,.lst b,M,q=>a.length+b.length<=sizeLine/\q (.lst (a++b)) M
 | .tup a,.tup b,M,q=>(a≠[]/\a.length+b.length<=sizeLine)/\q (.tup (a++b)) M
 | _,_,_,_=>False
def MM:Dt->Dt->Ms->DQ->Prop
 | .int i,.int j,M,q=>q (.int (i - j)) M
 | _,_,_,_=>False
def Kz:Dt->Dt->Ms->DQ->Prop
 | .int i,.int j,M,q=>(ow i/\ow j)/\q (.int (i * j)) M
 | .lst a,.int k,M,q=>(-(2 ^ 63)<=k/\k < 2 ^ 63/\a.length * k.toNat<=sizeLine)/\q (.lst (List.replicate k.toNat a).flatten) M
 | _,_,_,_=>False
def J5:Dt->Dt->Ms->DQ->Prop
 | .int i,.int j,M,q=>(0 < j/\ow j)/\q (.int (i / j)) M
 | _,_,_,_=>False
def Fs:Dt->Dt->Ms->DQ->Prop
 | .int i,.int j,M,q=>(j≠0/\ow j)/\q (.int (i.fdiv j)) M
 | _,_,_,_=>False
def Kc:Dt->Dt->Ms->DQ->Prop
 | .int i,.int j,M,q=>0 < j/\q (.int (i % j)) M
 | _,_,_,_=>False
def Np:Dt->Dt->Ms->DQ->Prop
 | .int i,.int j,M,q=>KH i j/\q (.int (i ^ j.toNat)) M
 | _,_,_,_=>False
def DR:Dt->Ms->DQ->Prop
 | .int i,M,q=>q (.int (-i)) M
 | _,_,_=>False
section
variable{K:gV}
def Ub:lr K (λx y H Q=>(∃i j,x=V.int i/\y= .int j/\Q (.int (i+j)) H)\/(∃i j,x=V.str i/\y= .str j/\i.length+j.length<=sizeLine/\Q (.str (i++j)) H)\/Nu x y H Q\/Lc K x y H Q) dI:=by
 intro G0 L0 H0 G L M H v1 v2 d1 d2 q e r n1 n2 h;unfold dI at h;split at h
 ·rename_i i j;exact .inl ⟨i,j,n1,n2,az e r h⟩
 ·rename_i a b;exact .inr (.inl ⟨a,b,n1,n2,h.1,az e r h.2⟩)
 ·rename_i a b;have⟨p1,w1,rfl,e1,m1⟩:=n1;have⟨p2,w2,rfl,e2,m2⟩:=n2;refine .inr (.inr (.inl ⟨p1,p2,w1,w2,rfl,rfl,r.sub _ _ e1,r.sub _ _ e2,by rw[<-m1.length,<-m2.length];exact h.1,λp hp=>?_⟩));exact eh e r hp (ju r hp (m1.app m2)) h.2
 ·rename_i a b;have⟨p1,w1,rfl,e1,m1⟩:=n1;have⟨p2,w2,rfl,e2,m2⟩:=n2;have ne:w1≠[]:=λz=>h.1.1 (by have:=m1.length;rw[z]at this;exact abu this);refine .inr (.inr (.inr ⟨p1,p2,w1,w2,rfl,rfl,.inl (.inl (r.sub _ _ e1)),.inl (.inl (r.sub _ _ e2)),ne,by rw[<-m1.length,<-m2.length];exact h.1.2,λz=>?_,λ_ p hp=>?_⟩))
  ·have hb:b=[]:=by have:=m2.length;rw[z]at this;exact abu this
   subst hb;rw[aaO]at h;exact fin_same (d:=.tup a) e r ⟨p1,w1,rfl,e1,m1⟩ h.2
  ·exact eh e r hp (k_ r hp (m1.app m2)) h.2
 ·exact h.elim
def Ux:lr K (GH λi j=>.int (i - j)) MM:=by
 intro G0 L0 H0 G L M H v1 v2 d1 d2 q e r n1 n2 h;unfold MM at h;split at h
 ·exact⟨_,_,n1,n2,az e r h⟩
 ·exact h.elim
def UH:lr K (λx y H Q=>(rI (λi j=>ow i/\ow j) λi j=>.int (i * j)) x y H Q\/Ry x y H Q) Kz:=by
 intro G0 L0 H0 G L M H v1 v2 d1 d2 q e r n1 n2 h;unfold Kz at h;split at h
 ·exact .inl ⟨_,_,n1,n2,h.1,az e r h.2⟩
 ·rename_i a k;have⟨p1,w1,rfl,e1,m1⟩:=n1;refine .inr ⟨p1,k,w1,rfl,n2,r.sub _ _ e1,h.1.1,h.1.2.1,by rw[<-m1.length];exact h.1.2.2,λp hp=>?_⟩;exact eh e r hp (ju r hp (.of (BW m1.pair k.toNat))) h.2
 ·exact h.elim
def S3:lr K (rI (λ_ j=>j≠0/\ow j) λi j=>.int (i.fdiv j)) J5:=by
 intro G0 L0 H0 G L M H v1 v2 d1 d2 q e r n1 n2 h;unfold J5 at h;split at h
 ·rename_i i j;have h0:=h.1.1;refine⟨_,_,n1,n2,⟨(),h.1.2⟩,fin_same (d:=.int (i.fdiv j)) e r rfl ?_⟩;rw[Int.fdiv_eq_ediv_of_nonneg i (abe h0)];exact h.2
 ·exact h.elim
def RE:lr K (rI (λ_ j=>j≠0/\ow j) λi j=>.int (i.fdiv j)) Fs:=by
 intro G0 L0 H0 G L M H v1 v2 d1 d2 q e r n1 n2 h;unfold Fs at h;split at h
 ·exact⟨_,_,n1,n2,h.1,az e r h.2⟩
 ·exact h.elim
def VD:lr K (rI (λ_ j=>0 < j) λi j=>.int (i % j)) Kc:=by
 intro G0 L0 H0 G L M H v1 v2 d1 d2 q e r n1 n2 h;unfold Kc at h;split at h
 ·exact⟨_,_,n1,n2,h.1,az e r h.2⟩
 ·exact h.elim
def Va:lr K (rI KH λi j=>.int (i ^ j.toNat)) Np:=by
 intro G0 L0 H0 G L M H v1 v2 d1 d2 q e r n1 n2 h;unfold Np at h;split at h
 ·exact⟨_,_,n1,n2,h.1,az e r h.2⟩
 ·exact h.elim
def T9:VZ K (rU λi=>.int (-i)) DR:=by
 intro G0 L0 H0 G L M H v1 d1 q e r n1 h;unfold DR at h;split at h
 ·exact⟨_,n1,az e r h⟩
 ·exact h.elim
end
section
variable{X:Cx}{R:St->XK}{a b c:Expr}{ta tb:DE}{pos:Pos}
def ν(ja:JE X R a ta)(jb:JE X R b tb):JE X R (.BinOp a .Add b pos) (cz dI ta tb):=rZ (MI.or (AB.or (Gp.or Kq))) Ub ja jb
def Lu(ja:JE X R a ta)(jb:JE X R b tb):JE X R (.BinOp a .Sub b pos) (cz MM ta tb):=rZ Ov Ux ja jb
def xJ(ja:JE X R a ta)(jb:JE X R b tb):JE X R (.BinOp a .Mult b pos) (cz Kz ta tb):=rZ (IV.or N1) UH ja jb
def bO(ja:JE X R a ta)(jb:JE X R b tb):JE X R (.BinOp a .FloorDiv b pos) (cz J5 ta tb):=rZ ye S3 ja jb
def Ff(ja:JE X R a ta)(jb:JE X R b tb):JE X R (.BinOp a .FloorDiv b pos) (cz Fs ta tb):=rZ ye RE ja jb
def aU(ja:JE X R a ta)(jb:JE X R b tb):JE X R (.BinOp a .Mod b pos) (cz Kc ta tb):=rZ Nd VD ja jb
def Gs(ja:JE X R a ta)(jb:JE X R b tb):JE X R (.BinOp a .Pow b pos) (cz Np ta tb):=rZ OB Va ja jb
def nN(ja:JE X R a ta):JE X R (.UnaryOp .USub a pos) (L7 DR ta):=Ta Mm T9 ja
end
def So:Dt->Dt->Ms->DQ->Prop
 | .int i,.int j,M,q=>q (.bl (decide (i < j))) M
 | _,_,_,_=>False
def VR:Dt->Dt->Ms->DQ->Prop
 | .int i,.int j,M,q=>q (.bl (decide (i<=j))) M
 | _,_,_,_=>False
def UL:Dt->Dt->Ms->DQ->Prop
 | .int i,.int j,M,q=>q (.bl (decide (j < i))) M
 | _,_,_,_=>False
def qb:Dt->Option V
 | .aS=>some .aS
 | .bl b=>some (.bl b)
 | .int i=>some (.int i)
 | .str x=>some (.str x)
 | _=>none
def fc:List Dt->Option (List V)
 | []=>some []
 | d::ds=>match qb d,fc ds with
  | some v,some vs=>some (v::vs)
  | _,_=>none
section
variable{K:gV}{G:Hp}{L:List Addr}
def iX{d:Dt}{v u:V}(h:qb d=some u)(n:Den K G L d v):v=u/\dw u=true:=by cases d <;> first| (cases h;exact⟨n,rfl⟩)| cases h
def dX:∀{ds:List Dt} {vs us:List V},fc ds=some us->Λ K G L ds vs->vs=us/\us.all dw=true
 | [],vs,us,h,n=>by cases h;exact⟨n,rfl⟩
 | d::ds,_,us,h,⟨v,r,e,n1,n2⟩=>by
  subst e;unfold fc at h;split at h
  ·rename_i u1 u2 h1 h2;cases h;have⟨a1,a2⟩:=iX h1 n1;have⟨b1,b2⟩:=dX h2 n2;subst a1 b1;exact⟨rfl,by rw[abq,a2,b2];rfl⟩
  ·cases h
end
def Jk:Dt->Dt->Ms->DQ->Prop
 | .int i,.int j,M,q=>q (.bl (decide (i=j))) M
 | .str i,.str j,M,q=>q (.bl (decide (i=j))) M
 | .bl i,.bl j,M,q=>q (.bl (decide (i=j))) M
 | .tup a,.tup b,M,q=>match fc a,fc b with
  | some us,some vs=>q (.bl (qd us vs)) M
  | _,_=>False
 | _,_,_,_=>False
def OI:Dt->Dt->Ms->DQ->Prop
 | .int i,.int j,M,q=>q (.bl (!decide (i=j))) M
 | .str i,.str j,M,q=>q (.bl (!decide (i=j))) M
 | .bl i,.bl j,M,q=>q (.bl (!decide (i=j))) M
 | .tup a,.tup b,M,q=>match fc a,fc b with
  | some us,some vs=>q (.bl (!qd us vs)) M
  | _,_=>False
 | _,_,_,_=>False
def K7:Dt->Dt->Ms->DQ->Prop
 | .aS,.aS,M,q=>q (.bl true) M
 | .bl _,.aS,M,q=>q (.bl false) M
 | .int _,.aS,M,q=>q (.bl false) M
 | .str _,.aS,M,q=>q (.bl false) M
 | .tup _,.aS,M,q=>q (.bl false) M
 | .lst _,.aS,M,q=>q (.bl false) M
 | _,_,_,_=>False
section
variable{K:gV}
def WC:lr K (GH λi j=>.bl (decide (i < j))) So:=by
 intro G0 L0 H0 G L M H v1 v2 d1 d2 q e r n1 n2 h;unfold So at h;split at h
 ·exact⟨_,_,n1,n2,az e r h⟩
 ·exact h.elim
def leD:lr K (GH λi j=>.bl (decide (i<=j))) VR:=by
 intro G0 L0 H0 G L M H v1 v2 d1 d2 q e r n1 n2 h;unfold VR at h;split at h
 ·exact⟨_,_,n1,n2,az e r h⟩
 ·exact h.elim
def Y1:lr K (GH λi j=>.bl (decide (j < i))) UL:=by
 intro G0 L0 H0 G L M H v1 v2 d1 d2 q e r n1 n2 h;unfold UL at h;split at h
 ·exact⟨_,_,n1,n2,az e r h⟩
 ·exact h.elim
def jG{p q:Prop} [Decidable p] [Decidable q](h:p↔q):decide p=decide q:=decide_eq_decide.mpr h
def QM:lr K (λx y H Q=>Xe x y H Q\/RO K x y H Q) Jk:=by
 intro G0 L0 H0 G L M H v1 v2 d1 d2 q e r n1 n2 h;unfold Jk at h;split at h
 ·rename_i i j;cases n1;cases n2;exact .inl ⟨rfl,fin_same (d:=.bl _) e r (by show V.bl _=V.bl _;rw[jG (p:=V.int i=V.int j) (q:=i=j) ⟨λz=>V.int.inj z,λz=>by rw[z]⟩]) h⟩
 ·rename_i i j;cases n1;cases n2;exact .inl ⟨rfl,fin_same (d:=.bl _) e r (by show V.bl _=V.bl _;rw[jG (p:=V.str i=V.str j) (q:=i=j) ⟨λz=>V.str.inj z,λz=>by rw[z]⟩]) h⟩
 ·rename_i i j;cases n1;cases n2;exact .inl ⟨rfl,fin_same (d:=.bl _) e r (by show V.bl _=V.bl _;rw[jG (p:=V.bl i=V.bl j) (q:=i=j) ⟨λz=>V.bl.inj z,λz=>by rw[z]⟩]) h⟩
 ·rename_i a b;have⟨p1,w1,rfl,e1,m1⟩:=n1;have⟨p2,w2,rfl,e2,m2⟩:=n2;split at h
  ·rename_i us vs h1 h2;have⟨rfl,a2⟩:=dX h1 m1;have⟨rfl,b2⟩:=dX h2 m2;exact .inr ⟨p1,p2,_,_,rfl,rfl,.inl (.inl (r.sub _ _ e1)),.inl (.inl (r.sub _ _ e2)),a2,b2,az e r h⟩
  ·exact h.elim
 ·exact h.elim
def T4:lr K (λx y H Q=>Wz x y H Q\/PN K x y H Q) OI:=by
 intro G0 L0 H0 G L M H v1 v2 d1 d2 q e r n1 n2 h;unfold OI at h;split at h
 ·rename_i i j;cases n1;cases n2;exact .inl ⟨rfl,fin_same (d:=.bl _) e r (by show V.bl _=V.bl _;rw[jG (p:=V.int i=V.int j) (q:=i=j) ⟨λz=>V.int.inj z,λz=>by rw[z]⟩]) h⟩
 ·rename_i i j;cases n1;cases n2;exact .inl ⟨rfl,fin_same (d:=.bl _) e r (by show V.bl _=V.bl _;rw[jG (p:=V.str i=V.str j) (q:=i=j) ⟨λz=>V.str.inj z,λz=>by rw[z]⟩]) h⟩
 ·rename_i i j;cases n1;cases n2;exact .inl ⟨rfl,fin_same (d:=.bl _) e r (by show V.bl _=V.bl _;rw[jG (p:=V.bl i=V.bl j) (q:=i=j) ⟨λz=>V.bl.inj z,λz=>by rw[z]⟩]) h⟩
 ·rename_i a b;have⟨p1,w1,rfl,e1,m1⟩:=n1;have⟨p2,w2,rfl,e2,m2⟩:=n2;split at h
  ·rename_i us vs h1 h2;have⟨rfl,a2⟩:=dX h1 m1;have⟨rfl,b2⟩:=dX h2 m2;exact .inr ⟨p1,p2,_,_,rfl,rfl,.inl (.inl (r.sub _ _ e1)),.inl (.inl (r.sub _ _ e2)),a2,b2,az e r h⟩
  ·exact h.elim
 ·exact h.elim
def RV:lr K (λx y H Q=>y= .aS/\Q (.bl (decide (x= .aS))) H) K7:=by
 intro G0 L0 H0 G L M H v1 v2 d1 d2 q e r n1 n2 h;unfold K7 at h;split at h
 ·cases n1;exact⟨n2,fin_same (d:=.bl true) e r (by show V.bl _=V.bl _;rw[aaK rfl]) h⟩
 ·cases n1;exact⟨n2,fin_same (d:=.bl false) e r (by show V.bl _=V.bl _;rw[aao nofun]) h⟩
 ·cases n1;exact⟨n2,fin_same (d:=.bl false) e r (by show V.bl _=V.bl _;rw[aao nofun]) h⟩
 ·cases n1;exact⟨n2,fin_same (d:=.bl false) e r (by show V.bl _=V.bl _;rw[aao nofun]) h⟩
 ·have⟨p1,w1,rfl,_⟩:=n1;exact⟨n2,fin_same (d:=.bl false) e r (by show V.bl _=V.bl _;rw[aao nofun]) h⟩
 ·have⟨p1,w1,rfl,_⟩:=n1;exact⟨n2,fin_same (d:=.bl false) e r (by show V.bl _=V.bl _;rw[aao nofun]) h⟩
 ·exact h.elim
end
section
variable{X:Cx}{R:St->XK}{a b c:Expr}{ta tb:DE}{pos:Pos}
def QQ(ja:JE X R a ta)(jb:JE X R b tb):JE X R (.Compare a [.Lt] [b] pos) (cz So ta tb):=qX LV WC ja jb (il _)
def uP(ja:JE X R a ta)(jb:JE X R b tb):JE X R (.Compare a [.LtE] [b] pos) (cz VR ta tb):=qX QV leD ja jb (il _)
def DU{k:Nat}(hr:bp k X.A)(ja:JE X R a ta)(jb:JE X R b tb):JE X R (.Compare a [.Eq] [b] pos) (cz Jk ta tb):=qX (LI.or (HR hr.AD)) QM ja jb (il _)
def LH(ja:JE X R a ta)(jb:JE X R b tb):JE X R (.Compare a [.Is] [b] pos) (cz K7 ta tb):=qX GG RV ja jb (il _)
def pX(ja:JE X R a ta)(jb:JE X R b tb):JT X R (.Compare a [.Lt] [b] pos) (kY (cz So ta tb)):=g7 LV WC ja jb (il _)
def B2(ja:JE X R a ta)(jb:JE X R b tb):JT X R (.Compare a [.Gt] [b] pos) (kY (cz UL ta tb)):=g7 RG Y1 ja jb (il _)
def cG{k:Nat}(hr:bp k X.A)(ja:JE X R a ta)(jb:JE X R b tb):JT X R (.Compare a [.Eq] [b] pos) (kY (cz Jk ta tb)):=g7 (LI.or (HR hr.AD)) QM ja jb (il _)
def fJ{k:Nat}(hr:bp k X.A)(ja:JE X R a ta)(jb:JE X R b tb):JT X R (.Compare a [.NotEq] [b] pos) (kY (cz OI ta tb)):=g7 (PH.or (NZ hr.AD)) T4 ja jb (il _)
def ED(ja:JE X R a ta)(jb:JE X R b tb):JT X R (.Compare a [.Is] [b] pos) (kY (cz K7 ta tb)):=g7 GG RV ja jb (il _)
end
def lU(M:Ms):Dt->Option (List Dt)
 | .lst xs=>some xs
 | .tup xs=>some xs
 | .oK ns=>some (ns.map .int)
 | .kt xs=>some xs
 | .loc k=>match M[k]? with
  | some (.lst xs)=>some xs
  | _=>none
 | _=>none
def lE{K:gV}{G:Hp}{L:List Addr}{M:Ms}{H:Hp}{d:Dt}{v:V}{xs:List Dt}(r:Rl K G L M H)(n:Den K G L d v)(h:lU M d=some xs):∃a vs,v= .ref a/\(fG K H a vs\/jN K H a vs)/\Λ K G L xs vs:=by
 cases d with
 | lst ds=>cases h;have⟨a,vs,rfl,e,m⟩:=n;exact⟨a,vs,rfl,.inl (.of (r.sub _ _ e)),m⟩
 | tup ds=>cases h;have⟨a,vs,rfl,e,m⟩:=n;exact⟨a,vs,rfl,.inr (.of (r.sub _ _ e)),m⟩
 | kt ds=>cases h;have⟨a,vs,rfl,e,m⟩:=n;exact⟨a,vs,rfl,.inr (r.sub.M8 e),m⟩
 | oK ns=>cases h;have⟨a,rfl,e⟩:=n;exact⟨a,_,rfl,.inl (r.sub.seq e),eV⟩
 | loc k=>
  have⟨a,rfl,e⟩:=n;have h:(match M[k]? with| some (.lst xs)=>some xs| _=>none)=some xs:=h;split at h
  ·rename_i ys hm;cases h;have⟨_,vs,e1,m1⟩:=r.fF k a _ e hm;exact⟨a,vs,rfl,.inl (.of e1),m1⟩
  ·cases h
 | _=>cases h
def JX{K:gV}{G:Hp}{L:List Addr}{ds:List Dt}{vs:List V}{i:Int}{d:Dt}(n:Λ K G L ds vs)(h:iF ds i=some d):∃v,iF vs i=some v/\Den K G L d v:=by
 unfold iF at h⊢;rw[<-n.length];cases q:By ds.length i with
 | none=>rw[q]at h;cases h
 | some j=>
  rw[q]at h;have⟨v,e,m⟩:=n.get h;exact⟨v,e,m⟩
def fE:Dt->Dt->Ms->DQ->Prop
 | .str z,.int i,M,q=>z.length<=sizeLine/\match iF z.cps.toList i with
  | some c=>q (.str ⟨#[c]⟩) M
  | none=>False
 | d,.int i,M,q=>match lU M d with
  | some xs=>(match iF xs i with
   | some y=>q y M
   | none=>False)
  | none=>False
 | _,_,_,_=>False
def vU:List Dt->Ms->DQ->Prop
 | [.str z],M,q=>z.length<=sizeLine/\q (.int z.length) M
 | [d],M,q=>match lU M d with
  | some xs=>q (.int xs.length) M
  | none=>False
 | _,_,_=>False
section
variable{K:gV}
def ixD:lr K (WY K) fE:=by
 intro G0 L0 H0 G L M H v1 v2 d1 d2 q e r n1 n2 h;unfold fE at h;split at h
 ·rename_i z i;split at h
  ·rename_i c hc;exact .inr (.inr ⟨z,i,c,n1,n2,h.1,hc,az e r h.2⟩)
  ·exact h.2.elim
 ·rename_i d i _;split at h
  ·rename_i xs hx;split at h
   ·rename_i y hy;have⟨a,vs,rfl,hs,m⟩:=lE r n1 hx;have⟨v,e1,m1⟩:=JX m hy;rcases hs with hs| hs
    ·exact .inl ⟨a,vs,i,v,rfl,n2,hs,e1,fin_same e r m1 h⟩
    ·exact .inr (.inl ⟨a,vs,i,v,rfl,n2,hs,e1,fin_same e r m1 h⟩)
   ·exact h.elim
  ·exact h.elim
 ·exact h.elim
def Up:Bx K (λxs H Q=>(∃z,xs=[V.str z]/\z.length<=sizeLine/\Q (.int z.length) H)\/(∃p ys,xs=[V.ref p]/\(fG K H p ys\/jN K H p ys)/\Q (.int ys.length) H)) vU:=by
 intro G0 L0 H0 G L M H vs ds q e r n h;unfold vU at h;split at h
 ·rename_i z;have⟨v,rfl,n1⟩:=aC n;cases n1;exact .inl ⟨z,rfl,h.1,az e r h.2⟩
 ·rename_i d _;have⟨v,rfl,n1⟩:=aC n;split at h
  ·rename_i xs hx;have⟨a,ws,rfl,hs,m⟩:=lE r n1 hx;exact .inr ⟨a,ws,rfl,hs,fin_same (d:=.int xs.length) e r (by show V.int _=V.int _;rw[m.length]) h⟩
  ·exact h.elim
 ·exact h.elim
end
section
variable{X:Cx}{R:St->XK}{a b c:Expr}{ta tb:DE}{pos:Pos}
def Φ(ja:JE X R a ta)(jb:JE X R b tb)(hs:vB b:=by exactλ_ _=>rfl):JE X R (.Subscript a b pos) (cz fE ta tb):=Rc OK ixD ja jb hs
variable{x:Str}{p:Pos}{e:Expr}{es:List Expr}{t:DA}{id T:String}{r:List V->Hp->VK->Prop}{f:List Dt->Ms->DQ->Prop}
def fP(hc:cL X (.builtin id) r)(cd:Bx X.K r f)(hm:X.mg x=none)(hv:bootBuiltins x=some (.builtin id))(ha:JA X R (e::es) t)(hg:Gl X x:=by rfl)(hn:x≠"__name__":=by decide)(ku:(x==("__debug__":Str))=false:=by decide)
  (he:starEach (e::es) X.env=(false,eval e X.env)::starEach es X.env:=by rfl) (eB:(backTo pos (starEach es X.env)).any (·.1)=false:=by rfl):JE X R (.Call (.Name x p) (e::es) [] pos) (vP f t):=
 .of (EH hc hg hm hv ha hn ku he eB) λσ H G L ρ M q x r n h hx=>Mb cd r n h hx
def pf(hc:cL X (.type T) r)(cd:Bx X.K r f)(hm:X.mg x=none)(hv:bootBuiltins x=some (.type T))(ha:JA X R (e::es) t)(hg:Gl X x:=by rfl)(hn:x≠"__name__":=by decide)(ku:(x==("__debug__":Str))=false:=by decide)
  (he:starEach (e::es) X.env=(false,eval e X.env)::starEach es X.env:=by rfl) (eB:(backTo pos (starEach es X.env)).any (·.1)=false:=by rfl):JE X R (.Call (.Name x p) (e::es) [] pos) (vP f t):=
 .of (D7 hc hg hm hv ha hn ku he eB) λσ H G L ρ M q x r n h hx=>Mb cd r n h hx
def b_(hm:X.mg "len"=none)(ha:JA X R [e] t)(he:starEach [e] X.env=(false,eval e X.env)::starEach [] X.env:=by rfl)(eB:(backTo pos (starEach [] X.env)).any (·.1)=false:=by rfl)(hg:Gl X "len":=by rfl):JE X R (.Call (.Name "len" p) [e] [] pos) (vP vU t):=
 fP (vv.or vG) Up hm PySem.boot_len ha hg @_ @_ he eB
end
section
variable{X:Cx}
def HX:V->List V->Hp->VK->Prop:=λx xs H Q=>∃z y,x= .str z/\xs=[.str y]/\(y.length==0)=false/\z.length+2<=sizeLine/\∀p,H p=none->Q (.ref p) (upd H p (.lst ((Txt.split z y).map V.str)))
def mQ:∀(l:List (Str×Tok)),Ψ ((l.map (·.1)).map V.str) (strValues l)
 | []=>.nil
 | p::r=>.cons ⟨p.2,rfl⟩ (mQ r)
def um(x y:Str)(h:x.length+2<=sizeLine):(Txt.split x y).length<=sizeLine:=by
 unfold Txt.split;split
 ·exact Nat.le_trans (by simp) (Nat.le_trans (Nat.le_add_left 2 x.length) h)
 ·split
  ·exact Nat.le_trans (by simp) (Nat.le_trans (Nat.le_add_left 2 x.length) h)
  ·have e1:=StrLaws.occ_length_le x y 0 x.length (x.length+1);rw[length_partsBetween];omega
def E7:Om X "str.split" HX:=by
 intro δ s σ H x xs v us Q I rx rs h;have⟨z,y,rfl,rfl,hy,hz,q⟩:=h;have⟨t,rfl⟩:=rx;have⟨w,rfl,u,rfl⟩:=fS rs
 have fin:∀(l:List (Str×Tok)) (tk:Nat),l.map (·.1)=Txt.split z y->EP X δ σ Q (.ref s.heap.objs.size) {s with heap:=s.heap.push {cls:=.type "list",data:=.seq (strValues l).toArray},toks:=tk}:=λl tk e=>
  ⟨.ref _,_,I.Dw (t':=tk) (ys:=(Txt.split z y).map V.str) (by rw[<-e];exact mQ l) (by rw[aac];exact um z y hz),rfl,q _ I.fresh⟩
 have hn:(Builtin.Str.partsBetween z (Builtin.Str.occurrences z y 0 z.length (z.length+1)) y.length).length<=sizeLine:=by have e1:=StrLaws.occ_length_le z y 0 z.length (z.length+1);rw[length_partsBetween];omega
 cases h1:(decide (z.length < y.length)|| decide (Builtin.Str.strKind z < Builtin.Str.strKind y))
 ·cases hf:(Builtin.Str.occurrences z y 0 z.length (z.length+1)).isEmpty
  ·refine call_meets F.slot_str_split (typeIs_str _ _ _) F.entry_str_split (F.args_str_split_2 _ _) (meets_str_split_sep z y t u h1 hy hf () hn) ?_;show wants _ _ _ {s with toks:=_,heap:=s.heap.push {cls:=.type "list",data:=.seq (strsFrom s.toks (Builtin.Str.partsBetween z (Builtin.Str.occurrences z y 0 z.length (z.length+1)) y.length)).toArray}};rw[strsFrom_eq];exact fin (numbered s.toks _) _ ((numbered_texts _ _).trans ((aay (ne_true_of_eq_false h1)).trans (aay (ne_true_of_eq_false hf))).symm)
  ·exact call_meets F.slot_str_split (typeIs_str _ _ _) F.entry_str_split (F.args_str_split_2 _ _) (meets_str_split_not_found z y t u h1 hy hf)
    (fin [(z,t)] s.toks ((aay (ne_true_of_eq_false h1)).trans (aaB hf)).symm)
 ·exact call_meets F.slot_str_split (typeIs_str _ _ _) F.entry_str_split (F.args_str_split_2 _ _) (meets_str_split_cannot_occur z y t u h1)
   (fin [(z,t)] s.toks (aaB h1).symm)
def BN:V->List V->Hp->VK->Prop:=λx xs H Q=>∃z y,x= .str z/\xs=[.str y]/\Q (.bl (Txt.startswith z y)) H
def Cv:Om X "str.startswith" BN:=by intro δ s σ H x xs v us Q I rx rs h;have⟨z,y,rfl,rfl,q⟩:=h;have⟨t,rfl⟩:=rx;have⟨w,rfl,u,rfl⟩:=fS rs;exact SC.startswith ⟨.bl _,H,I,rfl,q⟩
def uk:cL X (.type "int") (λxs H Q=>∃x n,xs=[.str x]/\PySem.intText? x=some n/\x.length<=640/\Q (.int n) H):=by intro δ s σ H xs us Q I rs h;have⟨x,n,rfl,hn,hl,q⟩:=h;have⟨w,rfl,u,rfl⟩:=fS rs;exact PySem.W.KIN.call_text hn hl ⟨.int n,H,I.tok _,⟨_,rfl⟩,q⟩
def TC:V->Option Int->Option Int->Hp->VK->Prop:=λx lo hi H Q=>∃z,x= .str z/\z.length<=sizeLine/\Q (.str (Txt.slice z lo hi)) H
def Ia:SK X TC:=by
 intro δ s σ H x v vl vu lo hi sl Q I rx hs pl pu h;have⟨z,rfl,hz,q⟩:=h;have⟨t,rfl⟩:=rx;refine⟨"str",_,F.slot_str_getitem.lookup,typeIs_str _ _ _,?_⟩;have fin:∀(t':Tok) (k:Nat),EP X δ σ Q (.str (Txt.slice z lo hi) t') {s with toks:=k}:=λt' k=>⟨.str _,H,I.tok k,⟨_,rfl⟩,q⟩;cases pl with
 | none=>
  cases pu with
  | none=>exact wpAny_getItem_str_slice (l:=none) (u:=none) (st:=none) hs rfl (post_val_or_str ⟨aaD (Txt.slice_le z _ _) hz,λt' k=>fin t' k⟩)
  | int j uj=>exact wpAny_getItem_str_slice (l:=none) (u:=some (j,uj)) (st:=none) hs rfl (post_val_or_str ⟨aaD (Txt.slice_le z _ _) hz,λt' k=>fin t' k⟩)
 | int i ui=>
  cases pu with
  | none=>exact wpAny_getItem_str_slice (l:=some (i,ui)) (u:=none) (st:=none) hs rfl (post_val_or_str ⟨aaD (Txt.slice_le z _ _) hz,λt' k=>fin t' k⟩)
  | int j uj=>exact wpAny_getItem_str_slice (l:=some (i,ui)) (u:=some (j,uj)) (st:=none) hs rfl (post_val_or_str ⟨aaD (Txt.slice_le z _ _) hz,λt' k=>fin t' k⟩)
end
def Vl(ta:TE):TE:=λσ H Q=>ta σ H λx H1=>(∃i,x= .int i/\i.natAbs.log2 < 1920/\Q (.str (toString i)) H1)\/∃z,x= .str z/\z.length<=sizeLine/\Q (.str z) H1
def Bz:List TE->Str->TE
 | [],Κ=>λ_ H Q=>Q (.str Κ) H
 | t::ts,Κ=>λσ H Q=>t σ H λx H1=>∃y,x= .str y/\(Κ++y).length<=sizeLine/\Bz ts (Κ++y) σ H1 Q
section
variable{X:Cx}{a:Expr}{ta:TE}{pos:Pos}
def Nl(ha:PE X a ta):PE X (.FormattedValue a (-1) none pos) (Vl ta):=by
 intro δ s σ H Q I h;refine FormattedValue_plain (aT (ha δ s σ H _ I h) λv s1 xz=>?_);have⟨x,H1,I1,r1,q1⟩:=xz;rcases q1 with ⟨i,rfl,hd,q⟩| ⟨z,rfl,hz,q⟩
 ·have⟨t,rfl⟩:=r1;exact wpAny_formatField_int hd ⟨.str _,H1,I1.tok _,⟨_,rfl⟩,q⟩
 ·have⟨t,rfl⟩:=r1;exact formatField_str (λt' tk=>⟨.str z,H1,I1.tok tk,⟨_,rfl⟩,q⟩) hz
def z7{es:List Expr}{ts:List TE}(h:Paired (PE X) es ts):∀(Κ:Str) (δ:List (Addr×Obj)) (s:Shared) (σ:St) (H:Hp) (Q:VK),Κ.length<=sizeLine->Inv X δ σ H s->Bz ts Κ σ H Q->
  wpAny (model X.prog X.w) X.A (joinParts Κ (evalEach es X.env)) (EP X δ σ Q) X.xe s:=by
 induction h with
 | nil=>
  intro Κ δ s σ H Q hz I q;exact joinParts_nil ⟨.str Κ,H,I.tok _,⟨_,rfl⟩,q⟩ hz
 | cons he _ ih=>
  intro Κ δ s σ H Q hz I q;refine joinParts_cons (aT (he δ s σ H _ I q) λv s1 xz=>?_);have⟨x,H1,I1,r1,y,e,Wy,q1⟩:=xz;subst e;have⟨t,rfl⟩:=r1;exact⟨Wy,ih (Κ++y) δ s1 σ H1 Q Wy I1 q1⟩
def Jd{e1 e2:Expr}{es:List Expr}{ts:List TE}(h:Paired (PE X) (e1::e2::es) ts):PE X (.JoinedStr (e1::e2::es) pos) (Bz ts Str.empty):=by intro δ s σ H Q I q;exact JoinedStr_many (z7 h Str.empty δ s σ H Q @_ I q)
end
def eJ:Dt->List Dt->Ms->DQ->Prop
 | .str z,[.str y],M,q=>((y.length==0)=false/\z.length+2<=sizeLine)/\q (.lst ((Txt.split z y).map Dt.str)) M
 | _,_,_,_=>False
def oG:Dt->List Dt->Ms->DQ->Prop
 | .str z,[.str y],M,q=>q (.bl (Txt.startswith z y)) M
 | _,_,_,_=>False
def Hw:List Dt->Ms->DQ->Prop
 | [.int i],M,q=>q (.int i) M
 | [.bl b],M,q=>q (.int (if b then 1 else 0)) M
 | [.str x],M,q=>x.length<=640/\match PySem.intText? x with
  | some n=>q (.int n) M
  | none=>False
 | _,_,_=>False
def P4:Dt->Ms->DQ->Prop
 | .int i,M,q=>i.natAbs.log2 < 1920/\q (.str (Str.ofString (toString i))) M
 | .str z,M,q=>z.length<=sizeLine/\q (.str z) M
 | _,_,_=>False
def MG:List Dt->Ms->DQ->Prop
 | [.int i],M,q=>q (.int (if i < 0 then -i else i)) M
 | _,_,_=>False
def N5:List Dt->Ms->DQ->Prop
 | [.int i,.int j],M,q=>q (.int (if j < i then j else i)) M
 | _,_,_=>False
def OE:List Dt->Ms->DQ->Prop
 | [d],M,q=>∃bs:List Bool,lU M d=some (bs.map Dt.bl)/\(∀k,d≠ .kt k)/\(∀k,d≠ .tup k)/\q (.bl (bs.any id)) M
 | _,_,_=>False
def LQ:Dt->Option Value
 | .aS=>some (.type "NoneType")
 | .bl _=>some (.type "bool")
 | .int _=>some (.type "int")
 | .str _=>some (.type "str")
 | .lst _=>some (.type "list")
 | .tup _=>some (.type "tuple")
 | _=>none
def OV:Dt->Option Value
 | .ty T=>some (.type T)
 | .ref C=>some (.ref C)
 | _=>none
def NN:Dt->Dt->Ms->DQ->Prop
 | .str i,.str j,M,q=>q (.bl (!(Builtin.Str.occurrences j i 0 j.length 1).isEmpty)) M
 | _,_,_,_=>False
def vT:Dt->Dt->Ms->DQ->Prop
 | .str i,.str j,M,q=>q (.bl (!(!(Builtin.Str.occurrences j i 0 j.length 1).isEmpty))) M
 | _,_,_,_=>False
section
variable{K:gV}
def jz{G:Hp}{L:List Addr}:∀{l:List Str},Λ K G L (l.map Dt.str) (l.map V.str)
 | []=>rfl
 | _::_=>⟨_,_,rfl,rfl,jz⟩
def lX{G:Hp}{L:List Addr}:∀{bs:List Bool} {vs:List V},Λ K G L (bs.map Dt.bl) vs->vs=bs.map V.bl
 | [],_,h=>h
 | b::bs,_,⟨v,r,e,h1,h2⟩=>by subst e;rw[lX h2,show v=V.bl b from h1];rfl
def Mw:RF K "str" HX eJ:=by
 intro G0 L0 H0 G L M H v d vs ds q e r n ns h;unfold eJ at h;split at h
 ·rename_i z y;have⟨u,rfl,n2⟩:=aC ns;cases n;cases n2;exact⟨z,y,rfl,rfl,h.1.1,h.1.2,λp hp=>eh e r hp (ju r hp jz) h.2⟩
 ·exact h.elim
def JQ:RF K "str" BN oG:=by
 intro G0 L0 H0 G L M H v d vs ds q e r n ns h;unfold oG at h;split at h
 ·rename_i z y;have⟨u,rfl,n2⟩:=aC ns;cases n;cases n2;exact⟨z,y,rfl,rfl,az e r h⟩
 ·exact h.elim
def V6:Bx K (λxs H Q=>((∃i,xs=[V.int i]/\Q (.int i) H)\/∃k,xs=[V.bl k]/\Q (.int (if k then 1 else 0)) H)\/∃x n,xs=[V.str x]/\PySem.intText? x=some n/\x.length<=640/\Q (.int n) H) Hw:=by
 intro G0 L0 H0 G L M H vs ds q e r n h;unfold Hw at h;split at h
 ·rename_i i;have⟨v,rfl,n1⟩:=aC n;cases n1;exact .inl (.inl ⟨i,rfl,az e r h⟩)
 ·rename_i i;have⟨v,rfl,n1⟩:=aC n;cases n1;exact .inl (.inr ⟨i,rfl,az e r h⟩)
 ·rename_i x;have⟨v,rfl,n1⟩:=aC n;cases n1;split at h
  ·rename_i m hm;exact .inr ⟨x,m,rfl,hm,h.1,az e r h.2⟩
  ·exact h.2.elim
 ·exact h.elim
def S':Bx K (λxs H Q=>∃i,xs=[V.int i]/\Q (.int (if i < 0 then -i else i)) H) MG:=by
 intro G0 L0 H0 G L M H vs ds q e r n h;unfold MG at h;split at h
 ·rename_i i;have⟨v,rfl,n1⟩:=aC n;cases n1;exact⟨i,rfl,az e r h⟩
 ·exact h.elim
def V7:Bx K (λxs H Q=>∃i j,xs=[V.int i,.int j]/\Q (.int (if j < i then j else i)) H) N5:=by
 intro G0 L0 H0 G L M H vs ds q e r n h;unfold N5 at h;split at h
 ·rename_i i j;have⟨v,u,rfl,n1,n2⟩:=fi n;cases n1;cases n2;exact⟨i,j,rfl,az e r h⟩
 ·exact h.elim
def VE:Bx K (Ql K) OE:=by
 intro G0 L0 H0 G L M H vs ds q e r n h;unfold OE at h;split at h
 ·rename_i d;have⟨bs,hs,nk,nt,h⟩:=h;have⟨v,rfl,n1⟩:=aC n;cases d with
  | lst xs=>
   cases hs;have⟨a,ws,rfl,e1,m⟩:=n1;exact⟨a,bs,rfl,by rw[<-lX m];exact .of (r.sub _ _ e1),az e r h⟩
  | loc k=>
   have⟨a,rfl,e1⟩:=n1;have hs:(match M[k]? with| some (.lst xs)=>some xs| _=>none)=some (bs.map Dt.bl):=hs;split at hs
   ·rename_i ys hm;cases hs;have⟨_,ws,e2,m⟩:=r.fF k a _ e1 hm;exact⟨a,bs,rfl,by rw[<-lX m];exact .of e2,az e r h⟩
   ·cases hs
  | tup xs=>exact aaG rfl (nt xs)
  | kt xs=>exact aaG rfl (nk xs)
  | oK ns=>
   have e0:ns.map Dt.int=bs.map Dt.bl:=aaw hs;cases ns with
   | nil=>
    cases bs with
    | nil=>have⟨a,rfl,e1⟩:=n1;exact⟨a,[],rfl,r.sub.seq e1,az e r h⟩
    | cons _ _=>cases e0
   | cons _ _=>
    cases bs with
    | nil=>cases e0
    | cons _ _=>cases e0
  | _=>cases hs
 ·exact h.elim
def Dr{G:Hp}{L:List Addr}{M:Ms}{H:Hp}{d:Dt}{v:V}{t:Value}(r:Rl K G L M H)(n:Den K G L d v)(h:LQ d=some t):jK K H v t:=by
 cases d with
 | aS=>cases h;cases n;exact .aS
 | bl b=>cases h;cases n;exact .bl _
 | int i=>cases h;cases n;exact .int _
 | str x=>cases h;cases n;exact .str _
 | lst xs=>cases h;have⟨a,ws,rfl,e,_⟩:=n;exact .lst (r.sub _ _ e)
 | tup xs=>cases h;have⟨a,ws,rfl,e,_⟩:=n;exact .tup (r.sub _ _ e)
 | _=>cases h
def BG{G:Hp}{L:List Addr}{d:Dt}{v:V}{t:Value}(n:Den K G L d v)(h:OV d=some t):FW v=some t:=by
 cases d with
 | ty T=>cases n;exact h
 | ref C=>cases n;exact h
 | _=>cases h
def U9:lr K (λx y H Q=>∃i j,x=V.str i/\y= .str j/\Q (.bl (!(Builtin.Str.occurrences j i 0 j.length 1).isEmpty)) H) NN:=by
 intro G0 L0 H0 G L M H v1 v2 d1 d2 q e r n1 n2 h;unfold NN at h;split at h
 ·exact⟨_,_,n1,n2,az e r h⟩
 ·exact h.elim
def JR:lr K (λx y H Q=>∃i j,x=V.str i/\y= .str j/\Q (.bl (!(!(Builtin.Str.occurrences j i 0 j.length 1).isEmpty))) H) vT:=by
 intro G0 L0 H0 G L M H v1 v2 d1 d2 q e r n1 n2 h;unfold vT at h;split at h
 ·exact⟨_,_,n1,n2,az e r h⟩
 ·exact h.elim
end
def GI:List DE->Str->DE
 | [],Κ=>λ_ M q _=>q (.str Κ) M
 | t::ts,Κ=>λρ M q x=>t ρ M (λd M1=>match d with
  | .str y=>(Κ++y).length<=sizeLine/\GI ts (Κ++y) ρ M1 q x
  | _=>False) x
def AA(te:DE)(lo hi:Option DE):DE:=λρ M q x=>te ρ M (λd M1=>match d with
 | .str z=>z.length<=sizeLine/\(match lo,hi with
  | none,none=>q (.str (Txt.slice z none none)) M1
  | some l,none=>l ρ M1 (λdl M2=>match dl with| .int i=>q (.str (Txt.slice z (some i) none)) M2| _=>False) x
  | none,some u=>u ρ M1 (λdu M2=>match du with| .int j=>q (.str (Txt.slice z none (some j))) M2| _=>False) x
  | some l,some u=>l ρ M1 (λdl M2=>match dl with| .int i=>u ρ M2 (λdu M3=>match du with| .int j=>q (.str (Txt.slice z (some i) (some j))) M3| _=>False) x| _=>False) x)
 | _=>False) x
section
variable{X:Cx}{R:St->XK}{o a e e1 e2:Expr}{es:List Expr}{to ta te:DE}{t:DA}{name:Str}{apos af pos p p2:Pos}{T id:String}
def oV{r:V->List V->Hp->VK->Prop}{f:Dt->List Dt->Ms->DQ->Prop}(slot:Slot "str" name id)(U4:typeOf (.builtin id)=pure (.type "method_descriptor"))(hm:Om X id r)(md:RF X.K "str" r f)(hf:∀d ds M q,f d ds M q->∃z,d= .str z)(ho:JE X R o to)(ha:JA X R (e::es) t)
  (cE:attributeBase o name X.env (eval o X.env)=eval o X.env:=by rfl)
  (kM:((backTo af (starEach (e::es) X.env)).all (λx=> !x.1)&&(backToKw af (keywordEach [] X.env)).all (λx=>x.1.isSome)
   &&decide ((e::es).length+([]:List Keyword).length+(if ([]:List Keyword).isEmpty then 0 else 1) < 30))=true:=by rfl)
  (e9:(apos.endLine==af.line)=true:=by rfl) (hs:starEach (e::es) X.env=(false,eval e X.env)::starEach es X.env:=by rfl) (cf:(backTo af (starEach es X.env)).any (·.1)=false:=by rfl):
  JE X R (.Call (.Attribute o name apos) (e::es) [] af) (λρ M q x=>to ρ M (λd M1=>(∃z,d= .str z)/\t ρ M1 (λds M2=>f d ds M2 q) x) x):=
 .of (Ht PySem.F.plainAttrs_str slot U4 hm ho ha cE kM e9 hs cf) λσ H G L ρ M q x rl n h hx=>by refine⟨G,L,ρ,M,_,x,rl,n,h,hx,λv H1 xz=>?_⟩;have⟨d1,G1,L1,M1,e1,r1,n1,hz,h1⟩:=xz;have⟨z,rfl⟩:=hz;have n1':v= .str z:=n1;refine⟨by rw[n1'];rfl,G1,L1,ρ,M1,_,x,r1,n.mono e1,h1,hx.on e1,fun vs H2 ⟨ds,G2,L2,M2,e2,r2,n2,h2⟩=>?_⟩;exact md G L H G2 L2 M2 H2 v _ vs ds q (e1.trans e2) r2 (Den.mono e2.g e2.l _ _ n1) n2 h2
def Pr(ha:JE X R a ta):JE X R (.FormattedValue a (-1) none pos) (L7 P4 ta):=.of (Nl ha) λσ H G L ρ M q x rl n h hx=>by
 refine⟨G,L,ρ,M,_,x,rl,n,h,hx,λv H1 xz=>?_⟩;have⟨d1,G1,L1,M1,e1,r1,n1,h1⟩:=xz;unfold P4 at h1
 (try dsimp only at h1)
 split at h1
 ·cases n1;exact .inl ⟨_,rfl,h1.1,az e1 r1 h1.2⟩
 ·cases n1;exact .inr ⟨_,rfl,h1.1,az e1 r1 h1.2⟩
 ·exact h1.elim
def pY:∀{es:List Expr} {ts:List DE},Paired (JE X R) es ts->Paired (PE X) es (ts.map (i7 X.K R))
 | _,_,.nil=>.nil
 | _,_,.cons h t=>.cons h (pY t)
def BH{K:gV}:∀(ts:List DE) (Κ:Str) (σ:St) (G0:Hp) (L0:List Addr) (H0 G:Hp) (L:List Addr) (M:Ms) (H:Hp) (ρ:En) (q:DQ) (x:DX),Ex G0 L0 H0 G L H->Rl K G L M H->gm K G L ρ σ->GI ts Κ ρ M q x->o6 K G L H R x->Bz (ts.map (i7 K R)) Κ σ H (Fin K G0 L0 H0 q)
 | [],Κ,σ,G0,L0,H0,G,L,M,H,ρ,q,x,e,rl,n,h,hx=>az e rl h
 | t::ts,Κ,σ,G0,L0,H0,G,L,M,H,ρ,q,x,e,rl,n,h,hx=>by
  refine⟨G,L,ρ,M,_,x,rl,n,h,hx,λv H1 xz=>?_⟩;have⟨d1,G1,L1,M1,e1,r1,n1,h1⟩:=xz
  (try dsimp only at h1)
  split at h1
  ·rename_i y;exact⟨y,n1,h1.1,BH ts (Κ++y) σ G0 L0 H0 G1 L1 M1 H1 ρ q x (e.trans e1) r1 (n.mono e1) h1.2 (hx.on e1)⟩
  ·exact h1.elim
def Nm{ts:List DE}(h:Paired (JE X R) (e1::e2::es) ts):JE X R (.JoinedStr (e1::e2::es) pos) (GI ts Str.empty):=
 .of (Jd (pY h)) λσ H G L ρ M q x rl n h hx=>BH ts _ σ G L H G L M H ρ q x (.refl _ _ _) rl n h hx
def jk{l:Expr}{tl:DE}(he:JE X R e te)(hl:JE X R l tl):JE X R (.Subscript e (.Slice (some l) none none p2) pos) (AA te (some tl) none):=
 .of (lC Ia he (oY hl) o9) λσ H G L ρ M q x rl n h hx=>by
  refine⟨G,L,ρ,M,_,x,rl,n,h,hx,λv H1 xz=>?_⟩;have⟨d1,G1,L1,M1,e1,r1,n1,h1⟩:=xz
  (try dsimp only at h1)
  split at h1
  ·rename_i z;refine⟨G1,L1,ρ,M1,_,x,r1,n.mono e1,h1.2,hx.on e1,λv2 H2 xz=>?_⟩;have⟨d2,G2,L2,M2,e2,r2,n2,h2⟩:=xz
   (try dsimp only at h2)
   split at h2
   ·rename_i i;exact⟨i,n2,z,n1,h1.1,az (e1.trans e2) r2 h2⟩
   ·exact h2.elim
  ·exact h1.elim
def E6{u:Expr}{tu:DE}(he:JE X R e te)(hu:JE X R u tu):JE X R (.Subscript e (.Slice none (some u) none p2) pos) (AA te none (some tu)):=
 .of (lC Ia he o9 (oY hu)) λσ H G L ρ M q x rl n h hx=>by
  refine⟨G,L,ρ,M,_,x,rl,n,h,hx,λv H1 xz=>?_⟩;have⟨d1,G1,L1,M1,e1,r1,n1,h1⟩:=xz
  (try dsimp only at h1)
  split at h1
  ·rename_i z;refine⟨G1,L1,ρ,M1,_,x,r1,n.mono e1,h1.2,hx.on e1,λv2 H2 xz=>?_⟩;have⟨d2,G2,L2,M2,e2,r2,n2,h2⟩:=xz
   (try dsimp only at h2)
   split at h2
   ·rename_i i;exact⟨i,n2,z,n1,h1.1,az (e1.trans e2) r2 h2⟩
   ·exact h2.elim
  ·exact h1.elim
def jw:bootBuiltins "str"=some (.type "str"):=by decide+kernel
def gI:bootBuiltins "int"=some (.type "int"):=by decide+kernel
def DJ:bootBuiltins "abs"=some (.builtin "abs"):=by decide+kernel
def DG:bootBuiltins "any"=some (.builtin "any"):=by decide+kernel
def DV:bootBuiltins "min"=some (.builtin "min"):=by decide+kernel
def gD:bootBuiltins "isinstance"=some (.builtin "isinstance"):=by decide+kernel
def qo:bootBuiltins "bool"=some (.type "bool"):=by decide+kernel
def c_:bootBuiltins "tuple"=some (.type "tuple"):=by decide+kernel
def fv:bootBuiltins "list"=some (.type "list"):=by decide+kernel
def ik{x:Str}{T:String}(hm:X.mg x=none)(hv:bootBuiltins x=some (.type T))(hg:Gl X x:=by rfl)(hn:x≠"__name__":=by decide)(hd:(x==("__debug__":Str))=false:=by decide):JE X R (.Name x p) (dC (.ty T)):=K8 (JU (v:=.ty T) hg hm hv rfl hn hd) λ_ _=>rfl
def pR{x:Str}{C:Addr}(hm:X.mg x=some (.ref C))(hg:Gl X x:=by rfl)(hd:(x==("__debug__":Str))=false:=by decide):JE X R (.Name x p) (dC (.ref C)):=K8 (o_ (v:=.ref C) hg hm rfl hd) λ_ _=>rfl
def Hf{x:Str}{z:Str}(hm:∃tk,X.mg x=some (.str z tk))(hg:Gl X x:=by rfl)(hd:(x==("__debug__":Str))=false:=by decide):JE X R (.Name x p) (dC (.str z)):=let ⟨tk,hm⟩:=hm;K8 (o_ (v:=.str z) hg hm ⟨tk,rfl⟩ hd) λ_ _=>rfl
def kK{x:Str}{z:Int}(hm:∃tk,X.mg x=some (.int z tk))(hg:Gl X x:=by rfl)(hd:(x==("__debug__":Str))=false:=by decide):JE X R (.Name x p) (dC (.int z)):=let ⟨tk,hm⟩:=hm;K8 (o_ (v:=.int z) hg hm ⟨tk,rfl⟩ hd) λ_ _=>rfl
end
def Sf(x:Str):It:=⟨λi _=>i < x.cps.size,λi H v H'=>H'=H/\∃c,x.cps[i]? =some c/\v= .str ⟨#[c]⟩,λi _=>x.cps.size<=i⟩
def Dq{P:Program}{w:World}{K:gV}{tg:Expr}(x:Str)(t:Tok)(it:Addr):v9 P w K tg (Sf x) [it] it (λi h=>h.IsStrIter it "str_ascii_iterator" x t i) where
 mem:=by simp
 obj:=λi h st b hb=>by
  have e:b=it:=by simpa using hb
  subst e;have⟨o,e,c,d⟩:=st;exact⟨o,e,λv z=>by rw[d]at z;cases z⟩
 keep:=λi h h' st k=>let ⟨o,ho,r⟩:=st;⟨o,k it (by simp) o ho,r⟩
 item:=by intro X hP hw hK hc i δ s σ H E I hf st hg;subst hP hw hK;have⟨f0,f1,f2,f3,f4,f5⟩:=hf it (by simp);have hg:i < x.cps.size:=hg;refine wpAny_pyNext_ascii_item st (c:=x.cps[i]) (by simp[hg]) λh' B1 sb=>?_;have I1:Inv X δ σ H {s with heap:=h',toks:=s.toks+1}:=I.turned (λb o hb e=>(sb.2 b hb).trans e) f0 f1 f3 f4 f5;have⟨o,e,c,d⟩:=id B1;exact⟨_,rfl,yE (s:={s with heap:=h',toks:=s.toks+1}) e c d @_ ⟨.str ⟨#[x.cps[i]]⟩,H,I1,⟨_,rfl⟩,⟨rfl,_,by simp[hg],rfl⟩,B1,λb hb=>(hf b hb).1⟩⟩
 done:=by intro X hP hw hK hc i δ s σ H E I hf st hg;subst hP hw hK;have⟨f0,f1,f2,f3,f4,f5⟩:=hf it (by simp);have hg:x.cps.size<=i:=hg;exact wpAny_pyNext_ascii_end (I.ok.hd hc) st (by simp;omega) λh' eb=>⟨rfl,I.turned (t':=s.toks) (λb o hb e=>eb b o hb e) f0 f1 f3 f4 f5⟩
 self:=λ_ _ _ _ _ st h=>wpAny_pyIter_striter_ascii st h
def C9{P:Program}{w:World}{K:gV}{tg:Expr}(x:Str)(t:Tok)(it:Addr):v9 P w K tg (Sf x) [it] it (λi h=>h.IsStrIter it "str_iterator" x t i) where
 mem:=by simp
 obj:=λi h st b hb=>by
  have e:b=it:=by simpa using hb
  subst e;have⟨o,e,c,d⟩:=st;exact⟨o,e,λv z=>by rw[d]at z;cases z⟩
 keep:=λi h h' st k=>let ⟨o,ho,r⟩:=st;⟨o,k it (by simp) o ho,r⟩
 item:=by intro X hP hw hK hc i δ s σ H E I hf st hg;subst hP hw hK;have⟨f0,f1,f2,f3,f4,f5⟩:=hf it (by simp);have hg:i < x.cps.size:=hg;refine wpAny_pyNext_wide_item st (c:=x.cps[i]) (by simp[hg]) λh' B1 sb=>?_;have I1:Inv X δ σ H {s with heap:=h',toks:=s.toks+1}:=I.turned (λb o hb e=>(sb.2 b hb).trans e) f0 f1 f3 f4 f5;have⟨o,e,c,d⟩:=id B1;exact⟨_,rfl,yE (s:={s with heap:=h',toks:=s.toks+1}) e c d @_ ⟨.str ⟨#[x.cps[i]]⟩,H,I1,⟨_,rfl⟩,⟨rfl,_,by simp[hg],rfl⟩,B1,λb hb=>(hf b hb).1⟩⟩
 done:=by intro X hP hw hK hc i δ s σ H E I hf st hg;subst hP hw hK;have⟨f0,f1,f2,f3,f4,f5⟩:=hf it (by simp);have hg:x.cps.size<=i:=hg;exact wpAny_pyNext_wide_end (I.ok.hd hc) st (by simp;omega) λh' eb=>⟨rfl,I.turned (t':=s.toks) (λb o hb e=>eb b o hb e) f0 f1 f3 f4 f5⟩
 self:=λ_ _ _ _ _ st h=>wpAny_pyIter_striter_wide st h
def cb(z:Str):List Dt:=z.cps.toList.map λc=>Dt.str ⟨#[c]⟩
def Fb{K:gV}{G:Hp}{L:List Addr}{z:Str}:Yl K (Sf z) (cb z) G L where
 go :=λi G1 L1 M1 H1 d g l r e=>by
  unfold cb at e;rw[aaM]at e;cases q:z.cps.toList[i]? with
  | none=>rw[q]at e;cases e
  | some c=>
   rw[q]at e;cases e;have hi:i < z.cps.size:=by have:=(aai.mp q).1;simpa using this
   refine⟨hi,λv' H' xz=>?_⟩;have⟨eH,c',e',y⟩:=xz;subst eH y;have:c'=c:=by rw[<-Array.getElem?_toList,q]at e';exact(aaw e').symm
   subst this;exact⟨G1,.refl _ _ _,r,rfl⟩
 stop:=λi G1 L1 M1 H1 g l r e=>by unfold cb at e;show z.cps.size<=i;simpa using e
def Ej(M:Ms):Dt->Option (List Dt)
 | .lst xs=>some xs
 | .tup xs=>some xs
 | .oK ns=>some (ns.map .int)
 | .kt xs=>some xs
 | .str z=>some (cb z)
 | _=>none
def R9(t:DE):DA:=λρ M q x=>t ρ M (λd M1=>match Ej M1 d with
 | some xs=>q xs M1
 | none=>False) x
section
variable{X:Cx}{R:St->XK}{tg e:Expr}{te:DE}
def lW{δ:List (Addr×Obj)}{σ:St}{H:Hp}{s:Shared}{a:Addr}{vs:List V}{Q:It->Hp->Prop}{E:Value->Shared->Prop}(I:Inv X δ σ H s)(hq:fG X.K H a vs)(q:Q (Sx X.K a) H):wpAny (model X.prog X.w) X.A (pyIter (.ref a)) (Jb X δ σ tg Q) E s:=by
 have⟨its,rv,p,hz⟩:=I.list hq;refine wpAny_pyIter_list p.isList ?_;refine⟨s.heap.objs.size,[s.heap.objs.size],_,_,H,rfl,I.kept (t':=s.toks) λb o e=>aad _ e,Dx a _,⟨_,aaP _ rfl,rfl,rfl⟩,λb hb=>?_,q⟩;have e:b=s.heap.objs.size:=by simpa using hb
 subst e;exact I.HP (aaq _) (I.av.fresh (aaq _))
def uo{δ:List (Addr×Obj)}{σ:St}{H:Hp}{s:Shared}{a:Addr}{vs:List V}{Q:It->Hp->Prop}{E:Value->Shared->Prop}(I:Inv X δ σ H s)(hq:jN X.K H a vs)(q:Q (T_ X.K a) H):wpAny (model X.prog X.w) X.A (pyIter (.ref a)) (Jb X δ σ tg Q) E s:=by
 have⟨its,rv,p,hz⟩:=I.tuple hq;refine wpAny_pyIter_tuple (show s.heap.IsTuple a its.toArray from p) ?_;refine⟨s.heap.objs.size,[s.heap.objs.size],_,_,H,rfl,I.kept (t':=s.toks) λb o e=>aad _ e,zg a _,⟨_,aaP _ rfl,rfl,rfl⟩,λb hb=>?_,q⟩;have e:b=s.heap.objs.size:=by simpa using hb
 subst e;exact I.HP (aaq _) (I.av.fresh (aaq _))
def ES{δ:List (Addr×Obj)}{σ:St}{H:Hp}{s:Shared}{z:Str}{t:Tok}{Q:It->Hp->Prop}{E:Value->Shared->Prop}(I:Inv X δ σ H s)(q:Q (Sf z) H):wpAny (model X.prog X.w) X.A (pyIter (.str z t)) (Jb X δ σ tg Q) E s:=by
 have fp:∀b∈[s.heap.objs.size],oa X δ H b:=λb hb=>by
  have e:b=s.heap.objs.size:=by simpa using hb
  subst e;exact I.HP (aaq _) (I.av.fresh (aaq _))
 cases ha:z.cps.all (· < 128)
 ·exact wpAny_pyIter_wide ha ⟨s.heap.objs.size,[s.heap.objs.size],_,_,H,rfl,I.kept (t':=s.toks) λb o e=>aad _ e,C9 z t _,⟨_,aaP _ rfl,rfl,rfl⟩,fp,q⟩
 ·exact wpAny_pyIter_ascii ha ⟨s.heap.objs.size,[s.heap.objs.size],_,_,H,rfl,I.kept (t':=s.toks) λb o e=>aad _ e,Dq z t _,⟨_,aaP _ rfl,rfl,rfl⟩,fp,q⟩
def Gd(h:JE X R e te):JI X R tg e (R9 te):=by
 intro δ s σ H Q I ⟨G,L,ρ,M,q,x,rl,n,ht,hx,hQ⟩;refine aT (h δ s σ H (Fin X.K G L H _) I ⟨G,L,ρ,M,_,x,rl,n,ht,hx,λ_ _ f=>f⟩) λu s1 xz=>?_;have⟨v,H1,I1,rv,d,G1,L1,M1,e1,r1,n1,h1⟩:=xz
 (try dsimp only at h1)
 cases hi:Ej M1 d with
 | none=>rw[hi]at h1;exact h1.elim
 | some xs=>
  rw[hi]at h1;have fin:∀J,Yl X.K J xs G1 L1->Q J H1:=λJ y=>hQ J H1 ⟨xs,G1,L1,M1,e1,r1,y,h1⟩;cases d with
  | lst ds=>
   cases hi;have⟨a,vs,rfl,e,m⟩:=n1;cases rv;exact lW I1 (vs:=vs) (.of (r1.sub _ _ e)) (fin _ (oN (λG' g=>.of (g _ _ e)) m))
  | oK ns=>
   cases hi;have⟨a,rfl,e⟩:=n1;cases rv;exact lW I1 (r1.sub.seq e) (fin _ (oN (λG' g=>g.seq e) eV))
  | tup ds=>
   cases hi;have⟨a,vs,rfl,e,m⟩:=n1;cases rv;exact uo I1 (vs:=vs) (.of (r1.sub _ _ e)) (fin _ (v7 (λG' g=>.of (g _ _ e)) m))
  | kt ds=>
   cases hi;have⟨a,vs,rfl,e,m⟩:=n1;cases rv;exact uo I1 (r1.sub.M8 e) (fin _ (v7 (λG' g=>g.M8 e) m))
  | str z=>
   cases hi;cases n1;have⟨t,rfl⟩:=rv;exact ES I1 (fin _ Fb)
  | _=>cases hi
end
def OH:DF:=λds _ q _=>∃ns:List Int,ds=[.oK ns]/\ns.length<=63/\∀M',q (.bl true) M'
def xh(K:gV):Sp:=λvs H Q _=>∃(a:Addr) (ns:List Int),vs=[.ref a]/\fG K H a (ns.map V.int)/\ns.length<=63/\∀H',Q (.bl true) H'
def Nj{P:Program}{w:World}{K:gV}{mg:Str->Option Value}{base:Heap}{k:Nat}{f:Addr}{fd:FuncData}{x:Str}(F:ay P w K mg base (bP P w) k f fd [x] (eN K OH)):ay P w K mg base Sr k f fd [x] (xh K):=by
 have sp:∀vs H Q E,xh K vs H Q E->eN K OH vs H Q E0:=by rintro vs H Q E ⟨a,ns,rfl,hS,hl,hQ⟩;refine⟨H,[],[.oK ns],[],λd _=>d= .bl true,λ_ _ _=>False,⟨.refl _,rfl,List.nodup_nil,λk a m h=>by simp at h⟩,⟨_,_,rfl,⟨a,rfl,hS⟩,rfl⟩,⟨ns,rfl,hl,λ_=>rfl⟩,fun v H' ⟨d,G',L',M',_,_,n,e⟩=>?_,λ_ _ _ _ _ _ _ h=>h.elim⟩;subst e;rw[show v=V.bl true from n];exact hQ H'
 refine⟨λvs H Q E h=>F.len vs H Q E0 (sp vs H Q E h),λA outer s H args us vs Q E hr he hb hv h=>codeAny_mono (F.run A outer s H args us vs Q E0 hr he hb hv (sp vs H Q E h)) λr s' hq=>?_⟩;cases r with
 | error e=>
  have⟨_,_,_,_,_,_,_,_,hE⟩:=hq;exact hE.elim
 | ok fl=>cases fl <;> exact hq
def Oe(c:DT)(tb:DS):DS:=λDn ρ M=>∃W:Nat->En->Ms->Prop,(∃m,W m ρ M)/\∀m ρ M,W m ρ M->
 c ρ M (λb M1=>(b=true->∃N:En->Ms->Prop,(∀ρ' M',N ρ' M'->∃m',m' < m/\W m' ρ' M')/\tb {Dn with nx:=N,ct:=N,bk:=Dn.nx} ρ M1)/\(b=false->Dn.nx ρ M1)) Dn.x
section
variable{X:Cx}{R:St->XK}{c a b:Expr}{body:List Stmt}{tc:DT}{tb:DS}{pos:Pos}
def Hr(hc:JT X R c tc)(hb:zZ X R body tb)(hp:PassesOwn (model X.prog X.w) X.A X.env X.xe:=by first| exact PassesOwn.never| exact PassesOwn.leaving):JS X R (.While c body [] pos) (Oe tc tb):=.of (Em hp hc hb) λσ H G L ρ M Dn rl n h hx=>by
 have⟨W,⟨m0,w0⟩,turn⟩:=h;refine⟨λm σ' H'=>eL X.K G L H (W m) σ' H',⟨m0,ρ,G,L,M,.refl _ _ _,rl,n,w0⟩,λm σ' H' xz=>?_⟩;have⟨ρ',G',L',M',e',r',n',w'⟩:=xz;refine⟨G',L',ρ',M',_,_,r',n',turn m ρ' M' w',hx.on e',λv H1 xz=>?_⟩;have⟨G1,L1,M1,e1,r1,h1⟩:=xz;cases v with
 | true=>
  have⟨N,hN,hb⟩:=h1.1 rfl;refine y_ ⟨eL X.K G L H N,fun σ2 H2 ⟨ρ2,G2,L2,M2,e2,r2,n2,h2⟩=>?_,?_⟩
  ·have⟨m',hm,w2⟩:=hN ρ2 M2 h2;exact⟨m',hm,ρ2,G2,L2,M2,e2,r2,n2,w2⟩
  ·have IZ:=e'.trans e1;exact⟨G1,L1,ρ',M1,_,r1,n'.mono e1,hb,hx.on IZ,⟨λ_ _ f=>eL.back IZ f,λ_ _ f=>Fin.back IZ f,λ_ _ f=>eL.back IZ f,λ_ _ f=>eL.back IZ f⟩⟩
 | false=>exact AK ⟨ρ',G1,L1,M1,e'.trans e1,r1,n'.mono e1,h1.2 rfl⟩
end
section
variable{X:Cx}{R:St->XK}{e e2 o:Expr}{es:List Expr}{t:DA}{to ta tb:DE}{a b:Expr}{p pos apos af:Pos}
def HI(hm:X.mg "abs"=none)(ha:JA X R [e] t)(he:starEach [e] X.env=(false,eval e X.env)::starEach [] X.env:=by rfl)(eB:(backTo pos (starEach [] X.env)).any (·.1)=false:=by rfl)(hg:Gl X "abs":=by rfl):JE X R (.Call (.Name "abs" p) [e] [] pos) (vP MG t):=
 fP Gy S' hm DJ ha hg @_ @_ he eB
def PZ(hm:X.mg "min"=none)(ha:JA X R [e,e2] t)(hc:X.calm=true:=by rfl)(he:starEach [e,e2] X.env=(false,eval e X.env)::starEach [e2] X.env:=by rfl)(eB:(backTo pos (starEach [e2] X.env)).any (·.1)=false:=by rfl)(hg:Gl X "min":=by rfl):JE X R (.Call (.Name "min" p) [e,e2] [] pos) (vP N5 t):=
 fP (DC hc) V7 hm DV ha hg @_ @_ he eB
def L9(hm:X.mg "any"=none)(ha:JA X R [e] t)(hc:X.calm=true:=by rfl)(he:starEach [e] X.env=(false,eval e X.env)::starEach [] X.env:=by rfl)(eB:(backTo pos (starEach [] X.env)).any (·.1)=false:=by rfl)(hg:Gl X "any":=by rfl):JE X R (.Call (.Name "any" p) [e] [] pos) (vP OE t):=
 fP (EE hc) VE hm DG ha hg @_ @_ he eB
def RQ(hm:X.mg "int"=none)(ha:JA X R [e] t)(he:starEach [e] X.env=(false,eval e X.env)::starEach [] X.env:=by rfl)(eB:(backTo pos (starEach [] X.env)).any (·.1)=false:=by rfl)(hg:Gl X "int":=by rfl):JE X R (.Call (.Name "int" p) [e] [] pos) (vP Hw t):=
 pf (C0.or uk) V6 hm gI ha hg @_ @_ he eB
def Ui(ja:JE X R a ta)(jb:JE X R b tb)(hm:behindInMarks .In b=false:=by rfl):JE X R (.Compare a [.In] [b] pos) (cz NN ta tb):=qX CH U9 ja jb hm
def Jr(ja:JE X R a ta)(jb:JE X R b tb)(hm:behindInMarks .NotIn b=false:=by rfl):JE X R (.Compare a [.NotIn] [b] pos) (cz vT ta tb):=qX u_ JR ja jb hm
def Hj(f:Dt->List Dt->Ms->DQ->Prop)(to:DE)(t:DA):DE:=λρ M q x=>to ρ M (λd M1=>(∃z,d= .str z)/\t ρ M1 (λds M2=>f d ds M2 q) x) x
def qT(ho:JE X R o to)(ha:JA X R [e] t)(cE:attributeBase o "startswith" X.env (eval o X.env)=eval o X.env:=by rfl)
  (kM:((backTo af (starEach [e] X.env)).all (λx=> !x.1)&&(backToKw af (keywordEach [] X.env)).all (λx=>x.1.isSome)
   &&decide (([e]:List Expr).length+([]:List Keyword).length+(if ([]:List Keyword).isEmpty then 0 else 1) < 30))=true:=by rfl)
  (e9:(apos.endLine==af.line)=true:=by rfl) (hs:starEach [e] X.env=(false,eval e X.env)::starEach [] X.env:=by rfl) (cf:(backTo af (starEach [] X.env)).any (·.1)=false:=by rfl):
  JE X R (.Call (.Attribute o "startswith" apos) [e] [] af) (Hj oG to t):=
 oV PySem.F.slot_str_startswith PySem.F.type_str_startswith Cv JQ (λd ds M q h=>by unfold oG at h;split at h <;> first| exact⟨_,rfl⟩| exact h.elim) ho ha cE kM e9 hs cf
def cY(ho:JE X R o to)(ha:JA X R [e] t)(cE:attributeBase o "split" X.env (eval o X.env)=eval o X.env:=by rfl)
  (kM:((backTo af (starEach [e] X.env)).all (λx=> !x.1)&&(backToKw af (keywordEach [] X.env)).all (λx=>x.1.isSome)
   &&decide (([e]:List Expr).length+([]:List Keyword).length+(if ([]:List Keyword).isEmpty then 0 else 1) < 30))=true:=by rfl)
  (e9:(apos.endLine==af.line)=true:=by rfl) (hs:starEach [e] X.env=(false,eval e X.env)::starEach [] X.env:=by rfl) (cf:(backTo af (starEach [] X.env)).any (·.1)=false:=by rfl):
  JE X R (.Call (.Attribute o "split" apos) [e] [] af) (Hj eJ to t):=
 oV PySem.F.slot_str_split PySem.F.type_str_split E7 Mw (λd ds M q h=>by unfold eJ at h;split at h <;> first| exact⟨_,rfl⟩| exact h.elim) ho ha cE kM e9 hs cf
end
def eX{te:DE}{cs:En}{f:Dt->Dt}{M:Ms}{k:List Dt->Ms->Prop}:∀(xs Κ:List Dt),(∀x∈xs,∀q:DQ,q (f x) M->te (some x::cs) M q iB)->k (Κ++xs.map f) M->pd te cs xs Κ M k
 | [],Κ,_,h=>by rw[abI,aaO]at h;exact h
 | x::xs,Κ,ht,h=>ht x List.mem_cons_self _ (eX xs (Κ++[f x]) (λy hy=>ht y (List.mem_cons_of_mem _ hy)) (by simpa using h))
def ah{d y:Dt}{xs:List Dt}{i:Int}{M:Ms}{q:DQ}(hs:lU M d=some xs)(h:iF xs i=some y)(k:q y M):fE d (.int i) M q:=by
 cases d with
 | str z=>cases hs
 | _=>
  unfold fE;simp only[hs,h];exact k
def EY{z:Str}{n:Int}{M:Ms}{q:DQ}(hz:z.length<=640)(h:PySem.intText? z=some n)(k:q (.int n) M):Hw [.str z] M q:=by show z.length<=640/\(match PySem.intText? z with| some n=>q (.int n) M| none=>False);rw[h];exact⟨hz,k⟩
def bE{d:Dt}{xs:List Dt}{M:Ms}{q:DQ}(hs:lU M d=some xs)(k:q (.int xs.length) M):vU [d] M q:=by
 cases d with
 | str z=>cases hs
 | _=>
  unfold vU;simp only[hs];exact k
def dj{α:Type}{x:α}{xs:List α}:iF (x::xs) 0=some x:=au (j:=0) rfl
def D'(bs:List Bool):(List.range bs.length).all (λi=>bs.getD i false)=bs.all id:=by
 induction bs with
 | nil=>rfl
 | cons b bs ih=>
  rw[aat,abv,abq,List.all_map,abq,<-ih];rfl
def RI(K:gV):List V->Hp->VK->Prop:=λxs H Q=>∃(p:Addr) (bs:List Bool),xs=[.ref p]/\fG K H p (bs.map V.bl)/\Q (.bl (bs.all id)) H
section
variable{X:Cx}
def El (hc : X.calm = true) : cL X (.builtin "all") (RI X.K) :=by
  intro δ s σ H xs us Q I r h;obtain⟨p,bs,rfl,hq,q⟩ :=h;obtain⟨u,rfl,r1⟩ :=fS r;cases r1;obtain⟨its,rv,pl,hz⟩ :=I.list hq;have NG :=uB rv;subst NG;refine call_all_walk (wpAny_pyIter_list pl.isList ?_);have lp : p < s.heap.objs.size :=by obtain⟨o,e,_⟩ :=pl.isList;exact aan e
  refine⟨s.heap.objs.size,_,_,_,_,_,λi =>bs.getD i false,rfl,Walks.list (show X.A.in1.handled = none from I.ok.hd hc) s.heap.objs.size p (aaH lp) (bs.map Value.bool).toArray,⟨⟨_,aaP _ rfl,rfl,rfl⟩,pl.isList.at λo e =>aad _ e⟩,xA,λh' tk hk =>?_⟩;refine⟨.bl (bs.all id),H,I.kept λb o e =>hk b o (λz =>by have : b = s.heap.objs.size :=(by simpa using z);exact Nat.lt_irrefl _ (this ▸ Heap.lt_size e)) (Heap.get?_push_of_some _ e),?_,q⟩;rw[aaC,aac,D'];rfl
end
def NU:List Dt->Ms->DQ->Prop
 | [.lst xs],M,q=>∃bs:List Bool,xs=bs.map Dt.bl/\q (.bl (bs.all id)) M
 | _,_,_=>False
def Tj{K:gV}:Bx K (RI K) NU:=by
 intro G0 L0 H0 G L M H vs ds q e r n h;unfold NU at h;split at h
 ·rename_i xs;have⟨bs,rfl,h⟩:=h;have⟨v,rfl,n1⟩:=aC n;have⟨a,ws,rfl,e1,m⟩:=n1;exact⟨a,bs,rfl,by rw[<-lX m];exact .of (r.sub _ _ e1),az e r h⟩
 ·exact h.elim
def Lp(i j:Nat)(t:DE):DS:=λDn ρ M=>t ρ M (λd M1=>match d with
 | .tup [a,b]=>Dn.nx ((ρ.set i (some a)).set j (some b)) M1
 | _=>False) Dn.x
section
variable{X:Cx}{R:St->XK}{e o:Expr}{es:List Expr}{t:DA}{to te:DE}{p pos apos af:Pos}
def Cw:bootBuiltins "all"=some (.builtin "all"):=by decide+kernel
def Gg(hm:X.mg "all"=none)(ha:JA X R [e] t)(hc:X.calm=true:=by rfl)(he:starEach [e] X.env=(false,eval e X.env)::starEach [] X.env:=by rfl)(eB:(backTo pos (starEach [] X.env)).any (·.1)=false:=by rfl)(hg:Gl X "all":=by rfl):JE X R (.Call (.Name "all" p) [e] [] pos) (vP NU t):=
 fP (El hc) Tj hm Cw ha hg @_ @_ he eB
variable{i j k:Nat}{tg:Expr}
def Jm(he:JE X R e te)(hg:PG X tg (MS X.K 2 (nG (ix i) (nG (ix j) KR))))(hs:swapsWithSole [tg] e pos.line X.env=pure false:=by rfl)(hw:swappedStores [tg] e X.env=pure none:=by rfl)
  (h1:(assignEach [tg] X.env).map (·.2)=[assign tg X.env]:=by rfl):JS X R (.Assign [tg] e pos) (Lp i j te):=.of (zI he hg hs hw h1) λσ H G L ρ M Dn rl n h hx=>by
 refine⟨G,L,ρ,M,_,_,rl,n,h,hx,λv H1 xz=>?_⟩;have⟨d1,G1,L1,M1,e1,r1,n1,h1⟩:=xz
 (try dsimp only at h1)
 split at h1
 ·rename_i a b;have⟨p,vs,rfl,e,m⟩:=n1;have⟨v1,v2,rfl,m1,m2⟩:=fi m;exact⟨p,_,rfl,.inl (.inl (r1.sub _ _ e)),rfl,v1,_,rfl,v2,_,rfl,rfl,_,G1,L1,M1,e1,r1,((n.mono e1).set i m1).set j m2,h1⟩
 ·exact h1.elim
end
def gm.unset{K:gV}{G:Hp}{L:List Addr}{ρ:En}{σ:St}(h:gm K G L ρ σ)(i:Nat):gm K G L (ρ.set i none) (σ.set i none):=by
 refine⟨by rw[aaY,aaY];exact h.len,λj d' e=>?_⟩;by_cases hj:i=j
 ·subst hj;have hl:i < ρ.length:=by have:=(aai.mp e).1;rwa[aaY]at this
  rw[aaS hl]at e;cases e
 ·rw[aaX hj]at e;have⟨u,a,b⟩:=h.fF j d' e;exact⟨u,by rw[aaX hj];exact a,b⟩
def qp(i:Nat)(Dn:jU):jU:=⟨λρ M=>Dn.nx (ρ.set i none) M,Dn.rt,λρ M=>Dn.bk (ρ.set i none) M,λρ M=>Dn.ct (ρ.set i none) M,iB⟩
mutual
def Dt.under(n:Nat):Dt->Prop
 | .aS=>True
 | .bl _=>True
 | .int _=>True
 | .str _=>True
 | .tup ds=>Dt.br n ds
 | .lst ds=>Dt.br n ds
 | .obj _ _ ds=>Dt.br n ds
 | .loc k=>k < n
 | .ref _=>True
 | .ty _=>True
 | .oK _=>True
 | .kt ds=>Dt.br n ds
 | .exc _ _ ds=>Dt.br n ds
 | .Eo _ _ _ _ ds=>Dt.br n ds
def Dt.br(n:Nat):List Dt->Prop
 | []=>True
 | d::ds=>Dt.under n d/\Dt.br n ds
end
def MO.under(n:Nat):MO->Prop
 | .lst ds=>Dt.br n ds
 | .ins _ _ ds=>Dt.br n ds
 | .rB _ ds=>Dt.br n ds
 | .raw _=>True
mutual
inductive ub(n:Nat)(E:Ms):Dt->Dt->Prop
 | old {d:Dt} (h:d.under n):ub n E d d
 | tup {ds es:List Dt} (h:eA n E ds es):ub n E (.tup ds) (.tup es)
 | lst {ds es:List Dt} (h:eA n E ds es):ub n E (.lst ds) (.lst es)
 | obj {C:Addr} {ns:List Str} {ds es:List Dt} (h:eA n E ds es):ub n E (.obj C ns ds) (.obj C ns es)
 | zv {k:Nat} {ds es:List Dt} (hk:n<=k) (e:E[k - n]? =some (.lst ds)) (h:eA n E ds es):ub n E (.loc k) (.lst es)
 | Vj {k:Nat} {C:Addr} {ns:List Str} {ds es:List Dt} (hk:n<=k) (e:E[k - n]? =some (.ins C ns ds)) (h:eA n E ds es):ub n E (.loc k) (.obj C ns es)
inductive eA(n:Nat)(E:Ms):List Dt->List Dt->Prop
 | nil:eA n E [] []
 | cons {d e:Dt} {ds es:List Dt} (h:ub n E d e) (t:eA n E ds es):eA n E (d::ds) (e::es)
end
def eA.length{n:Nat}{E:Ms}:∀{ds es:List Dt},eA n E ds es->ds.length=es.length
 | [],es,h=>by cases h;rfl
 | d::ds,es,h=>by
  cases h with
  | cons h t=>rw[aat,aat,eA.length t]
def eA.old{n:Nat}{E:Ms}:∀{ds:List Dt},Dt.br n ds->eA n E ds ds
 | [],_=>.nil
 | _::_,h=>.cons (.old h.1) (eA.old h.2)
section
variable{K:gV}{G G':Hp}{L0 t:List Addr}{n:Nat}
mutual
def tT(hn:L0.length=n)(g:cT G G'):∀(d:Dt) (v:V),d.under n->Den K G (L0++t) d v->Den K G' L0 d v
 | .aS,_,_,h=>h
 | .bl _,_,_,h=>h
 | .int _,_,_,h=>h
 | .str _,_,_,h=>h
 | .tup ds,_,u,⟨a,vs,e,h1,h2⟩=>⟨a,vs,e,g _ _ h1,bo hn g ds vs u h2⟩
 | .lst ds,_,u,⟨a,vs,e,h1,h2⟩=>⟨a,vs,e,g _ _ h1,bo hn g ds vs u h2⟩
 | .obj C ns ds,_,u,⟨a,dx,vs,e,h1,hl,h2⟩=>⟨a,dx,vs,e,g _ _ h1,hl,bo hn g ds vs u h2⟩
 | .loc k,_,u,⟨a,e,h1⟩=>⟨a,e,by
   have u:k < n:=u
   rwa[aav (by rw[hn];exact u)]at h1⟩
 | .ref _,_,_,h=>h
 | .ty _,_,_,h=>h
 | .oK _,_,_,⟨a,e,h1⟩=>⟨a,e,g.seq h1⟩
 | .kt ds,_,u,⟨a,vs,e,h1,h2⟩=>⟨a,vs,e,g.M8 h1,bo hn g ds vs u h2⟩
 | .exc _ _ ds,_,u,⟨a,od,vs,e,h1,h2,h3,h4⟩=>⟨a,od,vs,e,g _ _ h1,h2.imp (λz=>z) (λ⟨dx,z1,z2⟩=>⟨dx,z1,g _ _ z2⟩),h3,bo hn g ds vs u h4⟩
 | .Eo _ _ _ _ ds,_,u,⟨vs,e,h2,h3,h4⟩=>⟨vs,e,h2.imp (λz=>z) (λ⟨dx,z1,z2⟩=>⟨dx,z1,g _ _ z2⟩),h3,bo hn g ds vs u h4⟩
def bo(hn:L0.length=n)(g:cT G G'):∀(ds:List Dt) (vs:List V),Dt.br n ds->Λ K G (L0++t) ds vs->Λ K G' L0 ds vs
 | [],_,_,h=>h
 | d::ds,_,u,⟨v,r,e,h1,h2⟩=>⟨v,r,e,tT hn g d v u.1 h1,bo hn g ds r u.2 h2⟩
end
def DD{H:Hp}{a:Addr}(hn:L0.length=n)(g:cT G G'){m:MO}(u:m.under n)(h:Eb K G (L0++t) H a m):Eb K G' L0 H a m:=by
 cases m with
 | lst ds=>have⟨vs,e,h⟩:=h;exact⟨vs,e,bo hn g _ _ u h⟩
 | ins C ns ds=>have⟨dx,vs,e,hl,h⟩:=h;exact⟨dx,vs,e,hl,bo hn g _ _ u h⟩
 | rB ks ds=>have⟨vs,e,hl,h⟩:=h;exact⟨vs,e,hl,bo hn g _ _ u h⟩
 | raw u=>exact h
end
open Classical in
noncomputable def over(G H:Hp)(t:List Addr):Hp:=λb=>if b∈t then H b else G b
def AR{G H:Hp}{t:List Addr}{b:Addr}(h:b∈t):over G H t b=H b:=by unfold over;rw[if_pos h]
def lu{G H:Hp}{t:List Addr}{b:Addr}(h:b∉t):over G H t b=G b:=by unfold over;rw[if_neg h]
section
variable{K:gV}{G:Hp}{L0 t:List Addr}{M0 E:Ms}{H:Hp}
def gE(r:Rl K G (L0++t) (M0++E) H):cT G (over G H t):=λb u e=>by
 by_cases hb:b∈t
 ·have⟨_,_,_,_,g,_⟩:=r.ux (a:=b) (aal _ hb);rw[g]at e;cases e
 ·rw[lu hb];exact e
def HC(r:Rl K G (L0++t) (M0++E) H)(hn:L0.length=M0.length){k:Nat}{a:Addr}{m:MO}(hk:M0.length<=k)(e:(L0++t)[k]? =some a)(em:E[k - M0.length]? =some m):over G H t a=H a/\Eb K G (L0++t) H a m:=by
 have e2:(M0++E)[k]? =some m:=by rw[aaE hk];exact em
 have⟨_,q⟩:=r.fF k a m e e2;rw[aaE (by rw[hn];exact hk)]at e;exact⟨AR (aaA e),q⟩
def KU(r:Rl K G (L0++t) (M0++E) H)(hn:L0.length=M0.length){d d':Dt}(f:ub M0.length E d d'):∀v,Den K G (L0++t) d v->Den K (over G H t) L0 d' v:=by
 refine ub.rec (motive_1:=λd d' _=>∀v,Den K G (L0++t) d v->Den K (over G H t) L0 d' v) (motive_2:=λds es _=>∀vs,Λ K G (L0++t) ds vs->Λ K (over G H t) L0 es vs) ?_ ?_ ?_ ?_ ?_ ?_ ?_ ?_ f
 ·exactλ{d} u v h=>tT hn (gE r) d v u h
 ·exactλ{ds es} f ih v ⟨a,vs,e,h1,h2⟩=>⟨a,vs,e,gE r _ _ h1,ih vs h2⟩
 ·exactλ{ds es} f ih v ⟨a,vs,e,h1,h2⟩=>⟨a,vs,e,gE r _ _ h1,ih vs h2⟩
 ·exactλ{C ns ds es} f ih v ⟨a,dx,vs,e,h1,hl,h2⟩=>⟨a,dx,vs,e,gE r _ _ h1,hl.trans f.length,ih vs h2⟩
 ·intro k ds es hk em f ih v ⟨a,e,h1⟩;have⟨o,vs,e1,h2⟩:=HC r hn hk h1 em;exact⟨a,vs,e,o.trans e1,ih vs h2⟩
 ·intro k C ns ds es hk em f ih v ⟨a,e,h1⟩;have⟨o,dx,vs,e1,hl,h2⟩:=HC r hn hk h1 em;exact⟨a,dx,vs,e,o.trans e1,hl.trans f.length,ih vs h2⟩
 ·exactλvs h=>h
 ·exactλ{d e ds es} f t ih1 YK vs ⟨v,r,e,h1,h2⟩=>⟨v,r,e,ih1 v h1,YK r h2⟩
end
def TL(n:Nat)(q:DQ):DQ:=λd M=>∃M' E d',M=M'++E/\M'.length=n/\(∀m∈M',MO.under n m)/\ub n E d d'/\q d' M'
def Fin.vJ{K:gV}{G0:Hp}{L0:List Addr}{M0:Ms}{H0:Hp}{q:DQ}{v:V}{H:Hp}(r0:Rl K G0 L0 M0 H0)(f:Fin K G0 L0 H0 (TL M0.length q) v H):Fin K G0 L0 H0 q v H:=by
 have⟨d,G,L,M,ex,r,dn,M',E,d',rfl,hl,hu,fz,hq⟩:=f;have⟨t,rfl⟩:=ex.l;have hn:L0.length=M'.length:=by rw[hl];exact r0.len
 have WW:∀b,b∈L0->b∉t:=λb h1 h2=>(List.nodup_append.mp r.nd).2.2 b h1 b h2 rfl;have sm:=gE r;refine⟨d',over G H t,L0,M',⟨ex.g.trans sm,.refl _,λb h1 h2=>?_,ex.out,λb h=>.inl h,ex.sA⟩,⟨λb u e=>?_,hn,(List.nodup_append.mp r.nd).1,λk a m h1 h2=>?_⟩,KU r hn (hl▸fz) v dn,hq⟩
 ·have hb:b∉t:=λz=>(ex.new b (aal _ z)).elim (λy=>WW b y z) h2;rw[lu hb];exact ex.fr b h1 h2
 ·by_cases hb:b∈t
  ·rw[AR hb]at e;exact e
  ·rw[lu hb]at e;exact r.sub b u e
 ·have k1:k < L0.length:=(aai.mp h1).1;have e1:(L0++t)[k]? =some a:=by rw[aav k1];exact h1
  have e2:(M'++E)[k]? =some m:=by rw[aav (by rw[<-hn];exact k1)];exact h2
  have⟨g,q⟩:=r.fF k a m e1 e2;exact⟨by rw[lu (WW a (aaA h1))];exact g,DD (n:=M'.length) hn sm (by rw[hl];exact hu m (aaA h2)) q⟩
section
variable{X:Cx}{R:St->XK}{e:Expr}{t:DE}
def wY{st:Stmt}:JS X R st (λ_ _ _=>False):=λ_ _ _ _ _ _ ⟨_,_,_,_,_,_,_,h,_,_⟩=>h.elim
end
def MD(C:Addr)(m:Str)(sp:Sp)(rD:List V)(R:St->XK)(ta:TE)(t:TA):TE:=λσ H Q=>ta σ H λx H1=>∃a dx fs,x= .ref a/\H1 a=some (.ins C dx fs)/\fs.lookup m=none/\
 t σ H1 λvs H2=>sp (x::(vs++rD)) H2 Q (R σ)
def N9(C:Addr)(sp:Sp)(rD:List V)(R:St->XK)(t:TA):TE:=λσ H Q=>t σ H λvs H1=>∀x dx,H1 x=none->H1 dx=none->dx≠x->
 sp (.ref x::(vs++rD)) (upd (upd H1 dx (.own x)) x (.ins C dx [])) (λv H2=>v= .aS/\Q (.ref x) H2) (R σ)
section
variable{X:Cx}{CX:yH}{k:Nat}{f C:Addr}{fd:FuncData}{ps:List Str}{sp:Sp}{rD:List V}{ds:List Value}{R:St->XK}{x m:Str}{p pos apos:Pos}{e o:Expr}{es:List Expr}{ta:TE}{t:TA}
def CQ{pl:Sem Bool}(he:PE X o ta)(c:CY X.K C)(hm:OW X.K C m f)(F:ay X.prog X.w X.K X.mg X.base CX k f fd ps sp)(hr:bp k X.A)(hb:fT X.K fd ps ds)(hd:Ψ rD ds)(hx:cP CX X R)
  (ht:eval (.Call (.Attribute o m apos) [] [] pos) X.env=(do
   let ov<-eval o X.env
   standAt apos.atName
   let (f,first)<-holding [ov] (getMethod ov m pl)
   callWith pos f first (backTo pos (starEach [] X.env)) (backToKw pos (keywordEach [] X.env))):=by rfl):
  PE X (.Call (.Attribute o m apos) [] [] pos) (MD C m sp rD R ta RW):=by
 intro δ s σ H Q I h;refine PySem.W.methodCall_KW (pl:=pl) (aT (he δ s σ H _ I h) λu s1 xz=>?_) ht;have⟨x,H1,I1,rx,a,dx,fs,ex,ea,l,q⟩:=xz;subst ex;obtain rfl:u=Value.ref a:=rx;refine yQ I1 ea c hm l ?_;exact PySem.W.callWith_K0 (first:=[.ref a]) I1.gp hm.kp (Bw (us:=[.ref a]) (vs:=[.ref a]) F hr hb hd hx I1 (.cons rfl .nil) q)
def D5{δ:List (Addr×Obj)}{σ:St}{H:Hp}{s:Shared}{Q:VK}{us:List Value}{vs:List V}(M:Mk X.K C f)(F:ay X.prog X.w X.K X.mg X.base CX k f fd ps sp)(hr:bp (k+1) X.A)(hb:fT X.K fd ps ds)(hd:Ψ rD ds)
  (hx:cP CX X R) (I:Inv X δ σ H s) (r:Ψ vs us)
  (h:∀x dx,H x=none->H dx=none->dx≠x->sp (.ref x::(vs++rD)) (upd (upd H dx (.own x)) x (.ins C dx [])) (λv H2=>v= .aS/\Q (.ref x) H2) (R σ)):
  wpAny (model X.prog X.w) X.A (call (.ref C) us) (EP X δ σ Q) X.xe s:=by
 have hq:=h (s.heap.objs.size+1) s.heap.objs.size (I.av.fresh (Nat.le_succ _)) (I.av.fresh (aaq _)) (aaH (Nat.lt_succ_self _));have I2:=Inv.made (C:=C) I;have r2:Ψ (V.ref (s.heap.objs.size+1)::(vs++rD)) (Value.ref (s.heap.objs.size+1)::(us++ds)):=.cons rfl (r.append hd);have hl:(Value.ref (s.heap.objs.size+1)::us++ds).length=ps.length:=by have e:=r2.length;rw[F.len _ _ _ _ hq]at e;exact e.symm
 refine wpAny_call (Ig (f:=f) I.gp M.makes M.init (aa8.mp M.fn) (codeAny_mono (F.run _ X.stack _ _ ⟨Value.ref (s.heap.objs.size+1)::us,[]⟩ (Value.ref (s.heap.objs.size+1)::(us++ds)) _ _ (R σ) (hr.make C us [])
  (I2.MA.make C us []) (hb _ (Value.ref (s.heap.objs.size+1)::us) I2.gp hl) r2 hq) λr s' eK=>?_))
 cases r with
 | error e=>exact hx δ σ _ _ e s' I2 eK
 | ok fl=>
  cases fl with
  | ret u=>
   have⟨v,H',I3,rv,ev,q3⟩:=I2.after eK;subst ev;exact⟨rv,⟨V.ref (s.heap.objs.size+1),H',I3,rfl,q3⟩⟩
  | next=>exact False.elim eK
  | brk=>exact False.elim eK
  | cont=>exact False.elim eK
def FJ(M:Mk X.K C f)(F:ay X.prog X.w X.K X.mg X.base CX k f fd ps sp)(hr:bp (k+1) X.A)(hg:Gl X x)(hm:X.mg x=some (.ref C))(hb:fT X.K fd ps ds)(hd:Ψ rD ds)(hx:cP CX X R)
  (ha:PA X (e::es) t) (ku:(x==("__debug__":Str))=false:=by decide) (he:starEach (e::es) X.env=(false,eval e X.env)::starEach es X.env:=by rfl) (eB:(backTo pos (starEach es X.env)).any (·.1)=false:=by rfl):
  PE X (.Call (.Name x p) (e::es) [] pos) (N9 C sp rD R t):=by
 intro δ s σ H Q I h;refine wpAny_Call_Name_kw (h8 I hg hm ?_ ku);refine PySem.W.callWith_K (h₀:=X.base) I.ok.mod.Sw M.kp (aT (ha pos δ s σ H _ I h) fun us s1 ⟨vs,H1,I1,r,q⟩=>⟨I1.gp,?_⟩) he eB;exact D5 M F hr hb hd hx I1 r q
end
def Kw(C:Addr)(M:Ms)(d:Dt)(ns:List Str)(ds:List Dt):Prop:=d= .obj C ns ds\/∃k,d= .loc k/\M[k]? =some (.ins C ns ds)
section
variable{K:gV}{G:Hp}{L:List Addr}{M:Ms}{H:Hp}{C:Addr}{d:Dt}{v:V}{ns:List Str}{ds:List Dt}
def LS(r:Rl K G L M H)(n:Den K G L d v)(o:Kw C M d ns ds):∃a dx vs,v= .ref a/\H a=some (.ins C dx (ns.zip vs))/\ns.length=ds.length/\Λ K G L ds vs:=by
 rcases o with rfl| ⟨k,rfl,hm⟩
 ·have⟨a,dx,vs,e,h1,hl,h2⟩:=n;exact⟨a,dx,vs,e,r.sub _ _ h1,hl,h2⟩
 ·have⟨a,e,h1⟩:=n;have⟨_,dx,vs,h2,hl,h3⟩:=r.fF k a _ h1 hm;exact⟨a,dx,vs,e,h2,hl,h3⟩
def pk{f:Str}:∀{ns:List Str} {ds:List Dt} {vs:List V} {d:Dt},Λ K G L ds vs->(ns.zip ds).lookup f=some d->∃v,(ns.zip vs).lookup f=some v/\Den K G L d v
 | [],_,_,_,_,h=>by simp at h
 | _::_,[],_,_,_,h=>by simp at h
 | g::ns,d::ds,_,d',⟨v,r,rfl,h1,h2⟩,h=>by
  rw[abb,abh]at h;rw[abb,abh];cases q:f==g with
  | true=>rw[q]at h;cases h;exact⟨v,rfl,h1⟩
  | false=>rw[q]at h;exact pk h2 h
def yf{f:Str}:∀{ns:List Str} {ds:List Dt} {vs:List V},Λ K G L ds vs->(ns.zip ds).lookup f=none->(ns.zip vs).lookup f=none
 | [],_,_,_,_=>by simp
 | _::_,[],_,h,_=>by have h:_=_:=h;subst h;simp
 | g::ns,d::ds,_,⟨v,r,rfl,h1,h2⟩,h=>by
  rw[abb,abh]at h;rw[abb,abh];cases q:f==g with
  | true=>rw[q]at h;cases h
  | false=>rw[q]at h;exact yf h2 h
def qV{f:Str}{v:V}:∀{ns:List Str} {vs:List V},ns.length=vs.length->f∉ns->fZ f v (ns.zip vs)=(ns++[f]).zip (vs++[v])
 | [],[],_,_=>rfl
 | g::ns,x::vs,hl,h=>by have hg:¬g=f:=λz=>h (by rw[z];exact aaf);show(if g=f then (g,v)::ns.zip vs else (g,x)::fZ f v (ns.zip vs))=(g,x)::(ns++[f]).zip (vs++[v]);rw[if_neg hg,qV (by simpa using hl) λz=>h (List.mem_cons_of_mem _ z)]
 | [],_::_,hl,_=>by simp at hl
 | _::_,[],hl,_=>by simp at hl
end
def Ni(C:Addr)(f:Str)(t:DE):DE:=λρ M q x=>t ρ M (λd M1=>∃ns ds v,Kw C M1 d ns ds/\(ns.zip ds).lookup f=some v/\q v M1) x
def R6(C:Addr)(m:Str)(T:DF)(to:DE)(ta:DA):DE:=λρ M q x=>to ρ M (λd M1=>(∃ns ds,Kw C M1 d ns ds/\(ns.zip ds).lookup m=none)/\ta ρ M1 (λds M2=>T (d::ds) M2 q (λC fs M'=>x ρ C fs M')) x) x
def LK(C:Addr)(T:DF)(ta:DA):DE:=λρ M q x=>ta ρ M (λds M1=>T (.loc M1.length::ds) (M1++[.ins C [] []]) (λd M2=>d= .aS/\q (.loc M1.length) M2) (λC fs M'=>x ρ C fs M')) x
def Ll(C:Addr)(f:Str)(to tv:DE):DS:=λDn ρ M=>tv ρ M (λy M1=>to ρ M1 (λd M2=>∃k ns ds,d= .loc k/\M2[k]? =some (.ins C ns ds)/\f∉ns/\ns.length < 1000/\Dn.nx ρ (M2.set k (.ins C (ns++[f]) (ds++[y])))) Dn.x) Dn.x
structure E3(P:Program)(w:World)(K:gV)(mg:Str->Option Value)(base:Heap)(k:Nat)(C:Addr)(m:Str)(ps:List Str)(T:DF)(f:Addr)(fd:FuncData):Prop where
 ok:ay P w K mg base (bP P w) k f fd ps (eN K T)
 b:fT K fd ps []
 c:CY K C
 m:OW K C m f
structure N_(P:Program)(w:World)(K:gV)(mg:Str->Option Value)(base:Heap)(k:Nat)(x:Str)(C:Addr)(ps:List Str)(T:DF)(f:Addr)(fd:FuncData):Prop where
 ok:ay P w K mg base (bP P w) k f fd ps (eN K T)
 b:fT K fd ps []
 k:Mk K C f
 m:mg x=some (.ref C)
section
variable{X:Cx}{R:St->XK}{C:Addr}{f m x:Str}{T:DF}{k k':Nat}{a:Addr}{fd:FuncData}{ps:List Str}{e o value:Expr}{es:List Expr}{pos pos' apos p:Pos}{to te tv:DE}{ta:DA}
def LP(c:CY X.K C)(n:gc X.K C f)(he:JE X R e te)(hb:attributeBase e f X.env (eval e X.env)=eval e X.env:=by rfl):JE X R (.Attribute e f pos) (Ni C f te):=
 .of (MT he hb) λσ H G L ρ M q x rl en h hx=>by refine⟨G,L,ρ,M,_,x,rl,en,h,hx,λv H1 xz=>?_⟩;have⟨d1,G1,L1,M1,e1,r1,n1,ns,ds,y,ob,hl,h1⟩:=xz;have⟨p,dx,vs,rfl,hp,_,dn⟩:=LS r1 n1 ob;have⟨u,hu,du⟩:=pk dn hl;exact⟨p,C,dx,_,u,rfl,hp,c,n,hu,y,G1,L1,M1,e1,r1,du,h1⟩
def B3{pl:Sem Bool}(D:E3 X.prog X.w X.K X.mg X.base k C m ps T a fd)(hr:bp k' X.A)(hx:cP (bP X.prog X.w) X R)(ho:JE X R o to)(hk:k<=k':=by decide)
  (ht:eval (.Call (.Attribute o m apos) [] [] pos) X.env=(do
   let ov<-eval o X.env
   standAt apos.atName
   let (f,first)<-holding [ov] (getMethod ov m pl)
   callWith pos f first (backTo pos (starEach [] X.env)) (backToKw pos (keywordEach [] X.env))):=by rfl):
  JE X R (.Call (.Attribute o m apos) [] [] pos) (R6 C m T to fC):=
 .of (CQ (pl:=pl) ho D.c D.m D.ok (hr.mono hk) D.b .nil hx ht) λσ H G L ρ M q x rl en h hx=>by refine⟨G,L,ρ,M,_,x,rl,en,h,hx,λv H1 xz=>?_⟩;have⟨d1,G1,L1,M1,e1,r1,n1,⟨ns,ds,ob,hl⟩,h1⟩:=xz;have⟨p,dx,vs,rfl,hp,_,dn⟩:=LS r1 n1 ob;refine⟨p,dx,_,rfl,hp,yf dn hl,?_⟩;show eN X.K T (V.ref p::([]++[])) H1 _ _;exact⟨G1,L1,[d1],M1,q,_,r1,⟨_,_,rfl,n1,rfl⟩,h1,λv H' f=>Fin.back e1 f,λC fs M' G' L' H' od hq e' r' y=>hx σ ρ C fs M' G' L' H' od hq (e1.trans e') r' (en.mono (e1.trans e')) y⟩
def Ol(D:N_ X.prog X.w X.K X.mg X.base k x C ps T a fd)(hr:bp k' X.A)(hx:cP (bP X.prog X.w) X R)(ha:JA X R (e::es) ta)(hk:k+1<=k':=by decide)(hg:Gl X x:=by rfl)(ku:(x==("__debug__":Str))=false:=by decide)
  (he:starEach (e::es) X.env=(false,eval e X.env)::starEach es X.env:=by rfl) (eB:(backTo pos (starEach es X.env)).any (·.1)=false:=by rfl):JE X R (.Call (.Name x p) (e::es) [] pos) (LK C T ta):=
 .of (FJ D.k D.ok (hr.mono hk) hg D.m D.b .nil hx ha ku he eB) λσ H G L ρ M q x rl en h hx=>by
  refine⟨G,L,ρ,M,_,x,rl,en,h,hx,λvs H1 xz y dx hy FX jZ=>?_⟩;have⟨ds,G1,L1,M1,e1,r1,n1,h1⟩:=xz;show eN X.K T (V.ref y::(vs++[])) _ _ _;rw[aaO];have ra:=r1.Nn (o:=.own y) FX;have ea:=r1.RN (o:=.own y) FX;have Xj:upd H1 dx (HO.own y) y=none:=by rw[ξ (Ne.symm jZ)];exact hy
  have rb:=ra.NH (p:=y) (o:=.ins C dx []) (m:=.ins C [] []) Xj ⟨dx,[],Η,rfl,rfl⟩;have eb:=ra.Vh (p:=y) (o:=.ins C dx []) Xj;have e2:=ea.trans eb;have LD:=e1.trans e2;refine⟨_,_,.loc M1.length::ds,_,_,_,rb,⟨_,_,rfl,⟨y,rfl,?_⟩,Λ.mono e2.g e2.l _ _ n1⟩,h1,fun v H' ⟨d,G',L',M',e',r',dn,hd,hq⟩=>?_,λC fs M' G' L' H' od hq e' r' z=>hx σ ρ C fs M' G' L' H' od hq (LD.trans e') r' (en.mono (LD.trans e')) z⟩
  ·rw[<-r1.len,List.getElem?_append_right (Nat.le_refl _)];simp
  ·subst hd;refine⟨dn,.loc M1.length,G',L',M',LD.trans e',r',⟨y,rfl,e'.l.get ?_⟩,hq⟩;rw[<-r1.len,List.getElem?_append_right (Nat.le_refl _)];simp
def Be(c:CY X.K C)(n:gc X.K C f)(ho:JE X R o to)(hv:JE X R value tv)(hs:swapsWith value (some (.Attribute o f pos')) pos.line X.env=pure false:=by rfl):JS X R (.Assign [.Attribute o f pos'] value pos) (Ll C f to tv):=
 .of (MC ho hv hs) λσ H G L ρ M Dn rl en h hx=>by refine⟨G,L,ρ,M,_,_,rl,en,h,hx,λy H1 xz=>?_⟩;have⟨dy,G1,L1,M1,e1,r1,n1,h1⟩:=xz;refine⟨G1,L1,ρ,M1,_,_,r1,en.mono e1,h1,hx.on e1,λu H2 xz=>?_⟩;have⟨du,G2,L2,M2,e2,r2,n2,k,ns,ds,ed,hm,hf,hz,h2⟩:=xz;subst ed;have⟨p,rfl,hp⟩:=n2;have⟨_,dx,vs,hH,hl,dn⟩:=r2.fF k p _ hp hm;have Q7:ns.length=vs.length:=hl.trans dn.length;refine⟨p,C,dx,_,rfl,hH,c,n,by rw[abc,<-Q7,Nat.min_self];exact hz,?_⟩;rw[qV Q7 hf];exact⟨ρ,G2,L2,_,(e1.trans e2).trans (r2.MK hp),r2.setM (m:=.ins C (ns++[f]) (ds++[dy])) hp ⟨dx,_,Η,by rw[aae,aae,hl];rfl,dn.app ⟨_,_,rfl,Den.mono e2.g e2.l _ _ n1,rfl⟩⟩,(en.mono (e1.trans e2)).mono (r2.MK (o:=.own p) hp),h2⟩
end
def Ew:List Dt->Ms->DQ->Prop
 | [d],M,q=>match lU M d with
  | some xs=>q (.loc M.length) (M++[.lst xs])
  | none=>False
 | _,_,_=>False
section
variable{K:gV}
def Qx:Bx K (λxs H Q=>∃p ys,xs=[V.ref p]/\(fG K H p ys\/jN K H p ys)/\∀l,H l=none->Q (.ref l) (upd H l (.lst ys))) Ew:=by
 intro G0 L0 H0 G L M H vs ds q e r n h;unfold Ew at h;split at h
 ·rename_i d;have⟨v,rfl,n1⟩:=aC n;split at h
  ·rename_i xs hs;have⟨a,us,rfl,hq,dn⟩:=lE r n1 hs;exact⟨a,us,rfl,hq,λl hl=>uX e r hl dn h⟩
  ·exact h.elim
 ·exact h.elim
end
section
variable{X:Cx}{R:St->XK}{e o i value:Expr}{t:DA}{to ti tv:DE}{p pos apos af rV:Pos}
def NQ(hm:X.mg "list"=none)(ha:JA X R [e] t)(hg:Gl X "list":=by rfl)(he:starEach [e] X.env=(false,eval e X.env)::starEach [] X.env:=by rfl)(eB:(backTo pos (starEach [] X.env)).any (·.1)=false:=by rfl):JE X R (.Call (.Name "list" p) [e] [] pos) (vP Ew t):=
 pf uh Qx hm fv ha hg @_ @_ he eB
def KW(to:DE)(t:DA):DE:=λρ M q x=>to ρ M (λd M1=>(∃k xs,d= .loc k/\M1[k]? =some (.lst xs))/\t ρ M1 (λds M2=>∃k xs y,d= .loc k/\ds=[y]/\M2[k]? =some (.lst xs)/\xs.length < sizeLine/\q .aS (M2.set k (.lst (xs++[y])))) x) x
def qA(ho:JE X R o to)(ha:JA X R [e] t)(cE:attributeBase o "append" X.env (eval o X.env)=eval o X.env:=by rfl)
  (kM:((backTo af (starEach [e] X.env)).all (λx=> !x.1)&&(backToKw af (keywordEach [] X.env)).all (λx=>x.1.isSome)
   &&decide (([e]:List Expr).length+([]:List Keyword).length+(if ([]:List Keyword).isEmpty then 0 else 1) < 30))=true:=by rfl)
  (e9:(apos.endLine==af.line)=true:=by rfl) (hs:starEach [e] X.env=(false,eval e X.env)::starEach [] X.env:=by rfl) (cf:(backTo af (starEach [] X.env)).any (·.1)=false:=by rfl):
  JE X R (.Call (.Attribute o "append" apos) [e] [] af) (KW to t):=
 .of (Ht PySem.F.plainAttrs_list PySem.F.slot_list_append PySem.F.type_list_append (r:=Bo) ny ho ha cE kM e9 hs cf) λσ H G L ρ M q x rl n h hx=>by refine⟨G,L,ρ,M,_,x,rl,n,h,hx,λv H1 xz=>?_⟩;have⟨d1,G1,L1,M1,e1,r1,n1,⟨k,xs,ed,hm⟩,h1⟩:=xz;subst ed;have⟨a,rfl,hk⟩:=n1;have⟨_,vs,hH,_⟩:=r1.fF k a _ hk hm;refine⟨.inl ⟨rfl,vs,.of hH⟩,G1,L1,ρ,M1,_,x,r1,n.mono e1,h1,hx.on e1,λus H2 xz=>?_⟩;have⟨ds,G2,L2,M2,e2,r2,n2,k',xs',y,ek,ed,T3,hz,h2⟩:=xz;cases ek;subst ed;have⟨u,rfl,n3⟩:=aC n2;have R5:=e2.l.get hk;have⟨_,Qu,Zt,Sj⟩:=r2.fF k a _ R5 T3;refine⟨a,Qu,u,rfl,rfl,Zt,by rw[<-Sj.length];exact hz,.aS,G2,L2,_,(e1.trans e2).trans (r2.MK R5),r2.setM (m:=.lst (xs'++[y])) R5 ⟨_,Η,Sj.app ⟨_,_,rfl,n3,rfl⟩⟩,rfl,h2⟩
def vF(to ti tv:DE):DS:=λDn ρ M=>tv ρ M (λy M1=>to ρ M1 (λd M2=>ti ρ M2 (λdi M3=>∃k i xs j,d= .loc k/\di= .int i/\M3[k]? =some (.lst xs)/\By xs.length i=some j/\Dn.nx ρ (M3.set k (.lst (xs.set j y)))) Dn.x) Dn.x) Dn.x
def qF(ho:JE X R o to)(hi:JE X R i ti)(hv:JE X R value tv)(hs:swapsWithSole [.Subscript o i rV] value pos.line X.env=pure false:=by rfl)(hw:swappedStores [.Subscript o i rV] value X.env=pure none:=by rfl)
  (h1:(assignEach [.Subscript o i rV] X.env).map (·.2)=[assign (.Subscript o i rV) X.env]:=by rfl)
  (ha:∀v,assign (.Subscript o i rV) X.env v=(do
   let ov<-holding [v] (eval o X.env)
   let iv<-holding [v,ov] (eval i X.env)
   standAt rV
   holding [v,ov,iv] (setItem ov iv v)
   release [v,ov,iv] []):=by intro _;rfl):JS X R (.Assign [.Subscript o i rV] value pos) (vF to ti tv):=
 .of (zI hv (Na (t:=Lg) ho hi Il ha) hs hw h1) λσ H G L ρ M Dn rl n h hx=>by refine⟨G,L,ρ,M,_,_,rl,n,h,hx,λv H1 xz=>?_⟩;have⟨dv,G1,L1,M1,e1,r1,n1,h1⟩:=xz;refine⟨G1,L1,ρ,M1,_,_,r1,n.mono e1,h1,hx.on e1,λov H2 xz=>?_⟩;have⟨d,G2,L2,M2,e2,r2,n2,h2⟩:=xz;refine⟨G2,L2,ρ,M2,_,_,r2,(n.mono e1).mono e2,h2,(hx.on e1).on e2,λiv H3 xz=>?_⟩;have⟨di,G3,L3,M3,e3,r3,n3,k,i,xs,j,ed,ei,hm,hj,h3⟩:=xz;subst ed ei;have⟨a,rfl,hk⟩:=n2;have n3:iv= .int i:=n3;subst n3;have JB:=e3.l.get hk;have⟨_,vs,hH,dn⟩:=r3.fF k a _ JB hm;have Rq:=e2.trans e3;have SJ:=Den.mono Rq.g Rq.l _ _ n1;refine⟨a,vs,i,j,rfl,rfl,hH,by rw[<-dn.length];exact hj,ρ,G3,L3,_,((e1.trans e2).trans e3).trans (r3.MK JB),r3.setM (m:=.lst (xs.set j dv)) JB ⟨_,Η,.of (Ba SJ j dn.pair)⟩,(((n.mono e1).mono e2).mono e3).mono (r3.MK (o:=.own a) JB),h3⟩
end
structure Src(K:gV)(a:Addr)(xs:List Dt)(ok:Ms->Prop)(G0:Hp)(L0:List Addr):Prop where
 at_:∀G L M H,cT G0 G->Pre L0 L->Rl K G L M H->ok M->∃vs,fG K H a vs/\Λ K G L xs vs
def k7(M:Ms):Dt->Option (List Dt×(Ms->Prop))
 | .lst xs=>some (xs,λ_=>True)
 | .oK ns=>some (ns.map .int,λ_=>True)
 | .loc k=>match M[k]? with
  | some (.lst xs)=>some (xs,λM'=>M'[k]? =some (.lst xs))
  | _=>none
 | _=>none
def zx{K:gV}{G:Hp}{L:List Addr}{M:Ms}{H:Hp}{d:Dt}{v:V}{xs:List Dt}{ok:Ms->Prop}(r:Rl K G L M H)(n:Den K G L d v)(h:k7 M d=some (xs,ok)):∃a vs,v= .ref a/\fG K H a vs/\Src K a xs ok G L/\ok M:=by
 cases d with
 | lst ds=>
  cases h;have⟨a,vs,rfl,e,m⟩:=n;exact⟨a,vs,rfl,.of (r.sub _ _ e),⟨λG' L' M' H' g l r' _=>⟨vs,.of (r'.sub _ _ (g _ _ e)),Λ.mono g l _ _ m⟩⟩,trivial⟩
 | oK ns=>
  cases h;have⟨a,rfl,e⟩:=n;exact⟨a,_,rfl,r.sub.seq e,⟨λG' L' M' H' g l r' _=>⟨_,r'.sub.seq (g.seq e),eV⟩⟩,trivial⟩
 | loc k=>
  have⟨a,rfl,e⟩:=n;have h:(match M[k]? with| some (.lst xs)=>some (xs,λM':Ms=>M'[k]? =some (.lst xs))| _=>none)=some (xs,ok):=h;split at h
  ·rename_i ys hm;cases h;have⟨_,vs,e1,m1⟩:=r.fF k a _ e hm;refine⟨a,vs,rfl,.of e1,⟨λG' L' M' H' g l r' hk=>?_⟩,hm⟩;have⟨_,Qu,e2,m2⟩:=r'.fF k a _ (l.get e) hk;exact⟨Qu,.of e2,m2⟩
  ·cases h
 | _=>cases h
def Fm{K:gV}{G:Hp}{L:List Addr}{a:Addr}{xs:List Dt}{ok:Ms->Prop}(s:Src K a xs ok G L):NO K (Sx K a) xs ok G L where
 go:=λi G1 L1 M1 H1 d g l r k e=>by
  have⟨vs,hs,n⟩:=s.at_ G1 L1 M1 H1 g l r k;have⟨v,e1,n1⟩:=n.get e
  exact⟨⟨vs,v,hs,e1⟩,fun v' H' ⟨eH,y⟩=>by
   subst eH;have e2:=y vs hs;rw[e1]at e2;cases e2
   exact⟨G1,.refl _ _ _,r,n1⟩⟩
 stop:=λi G1 L1 M1 H1 g l r k e=>by have⟨vs,hs,n⟩:=s.at_ G1 L1 M1 H1 g l r k;exact⟨vs,hs,by rw[<-n.length];exact e⟩
def rh(M:Ms):Dt->Option (List Dt×(Ms->Prop))
 | .loc k=>k7 M (.loc k)
 | d=>(Ej M d).map λxs=>(xs,λ_=>True)
def dM(t:DE):DK:=λρ M q x=>t ρ M (λd M1=>match rh M1 d with
 | some (xs,ok)=>q xs ok M1
 | none=>False) x
def bw{X:Cx}{R:St->XK}{tg e:Expr}{te:DE}(h:JE X R e te):JK X R tg e (dM te):=by
 intro δ s σ H Q I ⟨G,L,ρ,M,q,x,rl,n,ht,hx,hQ⟩;refine aT (h δ s σ H (Fin X.K G L H _) I ⟨G,L,ρ,M,_,x,rl,n,ht,hx,λ_ _ f=>f⟩) λu s1 xz=>?_;have⟨v,H1,I1,rv,d,G1,L1,M1,e1,r1,n1,h1⟩:=xz
 (try dsimp only at h1)
 cases hi:rh M1 d with
 | none=>rw[hi]at h1;exact h1.elim
 | some p=>
  have⟨xs,ok⟩:=p;rw[hi]at h1;have fin:∀J,NO X.K J xs ok G1 L1->Q J H1:=λJ y=>hQ J H1 ⟨xs,ok,G1,L1,M1,e1,r1,y,h1⟩;have up:∀{J},ok=(λ_=>True)->Yl X.K J xs G1 L1->NO X.K J xs ok G1 L1:=λeo y=>by subst eo;exact⟨λi G L M H d g l r _ e=>y.go i G L M H d g l r e,λi G L M H g l r _ e=>y.stop i G L M H g l r e⟩
  cases d with
  | loc k=>
   have⟨a,vs,rfl,hs,sr,_⟩:=zx r1 n1 hi;cases rv;exact lW I1 hs (fin _ (Fm sr))
  | lst ds=>
   cases hi;have⟨a,vs,rfl,e,m⟩:=n1;cases rv;exact lW I1 (vs:=vs) (.of (r1.sub _ _ e)) (fin _ (up rfl (oN (λG' g=>.of (g _ _ e)) m)))
  | oK ns=>
   cases hi;have⟨a,rfl,e⟩:=n1;cases rv;exact lW I1 (r1.sub.seq e) (fin _ (up rfl (oN (λG' g=>g.seq e) eV)))
  | tup ds=>
   cases hi;have⟨a,vs,rfl,e,m⟩:=n1;cases rv;exact uo I1 (vs:=vs) (.of (r1.sub _ _ e)) (fin _ (up rfl (v7 (λG' g=>.of (g _ _ e)) m)))
  | kt ds=>
   cases hi;have⟨a,vs,rfl,e,m⟩:=n1;cases rv;exact uo I1 (r1.sub.M8 e) (fin _ (up rfl (v7 (λG' g=>g.M8 e) m)))
  | str z=>
   cases hi;cases n1;have⟨t,rfl⟩:=rv;exact ES I1 (fin _ (up rfl Fb))
  | _=>cases hi
def rO(g:Dt->En->(En->Prop)->Prop)(tb:DS)(Dn:jU)(ok:Ms->Prop):List Dt->En->Ms->Prop
 | [],ρ,M=>ok M/\Dn.nx ρ M
 | x::xs,ρ,M=>ok M/\g x ρ λρ'=>tb {Dn with nx:=rO g tb Dn ok xs,ct:=rO g tb Dn ok xs,bk:=Dn.nx} ρ' M
def HN(ti:DK)(g:Dt->En->(En->Prop)->Prop)(tb:DS):DS:=λDn ρ M=>ti ρ M (λxs ok M1=>rO g tb Dn ok xs ρ M1) Dn.x
section
variable{X:Cx}{R:St->XK}{tg iter:Expr}{body:List Stmt}{ti:DK}{gg:TG}{g:Dt->En->(En->Prop)->Prop}{tb:DS}{pos:Pos}
def oS(hi:JK X R tg iter ti)(hg:PG X tg gg)(gd:GD X.K gg g)(hb:zZ X R body tb)(hp:PassesOwn (model X.prog X.w) X.A X.env X.xe:=by first| exact PassesOwn.never| exact PassesOwn.leaving)(hc:X.calm=true:=by rfl)(hs:∀x,foldedSetIterable iter X.env x=pure x:=by intro _;rfl):
  JS X R (.For tg iter body [] pos) (HN ti g tb):=.of (GC hp hc hi hg hb hs) λσ H G L ρ M Dn rl n h hx=>by
 refine⟨G,L,ρ,M,_,_,rl,n,h,hx,λJ H1 xz=>?_⟩;have⟨xs,ok,G1,L1,M1,e1,r1,y,h1⟩:=xz;refine⟨λi m σ' H'=>m+i=xs.length/\eL X.K G1 L1 H1 (λρ' M'=>rO g tb Dn ok (xs.drop i) ρ' M') σ' H',⟨xs.length,rfl,ρ,G1,L1,M1,.refl _ _ _,r1,n.mono e1,by rw[abC];exact h1⟩,?_⟩;rintro i m σ' H' ⟨hm,ρ',G',L',M',e',r',n',h'⟩;by_cases hi:i < xs.length
 ·right;have hd:xs[i]? =some xs[i]:=aaa hi;rw[abn hi]at h';have⟨av,h'⟩:=h';have⟨go,yl⟩:=y.go i G' L' M' H' _ e'.g e'.l r' av hd;refine⟨go,eL X.K G1 L1 H1 (λρ' M'=>rO g tb Dn ok (xs.drop (i+1)) ρ' M'),λσ2 H2 f=>⟨m - 1,(),(),f⟩,λv H2 hy=>?_⟩;have⟨G2,e2,r2,n2⟩:=yl v H2 hy;refine gd G2 L' M' H2 _ v ρ' σ' _ _ r2 n2 (n'.mono e2) h' λρ3 σ3 n3 h3=>?_;refine⟨G2,L',ρ3,M',_,r2,n3,h3,hx.on (e1.trans (e'.trans e2)),⟨λ_ _ f=>eL.back (e'.trans e2) f,λ_ _ f=>Fin.back (e1.trans (e'.trans e2)) f,λ_ _ f=>eL.back (e1.trans (e'.trans e2)) f,λ_ _ f=>eL.back (e'.trans e2) f⟩⟩
 ·left;rw[abw ()]at h';exact⟨y.stop i G' L' M' H' e'.g e'.l r' h'.1 (),ρ',G',L',M',e1.trans e',r',n',h'.2⟩
end
def jd(te:DE)(cs:En)(ok:Ms->Prop):List Dt->List Dt->Ms->(List Dt->Ms->Prop)->Prop
 | [],Κ,M,k=>ok M/\k Κ M
 | x::xs,Κ,M,k=>ok M/\te (some x::cs) M (λd M1=>jd te cs ok xs (Κ++[d]) M1 k) iB
def ko(ti:DK)(te:DE)(Γ:List Nat):DE:=λρ M q x=>ti ρ M (λxs ok M1=>xs.length<=sizeLine/\jd te (gY Γ ρ) ok xs [] M1 (λys M2=>q (.lst ys) M2)) x
def h_(ti:DK)(te:DE)(Γ:List Nat):DE:=λρ M q x=>ti ρ M (λxs ok M1=>xs.length<=sizeLine/\jd te (gY Γ ρ) ok xs [] M1 (λys M2=>q (.loc M2.length) (M2++[.lst ys]))) x
def lO{te:DE}{cs:En}{ok:Ms->Prop}:∀xs,jd te cs ok xs=ir (gN 0) lH te (none::cs) ok xs
 | []=>rfl
 | x::xs=>funext λΚ=>funext λM=>funext λk=>by show(ok M/\te (some x::cs) M (λd M1=>jd te cs ok xs (Κ++[d]) M1 k) iB)=(ok M/\te (some x::cs) M (λd M1=>ir (gN 0) lH te (none::cs) ok xs (Κ++[d]) M1 k) iB);rw[lO xs]
section
variable{X:Cx}{R:St->XK}{elt iter:Expr}{x:Str}{px:Pos}{scope:Scope}{pos:Pos}{ti:DK}{te:DE}{ys:List Str}{Γ:List Nat}
def ij(S:Ξ X scope [x] ys Γ)(hi:JK X R (.Name x px) iter ti)(he:∀C s H fp,JE (Cx.comp X (x::ys) scope C s H fp) (λ_=>E0) elt te)(hc:X.calm=true:=by rfl)(hs:∀x,foldedSetIterable iter X.env x=pure x:=by intro _;rfl):JE X R (.ListComp elt [⟨.Name x px,iter,[],0⟩] scope pos) (ko ti te Γ):=Px false S hi (cD S (i:=0) rfl) bV (bz (Nat.zero_lt_succ 0)) (λ_ _ _ _=>eS) he hc hs λρ M q x h=>by unfold ko at h;simp only[lO]at h;exact h
def Gz(S:Ξ X scope [x] ys Γ)(hi:JK X R (.Name x px) iter ti)(he:∀C s H fp,JE (Cx.comp X (x::ys) scope C s H fp) (λ_=>E0) elt te)(hc:X.calm=true:=by rfl)(hs:∀x,foldedSetIterable iter X.env x=pure x:=by intro _;rfl):JE X R (.ListComp elt [⟨.Name x px,iter,[],0⟩] scope pos) (h_ ti te Γ):=Px true S hi (cD S (i:=0) rfl) bV (bz (Nat.zero_lt_succ 0)) (λ_ _ _ _=>eS) he hc hs λρ M q x h=>by unfold h_ at h;simp only[lO]at h;exact h
def xq{i:Nat}{y:Str}{py gr:Pos}(hN:X.N.Nodup)(Dd:X.N[i]? =some y)(hy:Loc X.env.scope y)(S:Ξ X scope [x] ys Γ)(hi:JK X R (.Name x px) iter ti)(he:∀C s H fp,JE (Cx.comp X (x::ys) scope C s H fp) (λ_=>E0) elt te)(hc:X.calm=true:=by rfl)(Ap:swapsWith (.ListComp elt [⟨.Name x px,iter,[],0⟩] scope pos) (some (.Name y py)) gr.line X.env=pure true:=by rfl)(hs:∀x,foldedSetIterable iter X.env x=pure x:=by intro _;rfl)(hf:X.fn y=true\/X.env.scope.names.lookup y=some .local:=by first| exact .inl rfl| exact .inr rfl| assumption):JS X R (.Assign [.Name y py] (.ListComp elt [⟨.Name x px,iter,[],0⟩] scope pos) gr) (m8 i (ko ti te Γ)):=Vn false S hi (cD S (i:=0) rfl) bV (bz (Nat.zero_lt_succ 0)) (λ_ _ _ _=>eS) he hc hs hN Dd hy Ap hf λρ M q x h=>by unfold ko at h;simp only[lO]at h;exact h
def eQ{i:Nat}{y:Str}{py gr:Pos}(hN:X.N.Nodup)(Dd:X.N[i]? =some y)(hy:Loc X.env.scope y)(S:Ξ X scope [x] ys Γ)(hi:JK X R (.Name x px) iter ti)(he:∀C s H fp,JE (Cx.comp X (x::ys) scope C s H fp) (λ_=>E0) elt te)(hc:X.calm=true:=by rfl)(Ap:swapsWith (.ListComp elt [⟨.Name x px,iter,[],0⟩] scope pos) (some (.Name y py)) gr.line X.env=pure true:=by rfl)(hs:∀x,foldedSetIterable iter X.env x=pure x:=by intro _;rfl)(hf:X.fn y=true\/X.env.scope.names.lookup y=some .local:=by first| exact .inl rfl| exact .inr rfl| assumption):JS X R (.Assign [.Name y py] (.ListComp elt [⟨.Name x px,iter,[],0⟩] scope pos) gr) (m8 i (h_ ti te Γ)):=Vn true S hi (cD S (i:=0) rfl) bV (bz (Nat.zero_lt_succ 0)) (λ_ _ _ _=>eS) he hc hs hN Dd hy Ap hf λρ M q x h=>by unfold h_ at h;simp only[lO]at h;exact h
end
def tL:∀{ns:List Int} {us:List Value},Ψ (ns.map V.int) us->∃ts:List (Int×Tok),us=ts.map (λp=>Value.int p.1 p.2)/\ts.map (·.1)=ns
 | [],_,h=>by cases h;exact⟨[],rfl,rfl⟩
 | n::ns,_,h=>by
  cases h with
  | cons r t=>
   have⟨tk,rfl⟩:=r;have⟨ts,rfl,rfl⟩:=tL t;exact⟨(n,tk)::ts,rfl,rfl⟩
def Pf(K:gV):List V->Hp->VK->Prop:=λxs H Q=>∃(p:Addr) (ns:List Int),xs=[.ref p]/\fG K H p (ns.map V.int)/\Q (.int ns.sum) H
def Hx{X:Cx}(hc:X.calm=true):cL X (.builtin "sum") (Pf X.K):=by
 intro δ s σ H xs us Q I r h;have⟨p,ns,rfl,hq,q⟩:=h;have⟨u,rfl,r1⟩:=fS r;cases r1;have⟨its,rv,pl,hz⟩:=I.list hq;have⟨ts,rfl,rfl⟩:=tL rv;have e:(ts.map λp=>Value.int p.1 p.2).toArray=intItems ts.toArray:=by simp[intItems]
 have hl:=pl.isList;rw[e]at hl;refine sum_intListG (I.ok.hd hc) hl λh' tk t' hk=>?_;refine⟨.int (ts.map (·.1)).sum,H,I.kept hk,⟨t',?_⟩,q⟩;rw[preSum_eq,List.take_of_length_le (by simp)]
def MY:List Dt->Ms->DQ->Prop
 | [d],M,q=>∃ns:List Int,lU M d=some (ns.map .int)/\(∃xs ok,k7 M d=some (xs,ok))/\q (.int ns.sum) M
 | _,_,_=>False
def pW{K:gV}{G:Hp}{L:List Addr}:∀{ns:List Int} {vs:List V},Λ K G L (ns.map Dt.int) vs->vs=ns.map V.int
 | [],_,h=>h
 | _::_,_,⟨v,r,e,h1,h2⟩=>by have h1:v=_:=h1;rw[e,h1,pW h2];rfl
def lY{M:Ms}{d:Dt}{xs:List Dt}{ok:Ms->Prop}(h:k7 M d=some (xs,ok)):lU M d=some xs:=by
 cases d with
 | lst ds=>cases h;rfl
 | oK ns=>cases h;rfl
 | loc k=>
  have h:(match M[k]? with| some (.lst xs)=>some (xs,λM':Ms=>M'[k]? =some (.lst xs))| _=>none)=some (xs,ok):=h;show(match M[k]? with| some (.lst xs)=>some xs| _=>none)=some xs;split at h
  ·rename_i ys hm;cases h;rfl
  ·cases h
 | _=>cases h
def S6{K:gV}:Bx K (Pf K) MY:=by
 intro G0 L0 H0 G L M H vs ds q e r n h;unfold MY at h;split at h
 ·rename_i d;have⟨v,rfl,n1⟩:=aC n;have⟨ns,hs,⟨xs,ok,hl⟩,hq⟩:=h;have⟨a,us,rfl,sq,sr,av⟩:=zx r n1 hl;rw[lY hl]at hs;cases hs;have⟨ws,SW,dn⟩:=sr.at_ G L M H (.refl _) (.refl _) r av;rw[pW dn]at SW;exact⟨a,ns,rfl,SW,.int ns.sum,G,L,M,e,r,rfl,hq⟩
 ·exact h.elim
def DB:bootBuiltins "sum"=some (.builtin "sum"):=by decide+kernel
def yT:bootBuiltins "enumerate"=some (.type "enumerate"):=by decide+kernel
section
variable{X:Cx}{R:St->XK}{e a b:Expr}{t:DA}{ta tb:DE}{p pos:Pos}
def P1(hm:X.mg "sum"=none)(ha:JA X R [e] t)(hc:X.calm=true:=by rfl)(hg:Gl X "sum":=by rfl)(he:starEach [e] X.env=(false,eval e X.env)::starEach [] X.env:=by rfl)(eB:(backTo pos (starEach [] X.env)).any (·.1)=false:=by rfl):JE X R (.Call (.Name "sum" p) [e] [] pos) (vP MY t):=
 fP (Hx hc) S6 hm DB ha hg @_ @_ he eB
def RR:Dt->Dt->Ms->DQ->Prop:=λd e M q=>∃u xs us,qb d=some u/\lU M e=some xs/\fc xs=some us/\q (.bl (OA u us)) M
def vC:Dt->Dt->Ms->DQ->Prop:=λd e M q=>∃u xs us,qb d=some u/\lU M e=some xs/\fc xs=some us/\q (.bl (!OA u us)) M
def Tz{K:gV}:lr K (Sv K false) RR:=by intro G0 L0 H0 G L M H v1 v2 d1 d2 q e r n1 n2 ⟨u,xs,us,h1,h2,h3,hq⟩;have⟨rfl,fu⟩:=iX h1 n1;have⟨a,vs,rfl,sq,dn⟩:=lE r n2 h2;have⟨rfl,fs⟩:=dX h3 dn;exact⟨a,vs,rfl,sq,fu,fs,.bl _,G,L,M,e,r,rfl,hq⟩
def Jy{K:gV}:lr K (Sv K true) vC:=by intro G0 L0 H0 G L M H v1 v2 d1 d2 q e r n1 n2 ⟨u,xs,us,h1,h2,h3,hq⟩;have⟨rfl,fu⟩:=iX h1 n1;have⟨a,vs,rfl,sq,dn⟩:=lE r n2 h2;have⟨rfl,fs⟩:=dX h3 dn;exact⟨a,vs,rfl,sq,fu,fs,.bl _,G,L,M,e,r,rfl,hq⟩
def HU(ja:JE X R a ta)(jb:JE X R b tb)(hm:behindInMarks .In b=false:=by rfl):JT X R (.Compare a [.In] [b] pos) (kY (cz RR ta tb)):=g7 Dp Tz ja jb hm
def sG(ja:JE X R a ta)(jb:JE X R b tb)(hm:behindInMarks .NotIn b=false:=by rfl):JT X R (.Compare a [.NotIn] [b] pos) (kY (cz vC ta tb)):=g7 uT Jy ja jb hm
end
def Inv.Cu{X:Cx}{δ:List (Addr×Obj)}{σ:St}{H:Hp}{s:Shared}{h':Heap}{its:List Addr}{T:Addr}{o:HO}{t':Nat}(I:Inv X δ σ H s)(k:∀b u,b∉its->s.heap.get? b=some u->h'.get? b=some u)(f:∀b∈its,oa X δ H b)(hT:s.heap.objs.size<=T)(new:aA X.prog X.w (upd H T o) h' T o):
  Inv X δ σ (upd H T o) {s with heap:=h',toks:=t'}:=by
 have hn:=I.av.fresh hT;have WV:∀b u,H b=some u->b∉its:=λb u e z=>by rw[(f b z).1]at e;cases e
 refine I.call (ch:=its) (g':=s.gens) (d':=s.drawn) (t':=t') ⟨λb u q _ _ hb=>k b u hb q,λb u q _ _ hb=>⟨u.slots,k b u hb q⟩,λb u q n _=>?_,λb u q hb=>⟨u,k b u hb q⟩,λb xs q=>?_,λb u xs q=>?_,λb ps q=>⟨#[],?_⟩⟩ (λb u e=>?_) I.bare λb hb=>?_
 ·rw[ξ (aaH (aau (aan q) hT))];exact n
 ·rw[ξ (aw q hn)];exact q
 ·rw[ξ (aw q hn)];exact q
 ·rw[ξ (aw q hn),q];simp
 ·by_cases hb:b=T
  ·subst hb;rw[Η]at e;cases e;exact new
  ·rw[ξ hb]at e;refine(I.av b u e).oq (λc v hc q=>k c v ?_ q) (λc q=>by rw[ξ (aw q hn)];exact q) λc xs q=>by rw[ξ (aw q hn)];exact q
   rcases hc with z| z
   ·rw[z];exact WV b u e
   ·exact WV c _ z
 ·have⟨f0,f1,f2,f3,f4,f5⟩:=f b hb;exact⟨f3,f1,f4,f5⟩
def Ww(K:gV)(l:Addr):It:=
 ⟨λi H=>∃xs x,fG K H l xs/\xs[i]? =some x,λi H v H'=>∃p x,H p=none/\v= .ref p/\H'=upd H p (.tup [.int i,x])/\∀xs,fG K H l xs->xs[i]? =some x,λi H=>∃xs,fG K H l xs/\xs.length<=i⟩
def Cp{P:Program}{w:World}{K:gV}{elts:List Expr}{x1:Nat}{tp:Pos}(l it e:Addr)(jZ:e≠it):v9 P w K (.Tuple elts x1 tp) (Ww K l) [e,it] e (λi h=>(∃old,IsEnum h e it i old)/\h.IsListIter it l i) where
 mem:=by simp
 obj:=λi h st b hb=>by
  have⟨⟨old,he⟩,hi⟩:=st;rcases aam.mp hb with rfl| hb
  ·exact⟨_,he,λv z=>by
    have z':Data.fields _=Data.cell v:=z
    cases z'⟩
  ·have e:b=it:=by simpa using hb
   subst e;have⟨o,e,c,d⟩:=hi;exact⟨o,e,λv z=>by rw[d]at z;cases z⟩
 keep:=λi h h' st k=>by have⟨⟨old,he⟩,hi⟩:=st;exact⟨⟨old,k e (by simp) _ he⟩,hi.at λo q=>k it (by simp) o q⟩
 item:=by
  intro X hP hw hK hc i δ s σ H E I hf st hg;subst hP hw hK;have⟨⟨old,he⟩,hi⟩:=st;have⟨xs,x,hq,hx⟩:=hg;have⟨its,rv,p,hz⟩:=I.list hq;have⟨u,hu,ru⟩:=rv.get hx;refine wpAny_pyNext_enum_item he hi p.isList (x:=u) (by simpa using hu) jZ λh' ho XT hT hsz hk=>?_;refine⟨_,rfl,wpAny_letOwnedTupleGo_enum (s:={s with heap:=h',toks:=s.toks+1}) ho λh2 X' sb=>?_⟩;have sb:Heap.SameBut e h' h2:=sb;have elt:e < s.heap.objs.size:=aan he;have ilt:it < s.heap.objs.size:=by have⟨o,q,_⟩:=hi;exact aan q
  have neT:s.heap.objs.size≠e:=abH elt;have hT2:h2.get? s.heap.objs.size=some {cls:=.type "tuple",data:=.seq #[.int i s.toks,u]}:=(sb.2 _ neT).trans hT;have I2:Inv X δ σ (upd H s.heap.objs.size (.tup [.int i,x])) {s with heap:=h2,toks:=s.toks+1}:=by
   refine I.Cu (its:=[e,it]) (λb o hb q=>?_) hf (aaq _) ?_
   ·have h1:b≠e:=λz=>hb (by simp[z]);have h3:b≠it:=λz=>hb (by simp[z]);exact(sb.2 b h1).trans (hk b o h1 h3 q)
   ·refine⟨by simp[sizeLine_eq],[.int i s.toks,u],.cons ⟨_,rfl⟩ (.cons ru .nil),?_⟩;exact⟨_,hT2,rfl,0,rfl⟩
  have iter:h2.IsListIter it l (i+1):=XT.at λo q=>(sb.2 it (Ne.symm jZ)).trans q;refine⟨.ref s.heap.objs.size,_,I2,rfl,⟨s.heap.objs.size,x,I.av.fresh (Nat.le_refl _),rfl,rfl,λys hy=>by rw[I.b8 hy hq];exact hx⟩,⟨⟨u,by simpa using X'⟩,iter⟩,λb hb=>?_⟩;have nb:b≠s.heap.objs.size:=by
   rcases aam.mp hb with rfl| hb
   ·exact aaH elt
   ·have:b=it:=by simpa using hb
    subst this;exact aaH ilt
  rw[ξ nb];exact(hf b hb).1
 done:=by intro X hP hw hK hc i δ s σ H E I hf st hg;subst hP hw hK;have⟨⟨old,he⟩,hi⟩:=st;have⟨xs,hq,hx⟩:=hg;have⟨its,rv,p,hz⟩:=I.list hq;have hl:=rv.length;have⟨f0,f1,f2,f3,f4,f5⟩:=hf it (by simp);refine wpAny_pyNext_enum_end (I.ok.hd hc) he hi p.isList (by simp;omega) λh' ext=>⟨rfl,I.turned (t':=s.toks) (λb o hb q=>ext b o hb q) f0 f1 f3 f4 f5⟩
 self:=λ_ _ _ _ _ st h=>by have⟨⟨old,he⟩,_⟩:=st;exact wpAny_pyIter_enum he h
def iQ:Nat->List Dt->List Dt
 | _,[]=>[]
 | n,x::xs=>.tup [.int n,x]::iQ (n+1) xs
def ly:∀(n:Nat) (xs:List Dt),(iQ n xs).length=xs.length
 | _,[]=>rfl
 | n,_::xs=>by unfold iQ;rw[List.length_cons,List.length_cons,ly]
def sV:∀{n i:Nat} {xs:List Dt} {d:Dt},(iQ n xs)[i]? =some d->∃x,xs[i]? =some x/\d= .tup [.int ((n+i:Nat):Int),x]
 | n,i,[],d,h=>by simp[iQ]at h
 | n,0,x::xs,d,h=>by unfold iQ at h;simp at h;exact⟨x,rfl,by rw[<-h];simp⟩
 | n,i+1,x::xs,d,h=>by unfold iQ at h;have⟨y,h1,h2⟩:=sV (n:=n+1) (i:=i) (xs:=xs) (d:=d) (by simpa using h);exact⟨y,by simpa using h1,by rw[h2,show n+1+i=n+(i+1) by omega]⟩
def HW{K:gV}{G:Hp}{L:List Addr}{a:Addr}{xs:List Dt}{ok:Ms->Prop}(s:Src K a xs ok G L):NO K (Ww K a) (iQ 0 xs) ok G L where
 go:=λi G1 L1 M1 H1 d g l r k e=>by have⟨vs,hs,n⟩:=s.at_ G1 L1 M1 H1 g l r k;have⟨y,ey,rfl⟩:=sV e;have⟨v,e1,n1⟩:=n.get ey;refine⟨⟨vs,v,hs,e1⟩,λv' H' xz=>?_⟩;have⟨p,x,hp,ev,eH,hx⟩:=xz;subst ev eH;have e2:=hx vs hs;rw[e1]at e2;cases e2;refine⟨_,r.RN hp,r.Nn hp,k_ (ds:=[.int ((0+i:Nat):Int),y]) r hp ⟨_,_,rfl,?_,_,_,rfl,n1,rfl⟩⟩;show V.int i=V.int _;rw[Nat.zero_add]
 stop:=λi G1 L1 M1 H1 g l r k e=>by have⟨vs,hs,n⟩:=s.at_ G1 L1 M1 H1 g l r k;exact⟨vs,hs,by rw[<-n.length,<-ly 0];exact e⟩
def Lb(t:DA):DK:=λρ M q x=>t ρ M (λds M1=>∃d xs ok,ds=[d]/\k7 M1 d=some (xs,ok)/\q (iQ 0 xs) ok M1) x
def AX{X:Cx}{R:St->XK}{elts:List Expr}{x1:Nat}{tp:Pos}{a:Expr}{t:DA}{p pos:Pos}(hm:X.mg "enumerate"=none)(ha:JA X R [a] t)(hg:Gl X "enumerate":=by rfl)(hs:starEach [a] X.env=[(false,eval a X.env)]:=by rfl):JK X R (.Tuple elts x1 tp) (.Call (.Name "enumerate" p) [a] [] pos) (Lb t):=by
 intro δ s σ H Q I ⟨G,L,ρ,M,q,x,rl,n,ht,hx,hQ⟩;refine Call_ (qU I hg hm yT (PyProof.Rows.callWith_type1 (aT (ha pos δ s σ H (OX X.K G L H _) I ⟨G,L,ρ,M,_,x,rl,n,ht,hx,λ_ _ f=>f⟩) λus s1 xz=>?_) hs rfl));have⟨vs,H1,I1,rv,ds,G1,L1,M1,e1,r1,n1,d,xs,ok,ed,hl,h1⟩:=xz;subst ed;have⟨v,rfl,n2⟩:=aC n1;have⟨b,ws,rfl,sq,sr,_⟩:=zx r1 n2 hl;have⟨u,rfl,ru⟩:=Ψ.one rv;cases ru;have⟨its,_,pl,_⟩:=I1.list sq;refine call_enumerate_list pl.isList λh' he hi hz hk=>?_;have I2:Inv X δ σ H1 {s1 with heap:=h'}:=I1.kept (t':=s1.toks) hk;refine wpAny_pyIter_enum (s:={s1 with heap:=h'}) he ⟨s1.heap.objs.size+1,[s1.heap.objs.size+1,s1.heap.objs.size],_,_,H1,rfl,I2,Cp b s1.heap.objs.size (s1.heap.objs.size+1) (abH (Nat.lt_succ_self _)),⟨⟨_,he⟩,hi⟩,λc hc=>?_,hQ _ _ ⟨_,ok,G1,L1,M1,e1,r1,HW sr,h1⟩⟩;have hc:s1.heap.objs.size<=c:=by
  rcases aam.mp hc with rfl| hc
  ·exact Nat.le_succ _
  ·have:c=s1.heap.objs.size:=by simpa using hc
   rw[this];exact aaq _
 have f:=I1.HP (H':=H1) hc (I1.av.fresh hc);exact f
def Gu(M:Ms):Dt->Option Value
 | .loc k=>match M[k]? with
  | some (.lst _)=>some (.type "list")
  | _=>none
 | d=>LQ d
def LM(K:gV):List Dt->Ms->DQ->Prop:=λds M q=>∃d c t t' b,ds=[d,c]/\Gu M d=some t/\OV c=some t'/\PySem.W.kitOne K t t'=some b/\q (.bl b) M
section
variable{K:gV}
def zY{G:Hp}{L:List Addr}{M:Ms}{H:Hp}{d:Dt}{v:V}{t:Value}(r:Rl K G L M H)(n:Den K G L d v)(h:Gu M d=some t):jK K H v t:=by
 by_cases hd:∃k,d= .loc k
 ·have⟨k,rfl⟩:=hd;have⟨a,rfl,e⟩:=n;have h:(match M[k]? with| some (.lst _)=>some (Value.type "list")| _=>none)=some t:=h;split at h
  ·rename_i xs hm;cases h;have⟨_,vs,e1,_⟩:=r.fF k a _ e hm;exact .lst e1
  ·cases h
 ·refine Dr r n ?_;cases d with
  | loc k=>exact aaG ⟨k,rfl⟩ hd
  | _=>exact h
def Qe:Bx K (λxs H Q=>∃x c t t' b,xs=[x,c]/\jK K H x t/\FW c=some t'/\PySem.W.kitOne K t t'=some b/\Q (.bl b) H) (LM K):=by intro G0 L0 H0 G L M H vs ds q e r n ⟨d,c,t,t',b,ed,h1,h2,hb,h⟩;subst ed;have⟨v,u,rfl,n1,n2⟩:=fi n;exact⟨v,u,t,t',b,rfl,zY r n1 h1,BG n2 h2,hb,az e r h⟩
end
section
variable{X:Cx}{R:St->XK}{e e2:Expr}{t:DA}{p pos:Pos}
def bH(K:gV)(hm:X.mg "isinstance"=none)(ha:JA X R [e,e2] t)(he:starEach [e,e2] X.env=(false,eval e X.env)::starEach [e2] X.env:=by rfl)(eB:(backTo pos (starEach [e2] X.env)).any (·.1)=false:=by rfl)(hg:Gl X "isinstance":=by rfl)(hK:X.K=K:=by rfl):JE X R (.Call (.Name "isinstance" p) [e,e2] [] pos) (vP (LM K) t):=by subst hK;exact fP x9 Qe hm gD ha hg @_ @_ he eB
def tF:∀{zs:List Str} {us:List Value},Paired (λ(z:Str) (u:Value)=>∃tk,u= .str z tk) zs us->Ψ (zs.map V.str) us
 | _,_,.nil=>.nil
 | _,_,.cons h t=>.cons h (tF t)
def Ln{x:Str}{zs:List Str}(hm:∃a o its n,X.mg x=some (.ref a)/\X.K.lookup a=some o/\o.cls= .type "tuple"/\o.data= .seq its n/\its.size<=sizeLine/\Paired (λ(z:Str) (u:Value)=>∃tk,u= .str z tk) zs its.toList)(hg:Gl X x:=by rfl)(hd:(x==("__debug__":Str))=false:=by decide):JE X R (.Name x pos) (dC (.kt (zs.map .str))):=by have⟨a,o,its,n,h1,h2,h3,h4,h5,h6⟩:=hm;exact K8 (v:=.ref a) (o_ hg h1 rfl hd) λG L=>⟨a,zs.map V.str,rfl,.inr ⟨o,its,n,h2,h3,h4,h5,tF h6⟩,jz⟩
end
def e6{te:DE}{cs:En}{ok:Ms->Prop}{f:Dt->Dt}:∀{xs Κ:List Dt} {M:Ms} {k:List Dt->Ms->Prop},ok M->(∀x∈xs,∀q:DQ,q (f x) M->te (some x::cs) M q iB)->k (Κ++xs.map f) M->jd te cs ok xs Κ M k
 | [],Κ,M,k,ho,_,h=>⟨ho,by simpa using h⟩
 | x::xs,Κ,M,k,ho,hf,h=>⟨ho,hf x List.mem_cons_self _ (e6 ho (λy hy=>hf y (List.mem_cons_of_mem _ hy)) (by simpa using h))⟩
def jf{g:Dt->En->(En->Prop)->Prop}{tb:DS}{Dn:jU}{ok:Ms->Prop}(J:List Dt->En->Ms->Prop)(av:∀xs ρ M,J xs ρ M->ok M)
  (step:∀x xs ρ M,J (x::xs) ρ M->(∀ρ M,J xs ρ M->rO g tb Dn ok xs ρ M)->g x ρ λρ'=>tb {Dn with nx:=rO g tb Dn ok xs,ct:=rO g tb Dn ok xs,bk:=Dn.nx} ρ' M)
  (fin:∀ρ M,J [] ρ M->Dn.nx ρ M):∀(xs:List Dt) (ρ:En) (M:Ms),J xs ρ M->rO g tb Dn ok xs ρ M
 | [],ρ,M,h=>⟨av _ _ _ h,fin _ _ h⟩
 | x::xs,ρ,M,h=>⟨av _ _ _ h,step x xs ρ M h λρ' M' h'=>jf J av step fin xs ρ' M' h'⟩
section
variable{K:gV}{G:Hp}{L:List Addr}
mutual
def MN:∀(d:Dt) (v:V),Den K G L d v->d.under L.length
 | .aS,_,_=>trivial
 | .bl _,_,_=>trivial
 | .int _,_,_=>trivial
 | .str _,_,_=>trivial
 | .tup ds,_,⟨a,vs,e,h1,h2⟩=>d9 ds vs h2
 | .lst ds,_,⟨a,vs,e,h1,h2⟩=>d9 ds vs h2
 | .obj C ns ds,_,⟨a,dx,vs,e,h1,hl,h2⟩=>d9 ds vs h2
 | .loc k,_,⟨a,e,h1⟩=>(aai.mp h1).1
 | .ref _,_,_=>trivial
 | .ty _,_,_=>trivial
 | .oK _,_,_=>trivial
 | .kt ds,_,⟨a,vs,e,h1,h2⟩=>d9 ds vs h2
 | .exc _ _ ds,_,⟨a,od,vs,e,h1,h2,h3,h4⟩=>d9 ds vs h4
 | .Eo _ _ _ _ ds,_,⟨vs,e,h2,h3,h4⟩=>d9 ds vs h4
def d9:∀(ds:List Dt) (vs:List V),Λ K G L ds vs->Dt.br L.length ds
 | [],_,_=>trivial
 | d::ds,_,⟨v,r,e,h1,h2⟩=>⟨MN d v h1,d9 ds r h2⟩
end
def Rl.un{M:Ms}{H:Hp}(r:Rl K G L M H):∀m∈M,MO.under M.length m:=λm hm=>by
 have⟨k,hk,e⟩:=List.getElem_of_mem hm;have em:M[k]? =some m:=by rw[aaa hk,e]
 have el:L[k]? =some (L[k]'(by rw[r.len];exact hk)):=aaa _;have⟨_,q⟩:=r.fF k _ m el em;rw[<-r.len];cases m with
 | lst ds=>have⟨vs,_,h⟩:=q;exact d9 _ _ h
 | ins C ns ds=>have⟨dx,vs,_,_,h⟩:=q;exact d9 _ _ h
 | rB ks ds=>have⟨vs,_,_,h⟩:=q;exact d9 _ _ h
 | raw u=>trivial
end
def zB(M0:Ms)(q:DQ):DQ:=λd M=>∃E d',M=M0++E/\ub M0.length E d d'/\q d' M0
def Fin.zB{K:gV}{G0:Hp}{L0:List Addr}{M0:Ms}{H0:Hp}{q:DQ}{v:V}{H:Hp}(r0:Rl K G0 L0 M0 H0)(f:Fin K G0 L0 H0 (zB M0 q) v H):Fin K G0 L0 H0 q v H:=by have⟨d,G,L,M,ex,r,dn,E,d',e,fz,hq⟩:=f;exact Fin.vJ r0 ⟨d,G,L,M,ex,r,dn,M0,E,d',e,rfl,r0.un,fz,hq⟩
def O7(t:DE):DE:=λρ M q x=>t ρ M (zB M q) x
def lQ{X:Cx}{R:St->XK}{e:Expr}{t:DE}(h:JE X R e t):JE X R e (O7 t):=.of h λσ H G L ρ M q x rl n ht hx=>⟨G,L,ρ,M,_,x,rl,n,ht,hx,λv H1 f=>Fin.zB rl f⟩
def Jc{M0:Ms}{q:DQ}{d:Dt}(hu:d.under M0.length)(h:q d M0):zB M0 q d M0:=⟨[],d,by simp,.old hu,h⟩
def kL{M0 E:Ms}{q:DQ}{d d':Dt}(f:ub M0.length E d d')(h:q d' M0):zB M0 q d (M0++E):=⟨E,d',rfl,f,h⟩
def eT(f:Expr->Option Dt):List Expr->Option (List Dt)
 | []=>some []
 | e::es=>match f e,eT f es with
  | some d,some ds=>some (d::ds)
  | _,_=>none
def fo:Nat->Expr->Option Dt
 | 0,e=>match e with
  | .Constant (.int i) _ _=>some (.int i)
  | .Constant (.str x) _ _=>some (.str x)
  | _=>none
 | n+1,e=>match e with
  | .Constant (.int i) _ _=>some (.int i)
  | .Constant (.str x) _ _=>some (.str x)
  | .Tuple es _ _=>if es.length<=100 then (eT (fo n) es).map .tup else none
  | .List es _=>if es.length<=100 then (eT (fo n) es).map .lst else none
  | _=>none
def An{n:Nat}{e:Expr}{d:Dt}{es:List Expr}{env:Env}(h:fo n e=some d):starEach (e::es) env=(false,eval e env)::starEach es env:=by cases n <;> (unfold fo at h;split at h <;> first| rfl| cases h)
def jc{f:Expr->Option Dt}:∀{es:List Expr} {ds:List Dt},eT f es=some ds->ds.length=es.length
 | [],ds,h=>by cases h;rfl
 | e::es,ds,h=>by
  unfold eT at h;split at h
  ·rename_i d Kj h1 h2;cases h;rw[aat,aat,jc h2]
  ·cases h
section
variable{X:Cx}{R:St->XK}
def pB{n:Nat}(ih:∀(e:Expr) (d:Dt),fo n e=some d->JE X R e (dC d)):∀(es:List Expr) (ds:List Dt),eT (fo n) es=some ds->JA X R es (λ_ M q _=>q ds M)
 | [],ds,h=>by cases h;exact η
 | e::es,ds,h=>by
  unfold eT at h;split at h
  ·rename_i d Kj h1 h2;cases h;exact ε (ih e d h1) (pB ih es Kj h2) (hs:=An h1)
  ·cases h
def Cb{n:Nat}(h:n<=100):n<=sizeLine:=aaD h @_
def JE.imp{e:Expr}{t t':DE}(h:JE X R e t)(hi:∀ρ M q x,t' ρ M q x->t ρ M q x):JE X R e t':=.of h λσ H G L ρ M q x rl n ht hx=>⟨G,L,ρ,M,q,x,rl,n,hi _ _ _ _ ht,hx,λ_ _ f=>f⟩
def fL:∀(n:Nat) {e:Expr} {d:Dt},fo n e=some d->JE X R e (dC d)
 | 0,e,d,h=>by
  unfold fo at h;split at h
  ·cases h;exact ο
  ·cases h;exact χ
  ·cases h
 | n +1,e,d,h=>by
  unfold fo at h;split at h
  ·cases h;exact ο
  ·cases h;exact χ
  ·split at h
   ·rename_i es _ _ hl;cases hc:eT (fo n) es with
    | none=>rw[hc]at h;cases h
    | some ds=>
     rw[hc]at h;cases h;exact(bQ (pB (λe d=>fL n) es ds hc)).imp λρ M q x hq=>⟨Cb (by rw[jc hc];exact hl),hq⟩
   ·cases h
  ·split at h
   ·rename_i es _ hl;cases hc:eT (fo n) es with
    | none=>rw[hc]at h;cases h
    | some ds=>
     rw[hc]at h;cases h;exact(aZ (pB (λe d=>fL n) es ds hc)).imp λρ M q x hq=>⟨Cb (by rw[jc hc];exact hl),hq⟩
   ·cases h
  ·cases h
end
section
variable{X:Cx}{R:St->XK}{elt iter c:Expr}{x y:Str}{px py tp:Pos}{scope:Scope}{pos:Pos}{ti:DK}{tc:DT}{te:DE}{ys:List Str}{Γ:List Nat}{kk:Nat}
def FL(S:Ξ X scope [x] ys Γ)(hi:JK X R (.Name x px) iter ti)(ht:∀C s H fp,JT (Cx.comp X (x::ys) scope C s H fp) (λ_=>E0) c tc)(he:∀C s H fp,JE (Cx.comp X (x::ys) scope C s H fp) (λ_=>E0) elt te)(hc:X.calm=true:=by rfl)(hs:∀x,foldedSetIterable iter X.env x=pure x:=by intro _;rfl):JE X R (.ListComp elt [⟨.Name x px,iter,[c],0⟩] scope pos) (Fd 1 ti (gN 0) tc te Γ):=Px false S hi (cD S (i:=0) rfl) bV (bz (Nat.zero_lt_succ 0)) (λC s H fp=>JZ (ht C s H fp)) he hc hs λ_ _ _ _ h=>h
end
def gW{g:Dt->En->(En->Prop)->Prop}{tc:DT}{te:DE}{ρ0:En}{ok:Ms->Prop}{M:Ms}{k:List Dt->Ms->Prop}(ho:ok M)(b:Dt->Bool)(f:Dt->Dt):∀(xs Κ:List Dt),(∀x∈xs,∀(q:DQ) (p:Ms->Prop),(b x=true->q (f x) M)->(b x=false->p M)->g x ρ0 λρ'=>tc ρ' M (λb' M1=>match b' with| true=>te ρ' M1 q iB| false=>p M1) iB)->
  k (Κ++(xs.filter b).map f) M->ir g tc te ρ0 ok xs Κ M k
 | [],Κ,_,h=>⟨ho,by simpa using h⟩
 | x::xs,Κ,ht,h=>⟨ho,ht x List.mem_cons_self _ _ (λhb=>gW ho b f xs _ (λy hy=>ht y (List.mem_cons_of_mem _ hy)) (by simpa [hb] using h)) λhb=>gW ho b f xs _ (λy hy=>ht y (List.mem_cons_of_mem _ hy)) (by simpa [hb] using h)⟩
def tH(xs:List V)(k:Nat):ya xs (some (k:Int)) none=xs.drop k:=by
 unfold ya;rw[HT.Bc,HT.EI];by_cases h:k<=xs.length
 ·rw[Nat.min_eq_left h,List.take_of_length_le (by rw[abg];omega)]
 ·rw[Nat.min_eq_right (),List.drop_eq_nil_of_le (Nat.le_refl _),List.drop_eq_nil_of_le ()];simp
def T7(te tl:DE):DE:=λρ M q x=>te ρ M (λd M1=>tl ρ M1 (λdi M2=>∃ds n,d= .tup ds/\di= .int (n:Nat)/\1<=n/\1<=ds.length/\q (.tup (ds.drop n)) M2) x) x
def Ds{X:Cx}{R:St->XK}{e l:Expr}{te tl:DE}{pos p2:Pos}(he:JE X R e te)(hl:JE X R l tl):JE X R (.Subscript e (.Slice (some l) none none p2) pos) (T7 te tl):=
 .of (lC Od he (oY hl) o9) λσ H G L ρ M q x rl n h hx=>by
  refine⟨G,L,ρ,M,_,x,rl,n,h,hx,λv H1 xz=>?_⟩;have⟨d1,G1,L1,M1,e1,r1,n1,h1⟩:=xz;refine⟨G1,L1,ρ,M1,_,x,r1,n.mono e1,h1,hx.on e1,λv2 H2 xz=>?_⟩;have⟨d2,G2,L2,M2,e2,r2,n2,ds,k,ed,ei,k1,l1,h2⟩:=xz;subst ed ei;have⟨a,vs,rfl,ea,m⟩:=Den.mono e2.g e2.l _ _ n1;have n2:v2= .int k:=n2;subst n2;have lv:=m.length;refine⟨k,rfl,a,vs,rfl,.of (r2.sub _ _ ea),λz=>?_,λp hp=>?_⟩
  ·rw[HT.Bc]at z;omega
  ·rw[tH];exact eh (e1.trans e2) r2 hp (k_ r2 hp (Λ.of (pU k m.pair))) h2
section
variable{κ:Type} [DecidableEq κ]
def i4(Ο:List (κ×V))(k:κ):Option V:=(Ο.find? λkv=>decide (kv.1=k)).map (·.2)
def gO(Ο:List (κ×V))(k:κ)(v:V):List (κ×V):=
 if (Ο.any λkv=>decide (kv.1=k))=true then Ο.map (λkv=>if kv.1=k then (kv.1,v) else kv) else Ο++[(k,v)]
def dh{p:κ×V}{r:List (κ×V)}{k:κ}(e:p.1=k):i4 (p::r) k=some p.2:=by simp[i4,List.find?_cons,e]
def dE{p:κ×V}{r:List (κ×V)}{k:κ}(e:¬p.1=k):i4 (p::r) k=i4 r k:=by simp[i4,List.find?_cons,e]
def mh(k:κ):∀Ο:List (κ×V),(Ο.any λkv=>decide (kv.1=k))=(i4 Ο k).isSome
 | []=>rfl
 | p::r=>by
  rw[abr];by_cases e:p.1=k
  ·simp only[dh e,decide_eq_true e,Bool.true_or,Option.isSome_some]
  ·rw[dE e,aao e,Bool.false_or];exact mh k r
def s_(k j:κ)(y:V):∀Ο:List (κ×V),i4 Ο k=none->i4 (Ο++[(k,y)]) j=if j=k then some y else i4 Ο j
 | [],_=>by
  by_cases e:k=j
  ·rw[aaB e.symm];exact dh (p:=(k,y)) e
  ·rw[aay (λz=>e z.symm)];exact dE (p:=(k,y)) e
 | p::r,hn=>by
  rw[List.cons_append];have hk:¬p.1=k:=λz=>by rw[dh z]at hn;cases hn
  rw[dE hk]at hn;have ih:=s_ k j y r hn;by_cases e:p.1=j
  ·rw[dh e,dh e,aay (λz=>hk (e.trans z))]
  ·rw[dE e,dE e,ih]
def i5(Ο:List (κ×V))(k:κ)(v:V):(gO Ο k v).length<=Ο.length+1:=by
 unfold gO;split
 ·rw[aac];omega
 ·rw[aae,aat,List.length_nil];omega
def EX{Ο:List (κ×V)}{k:κ}(v:V)(h:i4 Ο k=none):gO Ο k v=Ο++[(k,v)]:=by unfold gO;rw[mh,h];exact aay @_
def gh.gy{o:Option V}{u:Option Value}(r:gh o u):o.isSome=u.isSome:=by
 cases o with
 | none=>cases u with
  | none=>rfl
  | some _=>exact(show False from r).elim
 | some _=>cases u with
  | none=>exact(show False from r).elim
  | some _=>rfl
def KV.val{Ο:List (κ×V)}{vs:List (κ×Value)}(r:KV Ο vs)(k:κ):gh (i4 Ο k) (valueAt vs k):=by
 unfold KV at r
 induction r with
 | nil=>exact True.intro
 | @cons p q ps qs h t ih=>
  have⟨h1,h2⟩:=h;by_cases e:p.1=k
  ·have e':q.1=k:=h1.symm.trans e;have b:valueAt (q::qs) k=some q.2:=by simp[valueAt,List.find?_cons,e']
   rw[dh e,b];exact h2
  ·have e':¬q.1=k:=λz=>e (h1.trans z);have b:valueAt (q::qs) k=valueAt qs k:=by simp[valueAt,List.find?_cons,e']
   rw[dE e,b];exact ih
def KV.any{Ο:List (κ×V)}{vs:List (κ×Value)}(r:KV Ο vs)(k:κ):(Ο.any λkv=>decide (kv.1=k))=vs.any λkv=>decide (kv.1=k):=by
 unfold KV at r
 induction r with
 | nil=>rfl
 | cons h t ih=>rw[abr,abr,ih,h.1]
def KV.Mj{Ο:List (κ×V)}{vs:List (κ×Value)}(r:KV Ο vs)(k:κ){y:V}{u:Value}(ry:aj y u):
  KV (Ο.map λkv=>if kv.1=k then (kv.1,y) else kv) (vs.map λkv=>if kv.1=k then (kv.1,u) else kv):=by
 unfold KV at r⊢
 induction r with
 | nil=>exact .nil
 | @cons p q ps qs h t ih=>
  rw[aaJ,aaJ];refine .cons ?_ ih;have⟨h1,h2⟩:=h;by_cases e:p.1=k
  ·rw[aaB e,aaB (h1.symm.trans e)];exact⟨h1,ry⟩
  ·rw[aay e,aay (λz=>e (h1.trans z))];exact⟨h1,h2⟩
def KV.put{Ο:List (κ×V)}{vs:List (κ×Value)}(r:KV Ο vs)(k:κ){y:V}{u:Value}(ry:aj y u):KV (gO Ο k y) (stored vs k u):=by
 unfold gO stored;rw[r.any k];by_cases e:(vs.any λkv=>decide (kv.1=k))=true
 ·rw[aaB e,aaB e];exact r.Mj k ry
 ·rw[aay e,aay e];exact Paired.snoc r ⟨rfl,ry⟩
def KV.length{Ο:List (κ×V)}{vs:List (κ×Value)}(r:KV Ο vs):Ο.length=vs.length:=Paired.length r
end
def tE{P:Program}{w:World}{k:Key}{u:Value}(r:aj (kV k) u):(bM P w).is k u=true:=by
 cases k with
 | inl i=>have⟨t,e⟩:=(show∃t,u=Value.int i t from r);subst e;exact yw P w i t
 | inr x=>have⟨t,e⟩:=(show∃t,u=Value.str x t from r);subst e;exact yv P w x t
def sW{P:Program}{w:World}:∀{ks:List Key} {us:List Value},Ψ (ks.map kV) us->ItemsAre (bM P w) ks us
 | [],_,r=>by rw[abI]at r;cases r;exact .nil
 | k::ks,_,r=>by
  rw[aaJ]at r;cases r with
  | cons h t=>exact .cons (tE h) (sW t)
abbrev KT(H:Hp):List (List Key×V)->List (List Key×Addr×Value)->Prop:=Paired λp q=>p.1=q.1/\H q.2.1=some (.tup (p.1.map kV))/\aj p.2 q.2.2
def KT.val{H:Hp}{Ο:List (List Key×V)}{xs:List (List Key×Addr×Value)}(r:KT H Ο xs)(k:List Key):gh (i4 Ο k) ((atKey xs k).map (·.2)):=by
 induction r with
 | nil=>exact True.intro
 | @cons p q ps qs h t ih=>
  have⟨h1,_,h2⟩:=h;by_cases e:p.1=k
  ·have e':q.1=k:=h1.symm.trans e;have b:atKey (q::qs) k=some q.2:=by simp[atKey,List.find?_cons,e']
   rw[dh e,b];exact h2
  ·have e':¬q.1=k:=λz=>e (h1.trans z);have b:atKey (q::qs) k=atKey qs k:=by simp[atKey,List.find?_cons,e']
   rw[dE e,b];exact ih
def KT.Mj{H:Hp}{Ο:List (List Key×V)}{xs:List (List Key×Addr×Value)}(r:KT H Ο xs)(k:List Key){y:V}{u:Value}(ry:aj y u):
  KT H (Ο.map λkv=>if kv.1=k then (kv.1,y) else kv) (xs.map (putAt k u)):=by
 induction r with
 | nil=>exact .nil
 | @cons p q ps qs h t ih=>
  rw[aaJ,aaJ];refine .cons ?_ ih;have⟨h1,h2,h3⟩:=h;unfold putAt;by_cases e:p.1=k
  ·rw[aaB e,aaB (h1.symm.trans e)];exact⟨h1,h2,ry⟩
  ·rw[aay e,aay (λz=>e (h1.trans z))];exact⟨h1,h2,h3⟩
def KT.put{H:Hp}{Ο:List (List Key×V)}{xs:List (List Key×Addr×Value)}(r:KT H Ο xs)(k:List Key){b:Addr}{y:V}{u:Value}(hb:H b=some (.tup (k.map kV)))(ry:aj y u):
  KT H (gO Ο k y) (storedH xs k b u):=by
 have e:(Ο.any λkv=>decide (kv.1=k))=(atKey xs k).isSome:=by rw[mh,(r.val k).gy,Option.isSome_map]
 unfold gO storedH;rw[e];by_cases q:(atKey xs k).isSome=true
 ·rw[aaB q,aaB q];exact r.Mj k ry
 ·rw[aay q,aay q];exact Paired.snoc r ⟨rfl,hb,ry⟩
def KT.keeps{H H':Hp}{Ο:List (List Key×V)}{xs:List (List Key×Addr×Value)}(r:KT H Ο xs)(ht:∀b ys,H b=some (.tup ys)->H' b=some (.tup ys)):KT H' Ο xs:=
 Paired.Oj r λ_ _ z=>⟨z.1,ht _ _ z.2.1,z.2.2⟩
section
variable{P:Program}{w:World}{H:Hp}{h:Heap}{a:Addr}
def LF{u:HO}(ok:iE P w H h)(e:Rd H a u):aA P w H h a u:=e.ok ok
def wB{Ο:List (Key×V)}(ok:iE P w H h)(e:Rd H a (.dK Ο)):Ο.length<=sizeLine/\(a==sysModules)=false/\∃vs,KV Ο vs/\h.DictOf (bM P w) a vs:=
 show aA P w H h a (.dK Ο) from LF ok e
def LC{Ο:List (Key×V)}(ok:iE P w H h)(e:H a=some (.dK Ο)):Ο.length<=sizeLine/\(a==sysModules)=false/\∃vs,KV Ο vs/\h.DictOf (bM P w) a vs:=wB ok (.inl e)
def qC{ks:List Key}(ok:iE P w H h)(e:H a=some (.tup (ks.map kV))):(tupleKind (bM P w)).is h ks a:=by have⟨_,its,r,o,h1,h2,n,h3⟩:=(show aA P w H h a (.tup (ks.map kV)) from ok a _ e);exact⟨o,its.toArray,n,h1,h2,h3,by simpa using sW r⟩
def w_{Ο:List (List Key×V)}(ok:iE P w H h)(e:Rd H a (.dT Ο)):Ο.length<=sizeLine/\(a==sysModules)=false/\
  ∃xs,KT H Ο xs/\h.DictOfH (tupleKind (bM P w)) a xs:=by
 have⟨z,y,xs,r,o,es,ep,h1,h2,h3,h4,h5⟩:=(show aA P w H h a (.dT Ο) from LF ok e);refine⟨z,y,xs,r,o,es,ep,h1,h2,h3,h4,λx hx=>?_,h5⟩;have all:∀{l:List (List Key×V)} {m:List (List Key×Addr×Value)},KT H l m->∀x∈m,(tupleKind (bM P w)).is h x.1 x.2.1:=by
  intro l m q
  induction q with
  | nil=>intro x hx;exact nomatch hx
  | @cons p q ps qs hq t ih=>
   intro x hx;rcases aam.mp hx with e| hx
   ·subst e;exact qC ok (by rw[<-hq.1];exact hq.2.1)
   ·exact ih x hx
 exact all r x hx
def Qn{Ο:List (List Key×V)}(ok:iE P w H h)(e:H a=some (.dT Ο)):Ο.length<=sizeLine/\(a==sysModules)=false/\
  ∃xs,KT H Ο xs/\h.DictOfH (tupleKind (bM P w)) a xs:=w_ ok (.inl e)
end
def va(H:Hp)(a:Addr)(y:V)(r:Option V):Prop:=
 (∃Ο k,Rd H a (.dK Ο)/\y=kV k/\r=i4 Ο k)\/∃Ο k b,Rd H a (.dT Ο)/\y= .ref b/\H b=some (.tup (k.map kV))/\r=i4 Ο k
def E1(H:Hp)(a:Addr)(y v:V)(H':Hp):Prop:=
 (∃Ο k,H a=some (.dK Ο)/\y=kV k/\Ο.length < sizeLine/\H'=upd H a (.dK (gO Ο k v)))\/
 ∃Ο k b,H a=some (.dT Ο)/\y= .ref b/\H b=some (.tup (k.map kV))/\Ο.length < sizeLine/\H'=upd H a (.dT (gO Ο k v))
def E1.k{H:Hp}{a:Addr}{Ο:List (Key×V)}{k:Key}{v:V}(e:H a=some (.dK Ο))(hl:Ο.length < sizeLine):E1 H a (kV k) v (upd H a (.dK (gO Ο k v))):=.inl ⟨Ο,k,e,rfl,hl,rfl⟩
section
variable{X:Cx}{δ:List (Addr×Obj)}{σ:St}{H:Hp}{s:Shared}{a:Addr}{y v:V}{u r:Value}{o:Option V}{A:Around}{E:Value->Shared->Prop}
def Inv.big(I:Inv X δ σ H s):sysModules < s.heap.objs.size:=by have h:mainGlobals < s.heap.objs.size:=(I.mod.glob.keeps I.bk).lt;exact Nat.lt_trans @_ h
def Df{Q:Value->Shared->Prop}(hu:A.units+1 < cLine)(I:Inv X δ σ H s)(g:va H a y (some v))(ry:aj y u)(h:∀w' s',Inv X δ σ H s'->aj v w'->Q w' s'):
  wpAny (model X.prog X.w) A (getItem (.ref a) u) Q E s:=by
 rcases g with ⟨Ο,k,e,ey,l⟩| ⟨Ο,k,b,e,ey,eb,l⟩
 ·subst ey;have⟨z,hd,vs,rel,dd⟩:=wB I.av e;have⟨w',hw,ue⟩:=gh.some_of (v:=v) (o:=valueAt vs k) (by rw[l];exact rel.val k);exact wpAny_getItem_of (tE ry) dd.mapOf hw (h w' _ (I.tok _) ue)
 ·subst ey;cases(show u=Value.ref b from ry);have⟨z,hd,xs,rel,dd⟩:=w_ I.av e;have⟨w',hw,ue⟩:=gh.some_of (v:=v) (o:=(atKey xs k).map (·.2)) (by rw[l];exact rel.val k);have⟨p,hp,Uq⟩:=Option.map_eq_some_iff.mp hw;refine wpAny_getItem_heap (tupleKind_room_in1 hu) (qC I.av eb) dd hp ?_;rw[Uq];exact h w' _ (I.tok _) ue
def TM{Q:Value->Shared->Prop}(hu:A.units+1 < cLine)(I:Inv X δ σ H s)(g:va H a y o)(ry:aj y u)(h:∀s',Inv X δ σ H s'->Q (.bool o.isSome) s'):
  wpAny (model X.prog X.w) A (compareOp .In u (.ref a)) Q E s:=by
 rcases g with ⟨Ο,k,e,ey,l⟩| ⟨Ο,k,b,e,ey,eb,l⟩
 ·subst ey;have⟨z,hd,vs,rel,dd⟩:=wB I.av e;refine wpAny_in_of (tE ry) hd dd.mapOf ?_;rw[<-(rel.val k).gy,<-l];exact h _ (I.tok _)
 ·subst ey;cases(show u=Value.ref b from ry);have⟨z,hd,xs,rel,dd⟩:=w_ I.av e;refine wpAny_in_heap (tupleKind_room_in1 hu) (qC I.av eb) hd dd ?_;have q:=(rel.val k).gy;rw[Option.isSome_map]at q;rw[<-q,<-l];exact h _ (I.tok _)
def JO{Q:Value->Shared->Prop}(hu:A.units+1 < cLine)(I:Inv X δ σ H s)(g:va H a y o)(ry:aj y u)(h:∀s',Inv X δ σ H s'->Q (.bool (!o.isSome)) s'):
  wpAny (model X.prog X.w) A (compareOp .NotIn u (.ref a)) Q E s:=by
 rcases g with ⟨Ο,k,e,ey,l⟩| ⟨Ο,k,b,e,ey,eb,l⟩
 ·subst ey;have⟨z,hd,vs,rel,dd⟩:=wB I.av e;refine wpAny_notIn_of (tE ry) hd dd.mapOf ?_;rw[<-(rel.val k).gy,<-l];exact h _ (I.tok _)
 ·subst ey;cases(show u=Value.ref b from ry);have⟨z,hd,xs,rel,dd⟩:=w_ I.av e;refine wpAny_notIn_heap (tupleKind_room_in1 hu) (qC I.av eb) hd dd ?_;have q:=(rel.val k).gy;rw[Option.isSome_map]at q;rw[<-q,<-l];exact h _ (I.tok _)
def vZ{h':Heap}{t':Nat}{ob:HO}(I:Inv X δ σ H s)(mu:Rv (H a))(hs:Heap.SameBut a s.heap h')(he:∃q,h'.get? a=some q)(new:aA X.prog X.w (upd H a ob) h' a ob):
  Inv X δ σ (upd H a ob) {s with heap:=h',toks:=t'}:=
 I.write (x:=a) (e:=a) mu (.inl rfl) (λb q hb z=>(hs.2 b hb).trans z) he new
def Fo{P:Program}{w:World}{H':Hp}{h':Heap}{Ο:List (Key×V)}{vs:List (Key×Value)}(z:Ο.length<=sizeLine)(hd:(a==sysModules)=false)(rel:KV Ο vs)(dd:h'.DictOf (bM P w) a vs):
  aA P w H' h' a (.dK Ο):=⟨z,hd,vs,rel,dd⟩
def Dz{H':Hp}{Q:Unit->Shared->Prop}(hu:A.units+1 < cLine)(I:Inv X δ σ H s)(g:E1 H a y v H')(ry:aj y u)(rv:aj v r)(h:∀s',Inv X δ σ H' s'->Q Unit.unit s'):
  wpAny (model X.prog X.w) A (setItem (.ref a) u r) Q E s:=by
 rcases g with ⟨Ο,k,e,ey,l,eH⟩| ⟨Ο,k,b,e,ey,eb,l,eH⟩
 ·subst ey eH;have⟨z,hd,vs,rel,dd⟩:=LC I.av e;have hz:vs.length<=sizeLine:=by rw[<-rel.length];exact z
  have hl:(gO Ο k v).length<=sizeLine:=by have:=i5 Ο k v;omega
  refine wpAny_setItem_pairs (hsz:=hz) (tE ry) dd λh' IQ hs=>h _ ?_;have he:∃q,h'.get? a=some q:=let ⟨q,_,_,hq,_⟩:=IQ;⟨q,hq⟩
  exact vZ I (by rw[e];exact True.intro) hs he (Fo hl hd (rel.put k rv) IQ)
 ·subst ey eH;cases(show u=Value.ref b from ry);have⟨z,hd,xs,rel,dd⟩:=Qn I.av e;have hz:xs.length<=sizeLine:=by rw[<-Paired.length rel];exact z
  have hl:(gO Ο k v).length<=sizeLine:=by have:=i5 Ο k v;omega
  refine wpAny_setItem_heap (hsz:=hz) (tupleKind_room_in1 hu) (qC I.av eb) dd λh' IQ hs=>h _ ?_;have⟨q,es,ep,hq,h2,h3,h4,_,h5⟩:=IQ;refine vZ I (by rw[e];exact True.intro) hs ⟨q,hq⟩ ⟨hl,hd,_,(rel.put k eb rv).keeps λc ys ec=>?_,q,es,ep,hq,h2,h3,h4,h5⟩;rw[ξ (wC ec e nofun)];exact ec
end
def MZ(i:Expr):Prop:=∀ov iv,subscripted i false ov iv=operate [ov,iv] (getItem ov iv)
def K1{prog:Program}{w:World}{A:Around}{E:Value->Shared->Prop}{s:Shared}{env:Env}{value slice:Expr}{pos:Pos}{T id:String}{Q:Value->Shared->Prop}
  (hl:typeLookup (.type T) "__getitem__"=pure (some (.builtin id))) (hs:MZ slice)
  (h:wpAny (model prog w) A (eval value env) (λo s₁=>wpAny (model prog w) A (eval slice env) (λi s₂=>s₂.TypeIs o T/\wpAny (model prog w) A (getItem o i) Q E s₂) E s₁) E s):
  wpAny (model prog w) A (eval (.Subscript value slice pos) env) Q E s:=by
 refine Subscript_ (aaW h (λo s₁ h₁=>aaW h₁ (λi s₂ h₂=>?_) λ_ _ x=>x) λ_ _ x=>x);have⟨hT,h₂⟩:=h₂;unfold subscriptTail;refine aab ?_;rw[getitemInPython_of_ne hT.not_modules];refine aab (wpAny_specialOf hT hl ?_);have fin:wpAny (model prog w) A (subscripted slice false o i) (λr s₃=>wpAny (model prog w) A (letTemporaryGo value o r >>= λ_=>pure r) Q E s₃) E s₂:=by rw[hs o i];exact wpAny_operating (aaW h₂ (λr s₃ h₃=>aab (wpAny_letTemporaryGo (aar h₃))) λ_ _ x=>x)
 first
  | exact aar (aab fin)
  | exact aab (aar (aab fin))
  | exact aab fin
def yz{X:Cx}{δ:List (Addr×Obj)}{σ:St}{H:Hp}{s:Shared}{a:Addr}{y:V}{o:Option V}(I:Inv X δ σ H s)(g:va H a y o):s.TypeIs (.ref a) "dict":=by
 rcases g with ⟨Ο,k,e,_,_⟩| ⟨Ο,k,b,e,_,_,_⟩
 ·have⟨_,_,vs,_,dd⟩:=wB I.av e;exact dd.typeIs
 ·have⟨_,_,xs,_,dd⟩:=w_ I.av e;exact dd.typeIs
def Sd(td ty:TE):TE:=λσ H Q=>td σ H λx H1=>ty σ H1 λy H2=>∃a v,x= .ref a/\va H2 a y (some v)/\Q v H2
def QR(td ty tv:TE):TS:=λD σ H=>tv σ H λv H1=>td σ H1 λx H2=>ty σ H2 λy H3=>∃a H4,x= .ref a/\E1 H3 a y v H4/\D.nx σ H4
section
variable{X:Cx}{o i e value:Expr}{pos pos' rV:Pos}{td ty tv:TE}
def Jq(hu:X.A.units+1 < cLine)(ho:PE X o td)(hi:PE X i ty)(hs:MZ i):PE X (.Subscript o i pos) (Sd td ty):=by intro δ s σ H Q I h;refine K1 PySem.F.slot_dict_getitem.lookup hs (aT (ho δ s σ H _ I h) fun u s1 ⟨x,H1,I1,rx,q1⟩=>aT (hi δ s1 σ H1 _ I1 q1) λiv s2 xz=>?_);have⟨y,H2,I2,ry,a,v,ex,g,q2⟩:=xz;subst ex;obtain rfl:u=Value.ref a:=rx;exact⟨yz I2 g,Df hu I2 g ry λw' s3 I3 ue=>⟨v,H2,I3,ue,q2⟩⟩
def IU(hu:X.A.units+1 < cLine)(ho:PE X o td)(hi:PE X i ty)(hv:PE X value tv)(hs:swapsWith value (some (.Subscript o i pos')) pos.line X.env=pure false):
  PS X (.Assign [.Subscript o i pos'] value pos) (QR td ty tv):=by
 intro δ s σ H D I h;refine wpAny_Assign_Subscript (aT (hv δ s σ H _ I h) fun r s1 ⟨v,H1,I1,rv,q1⟩=>aT (ho δ s1 σ H1 _ I1 q1) fun u s2 ⟨x,H2,I2,rx,q2⟩=>aT (hi δ s2 σ H2 _ I2 q2) λiv s3 xz=>?_) hs;have⟨y,H3,I3,ry,a,H4,ex,g,q3⟩:=xz;subst ex;obtain rfl:u=Value.ref a:=rx;exact Dz hu I3 g ry rv λs4 I4=>⟨σ,H4,I4,q3⟩
end
def xQ{P:Program}{w:World}{H:Hp}(h:Heap)(hb:sysModules < h.objs.size):aA P w H (h.push {cls:=.type "dict",data:=.dict #[]}) h.objs.size (.dK []):=
 ⟨aa2 _,beq_eq_false_iff_ne.mpr (Ne.symm (aaH hb)),[],.nil,Heap.DictOf.new h⟩
def Mh:TE:=λ_ H Q=>∀p,H p=none->Q (.ref p) (upd H p (.dK []))
section
variable{X:Cx}{pos:Pos}
def G9:PE X (.Dict [] [] pos) Mh:=λδ s σ H Q I h=>
 wpAny_Dict_empty ⟨.ref s.heap.objs.size,_,I.laid (a:=s.heap.objs.size) (o:=.dK []) (t':=s.toks) (λ_ _ q=>aad _ q) (aaq _) (xQ s.heap I.big),rfl,h _ (I.av.fresh (aaq _))⟩
end
def uz:List (TE×TE)->St->Hp->(List (V×V)->Hp->Prop)->Prop
 | [],_,H,Q=>Q [] H
 | (tk,tv)::r,σ,H,Q=>tk σ H λx H1=>tv σ H1 λy H2=>uz r σ H2 λps H3=>Q ((x,y)::ps) H3
abbrev VV:List (V×V)->List (Value×Value)->Prop:=Paired λp q=>aj p.1 q.1/\aj p.2 q.2
def Q_(X:Cx)(pos:Pos)(keys:List (Option Expr))(values:List Expr)(J':List (TE×TE)):Prop:=
 ∀(δ:List (Addr×Obj)) (s:Shared) (σ:St) (H:Hp) (Q:List (V×V)->Hp->Prop),Inv X δ σ H s->uz J' σ H Q->
  wpAny (model X.prog X.w) X.A (evalPairs (pairTrees keys values X.env pos)) (λvs s'=>∃ps H',Inv X δ σ H' s'/\VV ps vs/\Q ps H') X.xe s
def Je{X:Cx}{pos:Pos}:Q_ X pos [] [] []:=λδ s σ H Q I h=>pairTrees_nil_walk ⟨[],H,I,.nil,h⟩
def FH{X:Cx}{pos:Pos}{k v:Expr}{ks:List (Option Expr)}{vs:List Expr}{tk tv:TE}{J':List (TE×TE)}(hk:PE X k tk)(hv:PE X v tv)(hr:Q_ X pos ks vs J'):
  Q_ X pos (some k::ks) (v::vs) ((tk,tv)::J'):=λδ s σ H Q I h=>
 pairTrees_cons_walk (aT (hk δ s σ H _ I h) fun u s1 ⟨x,H1,I1,rx,q1⟩=>aT (hv δ s1 σ H1 _ I1 q1) fun w2 s2 ⟨y,H2,I2,ry,q2⟩=>
  aT (hr δ s2 σ H2 _ I2 q2) λws s3 ⟨ps,H3,I3,rel,q3⟩=>⟨(x,y)::ps,H3,I3,.cons ⟨rx,ry⟩ rel,q3⟩)
def i3(Ο more:List (Key×V)):List (Key×V):=more.foldl (λΚ kv=>gO Κ kv.1 kv.2) Ο
def KV.merge:∀{more:List (Key×V)} {rs:List (Key×Value)} {Ο:List (Key×V)} {vs:List (Key×Value)},KV more rs->KV Ο vs->KV (i3 Ο more) (merged vs rs):=by
 intro more rs Ο vs r;unfold KV at r
 induction r generalizing Ο vs with
 | nil=>intro q;exact q
 | @cons p q ps qs h t ih=>
  intro r0;have e:KV (gO Ο p.1 p.2) (stored vs q.1 q.2):=by have:=r0.put p.1 h.2;rw[<-h.1];exact this
  exact ih e
def j5:∀(more Ο:List (Key×V)),(i3 Ο more).length<=Ο.length+more.length
 | [],Ο=>by show Ο.length<=Ο.length+0;omega
 | p::r,Ο=>by have h1:=j5 r (gO Ο p.1 p.2);have h2:=i5 Ο p.1 p.2;show(i3 (gO Ο p.1 p.2) r).length<=_;rw[aat];omega
def pA{P:Program}{w:World}:∀{Ο:List (Key×V)} {ws:List (Value×Value)},VV (Ο.map λkv=>(kV kv.1,kv.2)) ws->∃rs,Carries (bM P w) ws rs/\KV Ο rs
 | [],_,r=>by rw[abI]at r;cases r;exact⟨[],True.intro,.nil⟩
 | p::Ο,_,r=>by
  rw[aaJ]at r;cases r with
  | @cons a b as bs h t=>
   have⟨rs,c,q⟩:=pA (P:=P) (w:=w) t;have⟨b1,b2⟩:=b;exact⟨(p.1,b2)::rs,⟨tE h.1,rfl,c⟩,.cons ⟨rfl,h.2⟩ q⟩
def Q4(J':List (TE×TE)):TE:=λσ H Q=>∀p,H p=none->uz J' σ (upd H p (.dK [])) λps H2=>H2 p=some (.dK [])/\∃Ο:List (Key×V),ps=Ο.map (λkv=>(kV kv.1,kv.2))/\Ο.length<=15/\Q (.ref p) (upd H2 p (.dK (i3 [] Ο)))
def Kv{X:Cx}{pos:Pos}{keys:List (Option Expr)}{values:List Expr}{J':List (TE×TE)}(h:Q_ X pos keys values J')(GR:keys.all (·.isSome)=true)(hl:keys.length=values.length)(h0:keys≠[])
  (TR:keys.length<=15):PE X (.Dict keys values pos) (Q4 J'):=by
 intro δ s σ H Q I q;have hn:=I.av.fresh (aaq s.heap.objs.size);have I1:=I.laid (a:=s.heap.objs.size) (o:=.dK []) (h':=s.heap.push {cls:=.type "dict",data:=.dict #[]}) (t':=s.toks) (λ_ _ q=>aad _ q) (aaq _) (xQ s.heap I.big);refine wpAny_Dict_walk (knd:=bM X.prog X.w) GR hl h0 TR (aT (h δ _ σ _ _ I1 (q _ hn)) λws s2 xz=>?_);have⟨ps,H2,I2,rel,e,Ο,ep,lk,q2⟩:=xz;subst ep;have⟨rs,c,rk⟩:=pA (P:=X.prog) (w:=X.w) rel;have⟨z,hd,vs0,r0,dd⟩:=LC I2.av e;cases r0;refine⟨rs,c,dd,λh' IQ hs=>⟨.ref s.heap.objs.size,_,?_,rfl,q2⟩⟩;have hz:(i3 [] Ο).length<=sizeLine:=by have h1:=j5 Ο [];rw[List.length_nil]at h1;rw[sizeLine_eq];omega
 have he:∃q,h'.get? s.heap.objs.size=some q:=let ⟨q,_,_,hq,_⟩:=IQ;⟨q,hq⟩
 exact vZ I2 (by rw[e];exact True.intro) hs he (Fo hz hd (rk.merge .nil) IQ)
end L2
namespace Att
open PySem PySem.W PySem.Calls PyProof.Rows
end Att
namespace L2
open PySem PySem.Spec PyProof.Rows
end L2
/- XQ Uw Ke (shape;Y_,My.* are QE):
  My.Adr:a structure of I_ addresses UW TY QW names (classes,CJ);My.Txt K t:a structure (Prop) of I_ equations over K;
  My.zd:{K} {implicit addresses ..} (e1:nsIn K mainGlobals "law"=some (some (.ref f))) (e2:K.lookup f=some ⟨oc,od,.func (fnOf "law" "law" params body scope dV kV doc pm an bC ct),sl⟩) (e3:codeIn K bC "law"=true) .. :∃t,My.Txt K t
set_option maxRecDepth 100000 in
set_option maxHeartbeats 0 in
def PySem.Challenge.cw_LID_holds : PySem.Challenge.rw_LID.Holds := by
 w_on;o_law;k_head;(case hw=>w_witness2)
 k_fill
 refine L2.uD (l:=PySem.Challenge.rw_LID) (n:=63) (k:=40) (x:="script") (CX:=fun w=>..) (sp:=fun _=>My.Nx) rfl @_ rfl ⟨rfl,@_,@_⟩ (fun w h Y=>PySem.W.kIn_of Y) ?F ?S ?C
 case F=>
  intro w mg fa h KX G Jj;have T:∃t,My.Txt (L2.UI KX) t:=by
   dsimp only[L2.UI]
   refine' My.zd ?e1 ?e2 ?e3 ..
   (case e1=>PySem.W.k_is)
   (case e2=>PySem.W.k_is)
   ..
  have⟨t,T⟩:=T;have e0:=Jj.symm.trans (PySem.W.mg_of KX G T.Ys);cases e0;exact⟨_,λs u=>.of_eq rfl,λbase kb nb=>My.zO T kb nb⟩
 case S=>exactλw H a ns hl hO hS=>..
 case C=>exact ..
(I_ tactic k_is has no namespace:write k_is) -/
namespace L2
open PySem PySem.Spec PyProof.Rows
variable{G H0:Hp}{L L' L0 fp:List Addr}{d:Dt}{v:V}{X:Cx}{R:St->XK}{o:HO}{e:Expr}{to te ta tb:DE}{pos apos:Pos}{p x C a:Addr}{k' n i:Nat}{δ:List (Addr×Obj)}{σ:St}{s:Shared}{b:Bool}{M:Ms}{xs ds:List Dt}{vs:List V}{t:DA}{A:Around}{gk:List Value}{st:Stmt}{mg:Str->Option Value}{es cs:List Expr}{od:Option Addr}{ks:List Key}{fl:Value}{scope:Scope}{E:XK}{gg:TG}{ys:List Str}{Γ:List Nat}{ts:List (DE×DE)}
def D9:Dt->Option Key
 | .int i=>some (.inl i)
 | .str z=>some (.inr z)
 | _=>none
def fj(ks:List Key)(ds:List Dt)(k:Key):Option Dt:=((ks.zip ds).find? λp=>decide (p.1=k)).map (·.2)
def l7{K:gV}{k:Key}(h:D9 d=some k)(n:Den K G L d v):v=kV k:=by
 cases d with
 | int i=>cases h;exact n
 | str z=>cases h;exact n
 | _=>cases h
def sJ{K:gV}{G:Hp}{L:List Addr}{k:Key}:∀{ks:List Key} {ds:List Dt} {vs:List V} {d:Dt},Λ K G L ds vs->fj ks ds k=some d->∃v,i4 (ks.zip vs) k=some v/\Den K G L d v
 | [],_,_,_,_,h=>by cases h
 | _::_,[],_,_,_,h=>by cases h
 | c::ks,d0::ds,_,d,⟨v0,vs,e,n0,n⟩,h=>by
  subst e;rw[abb];by_cases hc:c=k
  ·have h':fj (c::ks) (d0::ds) k=some d0:=by unfold fj;rw[List.zip_cons_cons,List.find?_cons_of_pos (by simpa using hc)];rfl
   rw[h']at h;cases h;exact⟨v0,dh hc,n0⟩
  ·have h':fj (c::ks) (d0::ds) k=fj ks ds k:=by unfold fj;rw[List.zip_cons_cons,List.find?_cons_of_neg (by simpa using hc)]
   rw[h']at h;have⟨v,h1,h2⟩:=sJ n h;exact⟨v,by rw[dE hc];exact h1,h2⟩
def HF(to ti:DE):DE:=λρ M q x=>to ρ M (λd M1=>ti ρ M1 (λdi M2=>∃k ks ds key v,d= .loc k/\M2[k]? =some (.rB ks ds)/\D9 di=some key/\fj ks ds key=some v/\q v M2) x) x
def tN:∀(more Κ:List (Key×V)),(∀p∈more,i4 Κ p.1=none)->(more.map (·.1)).Nodup->i3 Κ more=Κ++more
 | [],Κ,_,_=>by show Κ=Κ++[];rw[aaO]
 | p::more,Κ,h,nd=>by
  show i3 (gO Κ p.1 p.2) more=_;rw[EX p.2 (h p aaf),tN more _ (λq hq=>?_) (aa9.mp nd).2]
  ·simp
  ·have e:=s_ p.1 q.1 p.2 Κ (h p aaf);rw[show(Κ++[(p.1,p.2)])=Κ++[(p.1,p.2)] from rfl,e,aay]
   ·exact h q (aag _ hq)
   ·intro z;exact(aa9.mp nd).1 (aah.mpr ⟨q,hq,z⟩)
section
variable{o i:Expr}{ti:DE}{p:Pos}
def ze(hr:bp k' X.A)(ho:JE X R o to)(hi:JE X R i ti)(hs:MZ i:=by intro _ _;rfl):JE X R (.Subscript o i pos) (HF to ti):=
 .of (Jq (BK hr) ho hi hs) λσ H G L ρ M q x rl n h hx=>by refine⟨G,L,ρ,M,_,x,rl,n,h,hx,λv H1 xz=>?_⟩;have⟨d1,G1,L1,M1,e1,r1,n1,h1⟩:=xz;refine⟨G1,L1,ρ,M1,_,x,r1,n.mono e1,h1,hx.on e1,λv2 H2 xz=>?_⟩;have⟨d2,G2,L2,M2,e2,r2,n2,k,ks,ds,key,y,ed,hm,hk,hg,h2⟩:=xz;subst ed;have⟨a,rfl,RU⟩:=n1;have R5:=e2.l.get RU;have⟨_,vs,hH,hl,dn⟩:=r2.fF k a _ R5 hm;have⟨u,hu,du⟩:=sJ dn hg;refine⟨a,u,rfl,.inl ⟨_,key,.inl hH,l7 hk n2,hu.symm⟩,fin_same (e1.trans e2) r2 du h2⟩
end
inductive CW(K:gV)(H:Hp):Nat->V->V->Bool->Prop
 | flat {n:Nat} {x y:V} (h1:dw x=true) (h2:dw y=true):CW K H n x y (uG x y)
 | tup {n:Nat} {a b:Addr} {xs ys:List V} {f:Nat->Bool} (h1:jN K H a xs) (h2:jN K H b ys) (h:∀j x y,xs[j]? =some x->ys[j]? =some y->CW K H n x y (f j)):CW K H (n+1) (.ref a) (.ref b) ((List.range (min xs.length ys.length)).all f&&xs.length==ys.length)
 | lst {n:Nat} {a b:Addr} {xs ys:List V} {f:Nat->Bool} (h1:fG K H a xs) (h2:fG K H b ys) (hl:xs.length=ys.length) (h:∀j x y,xs[j]? =some x->ys[j]? =some y->CW K H n x y (f j)):CW K H (n+1) (.ref a) (.ref b) ((List.range xs.length).all f)
 | len {n:Nat} {a b:Addr} {xs ys:List V} (h1:fG K H a xs) (h2:fG K H b ys) (hl:xs.length≠ys.length):CW K H (n+1) (.ref a) (.ref b) false
def FV{x:V}(h:dw x=true):uG x x=true:=by cases x <;> first| rfl| (show(_==_)=true;simp)| cases h
section
variable{H:Hp}
def xD(I:Inv X δ σ H s){x y:V}(h:CW X.K H n x y b):x=y->b=true:=by
 induction h with
 | flat h1 h2=>intro e;subst e;exact FV h1
 | @tup n a b xs ys f h1 h2 h ih=>
  intro e;cases e;cases I.jB h1 h2;rw[Nat.min_self,abE,Bool.and_true];refine abi.mpr λj hj=>?_;have hj:=abk.mp hj;exact ih j _ _ (aaa hj) (aaa hj) rfl
 | @lst n a b xs ys f h1 h2 hl h ih=>
  intro e;cases e;cases I.b8 h1 h2;refine abi.mpr λj hj=>?_;have hj:=abk.mp hj;exact ih j _ _ (aaa hj) (aaa hj) rfl
 | len h1 h2 hl=>
  intro e;cases e;cases I.b8 h1 h2;exact aaG rfl hl
def cC{xs:List V}{its:List Value}(r:Ψ xs its){j:Nat}(h:j < its.toArray.size):∃x,xs[j]? =some x/\aj x its.toArray[j]:=by
 have hj:j < its.length:=by simpa using h
 have hx:j < xs.length:=by rw[r.length];exact hj
 have⟨u,g,ru⟩:=r.get (aaa hx);rw[aaa hj]at g;cases g;exact⟨_,List.getElem?_eq_getElem hx,by simpa using ru⟩
def Ag(I:Inv X δ σ H s){x y:V}(h:CW X.K H n x y b):∀{A:Around} {u v:Value},aj x u->aj y v->A.units+n < cLine->SeqAt.EqAt A s u v b:=by
 induction h with
 | flat h1 h2=>exactλru rv _=>vX ru rv h1 h2
 | @tup n a b xs ys f h1 h2 h ih=>
  intro A u v ru rv hu;cases ru;cases rv;by_cases e:a=b
  ·have:=xD I (.tup h1 h2 h) (aaN V.ref e);rw[this,e];exact SeqAt.EqAt.same _
  ·have⟨i1,v1,t1,_⟩:=I.tuple h1;have⟨i2,v2,t2,_⟩:=I.tuple h2
   have:=SeqAt.RcAt.tuples (A:=A) (e:=f) (show s.heap.IsTuple a i1.toArray from t1) (show s.heap.IsTuple b i2.toArray from t2) () (λj g1 g2=>by
    have⟨x,hx,rx⟩:=cC v1 g1;have⟨y,hy,ry⟩:=cC v2 g2
    exact ih j x y hx hy rx ry (by show A.units+1+n < cLine;omega))
   rw[aaC,aaC,<-v1.length,<-v2.length]at this;exact SeqAt.EqAt.of_refs e this
 | @lst n a b xs ys f h1 h2 hl h ih=>
  intro A u v ru rv hu;cases ru;cases rv;by_cases e:a=b
  ·have:=xD I (.lst h1 h2 hl h) (aaN V.ref e);rw[this,e];exact SeqAt.EqAt.same _
  ·have⟨i1,v1,t1,_⟩:=I.list h1;have⟨i2,v2,t2,_⟩:=I.list h2
   have:=SeqAt.RcAt.lists (A:=A) (e:=f) t1.isList t2.isList (by rw[aaC,aaC,<-v1.length,<-v2.length];exact hl) () (λj g1 g2=>by
    have⟨x,hx,rx⟩:=cC v1 g1;have⟨y,hy,ry⟩:=cC v2 g2
    exact ih j x y hx hy rx ry (by show A.units+1+n < cLine;omega))
   rw[aaC,<-v1.length]at this;exact SeqAt.EqAt.of_refs e this
 | @len n a b xs ys h1 h2 hl=>
  intro A u v ru rv hu;cases ru;cases rv;have e:a≠b:=λe=>by subst e;cases I.b8 h1 h2;exact hl rfl
  have⟨i1,v1,t1,_⟩:=I.list h1;have⟨i2,v2,t2,_⟩:=I.list h2;exact SeqAt.EqAt.of_refs e (SeqAt.RcAt.lists_lengths t1.isList t2.isList (by rw[List.size_toArray,List.size_toArray,<-v1.length,<-v2.length];simpa using hl) ())
end
def Py(K:gV)(n:Nat):R2:=λx y H Q=>∃a b c,x= .ref a/\y= .ref b/\CW K H n x y c/\Q (.bl c) H
section
def OL(hu:X.A.units+n < cLine):gQ X (compareOp .Eq) (Py X.K n):=by
 intro δ s σ H x y v u Q I rx ry h;have⟨a,b,c,rfl,rfl,h,q⟩:=h;cases rx;cases ry;cases h with
 | flat h1 h2=>cases h1
 | @tup n _ _ xs ys f h1 h2 h=>
  have⟨i1,v1,t1,_⟩:=I.tuple h1;have⟨i2,v2,t2,_⟩:=I.tuple h2;refine SeqAt.eq_tupleAt (e:=f) (show s.heap.IsTuple a i1.toArray from t1) (show s.heap.IsTuple b i2.toArray from t2) () (λj g1 g2=>?_) ?_
  ·have⟨x,hx,rx⟩:=cC v1 g1;have⟨y,hy,ry⟩:=cC v2 g2;exact Ag I (h j x y hx hy) rx ry (by show X.A.units+1+n < cLine;omega)
  ·rw[aaC,aaC,<-v1.length,<-v2.length];exact⟨.bl _,H,I,rfl,q⟩
 | @lst n _ _ xs ys f h1 h2 hl h=>
  have⟨i1,v1,t1,_⟩:=I.list h1;have⟨i2,v2,t2,_⟩:=I.list h2;refine SeqAt.eq_listAt (e:=f) t1.isList t2.isList (by rw[aaC,aaC,<-v1.length,<-v2.length];exact hl) () (λj g1 g2=>?_) ?_
  ·have⟨x,hx,rx⟩:=cC v1 g1;have⟨y,hy,ry⟩:=cC v2 g2;exact Ag I (h j x y hx hy) rx ry (by show X.A.units+1+n < cLine;omega)
  ·rw[aaC,<-v1.length];exact⟨.bl _,H,I,rfl,q⟩
 | @len n _ _ xs ys h1 h2 hl=>
  have⟨i1,v1,t1,_⟩:=I.list h1;have⟨i2,v2,t2,_⟩:=I.list h2;exact SeqAt.eq_list_lengthsAt t1.isList t2.isList (by rw[List.size_toArray,List.size_toArray,<-v1.length,<-v2.length];simpa using hl) () ⟨.bl _,H,I,rfl,q⟩
end
def nq(M:Ms):Dt->Option (List Dt)
 | .lst xs=>some xs
 | .oK ns=>some (ns.map .int)
 | .loc k=>match M[k]? with
  | some (.lst xs)=>some xs
  | _=>none
 | _=>none
inductive Ed(M:Ms):Nat->Dt->Dt->Bool->Prop
 | flat {n:Nat} {d e:Dt} {x y:V} (h1:qb d=some x) (h2:qb e=some y):Ed M n d e (uG x y)
 | tup {n:Nat} {ds es:List Dt} {f:Nat->Bool} (h:∀j d e,ds[j]? =some d->es[j]? =some e->Ed M n d e (f j)):Ed M (n+1) (.tup ds) (.tup es) ((List.range (min ds.length es.length)).all f&&ds.length==es.length)
 | lst {n:Nat} {d e:Dt} {ds es:List Dt} {f:Nat->Bool} (h1:nq M d=some ds) (h2:nq M e=some es) (hl:ds.length=es.length) (h:∀j d e,ds[j]? =some d->es[j]? =some e->Ed M n d e (f j)):Ed M (n+1) d e ((List.range ds.length).all f)
 | len {n:Nat} {d e:Dt} {ds es:List Dt} (h1:nq M d=some ds) (h2:nq M e=some es) (hl:ds.length≠es.length):Ed M (n+1) d e false
def dG{K:gV}{H:Hp}(r:Rl K G L M H)(n:Den K G L d v)(h:nq M d=some xs):∃a vs,v= .ref a/\fG K H a vs/\Λ K G L xs vs:=by
 cases d with
 | lst ds=>cases h;have⟨a,vs,rfl,e,m⟩:=n;exact⟨a,vs,rfl,.of (r.sub _ _ e),m⟩
 | oK ns=>cases h;have⟨a,rfl,e⟩:=n;exact⟨a,_,rfl,r.sub.seq e,eV⟩
 | loc k=>
  have⟨a,rfl,e⟩:=n;have h:(match M[k]? with| some (.lst xs)=>some xs| _=>none)=some xs:=h;split at h
  ·rename_i ys hm;cases h;have⟨_,vs,e1,m1⟩:=r.fF k a _ e hm;exact⟨a,vs,rfl,.of e1,m1⟩
  ·cases h
 | _=>cases h
def Λ.back{K:gV}(h:Λ K G L ds vs)(e:vs[i]? =some v):∃d,ds[i]? =some d/\Den K G L d v:=by
 have hi:i < ds.length:=by rw[h.length];exact(aai.mp e).1
 have⟨v',e',n⟩:=h.get (aaa hi);rw[e]at e';cases e';exact⟨_,aaa hi,n⟩
def LW{K:gV}{H:Hp}(r:Rl K G L M H){e:Dt}(h:Ed M n d e b):∀{v u:V},Den K G L d v->Den K G L e u->CW K H n v u b:=by
 induction h with
 | flat h1 h2=>
  intro v u n1 n2;have⟨rfl,f1⟩:=iX h1 n1;have⟨rfl,f2⟩:=iX h2 n2;exact .flat f1 f2
 | @tup n ds es f h ih=>
  intro v u n1 n2;have⟨a,vs,rfl,e1,m1⟩:=n1;have⟨b,us,rfl,e2,m2⟩:=n2;rw[m1.length,m2.length];refine .tup (.of (r.sub _ _ e1)) (.of (r.sub _ _ e2)) λj x y hx hy=>?_;have⟨d,hd,dn⟩:=m1.back hx;have⟨e,he,en⟩:=m2.back hy;exact ih j d e hd he dn en
 | @lst n d e ds es f h1 h2 hl h ih=>
  intro v u n1 n2;have⟨a,vs,rfl,s1,m1⟩:=dG r n1 h1;have⟨b,us,rfl,s2,m2⟩:=dG r n2 h2;rw[m1.length];refine .lst s1 s2 (by rw[<-m1.length,<-m2.length];exact hl) λj x y hx hy=>?_;have⟨d,hd,dn⟩:=m1.back hx;have⟨e,he,en⟩:=m2.back hy;exact ih j d e hd he dn en
 | @len n d e ds es h1 h2 hl=>
  intro v u n1 n2;have⟨a,vs,rfl,s1,m1⟩:=dG r n1 h1;have⟨b,us,rfl,s2,m2⟩:=dG r n2 h2;exact .len s1 s2 (by rw[<-m1.length,<-m2.length];exact hl)
def NI(M:Ms)(d:Dt):Prop:=(∃ds,d= .tup ds)\/∃xs,nq M d=some xs
def BL{K:gV}{H:Hp}(r:Rl K G L M H)(n:Den K G L d v)(h:NI M d):∃a,v= .ref a:=by
 rcases h with ⟨ds,rfl⟩| ⟨xs,h⟩
 ·have⟨a,vs,rfl,_⟩:=n;exact⟨a,rfl⟩
 ·have⟨a,vs,rfl,_⟩:=dG r n h;exact⟨a,rfl⟩
def Pk(n:Nat):Dt->Dt->Ms->DQ->Prop:=λd e M q=>∃b,NI M d/\NI M e/\Ed M n d e b/\q (.bl b) M
def V3{K:gV}:lr K (Py K n) (Pk n):=by intro G0 L0 H0 G L M H v1 v2 d1 d2 q e r n1 n2 ⟨b,h1,h2,h,hq⟩;have⟨a,rfl⟩:=BL r n1 h1;have⟨a',rfl⟩:=BL r n2 h2;exact⟨a,a',b,rfl,rfl,LW r h n1 n2,az e r hq⟩
section
variable{a b l u:Expr}{tl tu:DE}{p p2:Pos}
def Rx{k:Nat}(hr:bp k A)(hn:n<=64):A.units+n < cLine:=abm (Nat.add_le_add_left hn _) hr.units
def Ri(n:Nat)(hr:bp k' X.A)(ja:JE X R a ta)(jb:JE X R b tb)(hn:n<=64:=by decide)(hm:behindInMarks .Eq b=false:=by rfl):JE X R (.Compare a [.Eq] [b] pos) (cz (Pk n) ta tb):=qX (OL (Rx hr hn)) V3 ja jb hm
def Gr(te tl:DE):DE:=λρ M q x=>te ρ M (λd M1=>tl ρ M1 (λdi M2=>∃ds n,nq M2 d=some ds/\di= .int (n:Nat)/\q (.loc M2.length) (M2++[.lst (ds.drop n)])) x) x
def nD(he:JE X R e te)(hl:JE X R l tl):JE X R (.Subscript e (.Slice (some l) none none p2) pos) (Gr te tl):=
 .of (lC IL he (oY hl) o9) λσ H G L ρ M q x rl n h hx=>by refine⟨G,L,ρ,M,_,x,rl,n,h,hx,λv H1 xz=>?_⟩;have⟨d1,G1,L1,M1,e1,r1,n1,h1⟩:=xz;refine⟨G1,L1,ρ,M1,_,x,r1,n.mono e1,h1,hx.on e1,λv2 H2 xz=>?_⟩;have⟨d2,G2,L2,M2,e2,r2,n2,ds,k,ed,ei,h2⟩:=xz;subst ei;have⟨a,vs,rfl,sq,m⟩:=dG r2 (Den.mono e2.g e2.l _ _ n1) ed;have n2:v2= .int k:=n2;subst n2;refine⟨k,rfl,a,vs,rfl,sq,λp hp=>?_⟩;rw[tH];exact uX (e1.trans e2) r2 hp (Λ.of (pU k m.pair)) h2
end
open PySem PySem.SeqAt
def Fw(M:Ms):Dt->Option (List Dt)
 | .lst xs=>some xs
 | .loc k=>match M[k]? with
  | some (.lst xs)=>some xs
  | _=>none
 | _=>none
def BX{K:gV}{H:Hp}(r:Rl K G L M H)(n:Den K G L d v)(h:Fw M d=some xs):∃a vs,v= .ref a/\H a=some (.lst vs)/\Λ K G L xs vs:=by
 cases d with
 | lst ds=>cases h;have⟨a,vs,rfl,e,m⟩:=n;exact⟨a,vs,rfl,r.sub _ _ e,m⟩
 | loc k=>
  have⟨a,rfl,e⟩:=n;have h:(match M[k]? with| some (.lst xs)=>some xs| _=>none)=some xs:=h;split at h
  ·rename_i ys hm;cases h;have⟨_,vs,e1,m1⟩:=r.fF k a _ e hm;exact⟨a,vs,rfl,e1,m1⟩
  ·cases h
 | _=>cases h
def FQ:Dt->Dt->Ms->DQ->Prop:=λd e M q=>∃xs ys,Fw M d=some xs/\Fw M e=some ys/\xs.length+ys.length<=sizeLine/\q (.lst (xs++ys)) M
def R3{K:gV}:lr K Nu FQ:=by intro G0 L0 H0 G L M H v1 v2 d1 d2 q e r n1 n2 ⟨xs,ys,h1,h2,hz,hq⟩;have⟨p1,w1,rfl,e1,m1⟩:=BX r n1 h1;have⟨p2,w2,rfl,e2,m2⟩:=BX r n2 h2;refine⟨p1,p2,w1,w2,rfl,rfl,e1,e2,by rw[<-m1.length,<-m2.length];exact hz,λp hp=>?_⟩;exact eh e r hp (ju r hp (m1.app m2)) hq
section
variable{a b:Expr}
def cU(ja:JE X R a ta)(jb:JE X R b tb):JE X R (.BinOp a .Add b pos) (cz FQ ta tb):=rZ Gp R3 ja jb
end
inductive O8(K:gV)(x C:Addr)(H0:Hp)(G:Hp)(L:List Addr)(M:Ms)(H:Hp)(fs:List (Str×Dt)):Prop
 | mk (r:Rl K G L M H) (gx:G x=none) (lx:x∉L) (od:Option Addr) (hx:H x=some (xN x C od))
   (hd:(fs=[]/\od=none)\/∃dx vs,od=some dx/\dx≠x/\H0 dx=none/\G dx=none/\dx∉L/\H dx=some (.xd ((fs.map (·.1)).zip vs))/\Λ K G L (fs.map (·.2)) vs)
section
variable{K:gV}{G' H H':Hp}{M':Ms}{fs:List (Str×Dt)}
def Ex.off(e:Ex G L H G' L' H'){b:Addr}(h:H b=some o)(g:G b=none)(l:b∉L):H' b=some o/\G' b=none/\b∉L':=
 ⟨e.out b o h l,e.fr b g (by rw[h];simp),λz=>(e.new b z).elim l λq=>by rw[h]at q;cases q⟩
def O8.on(i:O8 K x C H0 G L M H fs)(e:Ex G L H G' L' H')(r':Rl K G' L' M' H'):O8 K x C H0 G' L' M' H' fs:=by
 have⟨r,gx,lx,od,hx,hd⟩:=i;have⟨a1,a2,a3⟩:=e.off hx gx lx;refine⟨r',a2,a3,od,a1,?_⟩;rcases hd with hd| ⟨dx,vs,d1,d2,d3,d4,d5,d6,d7⟩
 ·exact .inl hd
 ·have⟨b1,b2,b3⟩:=e.off d6 d4 d5;exact .inr ⟨dx,vs,d1,d2,d3,b2,b3,b1,Λ.mono e.g e.l _ _ d7⟩
def Rl.lZ(r:Rl K G L M H)(g:G a=none)(l:a∉L):Rl K G L M (upd H a o) where
 sub:=λb u e=>by rw[ξ (λz=>by rw[z,g]at e;cases e)];exact r.sub b u e
 len:=r.len
 nd:=r.nd
 fF:=λk b m h1 h2=>by have⟨q1,q2⟩:=r.fF k b m h1 h2;exact⟨q1,q2.mono (.refl _) (.refl _) (ξ λz=>l (z▸aaA h1))⟩
def Ex.lZ{G0 TH:Hp}(e:Ex G0 L0 TH G L H)(h:TH a=none):Ex G0 L0 TH G L (upd H a o) where
 g:=e.g
 l:=e.l
 fr:=e.fr
 out:=λb u h1 h2=>by rw[ξ (λz=>by rw[z,h]at h1;cases h1)];exact e.out b u h1 h2
 new:=e.new
 sA:=λb h1=>by
  by_cases z:b=a
  ·rw[z,Η];simp
  ·rw[ξ z];exact e.sA b h1
end
abbrev DI:=En->Ms->List (Str×Dt)->(En->Ms->List (Str×Dt)->Prop)->Prop
inductive Sb(K:gV)(x C:Addr)(G0:Hp)(L0:List Addr)(H0:Hp)(t:DI)(De:oy)(σ:St)(H:Hp):Prop
 | mk (G:Hp) (L:List Addr) (ρ:En) (M:Ms) (fs:List (Str×Dt)) (k:En->Ms->List (Str×Dt)->Prop) (e:Ex G0 L0 H0 G L H) (h0:H0 x=none) (i:O8 K x C H0 G L M H fs) (n:gm K G L ρ σ) (hs:σ[0]? =some (some (.ref x))) (h:t ρ M fs k)
   (hQ:∀σ' H' G' L' ρ' M' Ef,Ex G0 L0 H0 G' L' H'->O8 K x C H0 G' L' M' H' Ef->gm K G' L' ρ' σ'->σ'[0]? =some (some (.ref x))->k ρ' M' Ef->De.nx σ' H')
def Rr(X:Cx)(C:Addr)(st:Stmt)(t:DI):Prop:=∀x G0 L0 H0,PS X st (Sb X.K x C G0 L0 H0 t)
def QT(X:Cx)(C:Addr)(st:List Stmt)(t:DI):Prop:=∀x G0 L0 H0,wc X st (Sb X.K x C G0 L0 H0 t)
def Uv(t u:DI):DI:=λρ M fs k=>t ρ M fs λρ' M' Ef=>u ρ' M' Ef k
def Pt(te:DE):DI:=λρ M fs k=>te ρ M (λ_ M'=>k ρ M' fs) iB
def UB(f:Str)(te:DE):DI:=λρ M fs k=>f∉fs.map (·.1)/\fs.length < 900/\te ρ M (λd M'=>k ρ M' (fs++[(f,d)])) iB
section
variable{D fI:Addr}{Bn newId aP:String}{dn sn f:Str}{p p1 pos':Pos}{e2 value:Expr}{rest:List Stmt}{t u:DI}
def PS.imp{t u:TS}(h:PS X st t)(hi:∀D σ H,u D σ H->t D σ H):PS X st u:=λδ s σ H D I q=>h δ s σ H D I (hi D σ H q)
def wc.imp{st:List Stmt}{t u:TS}(h:wc X st t)(hi:∀D σ H,u D σ H->t D σ H):wc X st u:=λδ s σ H D I q=>h δ s σ H D I (hi D σ H q)
def MX(h:Rr X C st t):QT X C [st] t:=λx G0 L0 H0=>Bd (h x G0 L0 H0)
def Ko(h:Rr X C st t)(h2:QT X C rest u):QT X C (st::rest) (Uv t u):=λx G0 L0 H0=>(xn (h x G0 L0 H0) (h2 x G0 L0 H0)).imp λDe σ H ⟨G,L,ρ,M,fs,k,e,h0,i,n,hs,ht,hQ⟩=>
 ⟨G,L,ρ,M,fs,_,e,h0,i,n,hs,ht,λσ' H' G' L' ρ' M' Ef e' i' n' hs' hk=>⟨G',L',ρ',M',Ef,k,e',h0,i',n',hs',hk,hQ⟩⟩
def IP{pl:Sem Bool}(F:ExcBaseFacts Bn newId aP gk)(c:eR X.K C gk newId fI)(d:AN X.K D aP)(hm:X.mg dn=some (.ref D))(he:JE X (λ_=>E0) e2 te)(hN:X.N[0]? =some sn:=by rfl)(hv:QB X.env.scope sn:=by first| exact Or.inl rfl| exact Or.inr (Or.inl rfl)| exact Or.inr (Or.inr rfl))(hg:Gl X dn:=by rfl)
  (hd:(sn==("__debug__":Str))=false:=by decide) (we:(sn==("__classdict__":Str))=false:=by decide) (ku:(dn==("__debug__":Str))=false:=by decide)
  (h1:starEach [.Name sn p1,e2] X.env=(false,eval (.Name sn p1) X.env)::starEach [e2] X.env:=by rfl) (h2:starEach [e2] X.env=(false,eval e2 X.env)::starEach [] X.env:=by rfl) (eB:(backTo pos (starEach [e2] X.env)).any (·.1)=false:=by rfl)
  (ht:eval (.Call (.Attribute (.Name dn p) "__init__" apos) [.Name sn p1,e2] [] pos) X.env=(do
   let ov<-eval (.Name dn p) X.env
   standAt apos.atName
   let (f,first)<-holding [ov] (getMethod ov "__init__" pl)
   callWith pos f first (backTo pos (starEach [.Name sn p1,e2] X.env)) (backToKw pos (keywordEach [] X.env))):=by rfl)
  (Ap:swapsWith (.Call (.Attribute (.Name dn p) "__init__" apos) [.Name sn p1,e2] [] pos) none pos'.line X.env=pure false:=by rfl):
  Rr X C (.Expr (.Call (.Attribute (.Name dn p) "__init__" apos) [.Name sn p1,e2] [] pos) pos') (Pt te):=λx G0 L0 H0=>
 (Bp (Fg (pl:=pl) F c d hg hm (vx (zD hN hv hd we) (vx he FU h2) h1) ku h1 eB ht) Ap).imp fun De σ H ⟨G,L,ρ,M,fs,k,e,h0,i,n,hs,h,hQ⟩=>by refine⟨_,hs,G,L,ρ,M,_,iB,(let ⟨r,_,_,_,_,_⟩:=i;r),n,h,m7,λv H1 xz=>?_⟩;have⟨d1,G1,L1,M1,e1,r1,n1,hk⟩:=xz;have i1:=i.on e1 r1;have⟨_,_,_,od,hx,_⟩:=id i1;exact⟨x,v,od,rfl,hx,hQ σ H1 G1 L1 ρ M1 fs (e.trans e1) i1 (n.mono e1) hs hk⟩
def M7(c:eR X.K C gk newId fI)(nt:HK X.K C f)(hv:JE X (λ_=>E0) value te)(hex:X.ex=[]:=by rfl)(hN:X.N[0]? =some sn:=by rfl)(Zl:QB X.env.scope sn:=by first| exact Or.inl rfl| exact Or.inr (Or.inl rfl)| exact Or.inr (Or.inr rfl))
  (hd:(sn==("__debug__":Str))=false:=by decide) (we:(sn==("__classdict__":Str))=false:=by decide) (hs:swapsWith value (some (.Attribute (.Name sn p1) f pos')) pos.line X.env=pure false:=by rfl):
  Rr X C (.Assign [.Attribute (.Name sn p1) f pos'] value pos) (UB f te):=λx G0 L0 H0=>
 (Jx hex c nt (zD hN Zl hd we) hv hs).imp λDe σ H ⟨G,L,ρ,M,fs,k,e,h0,i,n,Mv,⟨hf,hl,h⟩,hQ⟩=>by
  refine⟨G,L,ρ,M,_,iB,(let ⟨r,_,_,_,_,_⟩:=i;r),n,h,m7,λy H1 xz=>?_⟩;have⟨d1,G1,L1,M1,e1,r1,n1,hk⟩:=xz;have i1:=i.on e1 r1;have IZ:=e.trans e1;have⟨_,gx,lx,od,hx,WG⟩:=id i1;refine⟨_,Mv,x,rfl,?_⟩;rcases WG with ⟨rfl,rfl⟩| ⟨dx,vs,rfl,d2,d3,d4,d5,d6,d7⟩
  ·refine .inl ⟨hx,λdx FX jZ=>?_⟩;have gd:G1 dx=none:=r1.sub.free FX;have ld:dx∉L1:=r1.DP FX;have Wf:H0 dx=none:=by
    cases q:H0 dx with
    | none=>rfl
    | some o=>exact absurd FX (IZ.sA dx (by rw[q];simp))
   refine hQ σ _ G1 L1 ρ M1 [(f,d1)] ((IZ.lZ h0).lZ Wf) ⟨(r1.lZ gx lx).lZ gd ld,gx,lx,some dx,by rw[ξ (Ne.symm jZ),Η],.inr ⟨dx,[y],rfl,jZ,Wf,gd,ld,by rw[Η];rfl,⟨y,[],rfl,n1,rfl⟩⟩⟩ (n.mono e1) Mv hk
  ·have Q7:(fs.map (·.1)).length=vs.length:=by rw[<-d7.length,aac,aac]
   refine .inr ⟨dx,_,hx,d2,d6,by rw[abc,<-Q7,Nat.min_self,aac];omega,?_⟩;rw[qV Q7 hf];refine hQ σ _ G1 L1 ρ M1 (fs++[(f,d1)]) (IZ.lZ d3) ⟨r1.lZ d4 d5,gx,lx,some dx,by rw[ξ (Ne.symm d2)];exact hx,.inr ⟨dx,vs++[y],rfl,d2,d3,d4,d5,by rw[Η,aaU];rfl,by rw[aaU];exact d7.app ⟨y,[],rfl,n1,rfl⟩⟩⟩ (n.mono e1) Mv hk
end
abbrev O2:=List Dt->Ms->(List (Str×Dt)->Ms->Prop)->Prop
inductive Ts(K:gV)(C:Addr)(T:O2)(vs:List V)(H:Hp)(Q:VK)(E:XK):Prop
 | mk (x:Addr) (us:List V) (H0:Hp) (G:Hp) (L:List Addr) (ds:List Dt) (M:Ms) (q:List (Str×Dt)->Ms->Prop) (ev:vs= .ref x::us) (eH:H=upd H0 x (xN x C none)) (h0:H0 x=none) (r:Rl K G L M H0) (n:Λ K G L ds us) (h:T ds M q)
   (hQ:∀H' G' L' M' fs,Ex G L H0 G' L' H'->O8 K x C H0 G' L' M' H' fs->q fs M'->Q .aS H')
def Hu(N:List Str)(ds:List Dt):En:=(j' N (.aS::ds)).set 0 none
section
variable{P:Program}{w:World}{K:gV}{base:Heap}
def gm.forget{K:gV}{ρ:En}(h:gm K G L ρ σ)(i:Nat):gm K G L (ρ.set i none) σ:=by
 refine⟨by rw[aaY];exact h.len,λj d' e=>?_⟩;by_cases hj:i=j
 ·subst hj;have hl:i < ρ.length:=by have:=(aai.mp e).1;rwa[aaY]at this
  rw[aaS hl]at e;cases e
 ·rw[aaX hj]at e;exact h.fF j d' e
def eE.Yo{x qual:Str}{f:Addr}{fd:FuncData}{N ps:List Str}{k:Nat}{T:O2}(F:eE K x qual st f fd)(S:Δ N ps (π st))(len:∀ds M q,T ds M q->ds.length+1=ps.length)
  (qj:∀(bC:Value) (A:Around) (outer:List Env) (s:Shared) (H:Hp) (E:XK),bp k (A.deeper (envOfC qual (π st) s.heap.objs.size f bC))->
   ∃t,QT (gf (bP P w) P w K mg base N qual (π st) f bC A outer s H E) C (eP st) t/\∀ds M q,T ds M q->t (Hu N ds) M [] (λ_ M' fs=>q fs M')):
  ay P w K mg base (bP P w) (k+1) f fd ps (Ts K C T):=by
 refine F.WZ S (λvs H Q E h=>?_) (λbC A outer s H vs Q E hr h=>?_)
 ·have⟨x,us,H0,G,L,ds,M,q,rfl,rfl,h0,r,n,hT,hQ⟩:=h;rw[aat,<-n.length];exact len _ _ _ hT
 ·have⟨t,j,ht⟩:=qj bC A outer s H E hr;have⟨x,us,H0,G,L,ds,M,q,rfl,rfl,h0,r,n,hT,hQ⟩:=h;have gx:G x=none:=r.sub.free h0;have lx:x∉L:=r.DP h0;refine⟨_,j x G L H0,G,L,Hu N ds,M,[],_,(Ex.refl G L H0).lZ h0,h0,⟨r.lZ gx lx,gx,lx,none,Η,.inl ⟨rfl,rfl⟩⟩,?_,rfl,ht ds M q hT,λσ' H' G' L' ρ' M' Ef e i _ _ hk=>hQ H' G' L' M' Ef e i hk⟩;have:=(yd (N:=N) (K:=K) (G:=G) (L:=L) (ds:=.ref x::ds) (vs:=.ref x::us) ⟨_,_,rfl,rfl,n⟩).forget 0;exact this
end
structure S0(P:Program)(w:World)(K:gV)(mg:Str->Option Value)(base:Heap)(k:Nat)(x:Str)(C:Addr)(gk:List Value)(newId:String)(ps:List Str)(T:O2)(f:Addr)(fd:FuncData):Prop where
 ok:ay P w K mg base (bP P w) k f fd ps (Ts K C T)
 b:fT K fd ps []
 c:eR K C gk newId f
 m:mg x=some (.ref C)
def A9(C:Addr)(T:O2)(t:DA):DS:=λDn ρ M=>t ρ M (λds M1=>ds.length<=sizeLine/\T ds M1 (λfs M2=>fs≠[]/\Dn.x ρ C fs M2)) Dn.x
section
variable{K:gV}{G' H H':Hp}{dx:Addr}
def Ex.leave(e:Ex G L H G' L' H')(hx:H x=none)(hd:H dx=none)(gd:G' dx=none)(jZ:dx≠x):Ex G L H (upd G' dx o) L' (Ip x H') where
 g:=λb u q=>by rw[ξ (λz=>by have:=e.g _ _ q;rw[z,gd]at this;cases this)];exact e.g b u q
 l:=e.l
 fr:=λb h1 h2=>by rw[ξ (λz=>h2 (by rw[z];exact hd))];exact e.fr b h1 h2
 out:=λb u h1 h2=>by rw[cV (λz=>by rw[z,hx]at h1;cases h1)];exact e.out b u h1 h2
 new:=e.new
 sA:=λb h=>by rw[cV (λz=>h (by rw[z];exact hx))];exact e.sA b h
def Rl.leave(r:Rl K G L M H)(gx:G x=none)(lx:x∉L)(gd:G dx=none)(ld:dx∉L)(hd:H dx=some o)(jZ:dx≠x):Rl K (upd G dx o) L M (Ip x H) where
 sub:=λb u e=>by
  by_cases hb:b=dx
  ·subst hb;rw[Η]at e;cases e;rw[cV jZ];exact hd
  ·rw[ξ hb]at e;rw[cV (λz=>by rw[z,gx]at e;cases e)];exact r.sub b u e
 len:=r.len
 nd:=r.nd
 fF:=λk a m h1 h2=>by have⟨q1,q2⟩:=r.fF k a m h1 h2;have ha:=aaA h1;exact⟨by rw[ξ (show a≠dx fromλz=>ld (z▸ha))];exact q1,q2.mono (λb u e=>by rw[ξ (λz=>by rw[z,gd]at e;cases e)];exact e) (.refl _) (cV λz=>lx (z▸ha))⟩
end
section
variable{fI:Addr}{Bn newId aP:String}{x:Str}{np af:Pos}{k:Nat}{fd:FuncData}{ps:List Str}{T:O2}
def C_(D:S0 X.prog X.w X.K X.mg X.base k x C gk newId ps T fI fd)(hr:bp k' X.A)(hR:rq X R)(F:ExcBaseFacts Bn newId aP gk)(ha:JA X R (e::es) t)(hk:k+1<=k':=by decide)(hc:X.calm=true:=by rfl)(hex:X.ex=[]:=by rfl)(hg:Gl X x:=by rfl)
  (ku:(x==("__debug__":Str))=false:=by decide) (he:starEach (e::es) X.env=(false,eval e X.env)::starEach es X.env:=by rfl) (eB:(backTo af (starEach es X.env)).any (·.1)=false:=by rfl):
  JS X R (.Raise (some (.Call (.Name x np) (e::es) [] af)) none pos) (A9 C T t):=.of (DW hR hc hex F D.c D.ok (hr.mono hk) D.b hg D.m ha ku he eB) λσ H G L ρ M Dn rl n h hx=>by
 refine⟨G,L,ρ,M,_,_,rl,n,h,hx,fun vs H1 ⟨ds,G1,L1,M1,e1,r1,n1,hz,h1⟩=>⟨by rw[<-n1.length];exact hz,λxa WB=>?_⟩⟩;refine⟨xa,vs,H1,G1,L1,ds,M1,_,rfl,rfl,WB,r1,n1,h1,λH' G' L' M' fs ex Ym xz=>?_⟩;have⟨hf,hq⟩:=xz;have⟨r',gx,lx,od,Sn,hd⟩:=Ym;refine⟨rfl,od,Sn,?_⟩;rcases hd with ⟨z,_⟩| ⟨dx,ws,rfl,d2,d3,d4,d5,d6,d7⟩
 ·exact aaG z hf
 ·have eF:Ex G1 L1 H1 (upd G' dx (.xd ((fs.map (·.1)).zip ws))) L' (Ip xa H'):=ex.leave WB d3 d4 d2;have rF:=r'.leave gx lx d4 d5 d6 d2;refine hx σ ρ C fs M' _ L' _ (some dx) hq (e1.trans eF) rF (n.mono (e1.trans eF)) (.inr ⟨hf,dx,ws,rfl,Η,Λ.mono (λb u e=>by rw[ξ (λz=>by rw[z,d4]at e;cases e)];exact e) (.refl _) _ _ d7⟩)
end
def FZ:Dt->Dt->Ms->DQ->Prop
 | .int i,.int j,M,q=>j.natAbs < 2 ^ 60/\q (.int (i * j)) M
 | _,_,_,_=>False
def yi{i j:Int}(h:j.natAbs < 2 ^ 60):IntMulOk i j:=.of_right (by
 unfold Builtin.Int.intBits;split
 ·exact aa2 _
 ·have:=log2_lt (k:=60) h @_
  omega)
def JM:gQ X (binaryOp .Mult) (rI (λ_ j=>j.natAbs < 2 ^ 60) λi j=>.int (i * j)):=Pe λ_ _ _ _ _ _ _ hc q=>mul_int q (yi hc)
def QO{K:gV}:lr K (rI (λ_ j=>j.natAbs < 2 ^ 60) λi j=>.int (i * j)) FZ:=by
 intro G0 L0 H0 G L M H v1 v2 d1 d2 q e r n1 n2 h;unfold FZ at h;split at h
 ·exact⟨_,_,n1,n2,h.1,az e r h.2⟩
 ·exact h.elim
def NF{a b:Expr}(ja:JE X R a ta)(jb:JE X R b tb):JE X R (.BinOp a .Mult b pos) (cz FZ ta tb):=rZ JM QO ja jb
def JH{K:gV}{H:Hp}{fs:List (Str×Dt)}(y:KG K G L H fs od):Den K G L (.Eo x C od (fs.map (·.1)) (fs.map (·.2))) (.ref x):=by
 rcases y with ⟨rfl,rfl⟩| ⟨jZ,dx,vs,rfl,q1,q2⟩
 ·exact⟨[],rfl,.inl ⟨rfl,rfl⟩,rfl,rfl⟩
 ·exact⟨vs,rfl,.inr ⟨dx,rfl,q1⟩,by rw[aac,aac],q2⟩
def Yb(x C:Addr)(od:Option Addr)(f:Str)(te:DE):DE:=λρ M q xx=>te ρ M (λd M1=>∃ns ds v,d= .Eo x C od ns ds/\(ns.zip ds).lookup f=some v/\q v M1) xx
def Ma(K:gV)(x C:Addr)(od:Option Addr):List Dt->Ms->DQ->Prop:=λds M q=>∃ns xs c t' b,ds=[.Eo x C od ns xs,c]/\OV c=some t'/\PySem.W.kitOne K (.ref C) t'=some b/\q (.bl b) M
def Q6{K:gV}:Bx K (Qs K x C od) (Ma K x C od):=by
 intro G0 L0 H0 G L M H vs ds q e r n ⟨ns,xs,c,t',b,hd,h2,hb,h⟩;subst hd;have⟨v,u,rfl,n1,n2⟩:=fi n;have⟨ws,rfl,hx,_,_⟩:=n1;refine⟨u,t',b,rfl,(λd z=>?_),BG n2 h2,hb,az e r h⟩;rcases hx with ⟨_,z2⟩| ⟨dx,z2,z3⟩
 ·rw[z2]at z;cases z
 ·rw[z2]at z;cases z;exact⟨_,r.sub _ _ z3⟩
section
variable{e2:Expr}{f:Str}{p:Pos}
def VS(K:gV)(ex:tY X x C od)(ty:iu K C)(xa:OP K C f)(he:JE X R e te)(hb:attributeBase e f X.env (eval e X.env)=eval e X.env:=by rfl)(hK:X.K=K:=by rfl):JE X R (.Attribute e f pos) (Yb x C od f te):=by
 subst hK;exact .of (G7 ex ty xa he hb) λσ H G L ρ M q xx rl en h hx=>by
  refine⟨G,L,ρ,M,_,xx,rl,en,h,hx,λv H1 xz=>?_⟩;have⟨d1,G1,L1,M1,e1,r1,n1,ns,ds,y,ed,hl,h1⟩:=xz;subst ed;have⟨vs,rfl,g2,g3,dn⟩:=n1;have⟨u,hu,du⟩:=pk dn hl;rcases g2 with ⟨rfl,_⟩| ⟨dx,g5,g4⟩
  ·cases hl
  ·exact⟨dx,_,u,rfl,g5,r1.sub _ _ g4,hu,y,G1,L1,M1,e1,r1,du,h1⟩
def pw(K:gV)(ex:tY X x C od)(ty:iu K C)(hm:X.mg "isinstance"=none)(ha:JA X R [e,e2] t)(he:starEach [e,e2] X.env=(false,eval e X.env)::starEach [e2] X.env:=by rfl)(eB:(backTo pos (starEach [e2] X.env)).any (·.1)=false:=by rfl)(hg:Gl X "isinstance":=by rfl)(hK:X.K=K:=by rfl):JE X R (.Call (.Name "isinstance" p) [e,e2] [] pos) (vP (Ma K x C od) t):=by subst hK;exact fP (ur ex ty) Q6 hm gD ha hg @_ @_ he eB
end
def Io(ks:List Key)(k:Key):Bool:=ks.any λc=>decide (c=k)
def l6{k:Key}:∀{ks:List Key} {vs:List V},ks.length=vs.length->(i4 (ks.zip vs) k).isSome=Io ks k
 | [],[],_=>rfl
 | c::ks,v::vs,h=>by
  have h:ks.length=vs.length:=by simpa using h
  rw[abb];by_cases e:c=k
  ·rw[dh e];subst e;simp[Io]
  ·rw[dE e,l6 h];unfold Io;rw[abr,aao e,Bool.false_or]
section
variable{o i a b:Expr}{ti:DE}{p:Pos}
def Nv:JE X R (.Dict [] [] pos) (λ_ M q _=>q (.loc M.length) (M++[.rB [] []])):=
 .of G9 λσ H G L ρ M q x rl n h hx=>by intro p hp;exact⟨.loc M.length,G,L++[p],_,rl.Vh hp,rl.NH (m:=.rB [] []) hp ⟨[],Η,rfl,rfl⟩,⟨p,rfl,by rw[<-rl.len,List.getElem?_append_right (Nat.le_refl _)];simp⟩,h⟩
def RM:Dt->Dt->Ms->DQ->Prop:=λdi d M q=>∃k ks ds key,d= .loc k/\M[k]? =some (.rB ks ds)/\D9 di=some key/\q (.bl (Io ks key)) M
def Mr(hu:X.A.units+1 < cLine):gQ X (compareOp .In) (λy x H Q=>∃a o,x=V.ref a/\va H a y o/\Q (.bl o.isSome) H):=by intro δ s σ H x y u v Q I rx ry ⟨a,o,ex,g,q⟩;subst ex;obtain rfl:v=Value.ref a:=ry;exact TM hu I g rx λs3 I3=>⟨.bl o.isSome,H,I3,rfl,q⟩
def UA{K:gV}:lr K (λy x H Q=>∃a o,x=V.ref a/\va H a y o/\Q (.bl o.isSome) H) RM:=by intro G0 L0 H0 G L M H v1 v2 d1 d2 q e r n1 n2 ⟨k,ks,ds,key,ed,hm,hk,h⟩;subst ed;have⟨a,rfl,RU⟩:=n2;have⟨_,vs,hH,hl,dn⟩:=r.fF k a _ RU hm;refine⟨a,_,rfl,.inl ⟨_,key,.inl hH,l7 hk n1,rfl⟩,?_⟩;have O5:ks.length=vs.length:=hl.trans dn.length;rw[l6 O5];exact az e r h
def Mx(hr:bp k' X.A)(ja:JE X R a ta)(jb:JE X R b tb)(hm:behindInMarks .In b=false:=by rfl):JT X R (.Compare a [.In] [b] pos) (kY (cz RM ta tb)):=g7 (Mr (BK hr)) UA ja jb hm
end
def nF(ks:List Key)(k:Key):List Key:=if Io ks k=true then ks else ks++[k]
def nR{α:Type}(k:Key)(v:α):List Key->List α->List α
 | c::ks,x::xs=>(if c=k then v else x)::nR k v ks xs
 | _,_=>[]
def jY{α:Type}(ks:List Key)(k:Key)(xs:List α)(v:α):List α:=if Io ks k=true then nR k v ks xs else xs++[v]
def sY{α:Type}{k:Key}{v:α}:∀{ks:List Key} {xs:List α},ks.length=xs.length->(nR k v ks xs).length=ks.length
 | [],[],_=>rfl
 | _::ks,_::xs,h=>by
  have h:ks.length=xs.length:=by simpa using h
  show(nR k v ks xs).length+1=ks.length+1;rw[sY h]
def sE{k:Key}{v:V}:∀{ks:List Key} {vs:List V},ks.length=vs.length->(ks.zip vs).map (λkv=>if kv.1=k then (kv.1,v) else kv)=ks.zip (nR k v ks vs)
 | [],[],_=>rfl
 | c::ks,x::vs,h=>by
  have h:ks.length=vs.length:=by simpa using h
  rw[abb,aaJ,sE h];show _=(c,if c=k then v else x)::ks.zip (nR k v ks vs)
  congr 1
  show(if c=k then (c,v) else (c,x))=_;split <;> rfl
def tK{K:gV}{G:Hp}{L:List Addr}{k:Key}{d:Dt}{v:V}(n:Den K G L d v):∀{ks:List Key} {ds:List Dt} {vs:List V},Λ K G L ds vs->ks.length=ds.length->Λ K G L (nR k d ks ds) (nR k v ks vs)
 | [],[],_,h,_=>by cases h;rfl
 | c::ks,x::ds,_,⟨y,vs,e,n0,ns⟩,hl=>by
  subst e;have hl:ks.length=ds.length:=by simpa using hl
  refine⟨_,_,rfl,?_,tK n ns hl⟩;show Den K G L (if c=k then d else x) (if c=k then v else y);split
  ·exact n
  ·exact n0
def NV{k:Key}(h:ks.length=vs.length):gO (ks.zip vs) k v=(nF ks k).zip (jY ks k vs v):=by
 unfold gO nF jY;rw[mh,l6 h];split
 ·exact sE h
 ·rw[List.zip_append h];rfl
def Gw(to ti tv:DE):DS:=λDn ρ M=>tv ρ M (λy M1=>to ρ M1 (λd M2=>ti ρ M2 (λdi M3=>∃k ks ds key,d= .loc k/\M3[k]? =some (.rB ks ds)/\D9 di=some key/\ks.length < 1000/\Dn.nx ρ (M3.set k (.rB (nF ks key) (jY ks key ds y)))) Dn.x) Dn.x) Dn.x
section
variable{o i value:Expr}{ti tv:DE}{pos':Pos}
def B8(hr:bp k' X.A)(ho:JE X R o to)(hi:JE X R i ti)(hv:JE X R value tv)(hs:swapsWith value (some (.Subscript o i pos')) pos.line X.env=pure false:=by rfl):JS X R (.Assign [.Subscript o i pos'] value pos) (Gw to ti tv):=
 .of (IU (BK hr) ho hi hv hs) λσ H G L ρ M Dn rl n h hx=>by
  refine⟨G,L,ρ,M,_,_,rl,n,h,hx,λv H1 xz=>?_⟩;have⟨dv,G1,L1,M1,e1,r1,n1,h1⟩:=xz;refine⟨G1,L1,ρ,M1,_,_,r1,n.mono e1,h1,hx.on e1,λov H2 xz=>?_⟩;have⟨d,G2,L2,M2,e2,r2,n2,h2⟩:=xz;refine⟨G2,L2,ρ,M2,_,_,r2,(n.mono e1).mono e2,h2,(hx.on e1).on e2,λiv H3 xz=>?_⟩;have⟨di,G3,L3,M3,e3,r3,n3,k,ks,ds,key,ed,hm,hk,hlen,h3⟩:=xz;subst ed;have⟨a,rfl,YZ⟩:=n2;have JB:=e3.l.get YZ;have⟨_,vs,hH,hl,dn⟩:=r3.fF k a _ JB hm;have Rq:=e2.trans e3;have SJ:=Den.mono Rq.g Rq.l _ _ n1;have O5:ks.length=vs.length:=hl.trans dn.length;obtain rfl:iv=kV key:=l7 hk n3;have z:(ks.zip vs).length < sizeLine:=by rw[abc];exact abm (Nat.min_le_left _ _) (Nat.lt_trans hlen @_)
  refine⟨a,_,rfl,E1.k hH z,ρ,G3,L3,_,((e1.trans e2).trans e3).trans (r3.MK JB),r3.setM (m:=.rB (nF ks key) (jY ks key ds dv)) JB ⟨jY ks key vs v,by rw[Η,NV O5],?_,?_⟩,(((n.mono e1).mono e2).mono e3).mono (r3.MK (o:=.own a) JB),h3⟩
  ·unfold nF jY;split
   ·rw[sY hl]
   ·rw[aae,aae,hl];rfl
  ·unfold jY;split
   ·exact tK SJ dn hl
   ·exact dn.app ⟨_,_,rfl,SJ,rfl⟩
end
section
variable{o i f a b v1 v2:Expr}{ti tx t1 t2:DE}{p af:Pos}
def A8:Dt->Dt->Ms->DQ->Prop:=λdi d M q=>∃k ks ds key,d= .loc k/\M[k]? =some (.rB ks ds)/\D9 di=some key/\q (.bl (!Io ks key)) M
def Di(hu:X.A.units+1 < cLine):gQ X (compareOp .NotIn) (λy x H Q=>∃a o,x=V.ref a/\va H a y o/\Q (.bl (!o.isSome)) H):=by intro δ s σ H x y u v Q I rx ry ⟨a,o,ex,g,q⟩;subst ex;obtain rfl:v=Value.ref a:=ry;exact JO hu I g rx λs3 I3=>⟨.bl (!o.isSome),H,I3,rfl,q⟩
def IS{K:gV}:lr K (λy x H Q=>∃a o,x=V.ref a/\va H a y o/\Q (.bl (!o.isSome)) H) A8:=by intro G0 L0 H0 G L M H v1 v2 d1 d2 q e r n1 n2 ⟨k,ks,ds,key,ed,hm,hk,h⟩;subst ed;have⟨a,rfl,RU⟩:=n2;have⟨_,vs,hH,hl,dn⟩:=r.fF k a _ RU hm;refine⟨a,_,rfl,.inl ⟨_,key,.inl hH,l7 hk n1,rfl⟩,?_⟩;have O5:ks.length=vs.length:=hl.trans dn.length;rw[l6 O5];exact az e r h
def CL(hr:bp k' X.A)(ja:JE X R a ta)(jb:JE X R b tb)(hm:behindInMarks .NotIn b=false:=by rfl):JT X R (.Compare a [.NotIn] [b] pos) (kY (cz A8 ta tb)):=g7 (Di (BK hr)) IS ja jb hm
end
section
variable{o f v1 v2:Expr}{tx t1 t2:DE}{af:Pos}
def IM{K:gV}{G1:Hp}{L1:List Addr}{H1:Hp}{H:Hp}{q:DQ}(e:Ex G1 L1 H1 G L H)(r:Rl K G L M H)(Iu:H1 p=none)(hg:G p=none)(hl:p∉L)(h:H p=some (.dK (ks.zip vs)))(hk:ks.length=ds.length)(n:Λ K G L ds vs)(k:q (.loc M.length) (M++[.rB ks ds])):Fin K G1 L1 H1 q (.ref p) H:=by
 refine⟨.loc M.length,G,L++[p],M++[.rB ks ds],⟨e.g,e.l.trans ⟨[p],rfl⟩,e.fr,e.out,λb hb=>?_,e.sA⟩,⟨r.sub,by rw[List.length_append,List.length_append,r.len];rfl,List.nodup_append.mpr ⟨r.nd,by simp,λa ha b hb=>?_⟩,λk a m h1 h2=>?_⟩,⟨p,rfl,by rw[<-r.len,List.getElem?_append_right (Nat.le_refl _)];simp⟩,k⟩
 ·rcases aaj.mp hb with z| z
  ·exact e.new b z
  ·have e:b=p:=by simpa using z
   right;rw[e];exact Iu
 ·have e:b=p:=by simpa using hb
  rw[e];exactλz=>hl (z▸ha)
 ·by_cases IH:k < L.length
  ·rw[aav IH]at h1;rw[aav (by rw[<-r.len];exact IH)]at h2;have⟨q1,q2⟩:=r.fF k a m h1 h2;exact⟨q1,q2.mono (.refl _) ⟨[p],rfl⟩ rfl⟩
  ·have e:k=L.length:=by have:=(aai.mp h1).1;rw[aae]at this;simp at this;omega
   rw[e,aaE (aaq _)]at h1;rw[e,r.len,aaE (aaq _)]at h2;simp at h1 h2;subst h1 h2;exact⟨hg,vs,h,hk,Λ.mono (.refl _) ⟨[p],rfl⟩ _ _ n⟩
end
section
variable{k1 v1 k2 v2:Expr}{s1 t1 s2 t2:DE}
structure AO(K:gV)(G0:Hp)(L0:List Addr)(H0:Hp)(p:Addr)(G:Hp)(L:List Addr)(M:Ms)(H:Hp):Prop where
 ex:Ex G0 L0 (upd H0 p (.dK [])) G L H
 rl:Rl K G L M H
 at_:H p=some (.dK [])
 g:G p=none
 l:p∉L
def AO.on{K:gV}{G0:Hp}{H:Hp}(a:AO K G0 L0 H0 p G L M H){G':Hp}{M':Ms}{H':Hp}(e:Ex G L H G' L' H')(r:Rl K G' L' M' H'):AO K G0 L0 H0 p G' L' M' H':=
 ⟨a.ex.trans e,r,e.out _ _ a.at_ a.l,e.fr _ a.g (by rw[a.at_];simp),λz=>(e.new _ z).elim a.l λq=>by rw[a.at_]at q;cases q⟩
def QN{K:gV}{H:Hp}(rl:Rl K G L M H)(hp:H p=none):Ex G L H G L (upd H p (.dK []))/\AO K G L H p G L M (upd H p (.dK [])):=by
 have gn:G p=none:=rl.sub.free hp;have ln:p∉L:=rl.DP hp;have e0:Ex G L H G L (upd H p (.dK [])):=⟨.refl _,.refl _,λ_ h _=>h,λb u h1 _=>by rw[ξ (λz=>by rw[z,hp]at h1;cases h1)];exact h1,λ_ h=>.inl h,λb h=>by rw[ξ (λz=>h (by rw[z];exact hp))];exact h⟩
 have r0:Rl K G L M (upd H p (.dK [])):=⟨λb u e=>by rw[ξ (λz=>by rw[z,gn]at e;cases e)];exact rl.sub b u e,rl.len,rl.nd,λi a m h1 h2=>by
  have⟨q1,q2⟩:=rl.fF i a m h1 h2
  exact⟨q1,q2.mono (.refl _) (.refl _) (ξ λz=>q2.there (by rw[z];exact hp))⟩⟩
 exact⟨e0,.refl _ _ _,r0,Η,gn,ln⟩
def AO.fin{K:gV}{G0:Hp}{H:Hp}{q:DQ}(a:AO K G0 L0 H0 p G L M H)(e0:Ex G0 L0 H0 G0 L0 (upd H0 p (.dK [])))(hp:H0 p=none)(hk:ks.length=ds.length)(n:Λ K G L ds vs)(k:q (.loc M.length) (M++[.rB ks ds])):Fin K G0 L0 H0 q (.ref p) (upd H p (.dK (ks.zip vs))):=by
 have e:=e0.trans a.ex;have Zr:∀{b:Addr} {w:HO},G b=some w->b≠p:=λe z=>by rw[z,a.g]at e;cases e
 refine IM (G:=G) (L:=L) (M:=M) (ks:=ks) (ds:=ds) (vs:=vs) ⟨e.g,e.l,e.fr,λb w h1 h2=>?_,e.new,λb h=>?_⟩ ⟨λb w e=>?_,a.rl.len,a.rl.nd,λi c m h1 h2=>?_⟩ hp a.g a.l Η hk n k
 ·rw[ξ (λz=>by rw[z,hp]at h1;cases h1)];exact e.out b w h1 h2
 ·by_cases hb:b=p
  ·rw[hb,Η];simp
  ·rw[ξ hb];exact e.sA b h
 ·rw[ξ (Zr e)];exact a.rl.sub b w e
 ·have⟨q1,q2⟩:=a.rl.fF i c m h1 h2;exact⟨q1,q2.mono (.refl _) (.refl _) (ξ λz=>a.l (by rw[<-z];exact aaA h1))⟩
end
def tj:∀{zs:List Str} {us:List Value},Ψ (zs.map V.str) us->∃l:List (Str×Tok),us=strValues l/\l.map (·.1)=zs
 | [],_,h=>by cases h;exact⟨[],rfl,rfl⟩
 | z::zs,_,.cons r t=>by have⟨k,rfl⟩:=r;have⟨l,rfl,e⟩:=tj t;exact⟨(z,k)::l,rfl,by rw[aaJ,e]⟩
section
def Mc(K:gV):V->List V->Hp->VK->Prop:=λx xs H Q=>∃z p zs,x= .str z/\xs=[V.ref p]/\fG K H p (zs.map V.str)/\JoinOk z zs=true/\Q (.str (Txt.join z zs)) H
def J9:Om X "str.join" (Mc X.K):=by intro δ s σ H x xs v us Q I rx rs h;have⟨z,p,zs,rfl,rfl,sq,ok,q⟩:=h;have⟨t,rfl⟩:=rx;have⟨u,rfl,ru⟩:=fS rs;cases ru;have⟨its,rv,pl,hz⟩:=I.list sq;have⟨l,rfl,el⟩:=tj rv;exact SC.join pl.isList el ok λt' k=>⟨.str _,H,I.tok k,⟨t',rfl⟩,q⟩
def A5:V->List V->Hp->VK->Prop:=λx xs H Q=>∃(z y:Str) (k:Int),x= .str z/\xs=[.str y,.int k]/\(y.length==0)=false/\z.length+2<=sizeLine/\0<=k/\k < 1000/\∀p,H p=none->Q (.ref p) (upd H p (.lst ((Txt.splitMax z y k).map V.str)))
def Ab(x y:Str)(k:Int)(h:x.length+2<=sizeLine):(Txt.splitMax x y k).length<=sizeLine:=by
 unfold Txt.splitMax;split
 ·exact Nat.le_trans (by simp) (Nat.le_trans (Nat.le_add_left 2 x.length) h)
 ·split
  ·exact Nat.le_trans (by simp) (Nat.le_trans (Nat.le_add_left 2 x.length) h)
  ·have e1:=StrLaws.occ_length_le_len x y 0 x.length (limitOf x k);rw[length_partsBetween];omega
def DN:Om X "str.split" A5:=by
 intro δ s σ H x xs v us Q I rx rs h;have⟨z,y,k,rfl,rfl,hy,hz,k0,k1,q⟩:=h;have⟨t,rfl⟩:=rx;have⟨w,w2,rfl,⟨u,rfl⟩,⟨u2,rfl⟩⟩:=Cc rs
 have fin:∀(l:List (Str×Tok)) (tk:Nat),l.map (·.1)=Txt.splitMax z y k->EP X δ σ Q (.ref s.heap.objs.size) {s with heap:=s.heap.push {cls:=.type "list",data:=.seq (strValues l).toArray},toks:=tk}:=λl tk e=>
  ⟨.ref _,_,I.Dw (t':=tk) (ys:=(Txt.splitMax z y k).map V.str) (by rw[<-e];exact mQ l) (by rw[aac];exact Ab z y k hz),rfl,q _ I.fresh⟩
 have hk:(decide (k < -(2 ^ 63:Int))|| decide (k ≥ 2 ^ 63))=false:=by rw[aao (),aao ()];rfl
 have hn:(Builtin.Str.partsBetween z (Builtin.Str.occurrences z y 0 z.length (limitOf z k)) y.length).length<=sizeLine:=by have e1:=StrLaws.occ_length_le_len z y 0 z.length (limitOf z k);rw[length_partsBetween];omega
 cases h1:(decide (z.length < y.length)|| decide (Builtin.Str.strKind z < Builtin.Str.strKind y))
 ·cases hf:(Builtin.Str.occurrences z y 0 z.length (limitOf z k)).isEmpty
  ·refine call_meets F.slot_str_split (typeIs_str _ _ _) F.entry_str_split (F.args_str_split_3 _ _ _) (meets_str_split_sep_max z y k t u u2 hk h1 hy hf () hn) ?_;show wants _ _ _ {s with toks:=_,heap:=s.heap.push {cls:=.type "list",data:=.seq (strsFrom s.toks (Builtin.Str.partsBetween z (Builtin.Str.occurrences z y 0 z.length (limitOf z k)) y.length)).toArray}};rw[strsFrom_eq];exact fin (numbered s.toks _) _ ((numbered_texts _ _).trans ((aay (ne_true_of_eq_false h1)).trans (aay (ne_true_of_eq_false hf))).symm)
  ·exact call_meets F.slot_str_split (typeIs_str _ _ _) F.entry_str_split (F.args_str_split_3 _ _ _) (meets_str_split_max_not_found z y k t u u2 hk h1 hy hf) (fin [(z,t)] s.toks ((aay (ne_true_of_eq_false h1)).trans (aaB hf)).symm)
 ·exact call_meets F.slot_str_split (typeIs_str _ _ _) F.entry_str_split (F.args_str_split_3 _ _ _) (meets_str_split_max_cannot_occur z y k t u u2 hk h1) (fin [(z,t)] s.toks (aaB h1).symm)
def kh(n:Nat)(z:Str):Str:=⟨(List.replicate n z.cps).foldl (· ++ ·) #[]⟩
def qy(c:Array Nat):∀(k:Nat) (a:Array Nat),((List.replicate k c).foldl (· ++ ·) a).toList=a.toList++(List.replicate k c.toList).flatten
 | 0,a=>by simp
 | k+1,a=>by rw[List.replicate_succ,List.foldl_cons,qy c k,List.replicate_succ,List.flatten_cons];simp
def yr(n:Nat)(z:Str):(kh n z).cps.toList=(List.replicate n z.cps.toList).flatten:=by show((List.replicate n z.cps).foldl (· ++ ·) #[]).toList=_;rw[qy];simp
def LL:R2:=λx y H Q=>∃(z:Str) (n:Int),x= .str z/\y= .int n/\1<=n/\n<=100/\z.length<=100/\z.length≠0/\Q (.str (kh n.toNat z)) H
def JF:gQ X (binaryOp .Mult) LL:=by
 intro δ s σ H x y v u Q I rx ry h;have⟨z,n,rfl,rfl,n1,n2,hz,Xv,q⟩:=h;have⟨t,rfl⟩:=rx;have⟨t',rfl⟩:=ry;have le:z.length * n.toNat<=sizeLine:=aaD (Nat.mul_le_mul hz (show n.toNat<=100 by omega)) @_;refine PySem.P.mul_str (by rw[aao (),aao ()];rfl) (λ_ _=>?_) (λ_ _=>?_) ?_
 ·have h1:(100:Int)<=(2 ^ 63 - 1) / n:=by refine Int.le_ediv_of_mul_le () ?_;omega
  omega
 ·unfold PySem.Builtin.Str.tooLong;exact aao ()
 rw[aay (show¬n < 1 by omega)];have z1:(z.length==0)=false:=beq_eq_false_iff_ne.mpr Xv;rw[z1,Bool.or_false];cases e:(n==1)
 ·rw[aay @_];refine⟨?_,⟨.str _,H,I.tok _,⟨_,rfl⟩,q⟩⟩;show(kh n.toNat z).length<=sizeLine;have:(kh n.toNat z).length=n.toNat * z.length:=by show(kh n.toNat z).cps.size=_;rw[<-aa4,yr,List.length_flatten];simp only[List.map_replicate,List.sum_replicate_nat];rw[aa4];rfl
  rw[this,Nat.mul_comm];exact le
 ·rw[aaB rfl];have e:n=1:=eq_of_beq e;subst e;have ez:kh (1:Int).toNat z=z:=by show(⟨#[]++z.cps⟩:Str)=z;rw[Array.empty_append]
  rw[ez]at q;exact⟨.str z,H,I,⟨t,rfl⟩,q⟩
end
def qO:Dt->List Dt->Ms->DQ->Prop
 | .str z,[e],M,q=>∃zs:List Str,nq M e=some (zs.map Dt.str)/\JoinOk z zs=true/\q (.str (Txt.join z zs)) M
 | _,_,_,_=>False
def oP:Dt->List Dt->Ms->DQ->Prop
 | .str z,[.str y,.int k],M,q=>((y.length==0)=false/\z.length+2<=sizeLine/\0<=k/\k < 1000)/\q (.lst ((Txt.splitMax z y k).map Dt.str)) M
 | _,_,_,_=>False
def qq:Dt->Dt->Ms->DQ->Prop
 | .str z,.int i,M,q=>(1<=i/\i<=100/\z.length<=100/\z.length≠0)/\q (.str (kh i.toNat z)) M
 | _,_,_,_=>False
def wG:List Dt->Ms->DQ->Prop
 | [d],M,q=>∃xs,nq M d=some xs/\q (.tup xs) M
 | _,_,_=>False
section
variable{K:gV}
def pK{G:Hp}{L:List Addr}:∀{zs:List Str} {vs:List V},Λ K G L (zs.map Dt.str) vs->vs=zs.map V.str
 | [],_,h=>h
 | z::zs,_,h=>by have⟨v,vs,rfl,h1,h2⟩:=h;rw[pK h2,show v=V.str z from h1];rfl
def Rh:RF K "str" (Mc K) qO:=by
 intro G0 L0 H0 G L M H v d vs ds q e r n ns h;unfold qO at h;split at h
 ·rename_i z y;have⟨u,rfl,n2⟩:=aC ns;have⟨zs,h1,h2,h3⟩:=h;cases n;have⟨a,us,rfl,sq,dn⟩:=dG r n2 h1;rw[pK dn]at sq;exact⟨z,a,zs,rfl,rfl,sq,h2,az e r h3⟩
 ·exact h.elim
def KJ:RF K "str" A5 oP:=by
 intro G0 L0 H0 G L M H v d vs ds q e r n ns h;unfold oP at h;split at h
 ·rename_i z y k;have⟨u,u2,rfl,n2,n3⟩:=fi ns;cases n;cases n2;cases n3;exact⟨z,y,k,rfl,rfl,h.1.1,h.1.2.1,h.1.2.2.1,h.1.2.2.2,λp hp=>eh e r hp (ju r hp jz) h.2⟩
 ·exact h.elim
def QP:lr K LL qq:=by
 intro G0 L0 H0 G L M H v1 v2 d1 d2 q e r n1 n2 h;unfold qq at h;split at h
 ·cases n1;cases n2;exact⟨_,_,rfl,rfl,h.1.1,h.1.2.1,h.1.2.2.1,h.1.2.2.2,az e r h.2⟩
 ·exact h.elim
def RS:Bx K (λxs H Q=>∃p ys,xs=[.ref p]/\((fG K H p ys/\∀l,H l=none->Q (.ref l) (upd H l (.tup ys)))\/(jN K H p ys/\Q (.ref p) H))) wG:=by
 intro G0 L0 H0 G L M H vs ds q e r n h;unfold wG at h;split at h
 ·have⟨v,rfl,n1⟩:=aC n;have⟨xs,h1,h2⟩:=h;have⟨a,us,rfl,sq,dn⟩:=dG r n1 h1;exact⟨a,us,rfl,.inl ⟨sq,λl hl=>eh e r hl (k_ r hl dn) h2⟩⟩
 ·exact h.elim
end
section
variable{e2 o:Expr}{a b:Expr}{p af:Pos}
def cM(ho:JE X R o to)(ha:JA X R [e] t)(cE:attributeBase o "join" X.env (eval o X.env)=eval o X.env:=by rfl)
  (kM:((backTo af (starEach [e] X.env)).all (λx=> !x.1)&&(backToKw af (keywordEach [] X.env)).all (λx=>x.1.isSome)
   &&decide (([e]:List Expr).length+([]:List Keyword).length+(if ([]:List Keyword).isEmpty then 0 else 1) < 30))=true:=by rfl)
  (e9:(apos.endLine==af.line)=true:=by rfl) (hs:starEach [e] X.env=(false,eval e X.env)::starEach [] X.env:=by rfl) (cf:(backTo af (starEach [] X.env)).any (·.1)=false:=by rfl):
  JE X R (.Call (.Attribute o "join" apos) [e] [] af) (Hj qO to t):=
 oV PySem.F.slot_str_join PySem.F.type_str_join J9 Rh (λd ds M q h=>by unfold qO at h;split at h <;> first| exact⟨_,rfl⟩| exact h.elim) ho ha cE kM e9 hs cf
def za(ho:JE X R o to)(ha:JA X R [e,e2] t)(cE:attributeBase o "split" X.env (eval o X.env)=eval o X.env:=by rfl)
  (kM:((backTo af (starEach [e,e2] X.env)).all (λx=> !x.1)&&(backToKw af (keywordEach [] X.env)).all (λx=>x.1.isSome)
   &&decide (([e,e2]:List Expr).length+([]:List Keyword).length+(if ([]:List Keyword).isEmpty then 0 else 1) < 30))=true:=by rfl)
  (e9:(apos.endLine==af.line)=true:=by rfl) (hs:starEach [e,e2] X.env=(false,eval e X.env)::starEach [e2] X.env:=by rfl) (cf:(backTo af (starEach [e2] X.env)).any (·.1)=false:=by rfl):
  JE X R (.Call (.Attribute o "split" apos) [e,e2] [] af) (Hj oP to t):=
 oV PySem.F.slot_str_split PySem.F.type_str_split DN KJ (λd ds M q h=>by unfold oP at h;split at h <;> first| exact⟨_,rfl⟩| exact h.elim) ho ha cE kM e9 hs cf
def uS(ja:JE X R a ta)(jb:JE X R b tb):JE X R (.BinOp a .Mult b pos) (cz qq ta tb):=rZ JF QP ja jb
def BF(hm:X.mg "tuple"=none)(ha:JA X R [e] t)(he:starEach [e] X.env=(false,eval e X.env)::starEach [] X.env:=by rfl)(eB:(backTo pos (starEach [] X.env)).any (·.1)=false:=by rfl)(hg:Gl X "tuple":=by rfl):JE X R (.Call (.Name "tuple" p) [e] [] pos) (vP wG t):=
 pf si RS hm c_ ha hg @_ @_ he eB
end
section
variable{M:Model}{E:Value->Shared->Prop}{B:Heap}{env:Env}{outer l:List Env}{L:Addr}{o:Obj}{Q:Unit->Shared->Prop}
def Nf(Gv:A.frames=some (env::outer))(hf:env.frame=some L)(R:xP B (env::outer) x o fl s.heap)
  (h:∀h',xP B (env::outer) x o (rawInt L) h'->s.heap.UpToSlots h'->Q Unit.unit {s with heap:=h'}):wpAny M A (noteFrame (.ref x) env) Q E s:=by
 have R0:=R;have⟨hB,hn,hl,vs,T,oT,ts,hx,h2,h1,nT,Gq,hT,dT,h3⟩:=R;unfold noteFrame;simp only[hf];refine aab (wpAny_field hx rfl h1 ?_);rw[if_pos (show(Value.ref T != Value.none)=true by simp)];refine aab (wpAny_field hT dT h3 ?_);by_cases hq:(fl==rawInt L)=true
 ·rw[aaB hq];have e:fl=rawInt L:=eq_of_beq hq;rw[e]at R0;exact aar (h s.heap R0 λb ob e _=>⟨ob.slots,e⟩)
 ·rw[aay hq];refine aab (wpAny_setField hT dT (aaT.mp h3).1 ?_);have AE:∀b,b≠T->(s.heap.update T (Obj.mapFields (·.setIfInBounds 3 Value.none))).get? b=s.heap.get? b:=λb nb=>Heap.get?_update_other _ _ (Ne.symm nb);have u:=ie hT dT AE;exact rp Gv hf (λb ob e=>(AE b λz=>by rw[z,nT]at e;cases e).trans (hB b ob e)) hn (jy hl u) ((AE x (Ne.symm Gq)).trans hx) (aaT.mp h1).1 h2 λh' F' u'=>h h' F' (u.trans u')
def Kp{α:Type}{Uu:String}{fH:Env}{Q:α->Shared->Prop}(R:xP B l x o fl s.heap)(h:∀h' YQ,xP B l x o YQ h'->s.heap.UpToSlots h'->E (.ref x) {s with heap:=h'}):wpAny M A (PySem.passOn Uu (.ref x) fH:Sem α) Q E s:=by have⟨hB,hn,hl,vs,T,oT,ts,hx,h2,h1,nT,Gq,hT,dT,h3⟩:=R;unfold PySem.passOn;refine aab (wpAny_field hx rfl h1 ?_);rw[if_neg (show¬(Value.ref T==Value.none)=true by simp)];unfold setFlight;refine aab (aab (wpAny_field hx rfl h1 ?_));rw[if_pos (show(Value.ref T != Value.none)=true by simp)];have z3:=(aaT.mp h3).1;have AE:∀b,b≠T->(s.heap.update T (Obj.mapFields (·.setIfInBounds 3 (fH.frame.elim Value.none λf=>rawInt f)))).get? b=s.heap.get? b:=λb nb=>Heap.get?_update_other _ _ (Ne.symm nb);have u:=ie hT dT AE;exact wpAny_setField hT dT z3 (wpAny_throw (h _ (fH.frame.elim Value.none λf=>rawInt f) ⟨λb ob e=>(AE b λz=>by rw[z,nT]at e;cases e).trans (hB b ob e),hn,jy hl u,vs,T,_,_,(AE x (Ne.symm Gq)).trans hx,h2,h1,nT,Gq,Heap.get?_update_self _ hT (Obj.isFreed_of_fields (Obj.data_mapFields dT _)),Obj.data_mapFields dT _,by simp[z3]⟩ u))
def nU{h:Heap}{C:Addr}:∀{l:List Env},h.FunFrames B l->h.FunFrames (PySem.W.hideAll B [C]) l
 | [],_=>trivial
 | env::_,⟨hk,⟨L,o,hf,hn,ho,hd⟩,hr⟩=>⟨hk,⟨L,o,hf,(by
   cases q:(PySem.W.hideAll B [C]).get? L with
   | none=>rfl
   | some u=>rw[PySem.W.of_hideAll _ q]at hn;cases hn),ho,hd⟩,nU hr⟩
def J8{h h':Heap}{u:Obj}(R:xP B l x o fl h)(hC:B.get? C=some u)(nf:C∉jg l)(sb:Heap.SameBut C h h'):xP (PySem.W.hideAll B [C]) l x o fl h':=by
 have⟨hB,hn,hl,vs,T,oT,ts,hx,h2,h1,nT,Gq,hT,dT,h3⟩:=R;have nx:x≠C:=λz=>by rw[z,hC]at hn;cases hn
 have Zf:T≠C:=λz=>by rw[z,hC]at nT;cases nT
 have none_of:∀b,B.get? b=none->(PySem.W.hideAll B [C]).get? b=none:=λb e=>by
  cases q:(PySem.W.hideAll B [C]).get? b with
  | none=>rfl
  | some u=>rw[PySem.W.of_hideAll _ q]at e;cases e
 have keep:∀{l:List Env},C∉jg l->h.FunFrames B l->h'.FunFrames B l:=by
  intro l
  induction l with
  | nil=>exactλ_ _=>trivial
  | cons env rest ih=>
   intro nf hl;have⟨hk,⟨L,o,hf,hn,ho,hd⟩,hr⟩:=hl;refine⟨hk,⟨L,o,hf,hn,(sb.2 L λz=>nf ?_).trans ho,hd⟩,ih (λz=>nf ?_) hr⟩
   ·rw[<-z];exact aa6.mpr ⟨env,aaf,hf⟩
   ·have⟨en,he,hq⟩:=aa6.mp z;exact aa6.mpr ⟨en,aag _ he,hq⟩
 refine⟨λb ob e=>?_,none_of x hn,nU (keep nf hl),vs,T,oT,ts,(sb.2 x nx).trans hx,h2,h1,none_of T nT,Gq,(sb.2 T Zf).trans hT,dT,h3⟩;have hb:b≠C:=λz=>by rw[z,PySem.W.hideAll_none _ aaf]at e;cases e
 exact(sb.2 b hb).trans (hB b ob (PySem.W.of_hideAll _ e))
end
def Cx.qJ(X:Cx)(Nc:List Str)(scope:Scope)(C:Addr)(s:Shared)(H:Hp)(fp:List Addr)(E:XK):Cx:={Cx.comp X Nc scope C s H fp with
 xe:=λe s'=>∃δ σ Hc sc,Inv (Cx.comp X Nc scope C s H fp) δ σ Hc sc/\bP X.prog X.w X.stack Hc sc E e s'}
section
variable{Nc:List Str}{s0:Shared}{H:Hp}
def Xf:(Cx.qJ X Nc scope C s0 H0 fp E).Ok↔(Cx.comp X Nc scope C s0 H0 fp).Ok:=
 ⟨λh=>⟨h.mod,h.kind,h.glob,h.blt,h.above,h.inj,h.has,h.J_,h.hd,h.frames,h.Ls,h.Iv,h.bs,h.Dk,h.rG,h.rE,h.i9,h.FP⟩,
  λh=>⟨h.mod,h.kind,h.glob,h.blt,h.above,h.inj,h.has,h.J_,h.hd,h.frames,h.Ls,h.Iv,h.bs,h.Dk,h.rG,h.rE,h.i9,h.FP⟩⟩
def ML:Inv (Cx.qJ X Nc scope C s0 H0 fp E) δ σ H s↔Inv (Cx.comp X Nc scope C s0 H0 fp) δ σ H s:=
 ⟨λI=>⟨Xf.mp I.ok,I.os,I.bare,I.base,I.loc,I.cell,I.free,I.cX,I.pin,I.av,I.len⟩,
  λI=>⟨Xf.mpr I.ok,I.os,I.bare,I.base,I.loc,I.cell,I.free,I.cX,I.pin,I.av,I.len⟩⟩
def jA:cP (bP X.prog X.w) (Cx.qJ X Nc scope C s0 H0 fp E) (λ_=>E):=λδ σ H s e s' I hx=>⟨δ,σ,H,s,ML.mp I,hx⟩
end
section
variable{elt iter tg:Expr}{xs:List Str}{wi:TI}{tc:TT}{te:TE}
def tU(S:Ξ X scope xs ys Γ)(hc:X.calm=true)(hg:∀C s H fp,PG (Cx.comp X (xs++ys) scope C s H fp) tg gg)(hk:n9 xs.length gg)(ht:∀C s H fp,N6 (Cx.comp X (xs++ys) scope C s H fp) cs tc)(he:∀C s H fp,PE (Cx.qJ X (xs++ys) scope C s H fp E) elt te)
    {H2:Hp} {s2:Shared} {it:Addr}  {tn:Nat->Heap->Prop} {J:It} {Q:V->Hp->Prop} {PQ:Value->Addr->Result->Shared->Prop} (I:Inv X δ σ H2 s2) (T:v9 X.prog X.w X.K tg J fp it tn) (t0:tn 0 s2.heap) (f2:∀b∈fp,oa X δ H2 b)
  (h:∀D,H2 D=none->p7 J xs.length gg tc te (f_ Γ σ) Q H2 D)
  (Uz:∀D C s' H',Inv X δ σ H' s'->Q (.ref D) H'->(∃m,s'.heap.Ns C m)->H' C=none->X.s₀.heap.objs.size<=C->C≠X.env.locals->(∀z c,X.env.cells.lookup z=some c->c≠C)->(∀p∈X.pn++δ,p.1≠C)->PQ (.ref D) C (.ok .next) s')
  (hPX:∀D C H' sc e s' fH,Inv X δ σ H' sc->(∃m,sc.heap.Ns C m)->H' C=none->X.s₀.heap.objs.size<=C->C≠X.env.locals->(∀z c,X.env.cells.lookup z=some c->c≠C)->(∀p∈X.pn++δ,p.1≠C)->fH.frame=X.env.frame->bP X.prog X.w X.stack H' sc E e s'->notedBy (model X.prog X.w) X.A fH (λe Mu=>PQ (.ref D) C (.error e) Mu) e s'):
  wpAny (model X.prog X.w) X.A (newList []) (λΚ s3=>wpAny (model X.prog X.w) X.A (newFunctionEnv scope X.env.globals (iD X.env scope.names []) [] X.env.qual none .none (some X.env)) (λfH s4=>
   codeAny (model X.prog X.w) X.A (.compStart (.ListComp elt [⟨tg,iter,cs,0⟩] scope pos) 0 (.ref it) Κ {fH with scope:=relabel scope X.env}) (PQ Κ fH.locals) s4) X.xe s3) X.xe s2:=by
 have hD:H2 s2.heap.objs.size=none:=I.fresh;have⟨W,⟨m0,w0⟩,step⟩:=h _ hD;refine wpAny_newObj_type ?_;have I3:Inv X δ σ (upd H2 s2.heap.objs.size (.lst [])) {s2 with heap:=s2.heap.push {cls:=.type "list",data:=.seq ([]:List Value).toArray}}:=Inv.Dw (t':=s2.toks) I (ys:=[]) (its:=[]) .nil (aa2 _);generalize Uj:upd H2 s2.heap.objs.size (.lst [])=H3 at I3 w0;generalize Tu:({s2 with heap:=s2.heap.push {cls:=.type "list",data:=.seq ([]:List Value).toArray}}:Shared)=s3 at I3;have OJ:∀b∈fp,H3 b=none:=λb hb=>by have⟨o,e,_⟩:=T.obj _ _ t0 b hb;rw[<-Uj,ξ (aaH (aan e))];exact(f2 b hb).1
 have t3:tn 0 s3.heap:=T.keep _ _ _ t0 λb hb o e=>by rw[<-Tu];exact aad _ e
 refine wpAny_newFunctionEnv S.uV (λy hy=>nomatch hy) (λh4 UJ UK=>?_) S.kind;have hC:H3 s3.heap.objs.size=none:=I3.fresh
 have kp:∀b o,s3.heap.get? b=some o->h4.get? b=some o:=λb o e=>
  (UK.2 b (aaH (aan e))).trans (aad _ e)
 generalize N8:({s3 with heap:=h4,toks:=s3.toks+([]:List (Str×Value)).length}:Shared)=s4;have e4:s4.heap=h4:=by rw[<-N8]
 have BY:∀z c,X.env.cells.lookup z=some c->c≠s3.heap.objs.size:=λz c e q=>by have⟨v,w⟩:=I3.cell z c e;exact abj _ (q▸w.lt)
 have gC:∀z c,(iD X.env scope.names []).lookup z=some c->X.env.cells.lookup z=some c:=λz c e=>ng scope.names [] (S.has I.ok) nofun e;have Si:s3.heap.objs.size≠X.env.locals:=abH I3.lt;have ok:(Cx.comp X (xs++ys) scope s3.heap.objs.size s3 H3 fp).Ok:=by
  refine⟨I3.ok.mod,S.kind,I3.ok.glob,I3.ok.blt,aaq _,λz z' c e1 e2=>I3.ok.inj z z' c (gC z c e1) (gC z' c e2),λz hz=>?_,λz c hz=>(by cases hz),I3.ok.hd,I3.ok.frames,.inl rfl,λb hb=>⟨?_,λz c e=>?_⟩,I3.bs,?_,λb o e hb=>?_,λb hb hf=>?_,I3.stack,I3.jq⟩
  ·have:=i_ (env:=X.env) scope.names [] (.inl (zQ S.uV hz));exact abf.mp this
  ·have⟨o,e,_⟩:=T.obj _ _ t3 b hb;exact aaH (aan e)
  ·exact(f2 b hb).2.2.2.2.1 z c (gC z c e)
  ·exact aaD I3.ok.Dk I3.sz
  ·have⟨_,_,_,hy,_⟩:=f2 b hb;have e0:=(I3.ok.bs b o e).1;rcases hy with hy| hy
   ·exact I3.ok.rG b o e hy
   ·exact aaG (aau (aan e0) hy) (abj _)
  ·have⟨_,hl,Tv,_⟩:=f2 b hb;exact(aam.mp (I3.nj b hf)).elim hl Tv
 have hlen:((List.replicate xs.length (none:Option V))++f_ Γ σ).length=(xs++ys).length:=by rw[aae,aae,aak,S.len];unfold f_;rw[aac]
 have I4:Inv X δ σ H3 s4:=by rw[<-N8];exact I3.kept kp
 have Ic:Inv (Cx.comp X (xs++ys) scope s3.heap.objs.size s3 H3 fp) [] ((List.replicate xs.length (none:Option V))++f_ Γ σ) H3 s4:=by
  refine⟨ok,by rw[<-N8];rfl,I4.bare,Un.kept (by rw[e4];exact kp),⟨_,by rw[e4];exact UJ,λi z v e1 e2 e3=>?_⟩,λz c e=>I4.cell z c (gC z c e),hC,λz c e=>I4.cX z c (gC z c e),(λp hp=>nomatch hp),I4.av,hlen⟩;have e1:(xs++ys)[i]? =some z:=e1;by_cases hi:i < xs.length
  ·rw[aav (by rw[aak];exact hi),abp,aaB hi]at e2;cases e2
  ·obtain⟨j,rfl⟩:∃j,i=xs.length+j:=⟨i - xs.length,()⟩;have e1:ys[j]? =some z:=by rw[aaE (),aba]at e1;exact e1
   have e2:(f_ Γ σ)[j]? =some (some v):=by rw[aaE (by rw[aak];omega),aak,aba]at e2;exact e2
   unfold f_ at e2;rw[aaM]at e2;cases hi:Γ[j]? with
   | none=>rw[hi]at e2;cases e2
   | some i=>
    rw[hi]at e2;have e2:(σ[i]?).join=some v:=aaw e2;have e2:σ[i]? =some (some v):=by
     cases q:σ[i]? with
     | none=>rw[q]at e2;cases e2
     | some o=>rw[q]at e2;exact aaN some e2
    have⟨c1,c2,c3⟩:=S.W5 (z,i) (Av e1 hi);have c4:=qv (env:=X.env) I.ok.kind c2 c3;have c3:(z,NameKind.free)∈scope.names:=PySem.mem_of_lookup c3;have⟨m,hn,hl⟩:=I4.loc;have⟨u,r,lk⟩:=hl i z v c1 e2 (.inr (.inl c2));refine⟨u,r,.inr ⟨.inl c4,?_⟩⟩;rcases lk with ⟨k,_⟩| ⟨_,c,IG,z'⟩
    ·exact aaG ((show X.env.scope.names.lookup z=some .local from k).symm.trans c2) @_
    ·have⟨d,hd⟩:=abf.mp (i_ (env:=X.env) scope.names [] (.inl c3));have:=gC z d hd;rw[IG]at this;cases this;exact⟨c,hd,z'⟩
 have loop:codeAny (model X.prog X.w) X.A (.compLoop (.ListComp elt [⟨tg,iter,cs,0⟩] scope pos) 0 (.ref it) (.ref s2.heap.objs.size) (compEnvC scope (iD X.env scope.names []) s3.heap.objs.size X.env)) (PQ (.ref s2.heap.objs.size) s3.heap.objs.size) s4:=by
  have MJ:∀{H':Hp},(∀b∈fp,H' b=none)->∀b∈fp,oa (Cx.comp X (xs++ys) scope s3.heap.objs.size s3 H3 fp) [] H' b:=λhn b hb=>
   ⟨hn b hb,(ok.Iv b hb).1,ok.rE b hb,.inl hb,(ok.Iv b hb).2,(λp hp=>nomatch hp)⟩
  refine codeAny_loop rfl (λn s'=>∃(i:Nat) (zs:List V) (os:St) (H':Hp),os.length=xs.length/\Inv (Cx.comp X (xs++ys) scope s3.heap.objs.size s3 H3 fp) [] (os++f_ Γ σ) H' s'/\tn i s'.heap/\(∀b∈fp,H' b=none)/\W i n zs H') (λn s5 z=>?_) m0 ⟨0,[],List.replicate xs.length none,H3,by rw[aak],Ic,T.keep _ _ _ t3 (λb hb o e=>by rw[e4];exact kp b o e),OJ,w0⟩;have⟨i,zs,os,H5,l5,I5,t5,Ot,w5⟩:=z;show wpAny _ _ ((compTurn _ 0 (.ref it) _ _).onRaise _) _ _ s5;refine wpAny_noted ?_;rw[j9 (ht s3.heap.objs.size s3 H3 fp).1];refine aab (wpAny_standAt (aab ?_));obtain⟨pJ,stop| go⟩:=step i n zs H5 w5
  ·have⟨stop,q⟩:=stop;refine aT (T.done (Cx.comp X (xs++ys) scope s3.heap.objs.size s3 H3 fp) rfl rfl rfl hc i [] s5 _ H5 _ I5 (MJ Ot) t5 stop) λr s6 xz=>?_;have⟨hr,I6⟩:=xz;subst hr;refine aar (Uz _ _ s6 H5 ?_ q ?_ I6.free ?_ Si BY λp hp z=>?_)
   ·refine I3.BP I6.os I6.base I6.av I6.bare λb hb=>?_;have⟨_,g1,_,g3,g4,g5⟩:=f2 b hb;exact⟨g3,g1,g4,g5⟩
   ·have⟨m,hn,_⟩:=I6.loc;exact⟨m,hn⟩
   ·exact I3.sz
   ·exact aaH (aan (I3.pin p hp).1) z
  ·have⟨go,turn⟩:=go;refine aT (T.item (Cx.comp X (xs++ys) scope s3.heap.objs.size s3 H3 fp) rfl rfl rfl hc i [] s5 _ H5 _ I5 (MJ Ot) t5 go) λr s6 xz=>?_;have⟨u,hr,h6⟩:=xz;subst hr;refine aab (aT h6 λ_ s7 xz=>?_);have⟨y,H7,I7,r7,y7,t7,UE⟩:=xz;have TN:=I7.pinned (MJ UE) (T.obj _ _ t7);refine aab (aaW (hg _ _ _ _ _ s7 _ H7 y u _ TN r7 (hk y os _ H7 _ l5 (turn y _ y7 os l5))) (λ_ s8 z8=>?_) λ_ _ f=>f.elim);have⟨σ8,H8,I8,⟨QG,l8,e8⟩,q8⟩:=z8;subst e8;refine aab (aaW ((ht _ _ _ _).2 _ s8 _ _ _ I8 q8) (λb s9 z9=>?_) λ_ _ f=>f.elim);have⟨H9,I9,q9⟩:=z9;cases b with
   | false=>
    have⟨m9,Te,w9⟩:=q9;refine aar ⟨rfl,m9,Te,i+1,zs,QG,_,l8,I9.fe,T.keep _ _ _ t7 λb hb o e=>(I9.pin (b,o) (aal _ (aal _ (bu hb e)))).1,λb hb=>?_,w9⟩;have⟨o,e,_⟩:=T.obj _ _ t7 b hb;exact(I9.pin (b,o) (aal _ (aal _ (bu hb e)))).2.1
   | true=>
    refine aab (aab (aaW (he _ _ _ _ _ s9 _ _ _ (ML.mpr I9) q9) (λUS UD Ur=>?_) λe s' f=>?_))
    rotate_left
    ·have⟨nV,σ',Hc,sc,O0,cx⟩:=f;refine hPX _ _ Hc sc e s' _ (I3.BP O0.os O0.base O0.av O0.bare λb hb=>?_) ?_ O0.free ?_ Si BY (λp hp z=>?_) rfl cx
     ·have⟨_,g1,_,g3,g4,g5⟩:=f2 b hb;exact⟨g3,g1,g4,g5⟩
     ·have⟨m,hn,_⟩:=O0.loc;exact⟨m,hn⟩
     ·exact I3.sz
     ·exact aaH (aan (I3.pin p hp).1) z
    have⟨v10,Rf,Td,Vw,QU,VI,Vg,Ow,V1⟩:=Ur;have VP:=ML.mp Td;refine aab (aaW (ny (X:=Cx.comp X (xs++ys) scope s3.heap.objs.size s3 H3 fp) _ UD _ Rf (.ref s2.heap.objs.size) [v10] _ [US] (λ_ H'=>H'=upd Rf s2.heap.objs.size (.lst (zs++[v10]))) VP rfl (.cons Vw .nil) ⟨_,zs,v10,rfl,rfl,QU,VI,rfl⟩) (λ_ X_ VX=>?_) λ_ _ f=>f.elim);have⟨_,ZV,Og,_,TQ⟩:=VX;subst TQ;refine aar (aar ⟨rfl,Vg,Ow,i+1,zs++[v10],QG,_,l8,Og.fe,T.keep _ _ _ t7 λb hb o e=>(Og.pin (b,o) (aal _ (aal _ (bu hb e)))).1,λb hb=>?_,V1⟩);have⟨o,e,_⟩:=T.obj _ _ t7 b hb;exact(Og.pin (b,o) (aal _ (aal _ (bu hb e)))).2.1
 exact codeAny_compStart_list loop (T.self X.A 0 _ _ _ (T.keep _ _ _ t3 (λb hb o e=>by rw[e4];exact kp b o e)) loop)
end
def o8(X:Cx)(E:XK):Prop:=∀(δ:List (Addr×Obj)) (σ:St) (H:Hp) (s:Shared) (C:Addr) (fH:Env) (e D:Value) (s':Shared) (use:Option (Value->Sem Unit)) (Q:Value->Shared->Prop),Inv X δ σ H s->(∃m,s.heap.Ns C m)->H C=none->X.s₀.heap.objs.size<=C->C≠X.env.locals->(∀z c,X.env.cells.lookup z=some c->c≠C)->(∀p∈X.pn++δ,p.1≠C)->fH.frame=X.env.frame->bP X.prog X.w X.stack H s E e s'->
 notedBy (model X.prog X.w) X.A fH (λe Mu=>compPost (model X.prog X.w) X.A X.xe use Q D C (.error e) Mu) e s'
def zb{e:Value}{a b:Env}(h:a.frame=b.frame):noteFrame e a=noteFrame e b:=by unfold noteFrame PySem.frameOf;rw[h]
section
variable{P:Program}{w:World}{K:gV}{base:Heap}{N:List Str}{qual:Str}{f:Addr}{cd:Value}{outer:List Env}{s₀:Shared}{H₀:Hp}
def gG:o8 (gf (bP P w) P w K mg base N qual scope f cd A outer s₀ H₀ E) E:=by
 intro δ σ H s C fH e D s' use Q I BM hC OZ hL jX hp Gv hx;have⟨x,o,H',B,rfl,os,bare,F,hE⟩:=hx;have⟨m,oC,es,ep,hg,hrest⟩:=BM;have P_:C∉jg (gf (bP P w) P w K mg base N qual scope f cd A outer s₀ H₀ E).stack:=λz=>by
  rcases aam.mp (I.nj C z) with q| q
  ·exact hL q
  ·have⟨_,ob,ho,_⟩:=I.ok.i9.mem q;exact aaG (aan ho) (Nat.not_lt.mpr OZ)
 have WD:B.get? C=some oC:=F.Kf C oC hg hC P_;show wpAny _ _ (noteFrame (.ref x) fH) _ _ s';rw[zb Gv];refine G8 (B:=B) I.ok.frames rfl F.wb λh4 f4 u4=>?_;have post:∃m,(⟨h4,s'.gens,s'.drawn,s'.toks,s'.os⟩:Shared).heap.Ns C m/\∀h',Heap.SameBut C h4 h'->∀fH:Env,fH.locals=C->wpAny (model P w) (A.deeper (envOfC qual scope s₀.heap.objs.size f cd)) (PySem.passOn "comprehension.variables-let-go" (.ref x) fH:Sem Value) (λ_ _=>False) (gf (bP P w) P w K mg base N qual scope f cd A outer s₀ H₀ E).xe {s' with heap:=h'}:=by
  refine⟨m,⟨oC,es,ep,f4.1 C oC WD,hrest⟩,λh' sb V8 _=>?_⟩;refine Kp (s:={s' with heap:=h'}) (J8 f4 WD P_ sb) λh5 fl5 f5 u5=>?_;show wpAny _ _ (do noteFrame (.ref x) _;setFlight (.ref x) none) _ _ _;refine aab (Nf (s:={s' with heap:=h5}) I.ok.frames rfl f5 λh6 f6 u6=>lI (s:={s' with heap:=h6}) f6 λh7 f7 u7=>?_);have Im:Inv (gf (bP P w) P w K mg base N qual scope f cd A outer s₀ H₀ E) δ σ H {s with heap:=PySem.W.hideAll s.heap [C],toks:=s.toks}:=I.turned (it:=C) (λb ob hb e=>PySem.W.hideAll_get _ e (by simpa using hb)) hC hL (.inr OZ) jX hp;have Wx:H' C=none:=F.un.free C oC hg hC (by simp);have wC:∀{b:Addr} {u:Obj},(PySem.W.hideAll s.heap [C]).get? b=some u->b≠C:=λe z=>by rw[z,PySem.W.hideAll_none _ aaf]at e;cases e
  refine⟨x,o,H',PySem.W.hideAll B [C],rfl,os.trans I.os,bare,yI.leave Im rfl o4 (λa ob e=>(F.ok a ob e).oq (λb v hb q=>PySem.W.hideAll_get _ q λz=>?_) (λ_ q=>q) λ_ _ q=>q) (Am f7) ?_ (λb ob _ q n hb=>PySem.W.hideAll_get _ (F.Kf b ob (PySem.W.of_hideAll _ q) n hb) (by simpa using wC q)) (λb ob _ q hb=>?_) (λb ob q hb=>?_) (λb ob q n=>F.un.free b ob (PySem.W.of_hideAll _ q) n (by simp)) F.un.jj F.un.iA F.un.iN,hE⟩
  ·have z:b=C:=by simpa using z
   rcases hb with hb| hb
   ·rw[<-hb,z,Wx]at e;cases e
   ·rw[z,Wx]at hb;cases hb
  ·show s₀.heap.get? x=none;cases q:s₀.heap.get? x with
   | none=>rfl
   | some u=>
    have⟨u',e1⟩:=I.base.there x u q nofun;by_cases hb:x∈jg (gf (bP P w) P w K mg base N qual scope f cd A outer s₀ H₀ E).stack
    ·have⟨vs,_,_,_,PB,_⟩:=F.wb.2.2.2;have⟨_,o',j0,hd⟩:=F.wb.2.2.1.mem hb;rw[PB]at j0;cases j0;exact aaG rfl (hd _)
    ·have⟨u2,e2⟩:=F.IA x u' e1 hb;rw[F.wb.2.1]at e2;cases e2
  ·have⟨o',q'⟩:=F.IA b ob (PySem.W.of_hideAll _ q) hb;exact⟨o',PySem.W.hideAll_get _ q' (by simpa using wC q)⟩
  ·have nb:=wC q;have⟨sl,e1⟩:=F.un.slot b ob (PySem.W.of_hideAll _ q) (I.jq b hb) hb (by simp);have⟨_,o',j0,hd⟩:=F.wb.2.2.1.mem hb;rw[e1]at j0;cases j0;have⟨OO,e2⟩:=u4 b _ e1 hd;have e3:=(sb.2 b nb).trans e2;have⟨YO,e4⟩:=((u5.trans u6).trans u7) b _ e3 hd;exact⟨YO,e4⟩
 cases use <;> exact post
end
section
variable{elt iter tg:Expr}{xs:List Str}{wi:TI}{tc:TT}{te:TE}
def GK(hL:o8 X E)(S:Ξ X scope xs ys Γ)(hc:X.calm=true)(hi:PI X tg iter wi)(hg:∀C s H fp,PG (Cx.comp X (xs++ys) scope C s H fp) tg gg)(hk:n9 xs.length gg)(ht:∀C s H fp,N6 (Cx.comp X (xs++ys) scope C s H fp) cs tc)(he:∀C s H fp,PE (Cx.qJ X (xs++ys) scope C s H fp E) elt te)(hs:∀x,foldedSetIterable iter X.env x=pure x:=by intro _;rfl):
  PE X (.ListComp elt [⟨tg,iter,cs,0⟩] scope pos) (uQ wi xs.length gg tc te Γ):=by
 intro δ s σ H Q I h;rw[eval_ListComp];refine wpAny_comprehension_free (use:=none) rfl hs (hU (S.has I.ok)) S.kind S.names (aT (hi δ s σ H _ I h) λv s1 h1=>aT h1 λO3 s2 h2=>?_);have⟨it,fp,tn,J,H2,rfl,I2,T,t0,f2,q⟩:=h2;refine tU S hc hg hk ht he (Q:=Q) I2 T t0 f2 q (λD C s' H' I' q' n' hC hz hL jX hp=>?_) (λD C H' sc e s' fH I n hC OZ hl jX hp hf hx=>hL _ _ _ _ _ _ _ _ _ _ _ I n hC OZ hl jX hp hf hx);have⟨m,n'⟩:=n';exact⟨m,n',λh' sb=>⟨.ref D,H',I'.turned (it:=C) (t':=s'.toks) (λb o hb e=>(sb.2 b hb).trans e) hC hL (.inr hz) jX hp,rfl,q'⟩⟩
def xl(hL:o8 X E){y:Str}{py gr:Pos}(hN:X.N.Nodup)(Dd:X.N[i]? =some y)(hy:Loc X.env.scope y)(S:Ξ X scope xs ys Γ)(hc:X.calm=true)(hi:PI X tg iter wi)(hg:∀C s H fp,PG (Cx.comp X (xs++ys) scope C s H fp) tg gg)(hk:n9 xs.length gg)(ht:∀C s H fp,N6 (Cx.comp X (xs++ys) scope C s H fp) cs tc)(he:∀C s H fp,PE (Cx.qJ X (xs++ys) scope C s H fp E) elt te)
  (Ap:swapsWith (.ListComp elt [⟨tg,iter,cs,0⟩] scope pos) (some (.Name y py)) gr.line X.env=pure true) (hs:∀x,foldedSetIterable iter X.env x=pure x)
  (hf:X.fn y=true\/X.env.scope.names.lookup y=some .local):
  PS X (.Assign [.Name y py] (.ListComp elt [⟨tg,iter,cs,0⟩] scope pos) gr) (λD σ H=>uQ wi xs.length gg tc te Γ σ H λv H1=>D.nx (σ.set i (some v)) H1):=by
 intro δ s σ H D I h;rw[exec_Assign_Name_used _ _ _ _ Ap];refine aab (wpAny_standAt (aab ?_));show wpAny _ _ (do let _<-comprehension (.ListComp elt [⟨tg,iter,cs,0⟩] scope pos) scope X.env _ (newList []) false (eval iter X.env) (some (assign (.Name y py) X.env))) _ _ s;refine aab (aaW (wpAny_comprehension_free (use:=some (assign (.Name y py) X.env)) (Q:=λ_ s'=>SP X δ D .next s') rfl hs (hU (S.has I.ok)) S.kind S.names (aT (hi δ s σ H _ I h) λv s1 h1=>aT h1 λO3 s2 h2=>?_)) (λ_ s' hq=>aar (aar hq)) λ_ _ e=>e);have⟨it,fp,tn,J,H2,rfl,I2,T,t0,f2,q⟩:=h2;refine tU S hc hg hk ht he (Q:=λv H1=>D.nx (σ.set i (some v)) H1) I2 T t0 f2 q (λDl C s' H' I' q' n' hC hz hL jX hp=>?_) (λD C H' sc e s' fH I n hC OZ hl jX hp hf hx=>hL _ _ _ _ _ _ _ _ _ _ _ I n hC OZ hl jX hp hf hx);have⟨m,n'⟩:=n';show wpAny _ _ (assign (.Name y py) X.env (.ref Dl)) _ _ s';refine wpAny_assign_Name (mB I' hN Dd hy (v:=.ref Dl) rfl (λs3 I3 ME=>?_) hf);have⟨a,ME,ha⟩:=ME;have TF:C≠a:=by
  rcases ha with rfl| ha
  ·exact hL
  ·exact(jX _ _ ha).symm
 exact⟨m,n'.sameBut ME TF,λh' sb=>⟨_,H',I3.turned (it:=C) (t':=s3.toks) (λb o hb e=>(sb.2 b hb).trans e) hC hL (.inr hz) jX hp,q'⟩⟩
end
def tS(g:Dt->En->(En->Prop)->Prop)(tc:DT)(te:DE)(xx:DX)(ρ0:En)(ok:Ms->Prop):List Dt->List Dt->Ms->(List Dt->Ms->Prop)->Prop
 | [],Κ,M,k=>ok M/\k Κ M
 | x::xs,Κ,M,k=>ok M/\g x ρ0 λρ'=>tc ρ' M (λb M1=>match b with
  | true=>te ρ' M1 (λd M2=>tS g tc te xx ρ0 ok xs (Κ++[d]) M2 k) xx
  | false=>tS g tc te xx ρ0 ok xs Κ M1 k) iB
def yp{K:gV}{J:It}{g:Dt->En->(En->Prop)->Prop}{tc:DT}{nn:Nat}{ρ:En}{G1:Hp}{L1:List Addr}{M1:Ms}{H1:Hp}{ok:Ms->Prop}{Dl:Addr}{Q:VK}{k:List Dt->Ms->Prop}{xx:DX}(PB:o6 K G1 L1 H1 (λ_=>E) xx)(gd:GD K gg g)(r1:Rl K G1 L1 M1 H1)(n:gm K G1 L1 ρ σ)(y:NO K J xs ok G1 L1)(hD:H1 Dl=none)(hz:xs.length<=sizeLine)
  (h:tS g tc te xx (List.replicate nn none++gY Γ ρ) ok xs [] M1 k)
  (fin:∀G2 L2 M2 H2 ds vs,Ex G1 L1 H1 G2 L2 H2->Rl K G2 L2 M2 H2->G2 Dl=none->Dl∉L2->H2 Dl=some (.lst vs)->Λ K G2 L2 ds vs->k ds M2->Q (.ref Dl) H2):
  p7 J nn gg (vj K (λ_=>E0) tc) (i7 K (λ_=>E) te) (f_ Γ σ) Q H1 Dl:=by
 refine⟨λi m ys H2=>m+i=xs.length/\H2 Dl=some (.lst ys)/\∃Κ G2 L2 M2,Ex G1 L1 H1 G2 L2 H2/\Rl K G2 L2 M2 H2/\G2 Dl=none/\Dl∉L2/\Λ K G2 L2 Κ ys/\Κ.length<=i/\tS g tc te xx (List.replicate nn none++gY Γ ρ) ok (xs.drop i) Κ M2 k,⟨xs.length,rfl,Η,[],G1,L1,M1,?_⟩,?_⟩
 ·have gn:G1 Dl=none:=r1.sub.free hD;refine⟨⟨.refl _,.refl _,λ_ h _=>h,λb u h1 _=>by rw[ξ (λz=>by rw[z,hD]at h1;cases h1)];exact h1,λ_ h=>.inl h,λb h=>by rw[ξ (λz=>h (by rw[z];exact hD))];exact h⟩,⟨λb u e=>by rw[ξ (λz=>by rw[z,gn]at e;cases e)];exact r1.sub b u e,r1.len,r1.nd,λi a m h1 h2=>?_⟩,gn,r1.DP hD,rfl,aaq _,by rw[abC];exact h⟩;have⟨q1,q2⟩:=r1.fF i a m h1 h2;exact⟨q1,q2.mono (.refl _) (.refl _) (ξ λz=>q2.there (by rw[z];exact hD))⟩
 ·rintro i m ys H2 ⟨hm,pJ,Κ,G2,L2,M2,e2,r2,g2,l2,n2,la,h2⟩;refine⟨pJ,?_⟩;have ne1:∀{b:Addr} {u:HO},H1 b=some u->b≠Dl:=λe z=>by rw[z,hD]at e;cases e
  by_cases hi:i < xs.length
  ·right;have hd:xs[i]? =some xs[i]:=aaa hi;rw[abn hi]at h2;have⟨av,h2⟩:=h2;have⟨go,yl⟩:=y.go i G2 L2 M2 H2 _ e2.g e2.l r2 av hd;refine⟨go,λv H3 hy os Kb=>?_⟩;have⟨G3,e3,r3,n3⟩:=yl v H3 hy;have h3:H3 Dl=some (.lst ys):=e3.out _ _ pJ l2;have g3:G3 Dl=none:=e3.fr _ g2 (by rw[pJ];simp);refine gd G3 L2 M2 H3 _ v _ _ _ _ r3 n3 (B4 ((n.mono e2).mono e3) Γ Kb) h2 λρ' σ' n' h'=>?_;refine⟨G3,L2,ρ',M2,_,iB,r3,n',h',m7,λb H4 xz=>?_⟩;have⟨G4,L4,M4,e4,r4,h4⟩:=xz;have KL:H4 Dl=some (.lst ys):=e4.out _ _ h3 l2;have g4:G4 Dl=none:=e4.fr _ g3 (by rw[h3];simp);have l4:Dl∉L4:=λz=>(e4.new _ z).elim l2 λq=>by rw[h3]at q;cases q
   have IC:=e3.trans e4;cases b with
   | false=>
    exact⟨m - 1,(),(),KL,Κ,G4,L4,M4,e2.trans IC,r4,g4,l4,Λ.mono IC.g IC.l _ _ n2,(),h4⟩
   | true=>
    refine⟨G4,L4,ρ',M4,_,xx,r4,n'.mono e4,h4,PB.on (e2.trans IC),λv5 H5 xz=>?_⟩;have⟨d5,G5,L5,M5,e5,r5,n5,h5⟩:=xz;have Tn:H5 Dl=some (.lst ys):=e5.out _ _ KL l4;have g5:G5 Dl=none:=e5.fr _ g4 (by rw[KL];simp);have l5:Dl∉L5:=λz=>(e5.new _ z).elim l4 λq=>by rw[KL]at q;cases q
    have Oi:=IC.trans e5;have PM:ys.length=Κ.length:=by rw[<-n2.length]
    refine⟨Tn,(),m - 1,(),(),Η,Κ++[d5],G5,L5,M5,?_,?_,g5,l5,(Λ.mono Oi.g Oi.l _ _ n2).app ⟨_,_,rfl,n5,rfl⟩,by rw[aae];show Κ.length+1<=i+1;omega,h5⟩
    ·have CB:=e2.trans Oi
     exact⟨CB.g,CB.l,CB.fr,λb u h1 h2=>by rw[ξ (ne1 h1)];exact CB.out b u h1 h2,CB.new,λb h=>by
      by_cases hb:b=Dl
      ·rw[hb,Η];simp
      ·rw[ξ hb];exact CB.sA b h⟩
    ·refine⟨λb u e=>by rw[ξ (λz=>by rw[z,g5]at e;cases e)];exact r5.sub b u e,r5.len,r5.nd,λi a m h1 h2=>?_⟩;have⟨q1,q2⟩:=r5.fF i a m h1 h2;exact⟨q1,q2.mono (.refl _) (.refl _) (ξ λz=>l5 (by rw[<-z];exact aaA h1))⟩
  ·left;rw[abw ()]at h2;exact⟨y.stop i G2 L2 M2 H2 e2.g e2.l r2 h2.1 (),fin G2 L2 M2 H2 Κ ys e2 r2 g2 l2 pJ n2 h2.2⟩
def fX(te:DE)(xx:DX)(cs:En)(ok:Ms->Prop):List Dt->List Dt->Ms->(List Dt->Ms->Prop)->Prop
 | [],Κ,M,k=>ok M/\k Κ M
 | x::xs,Κ,M,k=>ok M/\te (some x::cs) M (λd M1=>fX te xx cs ok xs (Κ++[d]) M1 k) xx
def pj{te:DE}{xx:DX}{cs:En}{ok:Ms->Prop}:∀xs,fX te xx cs ok xs=tS (gN 0) lH te xx (none::cs) ok xs
 | []=>rfl
 | x::xs=>funext λΚ=>funext λM=>funext λk=>by show(ok M/\te (some x::cs) M (λd M1=>fX te xx cs ok xs (Κ++[d]) M1 k) xx)=(ok M/\te (some x::cs) M (λd M1=>tS (gN 0) lH te xx (none::cs) ok xs (Κ++[d]) M1 k) xx);rw[pj xs]
def jF(ti:DK)(te:DE)(Γ:List Nat):DE:=λρ M q x=>ti ρ M (λxs ok M1=>xs.length<=sizeLine/\fX te (λ_=>x ρ) (gY Γ ρ) ok xs [] M1 (λys M2=>q (.lst ys) M2)) x
section
variable{elt iter:Expr}{x:Str}{px:Pos}{ti:DK}(hL:o8 X E)(S:Ξ X scope [x] ys Γ)(hi:JK X (λ_=>E) (.Name x px) iter ti)(he:∀C s H fp,JE (Cx.qJ X (x::ys) scope C s H fp E) (λ_=>E) elt te)
include hL S hi he
def lM(hc:X.calm=true:=by rfl)(hs:∀x,foldedSetIterable iter X.env x=pure x:=by intro _;rfl):JE X (λ_=>E) (.ListComp elt [⟨.Name x px,iter,[],0⟩] scope pos) (jF ti te Γ):=
 .of (GK hL (tc:=vj X.K (λ_=>E0) lH) (te:=i7 X.K (λ_=>E) te) S hc hi (λC s H fp=>cD S (i:=0) rfl C s H fp) (bz (Nat.zero_lt_succ 0)) (λ_ _ _ _=>eS) he hs) λσ H G L ρ M q x rl n h hx=>⟨G,L,ρ,M,_,x,rl,n,h,hx,fun J H1 ⟨xs,ok,G1,L1,M1,e1,r1,y,hz,h1⟩ D hD=>
  yp (xx:=λ_=>x ρ) (λσ' ρ' C fs M' G' L' H' od q e' r _ y=>hx σ ρ C fs M' G' L' H' od q (e1.trans e') r ((n.mono e1).mono e') y) (nn:=1) bV r1 (n.mono e1) y hD hz (by rw[pj]at h1;exact h1) λG2 L2 M2 H2 ds vs e2 r2 g2 l2 h2 n2 k=>Fin.back e1 (uA e2 r2 hD g2 l2 h2 n2 k)⟩
def lT{z:Str}{py gr:Pos}(hN:X.N.Nodup)(Dd:X.N[i]? =some z)(hy:Loc X.env.scope z)(hc:X.calm=true:=by rfl)(hs:∀x,foldedSetIterable iter X.env x=pure x:=by intro _;rfl)(Ap:swapsWith (.ListComp elt [⟨.Name x px,iter,[],0⟩] scope pos) (some (.Name z py)) gr.line X.env=pure true:=by rfl)(hf:X.fn z=true\/X.env.scope.names.lookup z=some .local:=by exact .inl rfl):
  JS X (λ_=>E) (.Assign [.Name z py] (.ListComp elt [⟨.Name x px,iter,[],0⟩] scope pos) gr) (m8 i (jF ti te Γ)):=
 .of (xl hL (tc:=vj X.K (λ_=>E0) lH) (te:=i7 X.K (λ_=>E) te) hN Dd hy S hc hi (λC s H fp=>cD S (i:=0) rfl C s H fp) (bz (Nat.zero_lt_succ 0)) (λ_ _ _ _=>eS) he Ap hs hf) λσ H G L ρ M Dn rl n h hx=>by
 refine⟨G,L,ρ,M,_,_,rl,n,h,hx,fun J H1 ⟨xs,ok,G1,L1,M1,e1,r1,y,hz,h1⟩ D hD=>
  yp (xx:=λ_=>Dn.x ρ) (λσ' ρ' C fs M' G' L' H' od q e' r _ y=>hx σ ρ C fs M' G' L' H' od q (e1.trans e') r ((n.mono e1).mono e') y) (nn:=1) bV r1 (n.mono e1) y hD hz (by rw[pj]at h1;exact h1) λG2 L2 M2 H2 ds vs e2 r2 g2 l2 h2 n2 k=>?_⟩
 have⟨d,G3,L3,M3,e3,r3,n3,h3⟩:=uA (q:=λd M=>Dn.nx (ρ.set i (some d)) M) e2 r2 hD g2 l2 h2 n2 k;exact⟨_,G3,L3,M3,e1.trans e3,r3,((n.mono e1).mono e3).set i n3,h3⟩
end
def Lh(K:gV)(D:Addr)(i:Nat)(CC:Addr->Prop)(tb:DS)(ts:Addr->Addr->Option Addr->DS):DS:=λDn ρ M=>
 tb {Dn with x:=λρ' C fs M'=>CC C/\PySem.W.subIn K (.ref C) (.ref D)=some true/\∀x od,ts x C od (qp i Dn) (ρ'.set i (some (.Eo x C od (fs.map (·.1)) (fs.map (·.2))))) M'} ρ M
section
variable{body:List Stmt}{D:Addr}{dn n:Str}{b₀:Stmt}{bB:List Stmt}{u3 np:Pos}{tb:DS}{ts:Addr->Addr->Option Addr->DS}{l_:List Value}{fk:String}
def Jv(CC:Addr->Prop)(hN:X.N.Nodup)(hi:X.N[i]? =some n)(d:cR X.K D l_ fk)(Ga:l_.contains (.type "BaseException")=true)(hm:X.mg dn=some (.ref D))
  (hb:∀(R:St->XK) (δ:List (Addr×Obj)),zZ (Cx.ND X R δ) R body tb)
  (hs:∀(x C:Addr) (od:Option Addr) (pn:List (Addr×Obj)),CC C->tY (Cx.bB X x pn) x C od->zZ (Cx.bB X x pn) (λ_=>E0) (b₀::bB) (ts x C od)) (hk:X.env.scope.names.lookup n=some .local:=by rfl) (hc:X.calm=true:=by rfl) (tD:X.stack=X.env::X.outer:=by rfl) (hf:X.env.frame=some X.env.locals:=by rfl) (hg:Gl X dn:=by rfl) (ku:(dn==("__debug__":Str))=false:=by decide):
  JS X R (.Try body [.ExceptHandler (some (.Name dn np)) (some n) (b₀::bB) u3] [] [] pos) (Lh X.K D i CC tb ts):=
 .of (KN (tb:=λR=>Km X.K R tb) (ts:=λx C od=>Km X.K (λ_=>E0) (ts x C od)) (λC _=>CC C) hN hi hk hc tD hf d Ga hg hm hb (λx C od pn jX ex=>hs x C od pn jX ex) ku) λσ H G L ρ M Dn rl n h hx=>by
  refine⟨λσ' cls od H'=>∃ρ' C fs M' G' L',cls= .ref C/\(CC C/\PySem.W.subIn X.K (.ref C) (.ref D)=some true/\∀x od,ts x C od (qp i Dn) (ρ'.set i (some (.Eo x C od (fs.map (·.1)) (fs.map (·.2))))) M')/\Ex G L H G' L' H'/\Rl X.K G' L' M' H'/\gm X.K G' L' ρ' σ'/\KG X.K G' L' H' fs od,?_,?_⟩
  ·exact⟨G,L,ρ,M,_,rl,n,h,λσ' ρ' C fs M' G' L' H' od hq e r n y=>⟨ρ',C,fs,M',G',L',rfl,hq,e,r,n,y⟩,⟨λ_ _ f=>f,λ_ _ f=>f,λ_ _ f=>f,λ_ _ f=>f⟩⟩
  ·rintro σ' cls od H' ⟨ρ',C,fs,M',G',L',rfl,⟨jX,Ua,UR⟩,e,r,n',y⟩;refine⟨C,rfl,jX,Ua,λx ZZ=>?_⟩;exact⟨G',L',_,M',qp i Dn,r,n'.set i (d:=.Eo x C od (fs.map (·.1)) (fs.map (·.2))) (JH y),UR x od,m7,⟨λσ1 H1 ⟨ρ1,G1,L1,M1,e1,r1,n1,h1⟩=>⟨_,G1,L1,M1,e.trans e1,r1,n1.unset i,h1⟩,λ_ _ f=>Fin.back e f,λσ1 H1 ⟨ρ1,G1,L1,M1,e1,r1,n1,h1⟩=>⟨_,G1,L1,M1,e.trans e1,r1,n1.unset i,h1⟩,λσ1 H1 ⟨ρ1,G1,L1,M1,e1,r1,n1,h1⟩=>⟨_,G1,L1,M1,e.trans e1,r1,n1.unset i,h1⟩⟩⟩
end
def v8(ρ:En)(q:DQ)(x:DX):List (DE×DE)->List (Key×Dt)->Ms->Prop
 | [],Κ,M=>(Κ.map (·.1)).Nodup/\Κ.length<=15/\q (.loc M.length) (M++[.rB (Κ.map (·.1)) (Κ.map (·.2))])
 | (s,t)::r,Κ,M=>s ρ M (λc M1=>t ρ M1 (λd M2=>∃y,D9 c=some y/\v8 ρ q x r (Κ++[(y,d)]) M2) x) x
def Er(ts:List (DE×DE)):DE:=λρ M q x=>v8 ρ q x ts [] M
def yj{K:gV}{R:St->XK}{G0:Hp}{L0:List Addr}{H0:Hp}{p:Addr}{ρ:En}{σ:St}{q:DQ}{x:DX}(e0:Ex G0 L0 H0 G0 L0 (upd H0 p (.dK [])))(hp:H0 p=none):∀(ts:List (DE×DE)) (Κ:List (Key×Dt)) (vs:List V) (G:Hp) (L:List Addr) (M:Ms) (H:Hp) (Q:List (V×V)->Hp->Prop),AO K G0 L0 H0 p G L M H->gm K G L ρ σ->o6 K G L H R x->Λ K G L (Κ.map (·.2)) vs->
  (∀(ws:List (V×V)) (H2:Hp),(H2 p=some (.dK [])/\∃Ο:List (Key×V),(Κ.zip vs).map (λa=>(kV a.1.1,a.2))++ws=Ο.map (λkv=>(kV kv.1,kv.2))/\Ο.length<=15/\Fin K G0 L0 H0 q (.ref p) (upd H2 p (.dK (i3 [] Ο))))->Q ws H2)->
  v8 ρ q x ts Κ M->uz (ts.map λt=>(i7 K R t.1,i7 K R t.2)) σ H Q
 | [],Κ,vs,G,L,M,H,Q,a,n,hx,dn,hQ,h=>by
  have⟨nd,Y',h⟩:=h;have hl:Κ.length=vs.length:=by have:=dn.length;rw[aac]at this;exact this
  refine hQ [] H ⟨a.at_,(Κ.map (·.1)).zip vs,?_,by rw[abc,aac];omega,?_⟩
  ·rw[aaO];clear dn hQ h nd Y'
   induction Κ generalizing vs with
   | nil=>rfl
   | cons b Κ ih=>
    cases vs with
    | nil=>rfl
    | cons v vs=>exact congrArg _ (ih vs (by simpa using hl))
  ·rw[tN _ [] (λ_ _=>rfl) (by rw[List.map_fst_zip (by rw[aac];omega)];exact nd),aaI];exact a.fin (ks:=Κ.map (·.1)) (ds:=Κ.map (·.2)) (vs:=vs) e0 hp (by simp) dn h
 | (s,t)::r,Κ,vs,G,L,M,H,Q,a,n,hx,dn,hQ,h=>by
  refine⟨G,L,ρ,M,_,x,a.rl,n,h,hx,λu1 H1 xz=>?_⟩;have⟨d1,G1,L1,M1,e1,r1,n1,h1⟩:=xz;refine⟨G1,L1,ρ,M1,_,x,r1,n.mono e1,h1,hx.on e1,λu2 H2 xz=>?_⟩;have⟨d2,G2,L2,M2,e2,r2,n2,y,hy,h2⟩:=xz;have LD:=e1.trans e2;obtain rfl:u1=kV y:=l7 hy n1;have hl:Κ.length=vs.length:=by have:=dn.length;rw[aac]at this;exact this
  refine yj e0 hp r (Κ++[(y,d2)]) (vs++[u2]) G2 L2 M2 H2 _ ((a.on e1 r1).on e2 r2) (n.mono LD) (hx.on LD) ?_ (λws H3 h3=>hQ _ H3 ?_) h2
  ·rw[aaU];exact(Λ.mono LD.g LD.l _ _ dn).app ⟨_,_,rfl,n2,rfl⟩
  ·have⟨z,Ο,ek,r⟩:=h3;refine⟨z,Ο,?_,r⟩;rw[<-ek,List.zip_append hl,aaU,aaQ];rfl
def SA(X:Cx)(R:St->XK)(pos:Pos)(keys:List (Option Expr))(values:List Expr)(ts:List (DE×DE)):Prop:=Q_ X pos keys values (ts.map λt=>(i7 X.K R t.1,i7 X.K R t.2))
def J7:SA X R pos [] [] []:=Je
def fB{k v:Expr}{ks:List (Option Expr)}{vs:List Expr}{s t:DE}(hk:JE X R k s)(hv:JE X R v t)(hr:SA X R pos ks vs ts):SA X R pos (some k::ks) (v::vs) ((s,t)::ts):=FH hk hv hr
def Kg{keys:List (Option Expr)}{values:List Expr}(h:SA X R pos keys values ts)(GR:keys.all (·.isSome)=true:=by rfl)(hl:keys.length=values.length:=by rfl)(h0:keys≠[]:=by simp)(TR:keys.length<=15:=by decide):JE X R (.Dict keys values pos) (Er ts):=
 .of (Kv h GR hl h0 TR) λσ H G L ρ M q x rl n h hx=>by intro p hp;have⟨e0,a0⟩:=QN rl hp;exact yj e0 hp ts [] [] G L M _ _ a0 n (hx.on e0) rfl (λws H2 h2=>h2) h
section
variable{H:Hp}
def BS(I:Inv X δ σ H s){xs ys:List V}(h:jN X.K H a xs)(h':fG X.K H a ys):False:=by have⟨_,_,⟨o,n,e,c,_⟩,_⟩:=I.list h';have⟨_,_,⟨o2,e2,c2,_⟩,_⟩:=I.tuple h;rw[e]at e2;cases e2;rw[c]at c2;exact aaG (Value.type.inj c2) @_
def Gk(I:Inv X δ σ H s){x y:V}(h:CW X.K H n x y b):∀{b':Bool},CW X.K H n x y b'->b=b':=by
 induction h with
 | flat h1 h2=>
  intro b' h';cases h' with
  | flat=>rfl
  | tup=>cases h1
  | lst=>cases h1
  | len=>cases h1
 | @tup n a b xs ys f h1 h2 h ih=>
  intro b' h';cases h' with
  | flat rC=>cases rC
  | @tup _ _ _ xs' ZT f' rC OD h'=>
   cases I.jB h1 rC;cases I.jB h2 OD
   congr 1
   rw[aa7,abi,abi];have key:∀j∈List.range (min xs.length ys.length),f j=f' j:=λj hj=>by
    have hj:=abk.mp hj;have l1:j < xs.length:=()
    have l2:j < ys.length:=()
    exact ih j _ _ (aaa l1) (aaa l2) (h' j _ _ (aaa l1) (aaa l2))
   exact⟨λz j hj=>by rw[<-key j hj];exact z j hj,λz j hj=>by rw[key j hj];exact z j hj⟩
  | lst rC=>exact(BS I h1 rC).elim
  | len rC=>exact(BS I h1 rC).elim
 | @lst n a b xs ys f h1 h2 hl h ih=>
  intro b' h';cases h' with
  | flat rC=>cases rC
  | tup rC=>exact(BS I rC h1).elim
  | @lst _ _ _ xs' ZT f' rC OD Le h'=>
   cases I.b8 h1 rC;cases I.b8 h2 OD;rw[aa7,abi,abi];have key:∀j∈List.range xs.length,f j=f' j:=λj hj=>by
    have l1:=abk.mp hj;have l2:j < ys.length:=()
    exact ih j _ _ (aaa l1) (aaa l2) (h' j _ _ (aaa l1) (aaa l2))
   exact⟨λz j hj=>by rw[<-key j hj];exact z j hj,λz j hj=>by rw[key j hj];exact z j hj⟩
  | len rC OD Le=>
   cases I.b8 h1 rC;cases I.b8 h2 OD;exact aaG hl Le
 | len h1 h2 hl=>
  intro b' h';cases h' with
  | flat rC=>cases rC
  | tup rC=>exact(BS I rC h1).elim
  | lst rC OD Le=>
   cases I.b8 h1 rC;cases I.b8 h2 OD;exact aaG Le hl
  | len=>rfl
end
def FE(K:gV)(n:Nat):V->List V->Hp->VK->Prop:=λx vs H Q=>∃p xs y,∃f:Nat->Bool,∃j:Nat,x= .ref p/\vs=[y]/\fG K H p xs/\(∀i z,xs[i]? =some z->CW K H n z y (f i))/\j < xs.length/\f j=true/\(∀i,i < j->f i=false)/\Q (.int (j:Int)) H
def Ey(hu:X.A.units+(n+1) < cLine):Xa X "list.index" (FE X.K n):=by
 intro δ s σ H x vs v us Q I rx rv h;have⟨p,xs,y,f,j,rfl,rfl,hq,hf,hj,ft,ff,q⟩:=h;cases rx;have⟨u,rfl,ru⟩:=rv.one;have⟨its,r,pl,hz⟩:=I.list hq;have⟨⟨cls,dd,data,sl⟩,nn,ho,hc,WG,hd⟩:=id pl;simp only at hc hd;subst hc hd
 classical
 have Yv:X.A.in1.units+n < cLine:=by show X.A.units+1+n < cLine;omega
 have lz:its.toArray.size=xs.length:=by rw[aaC,<-r.length]
 have XG:sizeLine < 2 ^ 63 - 1:=@_
 have uq:∀i i' (z:V),xs[i]? =some z->xs[i']? =some z->f i=f i':=λi i' z h1 h2=>Gk I (hf i z h1) (hf i' z h2);have ev:∀(m:Nat) (hm:m < its.toArray.size),decide (∃i z,xs[i]? =some z/\aj z its.toArray[m]/\f i=true)=f m:=λm hm=>by
  have⟨z,hz,rz⟩:=cC r hm;by_cases c:∃i z,xs[i]? =some z/\aj z its.toArray[m]/\f i=true
  ·rw[aaK c];have⟨i,z',h1,h2,h3⟩:=c;cases rz.inj h2;rw[uq m i z hz h1,h3]
  ·rw[aao c];cases e:f m with
   | false=>rfl
   | true=>exact aaG ⟨m,z,hz,rz,e⟩ c
 refine call_meets F.slot_list_index ⟨_,ho,rfl⟩ F.entry_list_index (F.args_list_index_2 _ _) (SeqAt.list_indexAt p its.toArray nn dd sl u (λw=>decide (∃i z,xs[i]? =some z/\aj z w/\f i=true)) j () () ((ev j ()).trans ft) (λm hm h=>(ev m hm).trans (ff m h))) ⟨ho,λw hw=>?_,.int (j:Int),H,I.tok _,⟨_,rfl⟩,q⟩;have⟨m,hm,rfl⟩:=Array.mem_iff_getElem.mp hw;have⟨z,hz,rz⟩:=cC r hm;have:=ev m hm;exact this▸Ag I (hf m z hz) rz ru Yv
section
variable{o:Expr}{af:Pos}
def z6(n:Nat)(to:DE)(t:DA):DE:=λρ M q x=>to ρ M (λd M1=>(∃xs,nq M1 d=some xs)/\t ρ M1 (λds M2=>∃y xs,∃f:Nat->Bool,∃j:Nat,ds=[y]/\nq M2 d=some xs/\(∀i z,xs[i]? =some z->Ed M2 n z y (f i))/\j < xs.length/\f j=true/\(∀i,i < j->f i=false)/\q (.int (j:Int)) M2) x) x
def JD(n:Nat)(hr:bp k' X.A)(ho:JE X R o to)(ha:JA X R [e] t)(hn:n+1<=64:=by decide)(cE:attributeBase o "index" X.env (eval o X.env)=eval o X.env:=by rfl)
  (kM:((backTo af (starEach [e] X.env)).all (λx=> !x.1)&&(backToKw af (keywordEach [] X.env)).all (λx=>x.1.isSome)
   &&decide (([e]:List Expr).length+([]:List Keyword).length+(if ([]:List Keyword).isEmpty then 0 else 1) < 30))=true:=by rfl)
  (e9:(apos.endLine==af.line)=true:=by rfl) (hs:starEach [e] X.env=(false,eval e X.env)::starEach [] X.env:=by rfl) (cf:(backTo af (starEach [] X.env)).any (·.1)=false:=by rfl):
  JE X R (.Call (.Attribute o "index" apos) [e] [] af) (z6 n to t):=
 .of (Ht PySem.F.plainAttrs_list PySem.F.slot_list_index PySem.F.type_list_index (r:=FE X.K n) (Ey (Rx hr hn)) ho ha cE kM e9 hs cf) λσ H G L ρ M q x rl n h hx=>by refine⟨G,L,ρ,M,_,x,rl,n,h,hx,λv H1 xz=>?_⟩;have⟨d1,G1,L1,M1,e1,r1,n1,⟨xs,hm⟩,h1⟩:=xz;have⟨a,vs,rfl,sq,m⟩:=dG r1 n1 hm;refine⟨.inl ⟨rfl,vs,sq⟩,G1,L1,ρ,M1,_,x,r1,n.mono e1,h1,hx.on e1,λus H2 xz=>?_⟩;have⟨ds,G2,L2,M2,e2,r2,n2,y,xs',f,j,ed,T3,hf,hj,ft,ff,h2⟩:=xz;subst ed;have⟨u,rfl,n3⟩:=aC n2;have⟨a2,Qu,ea,SW,m2⟩:=dG r2 (Den.mono e2.g e2.l _ _ n1) T3;cases ea;refine⟨a,Qu,u,f,j,rfl,rfl,SW,λi z hz=>?_,by rw[<-m2.length];exact hj,ft,ff,.int (j:Int),G2,L2,_,e1.trans e2,r2,rfl,h2⟩;have⟨d,hd,dn⟩:=m2.back hz;exact LW r2 (hf i d hd) dn n3
end
def Qw(K:gV)(n:Nat)(t:IW):TG:=λv σ H Q=>∃a xs,v= .ref a/\fG K H a xs/\xs.length=n/\t xs σ H Q
section
variable{tg:Expr}
def Ou{k:Nat}{t:IW}(hc:X.calm=true)(h:Qd X es t)
  (hn:(assignEach es X.env).length=n:=by rfl) (tD:(assignEach es X.env).findIdx? (·.1)=none:=by rfl):PG X (.Tuple es k pos) (Qw X.K n t):=by
 intro δ s σ H v u Q I r hw;have⟨a,xs,e1,hq,hl,hw⟩:=hw;subst e1;cases r;have⟨its,rv,pl,hz⟩:=I.list hq;rw[PyProof.Rows.assign_Tuple];refine aab (wpAny_standAt ?_);unfold unpack;have e:(assignEach es X.env).length=its.toArray.size:=by rw[hn,<-hl,rv.length];simp
 rw[e,tD];refine aab (wpAny_holding (PySem.W.kun_itemsOf (I.ok.hd hc) pl.isList λh' hx=>?_));have I1:Inv X δ σ H {s with heap:=h'}:=I.kept (t':=s.toks) λb o e=>hx b o (aaH (aan e)) e;exact h δ _ σ H xs _ Q I1 (by simpa using rv) hw
def HJ(i j k:Nat)(t:DE):DS:=λDn ρ M=>t ρ M (λd M1=>∃a b c,nq M1 d=some [a,b,c]/\Dn.nx (((ρ.set i (some a)).set j (some b)).set k (some c)) M1) Dn.x
def G_{j k:Nat}(he:JE X R e te)(hg:PG X tg (Qw X.K 3 (nG (ix i) (nG (ix j) (nG (ix k) KR)))))(hs:swapsWithSole [tg] e pos.line X.env=pure false:=by rfl)(hw:swappedStores [tg] e X.env=pure none:=by rfl)
  (h1:(assignEach [tg] X.env).map (·.2)=[assign tg X.env]:=by rfl):JS X R (.Assign [tg] e pos) (HJ i j k te):=.of (zI he hg hs hw h1) λσ H G L ρ M Dn rl n h hx=>by
 refine⟨G,L,ρ,M,_,_,rl,n,h,hx,λv H1 xz=>?_⟩;have⟨d1,G1,L1,M1,e1,r1,n1,a,b,c,hl,h1⟩:=xz;have⟨p,vs,rfl,sq,m⟩:=dG r1 n1 hl;have⟨v1,r',rfl,m1,m'⟩:=m;have⟨v2,v3,rfl,m2,m3⟩:=fi m';exact⟨p,_,rfl,sq,rfl,v1,_,rfl,v2,_,rfl,v3,_,rfl,rfl,_,G1,L1,M1,e1,r1,(((n.mono e1).set i m1).set j m2).set k m3,h1⟩
end
end L2
namespace Fr0
variable{b t:Int}
def g(a b:Int):Int:=(Int.gcd a b:Nat)
def HV{a:Int}(h:b≠0):0 < g a b:=by have:=Int.gcd_pos_of_ne_zero_right a h;unfold g;omega
def OS{a:Int}(h:0<=a):g a 0=a:=by unfold g;rw[Int.gcd_zero_right];omega
def Mg{a:Int}(hb:0 < b):g b (a.fmod b)=g a b:=by
 unfold g;rw[abz a (abe hb),Int.gcd_comm a b]
 congr 1
 refine Int.gcd_right_eq_iff.mpr λc hc=>?_;rw[Int.emod_def];constructor
 ·intro h;have:=Int.dvd_add h (Int.dvd_mul_of_dvd_left (c:=a / b) hc);rwa[Int.sub_add_cancel]at this
 ·intro h;exact Int.dvd_sub h (Int.dvd_mul_of_dvd_left (c:=a / b) hc)
def Qj(a b:Int):g (if a < 0 then -a else a) (if b < 0 then -b else b)=g a b:=by unfold g;split <;> split <;> simp
def dv(t b:Int):Int:=if b < 0 then -(g t b) else g t b
def gK(t b:Int):Int×Int:=(t.fdiv (dv t b),b.fdiv (dv t b))
def Lm(h:b≠0):dv t b≠0:=by have:=HV (a:=t) h;unfold dv;split <;> omega
def yu{k p:Int}(h:k≠0):(k * p).fdiv k=p:=by rw[Int.mul_comm];exact Int.mul_fdiv_cancel p h
def GU(h:b≠0):∃p q:Int,t=dv t b * p/\b=dv t b * q/\0 < q/\Int.gcd p q=1:=by
 have hg:=HV (a:=t) h;have h0:0 < Int.gcd t b:=Int.gcd_pos_of_ne_zero_right t h;have⟨p,hp⟩:=Int.gcd_dvd_left t b;have⟨q,hq⟩:=Int.gcd_dvd_right t b;have hc:Int.gcd p q=1:=by
  have e:=Int.gcd_ediv_gcd_ediv_gcd h0;have n0:(Int.gcd t b:Int)≠0:=()
  have e1:t / (Int.gcd t b:Int)=p:=by
   conv=>lhs;arg 1;rw[hp]
   exact Int.mul_ediv_cancel_left p n0
  have e2:b / (Int.gcd t b:Int)=q:=by
   conv=>lhs;arg 1;rw[hq]
   exact Int.mul_ediv_cancel_left q n0
  rwa[e1,e2]at e
 have D8:t=g t b * p:=hp;have eK:b=g t b * q:=hq;by_cases hb:b < 0
 ·have hd:dv t b= -(g t b):=by unfold dv;rw[if_pos hb]
  refine⟨-p,-q,?_,?_,?_,?_⟩
  ·rw[hd,Int.neg_mul_neg];exact D8
  ·rw[hd,Int.neg_mul_neg];exact eK
  ·have:g t b * q < 0:=by rw[<-eK];exact hb
   by_cases q0:0<=q
   ·exact aaG (Int.mul_nonneg (abe hg) q0) ()
   ·omega
  ·simpa using hc
 ·have hd:dv t b=g t b:=by unfold dv;rw[if_neg hb]
  refine⟨p,q,by rw[hd];exact D8,by rw[hd];exact eK,?_,hc⟩;have:0 < g t b * q:=by rw[<-eK];omega
  exact Int.pos_of_mul_pos_right this hg
def mx  (h : b ≠ 0) : ∃p q : Int,gK t b = (p,q) /\ 0 < q /\ Int.gcd p q = 1 /\ t = dv t b * p /\ b = dv t b * q :=by
  obtain⟨p,q,hp,hq,h0,hc⟩ :=GU (t :=t) h;have n0 :=Lm (t :=t) h;refine⟨p,q,?_,h0,hc,hp,hq⟩;unfold gK
  have e1 : t.fdiv (dv t b) = p := by conv => lhs; arg 1; rw [hp]
                                      exact yu n0
  have e2 : b.fdiv (dv t b) = q := by conv => lhs; arg 1; rw [hq]
                                      exact yu n0
  rw[e1,e2]
def zt(h:b≠0):t * (gK t b).2=b * (gK t b).1:=by
 have⟨p,q,e,_,_,hp,hq⟩:=mx (t:=t) h;rw[e];show t * q=b * p
 calc t * q=dv t b * p * q:=by rw[<-hp]
  _=dv t b * q * p:=by rw[Int.mul_assoc,Int.mul_comm p q,<-Int.mul_assoc]
  _=b * p:=by rw[<-hq]
def Ij(h:b≠0):0 < (gK t b).2:=by have⟨p,q,e,h0,_⟩:=mx (t:=t) h;rw[e];exact h0
def Es(h:b≠0):Int.gcd (gK t b).1 (gK t b).2=1:=by have⟨p,q,e,_,hc,_⟩:=mx (t:=t) h;rw[e];exact hc
def nM{k m n:Int}(h:k∣m * n)(hc:Int.gcd k m=1):k∣n:=by have:=(Int.dvd_gcd_mul_iff_dvd_mul (k:=k) (n:=m) (m:=n)).mpr h;rw[hc]at this;simpa using this
def Al{p q p' q':Int}(hq:0 < q)(eK:0 < q')(h:Int.gcd p q=1)(h':Int.gcd p' q'=1)(e:p * q'=p' * q):p=p'/\q=q':=by
 have d1:q∣q':=by have:q∣p * q':=⟨p',by rw[e,Int.mul_comm]⟩;exact nM this (by rw[Int.gcd_comm];exact h)
 have d2:q'∣q:=by have:q'∣p' * q:=⟨p,by rw[<-e,Int.mul_comm]⟩;exact nM this (by rw[Int.gcd_comm];exact h')
 have eq:q=q':=Int.le_antisymm (Int.le_of_dvd eK d1) (Int.le_of_dvd hq d2);subst eq;exact⟨Int.eq_of_mul_eq_mul_right () e,rfl⟩
def J3{p q:Int}(h:b≠0)(hq:0 < q)(hc:Int.gcd p q=1)(e:t * q=b * p):gK t b=(p,q):=by
 have h1:=zt (t:=t) h;have h2:=Ij (t:=t) h;have h3:=Es (t:=t) h;have h4:(gK t b).1 * q=p * (gK t b).2:=by
  have:b * ((gK t b).1 * q)=b * (p * (gK t b).2):=by rw[<-Int.mul_assoc,<-h1,Int.mul_right_comm,e,Int.mul_assoc]
  exact Int.eq_of_mul_eq_mul_left h this
 have:=Al h2 hq h3 hc h4;exact Prod.ext this.1 this.2
def sM{p q:Int}(hq:0 < q)(hc:Int.gcd p q=1):gK p q=(p,q):=J3 () hq hc (Int.mul_comm _ _)
def vo(h:b≠0):(dv t b).natAbs<=b.natAbs:=by
 have e:(dv t b).natAbs=Int.gcd t b:=by unfold dv g;split <;> omega
 rw[e];exact Int.gcd_le_natAbs_right t h
end Fr0
namespace Tx
open PySem PySem.NumText
variable{n c:Nat}{x:Str}{tl:List Nat}{ps:List (List Nat)}
def dig(n:Nat):List Nat:=(Nat.toDigits 10 n).map Char.toNat
def GO:∀d:Nat,d < 10->(Nat.digitChar d).toNat=48+d:=@_
def gH(h:n < 10):dig n=[48+n]:=by unfold dig;rw[Nat.toDigits_of_lt_base h,aaJ,abI,GO n h]
def oW(h:10<=n):dig n=dig (n / 10)++[48+n % 10]:=by have hm:n % 10 < 10:=Nat.mod_lt n @_;have t:Nat.toDigits 10 (n / 10)++Nat.toDigits 10 (n % 10)=Nat.toDigits 10 (10 * (n / 10)+n % 10):=Nat.toDigits_append_toDigits @_ () hm;rw[Nat.div_add_mod]at t;unfold dig;rw[<-t,aaU,Nat.toDigits_of_lt_base hm,aaJ,abI,GO _ hm]
def js(n:Nat):AllDigits (dig n):=by
 induction n using Nat.strongRecOn with
 | _ n ih=>
  by_cases h:n < 10
  ·rw[gH h];intro c hc;have:c=48+n:=by simpa using hc
   omega
  ·rw[oW ()];intro c hc;rcases aaj.mp hc with z| z
   ·exact ih (n / 10) () c z
   ·have:c=48+n % 10:=by simpa using z
    omega
def FO(n:Nat):dig n≠[]:=by
 by_cases h:n < 10
 ·rw[gH h];simp
 ·rw[oW ()];simp
def IT(n:Nat):digitsVal (dig n)=n:=PySem.W.KIN.val_back n
def Bh:∀(k n:Nat),n < 10 ^ (k+1)->(dig n).length<=k+1
 | 0,n,h=>by rw[gH (by simpa using h)];simp
 | k+1,n,h=>by
  by_cases U_:n < 10
  ·rw[gH U_];simp
  ·rw[oW (),aae]
   have:=Bh k (n / 10) (by
    rw[Nat.pow_succ]at h
    omega)
   simp only[List.length_cons,List.length_nil];omega
def Hb(h:n≠0):∃c r,dig n=c::r/\c≠48:=by
 induction n using Nat.strongRecOn with
 | _ n ih=>
  by_cases U_:n < 10
  ·exact⟨48+n,[],gH U_,()⟩
  ·have⟨c,r,e,hc⟩:=ih (n / 10) () ();exact⟨c,r++[48+n % 10],by rw[oW (),e];rfl,hc⟩
def sg(i:Int):List Nat:=if i < 0 then [45] else []
def mk(cs:List Nat):Str:=⟨cs.toArray⟩
def aL(cs:List Nat):(mk cs).cps.toList=cs:=rfl
def ζ(cs:List Nat):(mk cs).length=cs.length:=by simp[mk,Str.length]
def iw{z:Str}{cs:List Nat}(h:z.cps.toList=cs):z=mk cs:=by
 cases z with
 | mk a=>
  have:a.toList=cs:=h;subst this;rfl
def aa(a b:List Nat):mk a++mk b=mk (a++b):=iw (by show(a.toArray++b.toArray).toList=a++b;simp)
def B5{c:Nat}:∀{p q X Y:List Nat},c∉p->c∉q->p++c::X=q++c::Y->p=q/\X=Y
 | [],[],X,Y,_,_,e=>⟨rfl,by simpa using e⟩
 | [],b::q,X,Y,_,hq,e=>by
  have:c=b:=by simpa using(List.cons.inj e).1
  exact aaG (by rw[this];exact aaf) hq
 | a::p,[],X,Y,hp,_,e=>by
  have:a=c:=by simpa using(List.cons.inj e).1
  exact aaG (by rw[<-this];exact aaf) hp
 | a::p,b::q,X,Y,hp,hq,e=>by have e1:=(List.cons.inj e).1;have e2:=(List.cons.inj e).2;have⟨h1,h2⟩:=B5 (λz=>hp (aag _ z)) (λz=>hq (aag _ z)) e2;exact⟨by rw[e1,h1],h2⟩
def fA(s x y:Str)(r:List Str):(Str.join s (x::y::r)).cps.toList=x.cps.toList++(s.cps.toList++(Str.join s (y::r)).cps.toList):=by show((x.cps++s.cps)++(Str.join s (y::r)).cps).toList=_;simp
def A7{y:Str}(h:x.cps.toList=y.cps.toList):x=y:=(iw h).trans (iw rfl).symm
def yo{c:Nat}:∀(ps qs:List Str),ps≠[]->qs≠[]->(∀p∈ps,c∉p.cps.toList)->(∀p∈qs,c∉p.cps.toList)->(Str.join ⟨#[c]⟩ ps).cps.toList=(Str.join ⟨#[c]⟩ qs).cps.toList->ps=qs
 | [],_,h,_,_,_,_=>aaG rfl h
 | _,[],_,h,_,_,_=>aaG rfl h
 | [p],[q],_,_,_,_,e=>by rw[A7 (x:=p) (y:=q) e]
 | [p],q::q'::r,_,_,hp,_,e=>by rw[fA]at e;have e:p.cps.toList=q.cps.toList++([c]++_):=e;exact absurd (by rw[e];simp) (hp p List.mem_cons_self)
 | p::p'::r,[q],_,_,_,hq,e=>by rw[fA]at e;have e:p.cps.toList++([c]++_)=q.cps.toList:=e;exact absurd (by rw[<-e];simp) (hq q List.mem_cons_self)
 | p::p'::r,q::q'::s,_,_,hp,hq,e=>by rw[fA,fA]at e;have⟨h1,h2⟩:=B5 (c:=c) (hp p aaf) (hq q aaf) e;rw[A7 h1,yo (p'::r) (q'::s) (by simp) (by simp) (λx hx=>hp x (List.mem_cons_of_mem _ hx)) (λx hx=>hq x (List.mem_cons_of_mem _ hx)) h2]
def lP(x y:Str):Txt.split x y≠[]:=by
 unfold Txt.split;split
 ·simp
 ·split
  ·simp
  ·rw[StrLaws.partsBetween_eq];have⟨p,r,e⟩:=StrLaws.partsFrom_ne x y.length 0 (Builtin.Str.occurrences x y 0 x.length (x.length+1));rw[e];simp
def lS{ps:List Str}(hn:ps≠[])(hf:∀p∈ps,c∉p.cps.toList)(hj:(Str.join ⟨#[c]⟩ ps).cps.toList=x.cps.toList):Txt.split x ⟨#[c]⟩=ps:=
 yo _ _ (lP x _) hn (StrLaws.split_free x c) hf (by rw[StrLaws.join_split];exact hj.symm)
def GN{cs:List Nat}(h:c∉cs):Txt.split (mk cs) ⟨#[c]⟩=[mk cs]:=lS (by simp) (λp hp=>by
 have:p=mk cs:=by simpa using hp
 rw[this];exact h) rfl
def wR{a b:List Nat}(ha:c∉a)(hb:c∉b):Txt.split (mk (a++c::b)) ⟨#[c]⟩=[mk a,mk b]:=lS (by simp) (λp hp=>by
 have:p=mk a\/p=mk b:=by simpa using hp
 rcases this with e| e <;> rw[e] <;> assumption) (by rw[fA];rfl)
def O1(cs:List Nat):Prop:=cs≠[]/\cs.length<=60/\AllDigits cs/\(cs.head?=some 48->cs=[48])
instance (cs:List Nat):Decidable (AllDigits cs):=by unfold AllDigits;infer_instance
instance (cs:List Nat):Decidable (O1 cs):=by unfold O1;infer_instance
def gz(cs:List Nat):Option Nat:=if O1 cs then some (digitsVal cs) else none
def ke(cs:List Nat):Option Int:=match cs with
 | 45::r=>(match gz r with
  | some n=>if n=0 then none else some (-(n:Int))
  | none=>none)
 | _=>(match gz cs with
  | some n=>some (n:Int)
  | none=>none)
def qz(h:n < 10 ^ 60):gz (dig n)=some n:=by
 have hk:O1 (dig n):=by
  refine⟨FO n,Bh 59 n h,js n,λe=>?_⟩;by_cases h0:n=0
  ·rw[h0];rfl
  ·have⟨c,r,e1,hc⟩:=Hb h0;rw[e1]at e;exact aaG (aaw e) hc
 unfold gz;rw[aaB hk,IT]
def rn{i:Int}(h:i.natAbs < 10 ^ 60):ke (sg i++dig i.natAbs)=some i:=by
 by_cases hi:i < 0
 ·have e:sg i++dig i.natAbs=45::dig i.natAbs:=by unfold sg;rw[if_pos hi];rfl
  rw[e];unfold ke;simp only[qz h];rw[aay ()]
  congr 1
  omega
 ·have e:sg i++dig i.natAbs=dig i.natAbs:=by unfold sg;rw[if_neg hi];rfl
  rw[e];unfold ke;have hd:=js i.natAbs;split
  ·rename_i r er;have:=hd 45 (by rw[er];exact aaf);omega
  ·simp only[qz h]
   congr 1
   omega
def wr(p b:Int):List Nat:=sg p++dig p.natAbs++(if b=1 then [] else 47::dig b.natAbs)
def JV(i:Int):47∉sg i++dig i.natAbs:=λh=>by
 rcases aaj.mp h with z| z
 ·unfold sg at z;split at z
  ·have:(47:Nat)=45:=by simpa using z
   omega
  ·cases z
 ·have:=js i.natAbs 47 z;omega
def Lk(n:Nat):47∉dig n:=λz=>by have:=js n 47 z;omega
def rd(z:Str):Option (Int×Int):=match Txt.split z ⟨#[47]⟩ with
 | [a]=>(match ke a.cps.toList with
  | some t=>some (Fr0.gK t 1)
  | none=>none)
 | [a,b]=>(match ke a.cps.toList with
  | some t=>(match gz b.cps.toList with
   | some n=>if n < 2 then none else if (Fr0.gK t n).2=n then some (Fr0.gK t n) else none
   | none=>none)
  | none=>none)
 | _=>none
def QK{p b:Int}(hb:0 < b)(hc:Int.gcd p b=1)(h1:p.natAbs < 10 ^ 60)(h2:b.natAbs < 10 ^ 60):rd (mk (wr p b))=some (p,b):=by
 unfold rd wr;by_cases WH:b=1
 ·subst WH;rw[aaB rfl,aaO,GN (JV p)];simp only[aL,rn h1];rw[Fr0.sM @_ hc]
 ·rw[aay WH,wR (JV p) (Lk _)];simp only[aL,rn h1,qz h2];have e:((b.natAbs:Nat):Int)=b:=()
  rw[aay (),e,Fr0.sM hb hc,aaB rfl]
def GZ(z:Str)(c:Nat):(!(Builtin.Str.occurrences z ⟨#[c]⟩ 0 z.length 1).isEmpty)=decide (c∈z.cps.toList):=StrLaws.found_one z c
open PySem PySem.StrLaws PySem.Builtin.Str
def mY(s sub:Str)(hi limit lo:Nat)(hw:1<=sub.length):∀(m cur:Nat) (st:Array Nat×Nat),ChainG s sub hi lo st.fst.toList st.snd->st.fst.size<=limit->(st.fst.size=limit\/∀k,st.snd<=k->k < cur->¬At s sub hi k)->
  ChainG s sub hi lo (forIn (List.range' cur m) st (occBody s sub hi limit)).run.fst.toList (forIn (List.range' cur m) st (occBody s sub hi limit)).run.snd/\(forIn (List.range' cur m) st (occBody s sub hi limit)).run.fst.size<=limit/\
  ((forIn (List.range' cur m) st (occBody s sub hi limit)).run.fst.size=limit\/∀k,(forIn (List.range' cur m) st (occBody s sub hi limit)).run.snd<=k->k < cur+m->¬At s sub hi k)
 | 0,cur,st,h,hl,hn=>⟨h,hl,hn⟩
 | m+1,cur,st,h,hl,hn=>by
  rw[List.range'_succ,List.forIn_cons];unfold occBody;have e:cur+(m+1)=(cur+1)+m:=()
  rw[e];split
  ·rename_i hc;have oz:∀k,st.snd<=k->k < cur->¬At s sub hi k:=hn.resolve_left (by have:=hc.1.1.1;omega);refine mY s sub hi limit lo hw m (cur+1) _ ?_ ?_ (.inr ?_)
   ·show ChainG s sub hi lo (st.fst.push cur).toList (cur+sub.length);rw[Array.toList_push];exact chainG_snoc h hc.1.1.2 ⟨hc.1.2,hc.2⟩ oz
   ·show(st.fst.push cur).size<=limit;rw[Array.size_push];have:=hc.1.1.1;omega
   ·intro k h1 h2;have rC:cur+sub.length<=k:=h1;omega
  ·rename_i hc;refine mY s sub hi limit lo hw m (cur+1) _ h hl ?_;by_cases hz:st.fst.size=limit
   ·exact .inl hz
   have oz:=hn.resolve_left hz;refine .inr λk h1 h2 hA=>?_;by_cases hk:k < cur
   ·exact oz k h1 hk hA
   ·have ek:k=cur:=()
    subst ek;exact hc ⟨⟨⟨(),h1⟩,hA.1⟩,hA.2⟩
def BQ(x y:Str)(limit:Nat)(hw:1<=y.length):∃f,ChainG x y x.length 0 (occurrences x y 0 x.length limit) f/\(occurrences x y 0 x.length limit).length<=limit/\((occurrences x y 0 x.length limit).length=limit\/∀k,f<=k->¬At x y x.length k):=by
 rw[occ_eq];have key:=mY x y x.length limit 0 hw (x.length+1 - 0) 0 ((#[]:Array Nat),0) rfl (aa2 _) (.inr λk _ h=>());refine⟨_,key.1,key.2.1,?_⟩;rcases key.2.2 with h| h
 ·exact .inl h
 ·exact .inr λk hk hA=>h k hk (by have:=hA.1;omega) hA
inductive xY(c:Nat)(tl:List Nat):Nat->List Nat->List (List Nat)->Prop
 | last {l:Nat} {p:List Nat} (h:l=0\/c∉p):xY c tl l p [p]
 | more {l:Nat} {p r:List Nat} {ps:List (List Nat)} (h:c∉p) (t:xY c tl l r ps):xY c tl (l+1) (p++(c::tl++r)) (p::ps)
def AJ{k:Nat}:At x (mk (c::tl)) x.length k↔∃r,x.cps.toList.drop k=c::tl++r:=by
 unfold At;rw[subAt_eq];have hl:x.cps.toList.length=x.length:=aa4;rw[aL,ζ];constructor
 ·rintro⟨h1,h2⟩;have h2:(x.cps.toList.drop k).take (c::tl).length=c::tl:=eq_of_beq h2;refine⟨(x.cps.toList.drop k).drop (c::tl).length,?_⟩;have:=List.take_append_drop (c::tl).length (x.cps.toList.drop k);rw[h2]at this;exact this.symm
 ·rintro⟨r,e⟩;have e2:=aaN List.length e;rw[abg,aae]at e2;refine⟨by simp only[List.length_cons]at e2⊢;omega,?_⟩;rw[e,aa8];exact List.take_left' rfl
def gv{l:Nat}{t:List Nat}(h:xY c tl l t ps):∀{a:Nat} {xZ:List Nat} {f:Nat},a<=x.length->x.cps.toList.drop a=t->ChainG x (mk (c::tl)) x.length a xZ f->xZ.length<=l->(xZ.length=l\/∀k,f<=k->¬At x (mk (c::tl)) x.length k)->partsFrom x (mk (c::tl)).length a xZ=ps.map mk:=by
 have hl:x.cps.toList.length=x.length:=aa4;have whole:∀a,strSub x a x.length=mk (x.cps.toList.drop a):=λa=>iw (by rw[strSub_toList];exact List.take_of_length_le (by rw[abg];omega))
 induction h with
 | last h=>
  rename_i l p;intro a xZ f ha e hc hle hn;cases xZ with
  | nil=>show[strSub x a x.length]=_;rw[whole,e];rfl
  | cons d r=>
   exfalso;have hm:c∉p:=h.resolve_left (by simp only[List.length_cons]at hle;omega);have⟨r',er⟩:=AJ.mp hc.2.1;have ad:=hc.1;have e3:x.cps.toList.drop d=p.drop (d - a):=by rw[<-e,abG];congr 1;omega
   refine hm (List.mem_of_mem_drop (i:=d - a) ?_);rw[<-e3,er];simp
 | more h t ih=>
  rename_i l p r ps;intro a xZ f ha e hc hle hn;have hA:At x (mk (c::tl)) x.length (a+p.length):=AJ.mpr ⟨r,by rw[<-abG,e,List.drop_left' rfl]⟩;have hb:=hA.1;cases xZ with
  | nil=>
   exfalso;have ef:f=a:=hc;rcases hn with hn| hn
   ·simp at hn
   ·exact hn _ () hA
  | cons d r'=>
   have hd:d=a+p.length:=by
    rcases Nat.lt_trichotomy d (a+p.length) with z| z| z
    ·exfalso;have⟨r2,er⟩:=AJ.mp hc.2.1;have ad:=hc.1;have e2:x.cps.toList.drop d=(p.drop (d - a))++(c::tl++r):=by
      rw[show d=a+(d - a) by omega,<-abG,e,List.drop_append_of_le_length ()]
      congr 2;omega
     rw[er]at e2;cases hp:p.drop (d - a) with
     | nil=>have:=congrArg List.length hp;rw[List.length_drop]at this;simp at this;omega
     | cons y ys=>
      rw[hp]at e2;have:c=y:=by simpa using(List.cons.inj e2).1
      exact h (List.mem_of_mem_drop (i:=d - a) (by rw[hp,this];exact aaf))
    ·exact z
    ·exact aaG hA (hc.2.2.1 _ () z)
   subst hd;show strSub x a (a+p.length)::partsFrom x (mk (c::tl)).length (a+p.length+(mk (c::tl)).length) r'=mk p::ps.map mk;have e1:strSub x a (a+p.length)=mk p:=iw (by rw[strSub_toList,e,show a+p.length - a=p.length by omega];exact List.take_left' rfl);rw[e1,ih hb ?_ hc.2.2.2 (by simp only[List.length_cons]at hle;omega) ?_]
   ·rw[Nat.add_assoc,<-abG,e,<-abG,List.drop_left' rfl,ζ,List.drop_left' rfl]
   ·rcases hn with hn| hn
    ·exact .inl (by simp only[List.length_cons]at hn;omega)
    ·exact .inr hn
def x6(x:Str):¬Builtin.Str.strKind x < 1:=by
 unfold Builtin.Str.strKind;split
 ·omega
 ·split <;> omega
def L8{y:Str}(h:x.length < y.length)(k:Nat):¬At x y x.length k:=λz=>by have:=z.1;omega
def yh{l:Nat}(hk:Builtin.Str.strKind (mk (c::tl))=1)(hl:x.length+1<=l)(h:xY c tl l x.cps.toList ps):Txt.split x (mk (c::tl))=ps.map mk:=by
 have hw:1<=(mk (c::tl)).length:=by rw[ζ];simp
 have one:partsFrom x (mk (c::tl)).length 0 []=[x]:=by show[strSub x 0 x.length]=_;rw[sub_whole]
 unfold Txt.split;split
 ·rename_i hc;rw[Bool.or_eq_true,decide_eq_true_eq,decide_eq_true_eq,hk]at hc;have hc:=hc.resolve_right (x6 x);rw[<-one];exact gv h (aa2 _) rfl rfl (aa2 _) (.inr λk _=>L8 hc k)
 ·have⟨f,hG,hle,hn⟩:=BQ x (mk (c::tl)) (x.length+1) hw;have oz:∀k,f<=k->¬At x (mk (c::tl)) x.length k:=by
   have⟨f',YB,oz⟩:=occ_tight x (mk (c::tl)) hw;have uq:∀(l:List Nat) (a f g:Nat),ChainG x (mk (c::tl)) x.length a l f->ChainG x (mk (c::tl)) x.length a l g->f=g:=by
    intro l
    induction l with
    | nil=>intro a f g h1 h2;exact(show f=a from h1).trans (show g=a from h2).symm
    | cons d r ih=>intro a f g h1 h2;exact ih _ _ _ h1.2.2.2 h2.2.2.2
   rw[uq _ _ _ _ hG YB];exact oz
  split
  ·rename_i he;have e0:occurrences x (mk (c::tl)) 0 x.length (x.length+1)=[]:=List.isEmpty_iff.mp he;rw[e0]at hG;rw[<-one];exact gv h (aa2 _) rfl hG (aa2 _) (.inr oz)
  ·rw[partsBetween_eq];exact gv h (aa2 _) rfl hG (aaD hle hl) (.inr oz)
def iP{l:Nat}(hk:Builtin.Str.strKind (mk (c::tl))=1)(h:xY c tl l x.cps.toList ps):Txt.splitMax x (mk (c::tl)) (l:Int)=ps.map mk:=by
 have hw:1<=(mk (c::tl)).length:=by rw[ζ];simp
 have one:partsFrom x (mk (c::tl)).length 0 []=[x]:=by show[strSub x 0 x.length]=_;rw[sub_whole]
 have el:limitOf x (l:Int)=l:=by unfold limitOf;rw[if_neg ()];rfl
 unfold Txt.splitMax;rw[el];split
 ·rename_i hc;rw[Bool.or_eq_true,decide_eq_true_eq,decide_eq_true_eq,hk]at hc;have hc:=hc.resolve_right (x6 x);rw[<-one];exact gv h (aa2 _) rfl rfl (aa2 _) (.inr λk _=>L8 hc k)
 ·have⟨f,hG,hle,hn⟩:=BQ x (mk (c::tl)) l hw;split
  ·rename_i he;have e0:occurrences x (mk (c::tl)) 0 x.length l=[]:=List.isEmpty_iff.mp he;rw[e0]at hG hn;rw[<-one];exact gv h (aa2 _) rfl hG (aa2 _) hn
  ·rw[partsBetween_eq];exact gv h (aa2 _) rfl hG hle hn
def jn(s:List Nat):List (List Nat)->List Nat
 | []=>[]
 | [p]=>p
 | p::q::r=>p++(s++jn s (q::r))
def fQ(s:List Nat):∀ps:List (List Nat),Str.join (mk s) (ps.map mk)=mk (jn s ps)
 | []=>rfl
 | [p]=>rfl
 | p::q::r=>by refine iw ?_;show(Str.join (mk s) (mk p::mk q::r.map mk)).cps.toList=_;rw[fA];have:=fQ s (q::r);rw[show Str.join (mk s) (mk q::r.map mk)=mk (jn s (q::r)) from this];rfl
def B9{c:Nat}{tl:List Nat}:∀{ps:List (List Nat)} {l:Nat},ps≠[]->(∀p∈ps,c∉p)->ps.length<=l+1->xY c tl l (jn (c::tl) ps) ps
 | [],_,h,_,_=>aaG rfl h
 | [p],_,_,hf,_=>.last (.inr (hf p aaf))
 | p::q::r,l,_,hf,hl=>by
  cases l with
  | zero=>simp at hl
  | succ l=>exact .more (hf p List.mem_cons_self) (B9 (by simp) (λy hy=>hf y (List.mem_cons_of_mem _ hy)) (by simp only[List.length_cons]at hl⊢;omega))
def Fu{c:Nat}{tl:List Nat}:∀{ps:List (List Nat)},ps.length<=(jn (c::tl) ps).length+1
 | []=>by simp
 | [p]=>by simp
 | p::q::r=>by have:=Fu (c:=c) (tl:=tl) (ps:=q::r);show _<=(p++(c::tl++jn (c::tl) (q::r))).length+1;rw[aae,aae];simp only[List.length_cons]at this⊢;omega
def cN(hk:Builtin.Str.strKind (mk (c::tl))=1)(hn:ps≠[])(hf:∀p∈ps,c∉p):Txt.split (mk (jn (c::tl) ps)) (mk (c::tl))=ps.map mk:=
 yh (l:=(jn (c::tl) ps).length+1) hk (by rw[ζ];exact aaq _) (by rw[aL];exact B9 hn hf (aaD Fu (Nat.le_succ _)))
def KA(s:List Nat)(ps:List (List Nat)):Txt.join (mk s) (ps.map mk)=mk (jn s ps):=by show glued (mk s) (ps.map mk)=_;rw[StrLaws.glued_eq_join,fQ]
def Ea{s:List Nat}{m:Nat}(hl:ps.length<=n)(hp:∀p∈ps,p.length+s.length<=m)(hb:n * m<=sizeLine):JoinOk (mk s) (ps.map mk)=true:=by
 unfold JoinOk;have key:∀(qs:List (List Nat)) (a:Nat),(∀p∈qs,p.length+s.length<=m)->(qs.map mk).foldl (λa (z:Str)=>a+z.length+(mk s).length) a<=a+qs.length * m:=by
  intro qs
  induction qs with
  | nil=>intro a _;simp
  | cons p qs ih=>
   intro a h;have h1:=h p aaf;have h2:=ih (a+(mk p).length+(mk s).length) λy hy=>h y (aag _ hy);rw[aaJ,List.foldl_cons];refine aaD h2 ?_;rw[ζ,ζ,aat,Nat.succ_mul];omega
 have k:=key ps 0 hp;have:ps.length * m<=n * m:=Nat.mul_le_mul_right _ hl;rw[Bool.not_eq_true'];unfold tooLong;refine aao ?_;rw[List.foldl_toArray];omega
end Tx
seal L2.JE L2.JT L2.JW L2.JA L2.JS L2.zZ L2.JI L2.JK L2.QT L2.Rr
local macro_rules| `(tactic| walk_at "vc")=>`(tactic| dsimp only[L2.gN,L2.QC,L2.GF,L2.O7,L2.qE,L2.sC,L2.WN,L2.RT,L2.m8,L2.A_,L2.HE,L2.sH,L2.vP,L2.cz,L2.L7,L2.aH,L2.dC,L2.fC,L2.bW,L2.Kd,L2.IY,L2.kY,L2.Rp,L2.W0,L2.PJ,L2.RP,L2.V9,L2.RJ,L2.W6,L2.Hj,L2.j',List.map_cons,List.map_nil,List.length_cons,List.length_nil,List.cons_append,List.nil_append,List.replicate,List.getElem?_cons_zero,List.getElem?_cons_succ,List.set_cons_zero,List.set_cons_succ,Nat.reduceSub,Nat.reduceAdd,Nat.zero_add])
namespace Pg
open PySem L2
variable{mg:Str->Option Value}{C f cH:Addr}{fd cK:FuncData}{i:Int}{M:Ms}{d:Dt}{xs:List Dt}{ρ:En}{x:DX}{n cs t wd a b s st:List Nat}{ns ws ps:List (List Nat)}{z:Str}{c l:Nat}
def top(i:Nat):Stmt:=PySem.Challenge.pw_chanceduel_k10_floors_read.main.body.getD i (.Pass ⟨0,0,0,0⟩)
def cls(i j:Nat):Stmt:=match top i with
 | .ClassDef _ _ _ b _ _ _ _ _ _ _=>b.getD j (.Pass ⟨0,0,0,0⟩)
 | _=>.Pass ⟨0,0,0,0⟩
abbrev fq:Stmt:=top 9
abbrev mV:Stmt:=top 10
abbrev pT:Stmt:=top 15
abbrev nB:Stmt:=top 16
abbrev fW:Stmt:=top 17
abbrev ia:Stmt:=top 18
abbrev kQ:Stmt:=top 19
abbrev pC:Stmt:=top 20
abbrev k4:Stmt:=top 21
abbrev kZ:Stmt:=top 25
abbrev gU:Stmt:=top 30
abbrev qN:Stmt:=top 31
abbrev fV:Stmt:=top 32
abbrev vQ:Stmt:=top 36
abbrev mz:Stmt:=top 37
abbrev kx:Stmt:=top 38
abbrev mL:Stmt:=top 39
abbrev qW:Stmt:=top 40
abbrev kP:Stmt:=top 41
abbrev kB:Stmt:=top 42
abbrev gb:Stmt:=top 43
abbrev hW:Stmt:=top 44
abbrev ki:Stmt:=top 45
abbrev vM:Stmt:=top 47
abbrev gM:Stmt:=top 48
abbrev nA:Stmt:=top 49
abbrev kn:Stmt:=top 50
abbrev pv:Stmt:=top 51
abbrev pO:Stmt:=top 52
abbrev uM:Stmt:=top 53
abbrev iR:Stmt:=top 54
abbrev iJ:Stmt:=top 55
abbrev kO:Stmt:=top 56
abbrev iM:Stmt:=top 57
abbrev M6:Stmt:=top 58
abbrev hZ:Stmt:=cls 7 0
abbrev kG:Stmt:=cls 26 0
abbrev i6:Stmt:=cls 26 2
abbrev kq:Stmt:=cls 26 6
open PySem L2 Fr0 Tx
abbrev VB:List Value:=[.type "ValueError",.type "Exception",.type "BaseException",.type "object"]
structure Ev(K:gV)(mg:Str->Option Value)(Cl CT Ce Cf Cg Ca:Addr):Prop where
 bG:mg "len"=none
 sF:mg "abs"=none
 ω:mg "isinstance"=none
 nP:mg "int"=none
 p_:mg "bool"=none
 qM:mg "str"=none
 d8:mg "tuple"=none
 iG:mg "list"=none
 ej:mg "range"=none
 eC:mg "enumerate"=none
 wV:mg "any"=none
 tJ:mg "all"=none
 Bm:mg "sum"=none
 Bt:mg "min"=none
 g9:mg "ValueError"=none
 ib:PySem.W.kitOne K (.type "int") (.type "bool")=some false
 T5:PySem.W.kitOne K (.type "int") (.type "str")=some false
 W8:PySem.W.kitOne K (.type "tuple") (.type "str")=some false
 Wo:PySem.W.kitOne K (.type "tuple") (.type "int")=some false
 W3:PySem.W.kitOne K (.type "list") (.type "str")=some false
 Xb:PySem.W.kitOne K (.type "list") (.type "int")=some false
 Tr:PySem.W.kitOne K (.type "tuple") (.type "list")=some false
 klt:PySem.W.kitOne K (.type "list") (.type "tuple")=some false
 b6:mg "NoText"=some (.ref CT)
 oH:mg "NoName"=some (.ref Ce)
 lL:mg "NoFloor"=some (.ref Cf)
 qQ:mg "NoPlace"=some (.ref Cg)
 ky:mg "DuelError"=some (.ref Ca)
 cp:cR K CT VB "ValueError.__new__"
 vk:cR K Ce VB "ValueError.__new__"
 pG:cR K Cf VB "ValueError.__new__"
 pD:cR K Ca VB "ValueError.__new__"
 qS:AN K Ca "ValueError.__init__"
 Bv:iu K CT
 A4:OP K CT "place"
 oR:PySem.W.subIn K (.ref CT) (.ref Ca)=some true
 cu:PySem.W.kitOne K (.ref CT) (.ref CT)=some true
 cw:PySem.W.kitOne K (.ref CT) (.ref Ce)=some false
 bU:PySem.W.kitOne K (.ref CT) (.ref Cf)=some false
 bh:PySem.W.kitOne K (.ref CT) (.ref Cg)=some false
 AS:iu K Ce
 BU:OP K Ce "place"
 oM:PySem.W.subIn K (.ref Ce) (.ref Ca)=some true
 cn:PySem.W.kitOne K (.ref Ce) (.ref CT)=some false
 cv:PySem.W.kitOne K (.ref Ce) (.ref Ce)=some true
 bX:PySem.W.kitOne K (.ref Ce) (.ref Cf)=some false
 bb:PySem.W.kitOne K (.ref Ce) (.ref Cg)=some false
 yC:iu K Cf
 yy:OP K Cf "place"
 lK:PySem.W.subIn K (.ref Cf) (.ref Ca)=some true
 bY:PySem.W.kitOne K (.ref Cf) (.ref CT)=some false
 bT:PySem.W.kitOne K (.ref Cf) (.ref Ce)=some false
 bL:PySem.W.kitOne K (.ref Cf) (.ref Cf)=some true
 aX:PySem.W.kitOne K (.ref Cf) (.ref Cg)=some false
 xp:iu K Cg
 xi:OP K Cg "place"
 lR:PySem.W.subIn K (.ref Cg) (.ref Ca)=some true
 bZ:PySem.W.kitOne K (.ref Cg) (.ref CT)=some false
 b5:PySem.W.kitOne K (.ref Cg) (.ref Ce)=some false
 bK:PySem.W.kitOne K (.ref Cg) (.ref Cf)=some false
 aW:PySem.W.kitOne K (.ref Cg) (.ref Cg)=some true
 iy:HK K Cg "place"
 iK:CY K Cl
 iq:gc K Cl "kept_rows"
 fY:gc K Cl "kept_share"
 yV:∃a o its n,mg "HANDS"=some (.ref a)/\K.lookup a=some o/\o.cls= .type "tuple"/\o.data= .seq its n/\its.size<=sizeLine/\Paired (λ(z:Str) (u:Value)=>∃tk,u= .str z tk) ["one","other"] its.toList
 wI:∃tk,mg "FIGURES"=some (.str "0123456789" tk)
 xF:∃tk,mg "LETTERS"=some (.str "abcdefghijklmnopqrstuvwxyz" tk)
 j4:∃tk,mg "MOST_FIGURES"=some (.int 60 tk)
 j6:∃tk,mg "MOST_LETTERS"=some (.int 8 tk)
 nE:∃tk,mg "MOST_DOORS"=some (.int 6 tk)
 ic:∃tk,mg "MOST_BOTTOM"=some (.int 1000000 tk)
 lD:∃tk,mg "MOST_PLACES"=some (.int 12 tk)
 fg:∃tk,mg "MOST_SHARE_BOTTOM"=some (.int 1000 tk)
def dZ{K:gV}{T:String}:PySem.W.kitOne K (.type T) (.type T)=some true:=by unfold PySem.W.kitOne;rw[aaB (abE _)]
def U6(CT Ce Cf Cg C:Addr):Prop:=C=CT\/C=Ce\/C=Cf\/C=Cg
section
variable{K:gV}{Cl CT Ce Cf Cg Ca:Addr}
def Ev.ty(E:Ev K mg Cl CT Ce Cf Cg Ca)(h:U6 CT Ce Cf Cg C):iu K C:=by
 rcases h with rfl| rfl| rfl| rfl
 ·exact E.Bv
 ·exact E.AS
 ·exact E.yC
 ·exact E.xp
def Ev.Hk(E:Ev K mg Cl CT Ce Cf Cg Ca)(h:U6 CT Ce Cf Cg C):OP K C "place":=by
 rcases h with rfl| rfl| rfl| rfl
 ·exact E.A4
 ·exact E.BU
 ·exact E.yy
 ·exact E.xi
end
section
variable{P:Program}{w:World}{K:gV}{base:Heap}{Cl CT Ce Cf Cg Ca:Addr}
def Hn:DF:=λds M q _=>match ds with
 | [.int a,.int b]=>q (.int (g a b)) M
 | _=>False
def ba:Δ ["one","other","great","small","rest"] ["one","other"] (π fq):=.of rfl
def mR(F:eE K "common_divisor" "common_divisor" fq f fd)(E:Ev K mg Cl CT Ce Cf Cg Ca):ay P w K mg base (bP P w) 1 f fd ["one","other"] (eN K Hn):=by
 refine F.ip ba (λds M q x h=>?_) (λbC A outer s H E' hr=>⟨_,(θ (τ 2 ba.nd (HI E.sF (ai (jv 0) η)))
   (θ (τ 3 ba.nd (HI E.sF (ai (jv 1) η)))
   (θ (Hr (fJ hr (jv 3) ο) (θ (τ 4 ba.nd (aU (jv 2) (jv 3)))
   (θ (τ 2 ba.nd (jv 3))
   (μ (τ 3 ba.nd (jv 4))))))
   (μ (Β (jv 2)))))),λds M q x h=>?_⟩)
 ·unfold Hn at h;split at h;· rfl
  ·exact h.elim
 ·unfold Hn at h;split at h
  ·rename_i a b;refine⟨λm ρ M'=>M'=M/\∃(x y:Int) (r:Option Dt),ρ=[some (.int a),some (.int b),some (.int x),some (.int y),r]/\0<=x/\0<=y/\g x y=g a b/\m=y.toNat,⟨_,rfl,_,_,_,rfl,by split <;> omega,by split <;> omega,Qj a b,rfl⟩,?_⟩;rintro m ρ M' ⟨rfl,x,y,r,rfl,hx,hy,e,rfl⟩;refine⟨λhb=>?_,λhb=>?_⟩
   ·have SM:y≠0:=by simpa using hb
    refine⟨_,λρ' M2 h2=>h2,?_⟩;refine⟨(),(x % y).toNat,?_,rfl,y,x % y,_,rfl,hy,aaR _ SM,?_,rfl⟩
    ·have:=aaL x (show 0 < y by omega);have:=aaR x SM;omega
    ·rw[<-abz x hy,Mg ()];exact e
   ·have SM:y=0:=by simpa using hb
    subst SM;rw[OS hx]at e;subst e;exact h
  ·exact h.elim
def Cj{j:Int}(h:ow j)(l:i.natAbs<=j.natAbs):ow i:=abm l h
def Bs:DF:=λds M q _=>match ds with
 | [.int t,.int b]=>ow b/\(b=0->False)/\(b≠0->q (.tup [.int (gK t b).1,.int (gK t b).2]) M)
 | _=>False
def kf:Δ ["top","bottom","divisor"] ["top","bottom"] (π mV):=.of rfl
def wW(F:eE K "fraction" "fraction" mV f fd)(E:Ev K mg Cl CT Ce Cf Cg Ca){e_:Addr}{fm:FuncData}(a_:aV P w K mg base 1 "common_divisor" ["one","other"] Hn e_ fm):ay P w K mg base (bP P w) 2 f fd ["top","bottom"] (eN K Bs):=by
 refine F.ip kf (λds M q x h=>?_) (λbC A outer s H E' hr=>⟨_,(θ (Υ (cG hr (jv 1) ο) (μ wY) Α)
   (θ (τ 2 kf.nd (aK a_ hr Θ (ai (jv 0) (ai (jv 1) η))))
   (θ (cj (Υ (pX (jv 1) ο) (μ (τ 2 kf.nd (nN (jv 2)))) Α))
   (μ (Β (bQ (ε (Ff (jv 0) (jv 2)) (ε (Ff (jv 1) (jv 2)) η Ι) Ι))))))),λds M q x h=>?_⟩)
 ·unfold Bs at h;split at h;· rfl
  ·exact h.elim
 ·unfold Bs at h;split at h
  ·rename_i t b;have⟨hB,h0,h1⟩:=h;refine⟨λhb=>?_,λhb=>?_⟩
   ·exact h0 (by simpa using hb)
   ·have T1:b≠0:=by simpa using hb
    refine⟨λρ M'=>M'=M/\ρ=[some (.int t),some (.int b),some (.int (dv t b))],⟨λhn=>?_,λhn=>?_⟩,?_⟩
    ·have oz:b < 0:=by simpa using hn
     exact⟨rfl,by unfold dv;rw[if_pos oz];rfl⟩
    ·have oz:¬b < 0:=by simpa using hn
     exact⟨rfl,by unfold dv;rw[if_neg oz];rfl⟩
    ·rintro ρ M' ⟨rfl,rfl⟩;have hd:=Lm (t:=t) T1;have Wq:ow (dv t b):=Cj hB (vo T1);exact⟨⟨hd,Wq⟩,⟨hd,Wq⟩,pz,h1 T1⟩
  ·exact h.elim
abbrev Fr:=Int×Int
def df(p:Fr):Dt:=.tup [.int p.1,.int p.2]
def eg(p:Fr):Bool:=decide ((if p.1 < 0 then -p.1 else p.1)<=10 ^ 30)&&decide (p.2<=1000000)
def qZ:DF:=λds M q _=>∃p,ds=[df p]/\q (.bl (eg p)) M
def C8:Δ ["pay"] ["pay"] (π pT):=.of rfl
def yJ(F:eE K "fits_pay" "fits_pay" pT f fd)(E:Ev K mg Cl CT Ce Cf Cg Ca):ay P w K mg base (bP P w) 1 f fd ["pay"] (eN K qZ):=by
 refine F.ip C8 (λds M q x h=>?_) (λbC A outer s H E' hr=>⟨_,(μ (Β (ck (uP (HI E.sF (ε (Φ (jv 0) ο) η aJ)) (Gs ο ο)) (dY (uP (Φ (jv 0) ο) (kK E.ic)))))),λds M q x h=>?_⟩)
 ·have⟨p,rfl,_⟩:=h;rfl
 ·have⟨p,rfl,h⟩:=h;refine⟨⟨@_,@_,@_⟩,λh1=>?_,λh1=>?_⟩
  ·have e:eg p=decide (p.2<=1000000):=by unfold eg;rw[show decide ((if p.1 < 0 then -p.1 else p.1)<=10 ^ 30)=true from h1];rfl
   rw[e]at h;exact h
  ·have e:eg p=false:=by unfold eg;rw[show decide ((if p.1 < 0 then -p.1 else p.1)<=10 ^ 30)=false from h1];rfl
   rw[e]at h;exact h
def oO{ok:Ms->Prop}(h:k7 M d=some (xs,ok)):ok M:=by
 cases d with
 | lst ds=>cases h;trivial
 | oK ns=>cases h;trivial
 | loc k=>
  have h:(match M[k]? with| some (.lst xs)=>some (xs,λM':Ms=>M'[k]? =some (.lst xs))| _=>none)=some (xs,ok):=h;split at h
  ·rename_i ys hm;cases h;exact hm
  ·cases h
 | _=>cases h
def pH{ok:Ms->Prop}(h:k7 M d=some (xs,ok)):rh M d=some (xs,ok):=by
 cases d with
 | lst ds=>cases h;rfl
 | oK ns=>cases h;rfl
 | loc k=>exact h
 | _=>cases h
def dU{i:Nat}{ok:Ms->Prop}{q:List Dt->(Ms->Prop)->Ms->Prop}(hv:ρ[i]? =some (some d))(hl:k7 M d=some (xs,ok))(h:q xs ok M):dM (aH i) ρ M q x:=by unfold dM aH;rw[hv];show(match rh M d with| some (xs,ok)=>q xs ok M| none=>False);rw[pH hl];exact h
def bg{n:Int}{k:Nat}(h:n.natAbs < 2 ^ k)(hk:k<=8000:=by decide):ow n:=aau h (Nat.pow_le_pow_right @_ hk)
def bN(t:Int)(p:Fr)(size:Int):Bool:=decide (0<=t)&&(decide (t < size)&&eg p)
def tR:DF:=λds M q _=>∃t p r size,ds=[.tup (.int t::df p::r),.int size]/\q (.bl (bN t p size)) M
def AM:Δ ["door","size"] ["door","size"] (π nB):=.of rfl
def xK(F:eE K "fits_door" "fits_door" nB f fd)(E:Ev K mg Cl CT Ce Cf Cg Ca){qB:Addr}{rg:FuncData}(eW:aV P w K mg base 1 "fits_pay" ["pay"] qZ qB rg):ay P w K mg base (bP P w) 2 f fd ["door","size"] (eN K tR):=by
 refine F.ip AM (λds M q x h=>?_) (λbC A outer s H E' hr=>⟨_,(μ (Β (ck (uP ο (Φ (jv 0) ο)) (ck (QQ (Φ (jv 0) ο) (jv 1)) (dY (aK eW hr Θ (ε (Φ (jv 0) ο) η aJ))))))),λds M q x h=>?_⟩)
 ·have⟨t,p,r,size,rfl,_⟩:=h;rfl
 ·have⟨t,p,r,size,rfl,h⟩:=h;walk_at "vc";refine ah rfl dj ?_;refine⟨λh1=>?_,λh1=>?_⟩
  ·refine ah rfl dj ⟨λh2=>?_,λh2=>?_⟩
   ·refine ah rfl (au (j:=1) rfl) ⟨p,rfl,?_⟩;have e:bN t p size=eg p:=by unfold bN;rw[h1,h2];rfl
    rw[<-e];exact h
   ·have e:bN t p size=false:=by unfold bN;rw[h1,h2];rfl
    rw[<-e];exact h
  ·have e:bN t p size=false:=by unfold bN;rw[h1];rfl
   rw[<-e];exact h
abbrev Eg:=Int×Fr×List Fr
def oh(d:Eg):Dt:=.tup (.int d.1::df d.2.1::d.2.2.map df)
def ar(ds:List Eg)(size:Int):Bool:=decide (1<=ds.length)&&decide (ds.length<=6)&&ds.all λd=>bN d.1 d.2.1 size
def qt:DF:=λas M q _=>∃d size ds ok,as=[d,.int size]/\k7 M d=some (ds.map oh,ok)/\ds.length<=100/\q (.bl (ar ds size)) M
def nI:Δ ["doors","size"] ["doors","size"] (π kQ):=.of rfl
def uu(F:eE K "fits_doors" "fits_doors" kQ f fd)(E:Ev K mg Cl CT Ce Cf Cg Ca){CK:Addr}{C3:FuncData}(kH:aV P w K mg base 2 "fits_door" ["door","size"] tR CK C3):ay P w K mg base (bP P w) 3 f fd ["doors","size"] (eN K qt):=by
 refine F.ip nI (λds M q x h=>?_) (λbC A outer s H E' hr=>⟨_,(θ (Υ (JW.jt (nZ (pX (b_ E.bG (ai (jv 0) η)) ο) (kW (B2 (b_ E.bG (ai (jv 0) η)) (kK E.nE))))) (μ (Β mm)) Α)
   (μ (Β (Gg E.tJ (ε (ij (ys:=["size"]) (Γ:=[1]) (.of nI rfl rfl rfl) (bw (jv 0)) (λC s H fp=>(aK kH hr (gX (P:=P) (w:=w)) (ai (jv 0) (ai (jv 1) η))))) η))))),λds M q x h=>?_⟩)
 ·have⟨d,size,ds,ok,rfl,_⟩:=h;rfl
 ·have⟨d,size,ds,ok,rfl,hl,hz,h⟩:=h;have hs:=lY hl;walk_at "vc";refine bE hs ⟨λh1=>?_,λh1=>?_⟩
  ·refine⟨λ_=>?_,nofun⟩;have e:ar ds size=false:=by
    have:(ds.length:Int) < 1:=by simpa using h1
    unfold ar;rw[aao ()];rfl
   rw[<-e];exact h
  ·have h1:¬(ds.length:Int) < 1:=by simpa using h1
   refine bE hs ⟨λh2=>?_,λh2=>?_⟩
   ·have e:ar ds size=false:=by
     have:6 < (ds.length:Int):=by simpa using h2
     unfold ar;rw[aao (p:=ds.length<=6) (),abB];rfl
    rw[<-e];exact h
   ·have h2:¬6 < (ds.length:Int):=by simpa using h2
    refine dU rfl hl ⟨by rw[aac];exact aaD hz @_,?_⟩;refine e6 (f:=λd=>.bl (match d with| .tup (.int t:: .tup [.int a,.int b]::_)=>bN t (a,b) size| _=>false)) (oO hl) (λx hx q hq=>?_) ?_
    ·have⟨y,_,rfl⟩:=aah.mp hx;exact⟨y.1,y.2.1,y.2.2.map df,size,rfl,hq⟩
    ·refine⟨ds.map λd=>bN d.1 d.2.1 size,?_,?_⟩
     ·rw[aap,aaI,aap];rfl
     ·have e:ar ds size=(ds.map λd=>bN d.1 d.2.1 size).all id:=by unfold ar;rw[aaK (show 1<=ds.length by omega),aaK (show ds.length<=6 by omega),List.all_map];rfl
      rw[<-e];exact h
def oj(cs:List Fr):Int:=cs.foldl (λb c=>b * c.2 / g b c.2) 1
def xo{b c:Int}(hb:0 < b)(hc:0 < c):0 < b * c / g b c/\b * c / g b c<=b * c/\0 < g b c/\g b c<=c:=by
 have hg:0 < g b c:=HV ();have Yk:0 < b * c:=Int.mul_pos hb hc;have hd:g b c∣c:=Int.gcd_dvd_right ..;have hle:g b c<=c:=Int.le_of_dvd hc hd;have h1:c<=b * c:=by have:=Int.mul_le_mul_of_nonneg_right (show 1<=b by omega) (show 0<=c by omega);simpa using this
 refine⟨Int.ediv_pos_of_pos_of_dvd Yk () (Int.dvd_mul_of_dvd_right hd),?_,hg,hle⟩;exact Int.ediv_le_self _ ()
def VO(cs:List Fr):Prop:=cs.length<=12/\∀c∈cs,0 < c.2/\c.2 < 2 ^ 200/\c.1.natAbs < 2 ^ 200
def mw:∀(cs:List Fr) (b:Int) (k:Nat),0 < b->b<=2 ^ (200 * k)->(∀c∈cs,0 < c.2/\c.2 < 2 ^ 200)->0 < cs.foldl (λb c=>b * c.2 / g b c.2) b/\cs.foldl (λb c=>b * c.2 / g b c.2) b<=2 ^ (200 * (k+cs.length))
 | [],b,k,h0,h1,_=>⟨h0,h1⟩
 | c::cs,b,k,h0,h1,hc=>by
  have⟨c0,c1⟩:=hc c aaf;have⟨s0,s1,_⟩:=xo h0 c0;have Qb:b * c.2 / g b c.2<=2 ^ (200 * (k+1)):=by refine Int.le_trans s1 ?_;rw[show 200 * (k+1)=200 * k+200 by omega,Int.pow_add];exact Int.mul_le_mul h1 (abe c1) (abe c0) (abe (Int.pow_pos @_))
  have:=mw cs _ (k+1) s0 Qb λd hd=>hc d (aag _ hd);rw[List.foldl_cons,aat,show k+(cs.length+1)=k+1+cs.length by omega];exact this
def RH{n:Int}{k:Nat}(h0:0<=n)(h:n<=2 ^ k)(hk:k < 8000):ow n:=by
 refine bg (k:=k+1) ?_ hk;have:(n.natAbs:Int) < ((2 ^ (k+1):Nat):Int):=by rw[Int.natAbs_of_nonneg h0,Int.natCast_pow,Int.pow_succ];have:(0:Int) < 2 ^ k:=Int.pow_pos @_;show n < 2 ^ k * 2;omega
 exact Int.ofNat_lt.mp this
def MB{n:Int}{k:Nat}(h0:0<=n)(h:n < 2 ^ k)(hk:k<=8000):ow n:=by
 refine bg (k:=k) ?_ hk;have:(n.natAbs:Int) < ((2 ^ k:Nat):Int):=by rw[Int.natAbs_of_nonneg h0,Int.natCast_pow];exact h
 exact Int.ofNat_lt.mp this
def j7:DF:=λds M q _=>∃cs:List Fr,ds=[.lst (cs.map df)]/\VO cs/\q (.int (oj cs)) M
def dm:Δ ["chances","bottom","chance"] ["chances"] (π fW):=.of rfl
def og(F:eE K "common_bottom" "common_bottom" fW f fd)(E:Ev K mg Cl CT Ce Cf Cg Ca){e_:Addr}{fm:FuncData}(a_:aV P w K mg base 1 "common_divisor" ["one","other"] Hn e_ fm):ay P w K mg base (bP P w) 2 f fd ["chances"] (eN K j7):=by
 refine F.ip dm (λds M q x h=>?_) (λbC A outer s H E' hr=>⟨_,(θ (τ 1 dm.nd ο)
   (θ (oS (bw (jv 0)) (bS (i:=2) dm.nd rfl (Or.inl rfl)) bV (μ (τ 1 dm.nd (bO (xJ (jv 1) (Φ (jv 2) ο)) (aK a_ hr Θ (ai (jv 1) (ε (Φ (jv 2) ο) η aJ)))))))
   (μ (Β (jv 1))))),λds M q x h=>?_⟩)
 ·have⟨cs,rfl,_⟩:=h;rfl
 ·have⟨cs,rfl,⟨hz,hc⟩,h⟩:=h;walk_at "vc";refine dU (i:=0) rfl rfl ?_;refine jf (λxs ρ M'=>M'=M/\∃wa rest r,cs=wa++rest/\xs=rest.map df/\ρ=[some (.lst (cs.map df)),some (.int (oj wa)),r]) (λ_ _ _ _=>trivial) (λx xs ρ M' hj Eh=>?_) (λρ M' hj=>?_) _ _ _ ⟨rfl,[],cs,none,rfl,rfl,rfl⟩
  ·have⟨rfl,wa,rest,r,e,ex,rfl⟩:=hj;cases rest with
   | nil=>cases ex
   | cons c rest=>
    cases ex;have hd:∀d∈wa,0 < d.2/\d.2 < 2 ^ 200:=λd hd=>by have⟨a,b,_⟩:=hc d (by rw[e];exact aa1 _ hd);exact⟨a,b⟩
    have⟨c0,c1,_⟩:=hc c (by rw[e];exact aal _ aaf);have⟨b0,b1⟩:=mw wa 1 0 @_ @_ hd;have hl:wa.length<=12:=by have:=aaN List.length e;rw[aae]at this;omega
    have⟨s0,s1,g0,g1⟩:=xo b0 c0;refine⟨⟨RH (abe b0) b1 (),MB (abe c0) c1 @_⟩,⟨g0,MB (abe g0) (Int.lt_of_le_of_lt g1 c1) @_⟩,?_⟩;refine Eh _ _ ⟨rfl,wa++[c],rest,some (df c),by rw[e];simp,rfl,?_⟩;have e2:oj (wa++[c])=oj wa * c.2 / g (oj wa) c.2:=by unfold oj;rw[List.foldl_append];rfl
    rw[e2];rfl
  ·have⟨rfl,wa,rest,r,e,ex,rfl⟩:=hj;cases rest with
   | nil=>rw[aaO]at e;subst e;exact h
   | cons c rest=>cases ex
def ax(cs:List Fr):Bool:= !(cs.any λc=>decide (c.1<=0))&&(decide ((cs.map λc=>c.1 * (oj cs / c.2)).sum=oj cs)&&decide (oj cs<=1000000))
def lV:DF:=λds M q _=>∃cs:List Fr,ds=[.lst (cs.map df)]/\VO cs/\q (.bl (ax cs)) M
def cB:Δ ["chances","bottom","whole"] ["chances"] (π ia):=.of rfl
def pL(F:eE K "fits_chances" "fits_chances" ia f fd)(E:Ev K mg Cl CT Ce Cf Cg Ca){sv:Addr}{rK:FuncData}(fh:aV P w K mg base 2 "common_bottom" ["chances"] j7 sv rK):ay P w K mg base (bP P w) 3 f fd ["chances"] (eN K lV):=by
 refine F.ip cB (λds M q x h=>?_) (λbC A outer s H E' hr=>⟨_,(θ (Υ (dq (L9 E.wV (ε (ij (ys:=[]) (Γ:=[]) (.of cB rfl rfl rfl) (bw (jv 0)) (λC s H fp=>(uP (Φ (jv 0) ο) ο))) η))) (μ (Β mm)) Α)
   (θ (τ 1 cB.nd (aK fh hr Θ (ai (jv 0) η)))
   (θ (τ 2 cB.nd (P1 E.Bm (ε (ij (ys:=["bottom"]) (Γ:=[1]) (.of cB rfl rfl rfl) (bw (jv 0)) (λC s H fp=>(xJ (Φ (jv 0) ο) (bO (jv 1) (Φ (jv 0) ο))))) η)))
   (μ (Β (ck (DU hr (jv 2) (jv 1)) (dY (uP (jv 1) (kK E.ic))))))))),λds M q x h=>?_⟩)
 ·have⟨cs,rfl,_⟩:=h;rfl
 ·have⟨cs,rfl,Sm,h⟩:=h;have⟨hz,hc⟩:=id Sm;have W2:(cs.map df).length<=sizeLine:=by rw[aac];exact aaD hz @_
  have⟨b0,b1⟩:=mw cs 1 0 @_ @_ λc h=>⟨(hc c h).1,(hc c h).2.1⟩;walk_at "vc";refine dU (i:=0) rfl rfl ⟨W2,?_⟩;refine e6 (f:=λd=>.bl (match d with| .tup [.int a,.int b]=>decide (a<=0)| _=>false)) trivial (λx hx q hq=>?_) ?_
  ·have⟨y,_,rfl⟩:=aah.mp hx;exact hq
  ·refine⟨cs.map λc=>decide (c.1<=0),by rw[aap,aaI,aap];rfl,λ_ z=>(nomatch z),λ_ z=>(nomatch z),?_⟩;have ea:(cs.map λc=>decide (c.1<=0)).any id=cs.any λc=>decide (c.1<=0):=by rw[List.any_map];rfl
   rw[ea];refine⟨λh1=>?_,λh1=>?_⟩
   ·have e:ax cs=false:=by unfold ax;rw[h1];rfl
    rw[<-e];exact h
   ·refine⟨cs,rfl,Sm,?_⟩;walk_at "vc";refine dU (i:=0) rfl rfl ⟨W2,?_⟩;refine e6 (f:=λd=>.int (match d with| .tup [.int a,.int b]=>a * (oj cs / b)| _=>0)) trivial (λx hx q hq=>?_) ?_
    ·have⟨y,hy,rfl⟩:=aah.mp hx;have⟨y0,y1,y2⟩:=hc y hy;refine⟨⟨y0,MB (abe y0) y1 @_⟩,⟨bg y2,?_⟩,hq⟩;refine RH (k:=200 * (0+cs.length)) (Int.ediv_nonneg (abe b0) (abe y0)) (Int.le_trans (Int.ediv_le_self _ (abe b0)) b1) ()
    ·refine⟨cs.map λc=>c.1 * (oj cs / c.2),by rw[aap,aaI,aap];rfl,⟨_,_,rfl⟩,?_⟩;refine⟨λh2=>?_,λh2=>?_⟩
     ·have e:ax cs=decide (oj cs<=1000000):=by unfold ax;rw[h1,h2];rfl
      rw[e]at h;exact h
     ·have e:ax cs=false:=by unfold ax;rw[h1,h2];rfl
      rw[<-e];exact h
inductive Rw where
 | fin (p:Fr)
 | υ (k:Str) (ds:List Eg)
def bj(d:Eg):Fr:=d.2.2.headD (0,1)
def fM:Rw->Prop
 | .fin p=>0 < p.2
 | .υ k ds=>k≠"end"/\ds.length<=12/\(k="chance"->(∀d∈ds,d.2.2=[bj d])/\VO (ds.map bj))/\∀d∈ds,d.2.2.length<=1/\0 < d.2.1.2
def iO(M:Ms)(d:Dt):Rw->Prop
 | .fin p=>d= .tup [.str "end",df p]
 | .υ k ds=>∃e ok,d= .tup [.str k,e]/\k7 M e=some (ds.map oh,ok)
def dJ:Rw->Dt
 | .fin p=>.tup [.str "end",df p]
 | .υ k ds=>.tup [.str k,.lst (ds.map oh)]
def AQ(M:Ms)(r:Rw):iO M (dJ r) r:=by
 cases r with
 | fin p=>rfl
 | υ k ds=>exact⟨_,_,rfl,rfl⟩
def nC{n:Nat}(p:Fr):(df p).under n:=⟨trivial,trivial,trivial⟩
def BV{n:Nat}:∀(ps:List Fr),Dt.br n (ps.map df)
 | []=>trivial
 | p::ps=>⟨nC p,BV ps⟩
def Oh{n:Nat}(d:Eg):(oh d).under n:=⟨trivial,nC _,BV _⟩
def lA{n:Nat}:∀(ds:List Eg),Dt.br n (ds.map oh)
 | []=>trivial
 | d::ds=>⟨Oh d,lA ds⟩
def vt{n:Nat}(r:Rw):(dJ r).under n:=by
 cases r with
 | fin p=>exact⟨trivial,nC p,trivial⟩
 | υ k ds=>exact⟨trivial,lA ds,trivial⟩
def qf{n:Nat}:∀(rs:List Rw),Dt.br n (rs.map dJ)
 | []=>trivial
 | r::rs=>⟨vt r,qf rs⟩
def eI(k:Str):Bool:=k=="one"|| k=="other"
def bJ(r:Rw)(size:Int):Bool:=match r with
 | .fin p=>eg p
 | .υ k ds=>if eI k then ar ds size else if k="chance" then ar ds size&&ax (ds.map bj) else false
def F0{i:Nat}{j:Int}{ds:List Dt}{ok:Ms->Prop}{q:List Dt->(Ms->Prop)->Ms->Prop}(hv:ρ[i]? =some (some (.tup ds)))(hj:iF ds j=some d)(hl:k7 M d=some (xs,ok))(h:q xs ok M):dM (cz fE (aH i) (dC (.int j))) ρ M q x:=by unfold dM cz aH;rw[hv];show fE (.tup ds) (.int j) M (λd M1=>match rh M1 d with| some (xs,ok)=>q xs ok M1| none=>False);refine ah rfl hj ?_;show(match rh M d with| some (xs,ok)=>q xs ok M| none=>False);rw[pH hl];exact h
def x_{k:Str}:OA (.str k) [.str "one",.str "other"]=eI k:=by show((("one":Str)==k)|| ((("other":Str)==k)|| false))=(k=="one"|| k=="other");rw[Bool.or_false,BEq.comm (a:=("one":Str)),BEq.comm (a:=("other":Str))]
def xV:DF:=λas M q _=>∃d r size,as=[d,.int size]/\iO M d r/\fM r/\q (.bl (bJ r size)) M
def mD:Δ ["row","size","kind"] ["row","size"] (π pC):=.of rfl
def zw   (F:eE K "fits_row" "fits_row" pC f fd) (E:Ev K mg Cl CT Ce Cf Cg Ca) {qB:Addr} {rg:FuncData} (eW:aV P w K mg base 1 "fits_pay" ["pay"] qZ qB rg) {zr:Addr} {z4:FuncData} (fR:aV P w K mg base 3 "fits_doors" ["doors","size"] qt zr z4) {vw:Addr} {vp:FuncData} (fU:aV P w K mg base 3 "fits_chances" ["chances"] lV vw vp):ay P w K mg base (bP P w) 4 f fd ["row","size"] (eN K xV):=by
 refine F.ip mD (λds M q x h=>?_) (λbC A outer s H E' hr=>⟨_,(θ (τ 2 mD.nd (Φ (jv 0) ο))
   (θ (Υ (cG hr (jv 2) χ) (μ (Β (aK eW hr Θ (ε (Φ (jv 0) ο) η aJ)))) Α)
   (θ (Υ (HU (jv 2) (Ln E.yV)) (μ (Β (aK fR hr Θ (ε (Φ (jv 0) ο) (ai (jv 1) η) aJ)))) Α)
   (θ (Υ (cG hr (jv 2) χ) (μ (Β (ck (aK fR hr Θ (ε (Φ (jv 0) ο) (ai (jv 1) η) aJ)) (dY (aK fU hr Θ (ε (ij (ys:=[]) (Γ:=[]) (.of mD rfl rfl rfl) (bw (Φ (jv 0) ο)) (λC s H fp=>(Φ (jv 0) ο))) η)))))) Α)
   (μ (Β mm)))))),λds M q x h=>?_⟩)
 ·have⟨d,r,size,rfl,_⟩:=h;rfl
 ·have⟨d,r,size,rfl,ra,ro,h⟩:=h;cases r with
  | fin p=>
   have ra:d= .tup [.str "end",df p]:=ra;subst ra;exact⟨λ_=>⟨p,rfl,h⟩,nofun⟩
  | υ k ds=>
   have⟨e,ok,rfl,hl⟩:=ra;have⟨hk,hz,Ee,_⟩:=ro;refine⟨λz=>aaG (aaV z) hk,λ_=>?_⟩;refine⟨.str k,[.str "one",.str "other"],[.str "one",.str "other"],rfl,rfl,rfl,?_⟩;rw[x_];refine⟨λh1=>?_,λh1=>?_⟩
   ·refine⟨e,size,ds,ok,rfl,hl,(),?_⟩;have e1:bJ (.υ k ds) size=ar ds size:=by show(if eI k then _ else _)=_;rw[aaB h1]
    rw[<-e1];exact h
   ·have e1:bJ (.υ k ds) size=if k="chance" then ar ds size&&ax (ds.map bj) else false:=by show(if eI k then _ else _)=_;rw[aay (by rw[h1];decide)]
    rw[e1]at h;refine⟨λh2=>?_,λh2=>?_⟩
    ·have h2:k="chance":=aaV h2;rw[aaB h2]at h;have⟨P9,Sm⟩:=Ee h2;refine⟨e,size,ds,ok,rfl,hl,(),λh3=>?_,λh3=>?_⟩
     ·rw[h3,Bool.true_and]at h;show dM _ _ _ _ _;refine F0 (i:=0) (j:=1) (ds:=[.str k,e]) rfl (au (j:=1) rfl) hl ⟨by rw[aac];exact aaD hz @_,?_⟩;refine e6 (f:=λd=>match d with| .tup [_,_,c]=>c| _=>.aS) (oO hl) (λx hx q hq=>?_) ?_
      ·have⟨y,hy,rfl⟩:=aah.mp hx;have ey:oh y= .tup [.int y.1,df y.2.1,df (bj y)]:=by unfold oh;rw[P9 y hy];rfl
       rw[ey]at hq⊢;exact hq
      ·refine⟨ds.map bj,?_,Sm,h⟩;rw[aaI,aap,aap];have:∀y∈ds,((λd=>match d with| Dt.tup [_,_,c]=>c| _=>Dt.aS) ∘ oh) y=(df ∘ bj) y:=λy hy=>by
        have ey:oh y= .tup [.int y.1,df y.2.1,df (bj y)]:=by unfold oh;rw[P9 y hy];rfl
        show(match oh y with| Dt.tup [_,_,c]=>c| _=>Dt.aS)=df (bj y);rw[ey]
       rw[abt this]
     ·rw[h3,Bool.false_and]at h;exact h
    ·have h2:k≠"chance":=aaZ h2;rw[aay h2]at h;exact h
def kN:DF:=λas M q _=>∃d r,as=[d]/\iO M d r/\fM r/\match r with
 | .fin p=>q (.tup [.str "end",df p]) M
 | .υ k ds=>q (.tup [.str k,.loc M.length]) (M++[.lst (ds.map oh)])
def xm:Δ ["row"] ["row"] (π k4):=.of rfl
def uK(F:eE K "copied_row" "copied_row" k4 f fd)(E:Ev K mg Cl CT Ce Cf Cg Ca):ay P w K mg base (bP P w) 1 f fd ["row"] (eN K kN):=by
 refine F.ip xm (λds M q x h=>?_) (λbC A outer s H E' hr=>⟨_,(θ (Υ (cG hr (Φ (jv 0) ο) χ) (μ (Β (bQ (ε (Φ (jv 0) ο) (ε (Φ (jv 0) ο) η aJ) aJ)))) Α)
   (μ (Β (bQ (ε (Φ (jv 0) ο) (ε (NQ E.iG (ε (Φ (jv 0) ο) η aJ)) η cy) aJ))))),λds M q x h=>?_⟩)
 ·have⟨d,r,rfl,_⟩:=h;rfl
 ·have⟨d,r,rfl,ra,ro,h⟩:=h;cases r with
  | fin p=>
   have ra:d= .tup [.str "end",df p]:=ra;subst ra;exact⟨λ_=>⟨pz,h⟩,nofun⟩
  | υ k ds=>
   have⟨e,ok,rfl,hl⟩:=ra;refine⟨λz=>aaG (aaV z) ro.1,λ_=>?_⟩;show(match lU M e with| some xs=>_| none=>False);rw[lY hl];exact⟨pz,h⟩
def bR(p:Fr):Bool:=decide (0<=p.1)&&(decide (p.1 < p.2)&&decide (p.2<=1000))
def pE:DF:=λas M q _=>∃p,as=[df p]/\q (.bl (bR p)) M
def yA:Δ ["share"] ["share"] (π kZ):=.of rfl
def vV(F:eE K "fits_share" "fits_share" kZ f fd)(E:Ev K mg Cl CT Ce Cf Cg Ca):ay P w K mg base (bP P w) 1 f fd ["share"] (eN K pE):=by
 refine F.ip yA (λds M q x h=>?_) (λbC A outer s H E' hr=>⟨_,(μ (Β (ck (uP ο (Φ (jv 0) ο)) (ck (QQ (Φ (jv 0) ο) (Φ (jv 0) ο)) (dY (uP (Φ (jv 0) ο) (kK E.fg))))))),λds M q x h=>?_⟩)
 ·have⟨p,rfl,_⟩:=h;rfl
 ·have⟨p,rfl,h⟩:=h;unfold bR at h;refine⟨λh1=>⟨λh2=>?_,λh2=>?_⟩,λh1=>?_⟩
  ·rw[show decide (0<=p.1)=true from h1,show decide (p.1 < p.2)=true from h2]at h;exact h
  ·rw[show decide (0<=p.1)=true from h1,show decide (p.1 < p.2)=false from h2]at h;exact h
  ·rw[show decide (0<=p.1)=false from h1]at h;exact h
def cS{α:Type}{te:DE}{cs:En}{ok:Ms->Prop}{F:Dt->α->Prop}{f:α->Dt}{M:Ms}{k:List Dt->Ms->Prop}(ho:ok M)(ht:∀x a,F x a->∀q:DQ,q (f a) M->te (some x::cs) M q iB):∀{xs:List Dt} {as:List α} {Κ:List Dt},Paired F xs as->k (Κ++as.map f) M->jd te cs ok xs Κ M k
 | _,_,Κ,.nil,h=>⟨ho,by simpa using h⟩
 | _,_,Κ,.cons r t,h=>⟨ho,ht _ _ r _ (cS ho ht t (by simpa using h))⟩
def wQ{k:Nat}{C':Addr}{ns ns':List Str}{xs':List Dt}{e:Dt}{ys:List Dt}{ok:Ms->Prop}(hk:M[k]? =some (.ins C ns xs))(h:k7 M e=some (ys,ok)):k7 (M.set k (.ins C' ns' xs')) e=some (ys,ok):=by
 cases e with
 | lst ds=>exact h
 | oK ns=>exact h
 | loc j=>
  have h:(match M[j]? with| some (.lst xs)=>some (xs,λM':Ms=>M'[j]? =some (.lst xs))| _=>none)=some (ys,ok):=h;have ne:k≠j:=λz=>by subst z;rw[hk]at h;cases h
  show(match (M.set k (.ins C' ns' xs'))[j]? with| some (.lst xs)=>some (xs,λM':Ms=>M'[j]? =some (.lst xs))| _=>none)=some (ys,ok);rw[aaX ne];exact h
 | _=>cases h
def CU{k:Nat}{C':Addr}{ns ns':List Str}{xs':List Dt}{r:Rw}(hk:M[k]? =some (.ins C ns xs))(h:iO M d r):iO (M.set k (.ins C' ns' xs')) d r:=by
 cases r with
 | fin p=>exact h
 | υ k' ds=>
  have⟨e,ok,h1,h2⟩:=h;exact⟨e,ok,h1,wQ hk h2⟩
def Dh{f:Str}{i:Nat}{v:Dt}{ns:List Str}{ds:List Dt}{ok:Ms->Prop}{q:List Dt->(Ms->Prop)->Ms->Prop}(hv:ρ[i]? =some (some d))(ho:Kw C M d ns ds)(hf:(ns.zip ds).lookup f=some v)(hl:k7 M v=some (xs,ok))(h:q xs ok M):dM (Ni C f (aH i)) ρ M q x:=by unfold dM Ni aH;rw[hv];refine⟨ns,ds,v,ho,hf,?_⟩;show(match rh M v with| some (xs,ok)=>q xs ok M| none=>False);rw[pH hl];exact h
def qH(C:Addr)(Ζ:Fr)(Μ:List Rw):Dt:=.obj C ["kept_share","kept_rows"] [df Ζ,.lst (Μ.map dJ)]
def Wd:O2:=λds M q=>∃i:Int,ds=[.int i]/\0<=i/\i<=100/\q [("place",.int i)] M
def rR:Δ ["self","place"] ["self","place"] (π hZ):=.of rfl
def qK(F:eE K "__init__" "NoPlace.__init__" hZ f fd)(E:Ev K mg Cl CT Ce Cf Cg Ca)(cI:eR K Cg VB "ValueError.__new__" f):ay P w K mg base (bP P w) 1 f fd ["self","place"] (Ts K Cg Wd):=by
 refine F.Yo rR (λds M q h=>?_) (λbC A outer s H E' hr=>⟨_,(Ko (IP aas cI E.qS E.ky (Nm (.cons χ (.cons (Pr (jv 1)) (.cons χ .nil))))) (MX (M7 cI E.iy (jv 1)))),λds M q h=>?_⟩)
 ·have⟨i,rfl,_⟩:=h;rfl
 ·have⟨i,rfl,i0,i1,h⟩:=h;obtain⟨j,rfl⟩:∃j:Nat,i=(j:Int):=⟨i.toNat,()⟩;have hj:j < 101:=()
  have l1:∀j:Nat,j < 101->(Str.empty++Str.ofString "row "++Str.ofString (toString (j:Int))).length<=sizeLine:=by decide+kernel
  have l2:∀j:Nat,j < 101->(Str.empty++Str.ofString "row "++Str.ofString (toString (j:Int))++Str.ofString " tells no place").length<=sizeLine:=by decide+kernel
  have l3:∀j:Nat,j < 101->(j:Int).natAbs.log2 < 1920:=by decide+kernel
  exact⟨by decide+kernel,l3 j hj,l1 j hj,l2 j hj,@_,@_,h⟩
def aB(size:Int):List Rw->Nat->Option Nat
 | [],_=>none
 | r::rs,n=>if bJ r size=true then aB size rs (n+1) else some n
def LB(Cl CF CP:Addr):DF:=λas M q x=>∃k d Ζ ds Μ ok,as=[.loc k,df Ζ,d]/\M[k]? =some (.ins Cl [] [])/\k7 M d=some (ds,ok)/\Paired (iO M) ds Μ/\Μ.length<=100/\(∀r∈Μ,fM r)/\
 if bR Ζ=true/\1<=Μ.length/\Μ.length<=12 then (match aB Μ.length Μ 0 with
  | none=>q .aS (M.set k (.ins Cl ["kept_share","kept_rows"] [df Ζ,.lst (Μ.map dJ)]))
  | some j=>x CP [("place",.int (j:Int))] M)
 else x CF [] M
def fK:Δ ["self","share","rows","place","row"] ["self","share","rows"] (π kG):=.of rfl
def vq(F:eE K "__init__" "Floor.__init__" kG f fd)(E:Ev K mg Cl CT Ce Cf Cg Ca){Ah:Addr}{AI:FuncData}(iZ:aV P w K mg base 1 "fits_share" ["share"] pE Ah AI){Fx:Addr}{Ik:FuncData}(ni:aV P w K mg base 4 "fits_row" ["row","size"] xV Fx Ik){vi:Addr}{uE:FuncData}(gj:S0 P w K mg base 1 "NoPlace" Cg VB "ValueError.__new__" ["self","place"] Wd vi uE){ka:Addr}{k6:FuncData}(cW:aV P w K mg base 1 "copied_row" ["row"] kN ka k6):ay P w K mg base (bP P w) 5 f fd ["self","share","rows"] (eN K (LB Cl Cf Cg)):=by
 refine F.ip fK (λds M q x h=>?_) (λbC A outer s H E' hr=>⟨_,(θ (Υ (mK (dq (aK iZ hr Θ (ai (jv 1) η)))) (μ (aN bf aas E.pG E.lL (ε χ η Ε))) Α)
   (θ (Υ (JW.jt (nZ (pX (b_ E.bG (ai (jv 2) η)) ο) (kW (B2 (b_ E.bG (ai (jv 2) η)) (kK E.lD))))) (μ (aN bf aas E.pG E.lL (ε χ η Ε))) Α)
   (θ (oS (AX E.eC (ai (jv 2) η)) (zS rfl (dk (bS (i:=3) fK.nd rfl (Or.inl rfl)) (dk (bS (i:=4) fK.nd rfl (Or.inl rfl)) oE))) HA (μ (Υ (mK (dq (aK ni hr Θ (ai (jv 4) (ε (b_ E.bG (ai (jv 2) η)) η cy))))) (μ (C_ gj hr bf aas (ai (jv 3) η))) Α)))
   (θ (Be E.iK E.fY (jv 0) (jv 1))
   (μ (Be E.iK E.iq (jv 0) (ij (ys:=[]) (Γ:=[]) (.of fK rfl rfl rfl) (bw (jv 2)) (λC s H fp=>(lQ (aK cW hr (gX (P:=P) (w:=w)) (ai (jv 0) η))))))))))),λds M q x h=>?_⟩)
 ·have⟨k,d,Ζ,ds,Μ,ok,rfl,_⟩:=h;rfl
 ·have⟨k,d,Ζ,ds,Μ,ok,rfl,hk,hl,hp,TX,Xc,h⟩:=h;have hlen:ds.length=Μ.length:=Paired.length hp;walk_at "vc";refine⟨Ζ,rfl,λz=>?_,λz=>?_⟩
  ·have z:bR Ζ=false:=by simpa using z
   rw[aay (λy=>by rw[z]at y;exact aaG y.1 @_)]at h;exact⟨@_,h⟩
  have hs:bR Ζ=true:=by simpa using z
  have Vf:=lY hl;refine bE Vf ⟨λz=>?_,λz=>?_⟩
  ·have z:(ds.length:Int) < 1:=by simpa using z
   rw[aay (λy=>())]at h;exact⟨λ_=>⟨by show 1<=sizeLine;decide,h⟩,nofun⟩
  have h1:¬(ds.length:Int) < 1:=by simpa using z
  refine bE Vf ⟨λz=>?_,λz=>?_⟩
  ·have z:12 < (ds.length:Int):=by simpa using z
   rw[aay (λy=>())]at h;exact⟨@_,h⟩
  have Ze:¬12 < (ds.length:Int):=by simpa using z
  rw[aaB ⟨hs,(),()⟩]at h;refine⟨d,ds,ok,rfl,hl,?_⟩;refine jf (λxs ρ M'=>M'=M/\∃n Kj tG a b,xs=iQ n Kj/\Paired (iO M) Kj tG/\(∀r∈tG,r∈Μ)/\n+tG.length=Μ.length/\aB Μ.length Μ 0=aB Μ.length tG n/\ρ=[some (.loc k),some (df Ζ),some d,a,b]) (λxs ρ M' hj=>by have⟨rfl,_⟩:=hj;exact oO hl) (λx xs ρ M' hj Eh=>?_) (λρ M' hj=>?_) _ _ _ ⟨rfl,0,ds,Μ,none,none,rfl,hp,λ_ h=>h,(),rfl,rfl⟩
  ·have⟨rfl,n,Kj,tG,a,b,ex,D8,Rz,hn,SS,rfl⟩:=hj;cases D8 with
   | nil=>cases ex
   | cons ra t=>
    rename_i d1 r1 ds1 wN;cases ex;have hn:n+(wN.length+1)=Μ.length:=hn;refine bE Vf ⟨d1,r1,ds.length,rfl,ra,Xc r1 (Rz r1 aaf),λz=>?_,λz=>?_⟩
    ·rw[hlen]at z;have z:bJ r1 Μ.length=false:=by simpa using z
     have e:aB Μ.length (r1::wN) n=some n:=by unfold aB;rw[if_neg (by rw[z];decide)]
     rw[SS,e]at h;dsimp only[A9];walk_at "vc";exact⟨@_,n,rfl,(),(),nofun,h⟩
    ·rw[hlen]at z;have z:bJ r1 Μ.length=true:=by simpa using z
     have e:aB Μ.length (r1::wN) n=aB Μ.length wN (n+1):=by rw[aB,aaB z]
     exact Eh _ _ ⟨rfl,n+1,ds1,wN,_,_,rfl,t,λr hr=>Rz r (aag _ hr),(),by rw[SS,e],rfl⟩
  ·have⟨rfl,n,Kj,tG,a,b,ex,D8,Rz,hn,SS,rfl⟩:=hj;have O4:Kj=[]:=by
    cases Kj with
    | nil=>rfl
    | cons _ _=>cases ex
   subst O4;cases D8;rw[SS]at h;have h:q .aS (M'.set k (.ins Cl ["kept_share","kept_rows"] [df Ζ,.lst (Μ.map dJ)])):=h;have Yz:k < M'.length:=(aai.mp hk).1;refine⟨k,[],[],rfl,hk,(nofun),@_,?_⟩;have Wm:=wQ (C':=Cl) (ns':=["kept_share"]) (xs':=[df Ζ]) hk hl;dsimp only[Ll,List.nil_append];show dM _ _ _ _ _;refine dU (i:=2) rfl Wm ⟨by rw[hlen];exact aaD TX @_,?_⟩;have Uq:Paired (λx a=>iO (M'.set k (.ins Cl ["kept_share"] [df Ζ])) x a/\fM a) ds Μ:=by
    have:∀{xs:List Dt} {rs:List Rw},Paired (iO M') xs rs->(∀r∈rs,fM r)->Paired (λx a=>iO (M'.set k (.ins Cl ["kept_share"] [df Ζ])) x a/\fM a) xs rs:=by
     intro xs rs hp
     induction hp with
     | nil=>exactλ_=>.nil
     | cons r t ih=>exactλh=>.cons ⟨CU hk r,h _ aaf⟩ (ih λy hy=>h y (aag _ hy))
    exact this hp Xc
   refine cS (f:=dJ) (oO Wm) (λx a ha q' hq=>?ht) Uq ?fin
   case ht=>
    have⟨ha,ho⟩:=ha;refine⟨x,a,rfl,ha,ho,?_⟩;cases a with
    | fin p=>exact Jc ⟨trivial,nC p,trivial⟩ hq
    | υ k2 Yc=>exact kL (.tup (.cons (.old trivial) (.cons (.zv (Nat.le_refl _) (by simp) (eA.old (lA Yc))) .nil))) hq
   case fin=>
    refine⟨k,["kept_share"],[df Ζ],rfl,by rw[aaS Yz],@_,@_,?_⟩;rw[List.set_set];exact h
def l9:Nat->List Rw->List Dt
 | _,[]=>[]
 | n,.fin p::r=>.tup [.str "end",df p]::l9 n r
 | n,.υ k _::r=>.tup [.str k,.loc n]::l9 (n+1) r
def jW:List Rw->Ms
 | []=>[]
 | .fin _::r=>jW r
 | .υ _ ds::r=>.lst (ds.map oh)::jW r
def E_(C:Addr):DF:=λas M q _=>∃Ζ Μ,as=[qH C Ζ Μ]/\q (df Ζ) M
def uC:Δ ["self"] ["self"] (π i6):=.of rfl
def rY(F:eE K "share" "Floor.share" i6 f fd)(E:Ev K mg Cl CT Ce Cf Cg Ca):ay P w K mg base (bP P w) 1 f fd ["self"] (eN K (E_ Cl)):=by
 refine F.ip uC (λds M q x h=>?_) (λbC A outer s H E' hr=>⟨_,(μ (Β (LP E.iK E.fY (jv 0)))),λds M q x h=>?_⟩)
 ·have⟨Ζ,Μ,rfl,_⟩:=h;rfl
 ·have⟨Ζ,Μ,rfl,h⟩:=h;exact⟨_,_,_,.inl rfl,rfl,h⟩
def pZ{te:DE}{cs:En}{k:List Dt->Ms->Prop} (ht:∀r M (q:DQ),fM r->(match r with
  | .fin p=>q (.tup [.str "end",df p]) M
  | .υ k ds=>q (.tup [.str k,.loc M.length]) (M++[.lst (ds.map oh)]))->te (some (dJ r)::cs) M q iB):∀(Μ:List Rw) (Κ:List Dt) (M:Ms),(∀r∈Μ,fM r)->k (Κ++l9 M.length Μ) (M++jW Μ)->jd te cs (λ_=>True) (Μ.map dJ) Κ M k
 | [],Κ,M,_,h=>⟨trivial,by simpa [l9,jW] using h⟩
 | r::Μ,Κ,M,ho,h=>by
  refine⟨trivial,ht r M _ (ho r aaf) ?_⟩;cases r with
  | fin p=>
   refine pZ ht Μ _ M (λr hr=>ho r (aag _ hr)) ?_;simpa [l9,jW] using h
  | υ k' ds=>
   refine pZ ht Μ _ _ (λr hr=>ho r (aag _ hr)) ?_;simpa [l9,jW] using h
def LG(C:Addr):DF:=λas M q _=>∃Ζ Μ,as=[qH C Ζ Μ]/\Μ.length<=12/\(∀r∈Μ,fM r)/\q (.loc (M.length+(jW Μ).length)) (M++jW Μ++[.lst (l9 M.length Μ)])
def nK:Δ ["self"] ["self"] (π kq):=.of rfl
def ug(F:eE K "rows" "Floor.rows" kq f fd)(E:Ev K mg Cl CT Ce Cf Cg Ca){ka:Addr}{k6:FuncData}(cW:aV P w K mg base 1 "copied_row" ["row"] kN ka k6):ay P w K mg base (bP P w) 2 f fd ["self"] (eN K (LG Cl)):=by
 refine F.ip nK (λds M q x h=>?_) (λbC A outer s H E' hr=>⟨_,(μ (Β (Gz (ys:=[]) (Γ:=[]) (.of nK rfl rfl rfl) (bw (LP E.iK E.iq (jv 0))) (λC s H fp=>(aK cW hr (gX (P:=P) (w:=w)) (ai (jv 0) η)))))),λds M q x h=>?_⟩)
 ·have⟨Ζ,Μ,rfl,_⟩:=h;rfl
 ·have⟨Ζ,Μ,rfl,hz,ho,h⟩:=h;walk_at "vc";refine Dh (i:=0) (d:=qH Cl Ζ Μ) rfl (.inl rfl) rfl rfl ⟨by rw[aac];exact aaD hz @_,?_⟩;refine pZ (λr M q hr hq=>⟨dJ r,r,rfl,AQ M r,hr,by cases r <;> exact hq⟩) Μ [] M ho ?_;rw[aaI,aae];exact h
def CI(ns:List Int)(k:Int):Int:=ns.getD k.toNat 0
def KY:DF:=λds M q _=>match ds with
 | [.oK ns,.int k]=>0<=k/\q (.int (CI ns k)) M
 | _=>False
def Gb:Δ ["_law_script","_law_k"] ["_law_script","_law_k"] (π vM):=.of rfl
def Cs(F:eE K "_law_nth" "_law_nth" vM f fd)(E:Ev K mg Cl CT Ce Cf Cg Ca):ay P w K mg base (bP P w) 1 f fd ["_law_script","_law_k"] (eN K KY):=by
 refine F.ip Gb (λds M q x h=>?_) (λbC A outer s H E' hr=>⟨_,(μ (Β (Ld (pX (jv 1) (b_ E.bG (ai (jv 0) η))) (Φ (jv 0) (jv 1)) ο))),λds M q x h=>?_⟩)
 ·unfold KY at h;split at h;· rfl
  ·exact h.elim
 ·unfold KY at h;split at h
  ·rename_i ns k;have⟨hk,h⟩:=h;refine⟨λh1=>?_,λh1=>?_⟩
   ·have h2:k < (ns.length:Int):=by simpa using h1
    have Mz:iF (ns.map Dt.int) k=some (.int (CI ns k)):=by
     have e:(ns.map Dt.int)[k.toNat]? =some (.int (CI ns k)):=by rw[aaM,aaa (show k.toNat < ns.length by omega)];unfold CI;rw[abA,aaa (show k.toNat < ns.length by omega)];rfl
     have:=au e;rwa[show((k.toNat:Nat):Int)=k by omega]at this
    show(match iF (ns.map Dt.int) k with| some y=>q y M| none=>False);rw[Mz];exact h
   ·have h2:¬k < (ns.length:Int):=by simpa using h1
    have e:CI ns k=0:=by unfold CI;rw[abA,List.getElem?_eq_none ()];rfl
    rw[e]at h;exact h
  ·exact h.elim
def pF{g:Dt->En->(En->Prop)->Prop}{tb:DS}{Dn:jU}(J:List Dt->En->Ms->Prop)
  (step:∀x xs ρ M,J (x::xs) ρ M->(∀ρ M,J xs ρ M->vN g tb Dn xs ρ M)->g x ρ λρ'=>tb {Dn with nx:=vN g tb Dn xs,ct:=vN g tb Dn xs,bk:=Dn.nx} ρ' M)
  (fin:∀ρ M,J [] ρ M->Dn.nx ρ M):∀(xs:List Dt) (ρ:En) (M:Ms),J xs ρ M->vN g tb Dn xs ρ M
 | [],ρ,M,h=>fin _ _ h
 | x::xs,ρ,M,h=>step x xs ρ M h λρ' M' h'=>pF J step fin xs ρ' M' h'
def tP{lo:Int}{n:Nat}{x:Dt}(h:x::xs=iW lo n):∃m,n=m+1/\x= .int lo/\xs=iW (lo+1) m:=by
 cases n with
 | zero=>exact nomatch h
 | succ m=>
  unfold iW at h;rw[abv,aaJ,aap]at h;cases h;refine⟨m,rfl,by simp,?_⟩;unfold iW;apply abt;intro k _;show Dt.int (lo+((k+1:Nat):Int))=Dt.int (lo+1+(k:Int))
  congr 1
  omega
def kj{α:Type}{te:DE}{cs:En}{M:Ms}{f:α->Dt}(G:α->Prop){k:List Dt->Ms->Prop}:∀(xs:List Dt) (Κ:List α),(∀a∈Κ,G a)->(∀x∈xs,∀q:DQ,(∀a,G a->q (f a) M)->te (some x::cs) M q iB)->
  (∀as:List α,as.length=Κ.length+xs.length->(∀a∈as,G a)->k (as.map f) M)->pd te cs xs (Κ.map f) M k
 | [],Κ,ha,_,h=>h Κ (by simp) ha
 | x::xs,Κ,ha,ht,h=>ht x aaf _ λa hg=>by
  have e:Κ.map f++[f a]=(Κ++[a]).map f:=by simp
  rw[e];refine kj G xs (Κ++[a]) (λb hb=>?_) (λy hy=>ht y (List.mem_cons_of_mem _ hy)) λas hl Yx=>h as (by rw[hl];simp;omega) Yx;rcases aaj.mp hb with hb| hb
  ·exact ha b hb
  ·have:b=a:=by simpa using hb
   rw[this];exact hg
def b3:ow 3:=bg (k:=4) @_
def gL{lo:Int}{n:Nat}{x:Dt}(h:x∈iW lo n):∃k:Nat,k < n/\x= .int (lo+k):=by unfold iW at h;have⟨k,hk,rfl⟩:=aah.mp h;exact⟨k,abk.mp hk,rfl⟩
def cJ{lo:Int}{n:Nat}:(iW lo n).length=n:=by unfold iW;simp
def Gx{a b c:Dt}{j:Int}(h0:0<=j)(h1:j < 4):∃y,iF [a,b,c,d] j=some y/\(y=a\/y=b\/y=c\/y=d):=by
 have:j=0\/j=1\/j=2\/j=3:=()
 rcases this with rfl| rfl| rfl| rfl
 ·exact⟨a,au (j:=0) rfl,.inl rfl⟩
 ·exact⟨b,au (j:=1) rfl,.inr (.inl rfl)⟩
 ·exact⟨c,au (j:=2) rfl,.inr (.inr (.inl rfl))⟩
 ·exact⟨d,au (j:=3) rfl,.inr (.inr (.inr rfl))⟩
def b4:ow 4:=bg (k:=4) @_
def Pl:Nat->Dt->Prop
 | _,.aS=>True
 | _,.int _=>True
 | _,.str _=>True
 | n+1,.tup ds=>ds.length<=100/\∀d∈ds,Pl n d
 | n+1,.lst ds=>ds.length<=100/\∀d∈ds,Pl n d
 | _,_=>False
def mW(n:Nat):DF:=λas M q _=>∃d e,as=[d,e]/\Pl n e/\ub 0 M d e/\q (.bl true) M
def qh{n:Nat}{E:Ms}:∀{ds es:List Dt} {i:Nat} {e:Dt},eA n E ds es->es[i]? =some e->∃d,ds[i]? =some d/\ub n E d e
 | _,_,_,_,.nil,h=>by simp at h
 | _,_,0,_,.cons f _,h=>by simp at h;subst h;exact⟨_,rfl,f⟩
 | _,_,i+1,e,.cons _ t,h=>by have⟨d,h1,h2⟩:=qh (i:=i) (e:=e) t (by simpa using h);exact⟨d,by simpa using h1,h2⟩
def BA(h:ub 0 M d .aS):d= .aS:=by cases h;rfl
def AY(h:ub 0 M d (.int i)):d= .int i:=by cases h;rfl
def Bq(h:ub 0 M d (.str z)):d= .str z:=by cases h;rfl
def KC{es:List Dt}(h:ub 0 M d (.tup es)):∃ds,d= .tup ds/\eA 0 M ds es:=by
 cases h with
 | old u=>exact⟨es,rfl,eA.old u⟩
 | tup h=>exact⟨_,rfl,h⟩
def KI{es:List Dt}(h:ub 0 M d (.lst es)):∃ds,lU M d=some ds/\Gu M d=some (.type "list")/\eA 0 M ds es:=by
 cases h with
 | old u=>exact⟨es,rfl,rfl,eA.old u⟩
 | lst h=>exact⟨_,rfl,rfl,h⟩
 | zv hk e h=>
  rename_i k ds;have e:M[k]? =some (.lst ds):=e;refine⟨ds,?_,?_,h⟩
  ·show(match M[k]? with| some (.lst xs)=>some xs| _=>none)=some ds;rw[e]
  ·show(match M[k]? with| some (.lst _)=>some (Value.type "list")| _=>none)=some (Value.type "list");rw[e]
def km:Δ ["_law_found","_law_due"] ["_law_found","_law_due"] (π gM):=.of rfl
def zX{n:Nat}(F:eE K "_law_alike" "_law_alike" gM f fd)(E:Ev K mg Cl CT Ce Cf Cg Ca)(bq:aV P w K mg base (n+1) "_law_alike" ["_law_found","_law_due"] (mW n) f fd):ay P w K mg base (bP P w) (n+2) f fd ["_law_found","_law_due"] (eN K (mW (n+1))):=by
 refine F.ip km (λds M q x h=>?_) (λbC A outer s H E' hr=>⟨_,(θ (Υ (ED (jv 1) Eu) (μ (Β (LH (jv 0) Eu))) Α)
   (θ (Υ (dq (bH K E.ω (ai (jv 1) (ai (ik E.qM jw) η)))) (μ (Β (ck (bH K E.ω (ai (jv 0) (ai (ik E.qM jw) η))) (dY (DU hr (jv 0) (jv 1)))))) Α)
   (θ (Υ (dq (bH K E.ω (ai (jv 1) (ai (ik E.nP gI) η)))) (μ (Β (ck (bH K E.ω (ai (jv 0) (ai (ik E.nP gI) η))) (ck (Ar (bH K E.ω (ai (jv 0) (ai (ik E.p_ qo) η)))) (dY (DU hr (jv 0) (jv 1))))))) Α)
   (θ (Υ (JW.jt (nZ (fJ hr (bH K E.ω (ai (jv 1) (ai (ik E.d8 c_) η))) (bH K E.ω (ai (jv 0) (ai (ik E.d8 c_) η)))) (kW (fJ hr (bH K E.ω (ai (jv 1) (ai (ik E.iG fv) η))) (bH K E.ω (ai (jv 0) (ai (ik E.iG fv) η))))))) (μ (Β mm)) Α)
   (θ (Υ (fJ hr (b_ E.bG (ai (jv 0) η)) (b_ E.bG (ai (jv 1) η))) (μ (Β mm)) Α)
   (μ (Β (Gg E.tJ (ε (uN (ys:=["_law_found","_law_due"]) (Γ:=[0,1]) (.of km rfl rfl rfl) (fw E.ej (ε (b_ E.bG (ai (jv 1) η)) η cy)) (λC s H fp=>(aK bq hr (gX (P:=P) (w:=w)) (ε (Φ (jv 1) (jv 0)) (ε (Φ (jv 2) (jv 0)) η aJ) aJ) (hk:=aaq _)))) η))))))))),λds M q x h=>?_⟩)
 ·have⟨d,e,rfl,_⟩:=h;rfl
 ·have⟨d,e,rfl,hp,hf,h⟩:=h;walk_at "vc";cases e with
  | aS=>
   cases BA hf;exact⟨λ_=>h,nofun⟩
  | int i=>
   cases AY hf;refine⟨nofun,λ_=>⟨_,_,_,_,false,rfl,rfl,rfl,E.T5,nofun,λ_=>⟨_,_,_,_,true,rfl,rfl,rfl,dZ,λ_=>⟨_,_,_,_,true,rfl,rfl,rfl,dZ,λ_=>⟨_,_,_,_,false,rfl,rfl,rfl,E.ib,λ_=>?_,nofun⟩,nofun⟩,nofun⟩⟩⟩;show q (.bl (decide (i=i))) M;rw[aaK rfl];exact h
  | str z0=>
   cases Bq hf;refine⟨nofun,λ_=>⟨_,_,_,_,true,rfl,rfl,rfl,dZ,λ_=>⟨_,_,_,_,true,rfl,rfl,rfl,dZ,λ_=>?_,nofun⟩,nofun⟩⟩;show q (.bl (decide (z0=z0))) M;rw[aaK rfl];exact h
  | tup es=>
   have⟨ds,rfl,Zk⟩:=KC hf;clear hf;have hf:=Zk;have UY:ds.length=es.length:=hf.length;have Iu:=hp.1;refine⟨nofun,λ_=>⟨_,_,_,_,false,rfl,rfl,rfl,E.W8,nofun,λ_=>⟨_,_,_,_,false,rfl,rfl,rfl,E.Wo,nofun,λ_=>⟨_,_,_,_,true,rfl,rfl,rfl,dZ,_,_,_,_,true,rfl,rfl,rfl,dZ,λz=>aaG z @_,λ_=>⟨_,_,_,_,false,rfl,rfl,rfl,E.Tr,_,_,_,_,false,rfl,rfl,rfl,E.Tr,λz=>aaG z @_,λ_=>?_⟩⟩⟩⟩⟩;refine bE rfl (bE rfl ⟨λz=>?_,λ_=>?_⟩)
   ·have z:(!decide ((ds.length:Int)=es.length))=true:=z;rw[UY,aaK rfl]at z;exact nomatch z
   dsimp only[tM,GF,bW,fC,vP,aH];refine(bE (d:=.tup es) (xs:=es) rfl ?_:vU [.tup es] M _);refine⟨⟨(),()⟩,by rw[cJ];exact aaD (show _<=100 by omega) @_,?_⟩;refine eX (f:=λ_=>.bl true) _ _ (λx HZ q' hq=>?_) ?_
   ·have⟨k,IH,rfl⟩:=gL HZ;have hk:k < es.length:=()
    have ee:es[k]? =some es[k]:=aaa hk;have⟨d1,Tc,UC⟩:=qh hf ee;have a1:iF ds (0+(k:Int))=some d1:=by rw[Int.zero_add];exact au Tc
    have a2:iF es (0+(k:Int))=some es[k]:=by rw[Int.zero_add];exact au ee
    dsimp only[sH,bW,fC,cz,aH];refine(ah (d:=.tup ds) rfl a1 ?_:fE (.tup ds) (.int (0+(k:Int))) M _);refine(ah (d:=.tup es) rfl a2 ?_:fE (.tup es) (.int (0+(k:Int))) M _);exact⟨d1,es[k],rfl,hp.2 _ (List.getElem_mem hk),UC,hq⟩
   ·refine⟨List.replicate es.length true,?_,?_⟩
    ·rw[aaI,List.map_replicate];apply List.ext_getElem
     ·simp[cJ]
     ·intro i h1 h2;simp
    ·have:(List.replicate es.length true).all id=true:=by simp
     rw[this];exact h
  | lst es=>
   have⟨ds,hs,hk,hf⟩:=KI hf;have UY:ds.length=es.length:=hf.length;have Iu:=hp.1;refine⟨nofun,λ_=>⟨_,_,_,_,false,rfl,rfl,rfl,E.W3,nofun,λ_=>⟨_,_,_,_,false,rfl,rfl,rfl,E.Xb,nofun,λ_=>⟨_,_,_,_,false,rfl,rfl,rfl,E.klt,_,_,_,_,false,rfl,hk,rfl,E.klt,λz=>aaG z @_,λ_=>⟨_,_,_,_,true,rfl,rfl,rfl,dZ,_,_,_,_,true,rfl,hk,rfl,dZ,λz=>aaG z @_,λ_=>?_⟩⟩⟩⟩⟩;refine bE hs (bE rfl ⟨λz=>?_,λ_=>?_⟩)
   ·have z:(!decide ((ds.length:Int)=es.length))=true:=z;rw[UY,aaK rfl]at z;exact nomatch z
   dsimp only[tM,GF,bW,fC,vP,aH];refine(bE (d:=.lst es) (xs:=es) rfl ?_:vU [.lst es] M _);refine⟨⟨(),()⟩,by rw[cJ];exact aaD (show _<=100 by omega) @_,?_⟩;refine eX (f:=λ_=>.bl true) _ _ (λx HZ q' hq=>?_) ?_
   ·have⟨k,IH,rfl⟩:=gL HZ;have hk:k < es.length:=()
    have ee:es[k]? =some es[k]:=aaa hk;have⟨d1,Tc,UC⟩:=qh hf ee;have a1:iF ds (0+(k:Int))=some d1:=by rw[Int.zero_add];exact au Tc
    have a2:iF es (0+(k:Int))=some es[k]:=by rw[Int.zero_add];exact au ee
    dsimp only[sH,bW,fC,cz,aH];refine(ah (d:=d) hs a1 ?_:fE d (.int (0+(k:Int))) M _);refine(ah (d:=.lst es) rfl a2 ?_:fE (.lst es) (.int (0+(k:Int))) M _);exact⟨d1,es[k],rfl,hp.2 _ (List.getElem_mem hk),UC,hq⟩
   ·refine⟨List.replicate es.length true,?_,?_⟩
    ·rw[aaI,List.map_replicate];apply List.ext_getElem
     ·simp[cJ]
     ·intro i h1 h2;simp
    ·have:(List.replicate es.length true).all id=true:=by simp
     rw[this];exact h
  | _=>exact hp.elim
def zN(F:eE K "_law_alike" "_law_alike" gM f fd)(E:Ev K mg Cl CT Ce Cf Cg Ca):ay P w K mg base (bP P w) 1 f fd ["_law_found","_law_due"] (eN K (mW 0)):=by
 refine F.ip km (λds M q x h=>?_) (λbC A outer s H E' hr=>⟨_,(θ (Υ (ED (jv 1) Eu) (μ (Β (LH (jv 0) Eu))) Α)
   (θ (Υ (dq (bH K E.ω (ai (jv 1) (ai (ik E.qM jw) η)))) (μ (Β (ck (bH K E.ω (ai (jv 0) (ai (ik E.qM jw) η))) (dY (DU hr (jv 0) (jv 1)))))) Α)
   (θ (Υ (dq (bH K E.ω (ai (jv 1) (ai (ik E.nP gI) η)))) (μ (Β (ck (bH K E.ω (ai (jv 0) (ai (ik E.nP gI) η))) (ck (Ar (bH K E.ω (ai (jv 0) (ai (ik E.p_ qo) η)))) (dY (DU hr (jv 0) (jv 1))))))) Α)
   (θ (Υ (JW.jt (nZ (fJ hr (bH K E.ω (ai (jv 1) (ai (ik E.d8 c_) η))) (bH K E.ω (ai (jv 0) (ai (ik E.d8 c_) η)))) (kW (fJ hr (bH K E.ω (ai (jv 1) (ai (ik E.iG fv) η))) (bH K E.ω (ai (jv 0) (ai (ik E.iG fv) η))))))) (μ (Β mm)) Α)
   (θ (Υ (fJ hr (b_ E.bG (ai (jv 0) η)) (b_ E.bG (ai (jv 1) η))) (μ (Β mm)) Α)
   (μ wY)))))),λds M q x h=>?_⟩)
 ·have⟨d,e,rfl,_⟩:=h;rfl
 ·have⟨d,e,rfl,hp,hf,h⟩:=h;walk_at "vc";cases e with
  | aS=>
   cases BA hf;exact⟨λ_=>h,nofun⟩
  | int i=>
   cases AY hf;refine⟨nofun,λ_=>⟨_,_,_,_,false,rfl,rfl,rfl,E.T5,nofun,λ_=>⟨_,_,_,_,true,rfl,rfl,rfl,dZ,λ_=>⟨_,_,_,_,true,rfl,rfl,rfl,dZ,λ_=>⟨_,_,_,_,false,rfl,rfl,rfl,E.ib,λ_=>?_,nofun⟩,nofun⟩,nofun⟩⟩⟩;show q (.bl (decide (i=i))) M;rw[aaK rfl];exact h
  | str z0=>
   cases Bq hf;refine⟨nofun,λ_=>⟨_,_,_,_,true,rfl,rfl,rfl,dZ,λ_=>⟨_,_,_,_,true,rfl,rfl,rfl,dZ,λ_=>?_,nofun⟩,nofun⟩⟩;show q (.bl (decide (z0=z0))) M;rw[aaK rfl];exact h
  | _=>exact hp.elim
def nO{f:Addr}{fd:FuncData}(F:eE K "_law_alike" "_law_alike" gM f fd)(E:Ev K mg Cl CT Ce Cf Cg Ca)(b:fT K fd ["_law_found","_law_due"] [])(hm:mg "_law_alike"=some (.ref f))(hk:PySem.W.keepIn K (.ref f)=true):∀n,ay P w K mg base (bP P w) (n+1) f fd ["_law_found","_law_due"] (eN K (mW n))
 | 0=>zN F E
 | n+1=>zX F E ⟨nO F E b hm hk n,b,hm,hk⟩
def BR{n:Nat}(p:Fr):Pl (n+1) (df p):=by refine⟨by show 2<=100;decide,λd hd=>?_⟩;have hd:d∈[Dt.int p.1,Dt.int p.2]:=hd;simp at hd;rcases hd with rfl| rfl <;> (cases n <;> trivial)
def Mp{n:Nat}{d:Eg}(h:d.2.2.length<=1):Pl (n+2) (oh d):=by
 refine⟨?_,λe he=>?_⟩
 ·show(d.2.2.map df).length+1+1<=100;rw[aac];omega
 ·have he:e∈Dt.int d.1::df d.2.1::d.2.2.map df:=he;rcases aam.mp he with rfl| he
  ·exact trivial
  rcases aam.mp he with rfl| he
  ·exact BR _
  ·have⟨p,_,rfl⟩:=aah.mp he;exact BR p
def KP{n:Nat}{ds:List Eg}(hz:ds.length<=12)(h:∀d∈ds,d.2.2.length<=1):Pl (n+3) (.lst (ds.map oh)):=by refine⟨by rw[aac];omega,λe he=>?_⟩;have⟨d,hd,rfl⟩:=aah.mp he;exact Mp (h d hd)
def N2{n:Nat}{r:Rw}(h:fM r):Pl (n+4) (dJ r):=by
 cases r with
 | fin p=>
  refine⟨by show 2<=100;decide,λe he=>?_⟩;have he:e∈[Dt.str "end",df p]:=he;simp only[List.mem_cons,List.not_mem_nil,or_false]at he;rcases he with rfl| rfl
  ·exact trivial
  ·exact BR p
 | υ k ds=>
  refine⟨by show 2<=100;decide,λe he=>?_⟩;have he:e∈[Dt.str k,Dt.lst (ds.map oh)]:=he;simp only[List.mem_cons,List.not_mem_nil,or_false]at he;rcases he with rfl| rfl
  ·exact trivial
  ·exact KP h.2.1 λd hd=>(h.2.2.2 d hd).1
def KD{n:Nat}{Μ:List Rw}(hz:Μ.length<=12)(h:∀r∈Μ,fM r):Pl (n+5) (.lst (Μ.map dJ)):=by refine⟨by rw[aac];omega,λe he=>?_⟩;have⟨r,hr,rfl⟩:=aah.mp he;exact N2 (h r hr)
def vc{q:DQ}{ds:List Dt}(u:Dt.br M.length ds)(h:q (.lst ds) M):zB M q (.loc M.length) (M++[.lst ds]):=kL (.zv (aaq _) (by rw[Nat.sub_self];rfl) (eA.old u)) h
def gA{α:Type}(f:α->Dt):∀(xs ys:List α),(∀x∈xs,x∈ys)->Paired (λx a=>x=f a/\a∈ys) (xs.map f) xs
 | [],_,_=>.nil
 | x::xs,ys,h=>.cons ⟨rfl,h x aaf⟩ (gA f xs ys λy hy=>h y (aag _ hy))
def mC{E:Ms}{n:Nat}:∀(Μ:List Rw) (j:Nat),(∀i m,(jW Μ)[i]? =some m->E[j+i]? =some m)->eA n E (l9 (n+j) Μ) (Μ.map dJ)
 | [],_,_=>.nil
 | .fin p::r,j,h=>.cons (.old (vt (.fin p))) (mC r j h)
 | .υ k ds::r,j,h=>.cons (.tup (.cons (.old trivial) (.cons (.zv (Nat.le_add_right _ _) (by rw[aba];exact h 0 _ rfl) (eA.old (lA ds))) .nil))) (mC r (j+1) λi m e=>by rw[show j+1+i=j+(i+1) by omega];exact h (i+1) m e)
def Gf(Μ:List Rw)(M:Ms)(x:MO):eA M.length (jW Μ++[x]) (l9 M.length Μ) (Μ.map dJ):=
 mC Μ 0 λi m e=>by rw[Nat.zero_add,aav (aai.mp e).1];exact e
def BI(M:Ms):∀rs:List Rw,Paired (iO M) (rs.map dJ) rs
 | []=>.nil
 | r::rs=>.cons (AQ _ r) (BI M rs)
def xI(CT:Addr):DF:=λds M q x=>match ds with
 | [.str z]=>z.length<=9000/\(match gz z.cps.toList with
  | some n=>q (.int n) M
  | none=>x CT [] M)
 | _=>False
def uF:(9002:Nat)<=sizeLine:=@_
def Uy:(Str.ofString "0123456789").cps.toList=[48,49,50,51,52,53,54,55,56,57]:=by decide+kernel
def vI:(Str.ofString "0")=mk [48]:=by decide+kernel
def J2(c:Nat):c∈(Str.ofString "0123456789").cps.toList↔48<=c/\c<=57:=by rw[Uy];simp only[List.mem_cons,List.not_mem_nil,or_false];omega
def y3(d:Dt):Dt:=match d with
 | .str y=>.bl (!(!(Builtin.Str.occurrences (Str.ofString "0123456789") y 0 (Str.ofString "0123456789").length 1).isEmpty))
 | _=>.aS
def Ay(c:Nat):y3 (.str ⟨#[c]⟩)= .bl (!decide (48<=c/\c<=57)):=by show Dt.bl (!(!(Builtin.Str.occurrences (Str.ofString "0123456789") ⟨#[c]⟩ 0 (Str.ofString "0123456789").length 1).isEmpty))=_;rw[GZ,decide_eq_decide.mpr (J2 c)]
def zH(z:Str):(cb z).map y3=(z.cps.toList.map λc=> !decide (48<=c/\c<=57)).map Dt.bl:=by unfold cb;rw[aap,aap];exact abt λc _=>Ay c
def j8:Δ ["text"] ["text"] (π gU):=.of rfl
def pM   (F:eE K "read_figures" "read_figures" gU f fd) (E:Ev K mg Cl CT Ce Cf Cg Ca):ay P w K mg base (bP P w) 1 f fd ["text"] (eN K (xI CT)):=by
 refine F.ip j8 (λds M q x h=>?_) (λbC A outer s H E' hr=>⟨_,(θ (Υ (JW.jt (nZ (pX (b_ E.bG (ai (jv 0) η)) ο) (kW (B2 (b_ E.bG (ai (jv 0) η)) (kK E.j4))))) (μ (aN bf aas E.cp E.b6 (ε χ η Ε))) Α)
   (θ (Υ (dq (L9 E.wV (ε (uN (ys:=[]) (Γ:=[]) (.of j8 rfl rfl rfl) (Gd (jv 0)) (λC s H fp=>(Jr (jv 0) (Hf E.wI)))) η))) (μ (aN bf aas E.cp E.b6 (ε χ η Ε))) Α)
   (θ (Υ (JW.jt (Mt (cG hr (Φ (jv 0) ο) χ) (Jt (fJ hr (jv 0) χ)))) (μ (aN bf aas E.cp E.b6 (ε χ η Ε))) Α)
   (μ (Β (RQ E.nP (ai (jv 0) η))))))),λds M q x h=>?_⟩)
 ·unfold xI at h;split at h;· rfl
  ·exact h.elim
 ·unfold xI at h;split at h
  ·rename_i z;have⟨hz,h⟩:=h;have big:=uF;have RX:z.length<=sizeLine:=()
   have hlen:z.cps.toList.length=z.length:=aa4;have bad:¬O1 z.cps.toList->x CT [] M:=λhn=>by have e:gz z.cps.toList=none:=aay hn;rw[e]at h;exact h
   refine⟨RX,λh1=>⟨λ_=>⟨@_,bad λhk=>?_⟩,nofun⟩,λh1=>⟨RX,λh2=>⟨@_,bad λhk=>?_⟩,λh2=>?_⟩⟩
   ·have:(z.length:Int) < 1:=by simpa using h1
    exact hk.1 (abu ())
   ·have:(60:Int) < z.length:=by simpa using h2
    have:=hk.2.1;omega
   ·have l1:¬(z.length:Int) < 1:=by simpa using h1
    have l2:¬(60:Int) < z.length:=by simpa using h2
    refine⟨by unfold cb;rw[List.length_map];omega,eX (f:=y3) _ [] (λd hd q hq=>?_) ?_⟩
    ·have⟨c,_,rfl⟩:=aah.mp hd;exact hq
    ·rw[aaI,zH];refine⟨_,rfl,(λk e=>nomatch e),(λk e=>nomatch e),λh3=>⟨@_,bad λhk=>?_⟩,λh3=>?_⟩
     ·have⟨b,hb,XH⟩:=List.any_eq_true.mp h3;have⟨c,hc,rfl⟩:=aah.mp hb;have h4:c < 48\/57 < c:=by simpa using XH
      have h5:=hk.2.2.1 c hc;omega
     ·have hd:NumText.AllDigits z.cps.toList:=λc hc=>by have h4:=List.any_eq_false.mp h3 _ (aah.mpr ⟨c,hc,rfl⟩);simpa using h4
      obtain⟨c0,r,Qm⟩:∃c0 r,z.cps.toList=c0::r:=by
       cases hq:z.cps.toList with
       | nil=>rw[hq]at hlen;simp at hlen;omega
       | cons c0 r=>exact⟨c0,r,rfl⟩
      have fin:(c0=48->z.cps.toList=[48])->q (.int (NumText.digitsVal z.cps.toList:Nat)) M:=λhh=>by have hk:O1 z.cps.toList:=⟨by rw[Qm];simp,(),hd,λe=>hh (by rw[Qm]at e;exact Option.some.inj e)⟩;have e:gz z.cps.toList=some (NumText.digitsVal z.cps.toList):=aaB hk;rw[e]at h;exact h
      have rest:(c0=48->z.cps.toList=[48])->Hw [.str z] M q:=λhh=>EY () (intText_digits hd (by rw[Qm];simp) ()) (fin hh);refine⟨RX,?_⟩;have Mz:iF z.cps.toList 0=some c0:=by rw[Qm];exact dj
      rw[Mz];refine⟨λh4=>⟨λh5=>⟨@_,bad λhk=>?_⟩,λh5=>rest λ_=>?_⟩,λh4=>⟨nofun,λ_=>rest λe=>?_⟩⟩
      ·have e4:(⟨#[c0]⟩:Str)=mk [48]:=by rw[<-vI];simpa using h4
       have e5:z≠mk [48]:=by rw[<-vI];simpa using h5
       have:c0=48:=by have:=aaN (λy:Str=>y.cps.toList) e4;simpa [mk] using this
       exact e5 (iw (hk.2.2.2 (by rw[Qm,this];rfl)))
      ·have e5:z=mk [48]:=by rw[<-vI];simpa using h5
       rw[e5];rfl
      ·have e4:(⟨#[c0]⟩:Str)≠mk [48]:=by rw[<-vI];simpa using h4
       exact aaG (by rw[e];rfl) e4
  ·exact h.elim
def Ho{r:List Nat}(h:z.cps.toList=c::r):Txt.slice z (some 1) none=mk r:=by have e:Txt.slice z (some 1) none=StrLaws.sliceText z (some 1) none:=rfl;rw[e,StrLaws.sliceText_from (by rw[h];simp;omega),h];refine iw ?_;simp
def Jg:(Str.ofString "-")=mk [45]:=by decide+kernel
def lN(z:Str):Txt.startswith z (Str.ofString "-")=decide (z.cps.toList.head?=some 45):=by
 rw[Jg];unfold Txt.startswith;rw[StrLaws.subAt_eq];have hl:z.cps.toList.length=z.length:=aa4;have h1:(mk [45]).length=1:=rfl;rw[h1,aL];cases h:z.cps.toList with
 | nil=>rw[h]at hl;simp at hl;simp[<-hl]
 | cons c r=>
  rw[h]at hl;simp at hl;have:(0+1<=z.length):=()
  simp[this];rw[aa7];simp
def J0(CT:Addr):DF:=λds M q x=>match ds with
 | [.str z]=>z.length<=9000/\(match ke z.cps.toList with
  | some n=>q (.int n) M
  | none=>x CT [] M)
 | _=>False
def sP:Δ ["text","size"] ["text"] (π qN):=.of rfl
def yW(F:eE K "read_top" "read_top" qN f fd)(E:Ev K mg Cl CT Ce Cf Cg Ca){gZ:Addr}{ig:FuncData}(bx:aV P w K mg base 1 "read_figures" ["text"] (xI CT) gZ ig):ay P w K mg base (bP P w) 2 f fd ["text"] (eN K (J0 CT)):=by
 refine F.ip sP (λds M q x h=>?_) (λbC A outer s H E' hr=>⟨_,(θ (Υ (mK (dq (qT (jv 0) (ε χ η Ε)))) (μ (Β (aK bx hr Θ (ai (jv 0) η)))) Α)
   (θ (τ 1 sP.nd (aK bx hr Θ (ε (jk (jv 0) ο) η aJ)))
   (θ (Υ (cG hr (jv 1) ο) (μ (aN bf aas E.cp E.b6 (ε χ η Ε))) Α)
   (μ (Β (nN (jv 1))))))),λds M q x h=>?_⟩)
 ·unfold J0 at h;split at h;· rfl
  ·exact h.elim
 ·unfold J0 at h;split at h
  ·rename_i z;have⟨hz,h⟩:=h;have big:=uF;have RX:z.length<=sizeLine:=()
   refine⟨⟨z,rfl⟩,λh1=>⟨hz,?_⟩,λh1=>?_⟩
   ·have h2:¬z.cps.toList.head?=some 45:=by rw[lN]at h1;simpa using h1
    have e:ke z.cps.toList=(gz z.cps.toList).map λn:Nat=>(n:Int):=by
     unfold ke;split
     ·rename_i r er;rw[er]at h2;exact aaG rfl h2
     ·cases gz z.cps.toList <;> rfl
    rw[e]at h;cases hf:gz z.cps.toList with
    | none=>rw[hf]at h;exact h
    | some n=>rw[hf]at h;exact h
   ·have h2:z.cps.toList.head?=some 45:=by rw[lN]at h1;simpa using h1
    obtain⟨r,jC⟩:∃r,z.cps.toList=45::r:=by
     cases hq:z.cps.toList with
     | nil=>rw[hq]at h2;cases h2
     | cons c r=>rw[hq]at h2;exact⟨r,by rw[show c=45 from aaw h2]⟩
    have hl:z.cps.toList.length=z.length:=aa4;rw[jC]at hl h;refine⟨RX,?_,?_⟩
    ·rw[Ho jC,ζ];simp at hl;omega
    rw[Ho jC,aL];have e:ke (45::r)=(match gz r with| some n=>if n=0 then none else some (-(n:Int))| none=>none):=rfl;rw[e]at h;cases hf:gz r with
    | none=>rw[hf]at h;exact h
    | some n=>
     rw[hf]at h;refine⟨λh3=>⟨@_,?_⟩,λh3=>?_⟩
     ·have h4:n=0:=by
       have:(n:Int)=0:=by simpa using h3
       omega
      simp only[h4]at h;exact h
     ·have h4:n≠0:=by
       have:¬(n:Int)=0:=by simpa using h3
       omega
      simp only[if_neg h4]at h;exact h
  ·exact h.elim
def FY:∀(cs:List Nat) (Κ k:Nat),NumText.AllDigits cs->Κ < 10 ^ k->cs.foldl (λΚ c=>Κ * 10+(c - 48)) Κ < 10 ^ (k+cs.length)
 | [],Κ,k,_,h=>by simpa using h
 | c::cs,Κ,k,hd,h=>by have hc:=hd.head;have:=FY cs (Κ * 10+(c - 48)) (k+1) hd.tail (by rw[Nat.pow_succ];omega);rw[List.foldl_cons,aat];rw[show k+(cs.length+1)=k+1+cs.length by omega];exact this
def II{n:Nat}(h:gz cs=some n):n < 10 ^ 60:=by
 unfold gz at h;split at h
 ·rename_i hk;cases h;have:=FY cs 0 0 hk.2.2.1 @_;refine aau this (Nat.pow_le_pow_right @_ ?_);have:=hk.2.1;omega
 ·cases h
def OU:(Str.ofString "/")=⟨#[47]⟩:=by decide+kernel
def Qv(h:i.natAbs < 10 ^ 60):ow i:=Nat.lt_trans h (aau (show 10 ^ 60 < 2 ^ 200 by decide+kernel) (Nat.pow_le_pow_right @_ @_))
def rf(CT:Addr):DF:=λds M q x=>match ds with
 | [.str z]=>z.length<=9000/\(match rd z with
  | some (t,b)=>q (.tup [.int t,.int b]) M
  | none=>x CT [] M)
 | _=>False
def cm:Δ ["text","pieces","top","bottom","told"] ["text"] (π fV):=.of rfl
def oo(F:eE K "read_fraction" "read_fraction" fV f fd)(E:Ev K mg Cl CT Ce Cf Cg Ca){EG:Addr}{FR:FuncData}(mJ:aV P w K mg base 2 "read_top" ["text"] (J0 CT) EG FR){Ct:Addr}{CA:FuncData}(gR:aV P w K mg base 2 "fraction" ["top","bottom"] Bs Ct CA){gZ:Addr}{ig:FuncData}(bx:aV P w K mg base 1 "read_figures" ["text"] (xI CT) gZ ig):ay P w K mg base (bP P w) 3 f fd ["text"] (eN K (rf CT)):=by
 refine F.ip cm (λds M q x h=>?_) (λbC A outer s H E' hr=>⟨_,(θ (τ 1 cm.nd (cY (jv 0) (ε χ η Ε)))
   (θ (Υ (B2 (b_ E.bG (ai (jv 1) η)) ο) (μ (aN bf aas E.cp E.b6 (ε χ η Ε))) Α)
   (θ (τ 2 cm.nd (aK mJ hr Θ (ε (Φ (jv 1) ο) η aJ)))
   (θ (Υ (cG hr (b_ E.bG (ai (jv 1) η)) ο) (μ (Β (aK gR hr Θ (ai (jv 2) (ε ο η Ε))))) Α)
   (θ (τ 3 cm.nd (aK bx hr Θ (ε (Φ (jv 1) ο) η aJ)))
   (θ (Υ (pX (jv 3) ο) (μ (aN bf aas E.cp E.b6 (ε χ η Ε))) Α)
   (θ (τ 4 cm.nd (aK gR hr Θ (ai (jv 2) (ai (jv 3) η))))
   (θ (Υ (fJ hr (Φ (jv 4) ο) (jv 3)) (μ (aN bf aas E.cp E.b6 (ε χ η Ε))) Α)
   (μ (Β (jv 4))))))))))),λds M q x h=>?_⟩)
 ·unfold rf at h;split at h;· rfl
  ·exact h.elim
 ·unfold rf at h;split at h
  ·rename_i z;have⟨hz,h⟩:=h;have big:=uF;refine⟨⟨z,rfl⟩,⟨@_,()⟩,?_⟩;have hp:∀a∈Txt.split z (Str.ofString "/"),a.length<=9000:=λa ha=>aaD (PyProof.Rows.part_short ha) hz;have jZ:=lP z (Str.ofString "/");unfold rd at h;rw[<-OU]at h;generalize Txt.split z (Str.ofString "/")=ps at h hp jZ⊢
   match ps,h,hp,jZ with
   | [],_,_,jZ=>exact aaG rfl jZ
   | [a],h,hp,_=>
    refine⟨λh1=>absurd h1 (by simp),λ_=>⟨hp a (by simp),?_⟩⟩;cases ht:ke a.cps.toList with
    | none=>simp only[ht]at h;exact h
    | some t=>
     simp only[ht]at h;refine⟨λ_=>⟨by unfold ow;decide,(λz=>absurd z @_),λ_=>h⟩,λh1=>absurd h1 (by simp)⟩
   | [a,b],h,hp,_=>
    refine⟨λh1=>absurd h1 (by simp),λ_=>⟨hp a (by simp),?_⟩⟩;cases ht:ke a.cps.toList with
    | none=>simp only[ht]at h;exact h
    | some t=>
     simp only[ht]at h;refine⟨λh1=>absurd h1 (by simp),λ_=>⟨hp b (by simp),?_⟩⟩;cases hf:gz b.cps.toList with
     | none=>simp only[hf]at h;exact h
     | some n=>
      simp only[hf]at h;have hn:=II hf;refine⟨λh2=>⟨@_,?_⟩,λh2=>⟨Qv (),λe=>?_,λ_=>⟨λh3=>⟨@_,?_⟩,λh3=>?_⟩⟩⟩
      ·have:(n:Int) < 2:=by simpa using h2
       rw[aaB ()]at h;exact h
      ·have:¬(n:Int) < 2:=by simpa using h2
       omega
      ·have h4:¬(n:Int) < 2:=by simpa using h2
       have h5:¬(gK t n).2=n:=by simpa using h3
       rw[aay (),aay h5]at h;exact h
      ·have h4:¬(n:Int) < 2:=by simpa using h2
       have h5:(gK t n).2=n:=by simpa using h3
       rw[aay (),aaB h5]at h;exact h
   | a::b::c::r,h,_,_=>
    refine⟨λ_=>⟨@_,h⟩,λh1=>aaG h1 ?_⟩;simp;omega
  ·exact h.elim
def sD(n:List Nat):Dt:=.str (mk n)
def pP(n:List Nat):Bool:=decide (1<=n.length)&&(decide (n.length<=8)&&n.all λc=>decide (97<=c/\c<=122))
def Ei{β:Type}(o:Option β)(f:β->Prop)(X:Prop):Prop:=match o with
 | some b=>f b
 | none=>X
def aO{α β:Type}(f:α->Option β):List α->Option (List β)
 | []=>some []
 | a::l=>match f a with
  | none=>none
  | some b=>match aO f l with
   | none=>none
   | some bs=>some (b::bs)
def aI(l:Nat)(z:Str):Option (Str×List Fr):=match Txt.split z (mk [32]) with
 | []=>none
 | w::ws=>if ws.length+1=l then (if pP w.cps.toList=true then (aO rd ws).map λps=>(w,ps) else none) else none
inductive NR where
 | fin (p:Fr)
 | υ (k:Str) (ds:List (Str×List Fr))
def aM(k z:Str):Option NR:=
 if k="end" then (rd z).map .fin else if eI k=true then (aO (aI 2) (Txt.split z (mk [44,32]))).map (.υ k)
 else if k="chance" then (aO (aI 3) (Txt.split z (mk [44,32]))).map (.υ k) else none
def Τ(z:Str):Option (Str×NR):=match Txt.splitMax z (mk [32]) 2 with
 | [n,k,t]=>if pP n.cps.toList=true then (aM k t).map λr=>(n,r) else none
 | _=>none
def aq(z:Str):Option Fr:=match Txt.split z (mk [32]) with
 | [a,b]=>if a="share" then rd b else none
 | _=>none
def Iq(d:Str×List Fr):Dt:=.tup (.str d.1::d.2.map df)
def SD:NR->Dt
 | .fin p=>.tup [.str "end",df p]
 | .υ k ds=>.tup [.str k,.lst (ds.map Iq)]
def ι{n:Nat}(h:n<=16777216):n<=sizeLine:=aaD h @_
def n_:(Str.ofString " ")=mk [32]:=by decide+kernel
def Ka:(Str.ofString ", ")=mk [44,32]:=by decide+kernel
def ER:(Str.ofString "; ")=mk [59,32]:=by decide+kernel
def LJ:(Str.ofString "abcdefghijklmnopqrstuvwxyz").cps.toList=(List.range 26).map (97+ ·):=by decide+kernel
def JP(c:Nat):c∈(Str.ofString "abcdefghijklmnopqrstuvwxyz").cps.toList↔97<=c/\c<=122:=by
 rw[LJ];simp only[List.mem_map,List.mem_range];constructor
 ·rintro⟨a,h,rfl⟩;omega
 ·intro h;exact⟨c - 97,(),()⟩
def Md(d:Dt):Dt:=match d with
 | .str y=>.bl (!(Builtin.Str.occurrences (Str.ofString "abcdefghijklmnopqrstuvwxyz") y 0 (Str.ofString "abcdefghijklmnopqrstuvwxyz").length 1).isEmpty)
 | _=>.aS
def Cq(z:Str):(cb z).map Md=(z.cps.toList.map λc=>decide (97<=c/\c<=122)).map Dt.bl:=by unfold cb;rw[aap,aap];refine abt λc _=>?_;show Dt.bl (!(Builtin.Str.occurrences (Str.ofString "abcdefghijklmnopqrstuvwxyz") ⟨#[c]⟩ 0 (Str.ofString "abcdefghijklmnopqrstuvwxyz").length 1).isEmpty)=_;rw[GZ,decide_eq_decide.mpr (JP c)];rfl
def dR{α β:Type}{f:α->Option β}{da:α->Dt}{db:β->Dt}{te:DE}{xx:DX}{cs:En}{ok:Ms->Prop}{M:Ms}{k:List Dt->Ms->Prop}{X:Prop}(ho:ok M):∀{l:List α} {Κ:List Dt},(∀a∈l,∀q:DQ,(Ei (f a) (λb=>q (db b) M) (X))->te (some (da a)::cs) M q xx)->
  (Ei (aO f l) (λbs=>k (Κ++bs.map db) M) (X))->fX te xx cs ok (l.map da) Κ M k
 | [],Κ,_,h=>⟨ho,by
  have h:k (Κ++[]) M:=h
  rwa[aaO]at h⟩
 | a::l,Κ,ht,h=>by
  refine⟨ho,ht a aaf _ ?_⟩;unfold aO at h;cases hf:f a with
  | none=>rw[hf]at h;exact h
  | some b=>
   rw[hf]at h;refine dR ho (λy hy=>ht y (aag _ hy)) ?_;cases hl:aO f l with
   | none=>rw[hl]at h;exact h
   | some bs=>
    rw[hl]at h;show k (Κ++[db b]++bs.map db) M;rw[aaQ];exact h
def AZ:DF:=λas M q _=>∃z:Str,as=[.str z]/\z.length<=100000/\q (.bl (pP z.cps.toList)) M
def x8:Δ ["text"] ["text"] (π vQ):=.of rfl
def DH(F:eE K "is_name" "is_name" vQ f fd)(E:Ev K mg Cl CT Ce Cf Cg Ca):ay P w K mg base (bP P w) 1 f fd ["text"] (eN K AZ):=by
 refine F.ip x8 (λds M q x h=>?_) (λbC A outer s H E' hr=>⟨_,(μ (Β (ck (uP ο (b_ E.bG (ai (jv 0) η))) (ck (uP (b_ E.bG (ai (jv 0) η)) (kK E.j6)) (dY (Gg E.tJ (ε (uN (ys:=[]) (Γ:=[]) (.of x8 rfl rfl rfl) (Gd (jv 0)) (λC s H fp=>(Ui (jv 0) (Hf E.xF)))) η))))))),λds M q x h=>?_⟩)
 ·have⟨n,rfl,_⟩:=h;rfl
 ·have⟨z,rfl,hz,h⟩:=h;have l1:z.length<=sizeLine:=ι ();have el:z.cps.toList.length=z.length:=aa4;unfold pP at h;rw[el]at h;refine⟨l1,λh1=>⟨l1,λh2=>?_,λh2=>?_⟩,λh1=>?_⟩
  ·have h1:1<=(z.length:Int):=aaV h1;have h2:(z.length:Int)<=8:=aaV h2;rw[aaK (show 1<=z.length by omega),aaK (show z.length<=8 by omega),Bool.true_and,Bool.true_and]at h;refine⟨by unfold cb;rw[List.length_map];omega,eX (f:=Md) _ [] (λd hd q hq=>?_) ?_⟩
   ·have⟨c,_,rfl⟩:=aah.mp hd;exact hq
   rw[aaI,Cq];refine⟨_,rfl,?_⟩;rw[List.all_map];exact h
  ·have h2:¬(z.length:Int)<=8:=aaZ h2;rw[aao (show¬z.length<=8 by omega),Bool.false_and,abB]at h;exact(show decide ((z.length:Int)<=8)=false from aao h2)▸h
  ·have h1:¬1<=(z.length:Int):=aaZ h1;rw[aao (show¬1<=z.length by omega),Bool.false_and]at h;exact(show decide (1<=(z.length:Int))=false from aao h1)▸h
def mG(CT:Addr):DF:=λas M q x=>∃z:Str,as=[.str z]/\z.length<=100000/\if pP z.cps.toList=true then q (.str z) M else x CT [] M
def zU:Δ ["text"] ["text"] (π mz):=.of rfl
def yD(F:eE K "read_name" "read_name" mz f fd)(E:Ev K mg Cl CT Ce Cf Cg Ca){K0:Addr}{JN:FuncData}(pN:aV P w K mg base 1 "is_name" ["text"] AZ K0 JN):ay P w K mg base (bP P w) 2 f fd ["text"] (eN K (mG CT)):=by
 refine F.ip zU (λds M q x h=>?_) (λbC A outer s H E' hr=>⟨_,(θ (Υ (mK (dq (aK pN hr Θ (ai (jv 0) η)))) (μ (aN bf aas E.cp E.b6 (ε χ η Ε))) Α)
   (μ (Β (jv 0)))),λds M q x h=>?_⟩)
 ·have⟨n,rfl,_⟩:=h;rfl
 ·have⟨z,rfl,hz,h⟩:=h;refine⟨z,rfl,hz,λz1=>?_,λz1=>?_⟩
  ·rw[aay (λe=>by rw[e]at z1;exact nomatch z1)]at h;exact⟨@_,h⟩
  ·rw[if_pos (by simpa using z1)]at h;exact h
def uL{CT:Addr}{q:DQ}{x:SR}(hz:z.length<=9000)(h:Ei (rd z) (λp=>q (df p) M) (x CT [] M)):rf CT [.str z] M q x:=by
 refine⟨hz,?_⟩;cases hr:rd z with
 | none=>rw[hr]at h;exact h
 | some p=>rw[hr]at h;exact h
def eZ{s:Str}{tl:List Nat}{q:DQ}(hs:s=mk (c::tl))(hz:z.length<=100000)(h:q (.lst ((Txt.split z (mk (c::tl))).map Dt.str)) M):eJ (.str z) [.str s] M q:=by subst hs;exact⟨⟨rfl,ι ()⟩,h⟩
def ph(CT:Addr):DF:=λas M q x=>∃z:Str,as=[.str z]/\z.length<=9000/\Ei (aq z) (λp=>q (df p) M) (x CT [] M)
def n6:Δ ["text","words"] ["text"] (π kx):=.of rfl
def vR(F:eE K "read_share" "read_share" kx f fd)(E:Ev K mg Cl CT Ce Cf Cg Ca)(aE:aV P w K mg base 3 "read_fraction" ["text"] (rf CT) cH cK):ay P w K mg base (bP P w) 4 f fd ["text"] (eN K (ph CT)):=by
 refine F.ip n6 (λds M q x h=>?_) (λbC A outer s H E' hr=>⟨_,(θ (τ 1 n6.nd (cY (jv 0) (ε χ η Ε)))
   (θ (Υ (JW.jt (nZ (fJ hr (b_ E.bG (ai (jv 1) η)) ο) (kW (fJ hr (Φ (jv 1) ο) χ)))) (μ (aN bf aas E.cp E.b6 (ε χ η Ε))) Α)
   (μ (Β (aK aE hr Θ (ε (Φ (jv 1) ο) η aJ)))))),λds M q x h=>?_⟩)
 ·have⟨p,rfl,_⟩:=h;rfl
 ·have⟨z,rfl,hz,h⟩:=h;have hp:∀a∈Txt.split z (mk [32]),a.length<=9000:=λa ha=>aaD (PyProof.Rows.part_short ha) hz;unfold aq at h;walk_at "vc";refine⟨⟨_,rfl⟩,?_⟩;refine(eZ n_ () ?_:eJ (.str z) [.str (Str.ofString " ")] M _);generalize Txt.split z (mk [32])=ps at h hp⊢
  match ps,h,hp with
  | [],h,_=>exact⟨λ_=>⟨λ_=>⟨by show 1<=sizeLine;decide,h⟩,nofun⟩,nofun⟩
  | [a],h,_=>exact⟨λ_=>⟨λ_=>⟨by show 1<=sizeLine;decide,h⟩,nofun⟩,nofun⟩
  | [a,b],h,hp=>
   dsimp only at h;refine⟨nofun,λ_=>⟨λz=>?_,λz=>?_⟩⟩
   ·have z:a≠"share":=by have z:(!decide (a=Str.ofString "share"))=true:=z;rw[Bool.not_eq_true',decide_eq_false_iff_not]at z;exact z
    rw[aay z]at h;exact⟨by show 1<=sizeLine;decide,h⟩
   ·have z:a="share":=by have z:(!decide (a=Str.ofString "share"))=false:=z;rw[Bool.not_eq_false',aa0]at z;exact z
    rw[aaB z]at h;exact uL (hp b (by simp)) h
  | a::b::c::r,h,_=>
   refine⟨λ_=>⟨λ_=>⟨by show 1<=sizeLine;decide,h⟩,nofun⟩,λz=>aaG z ?_⟩;simp;omega
def my(CT:Addr):DF:=λas M q x=>∃(z:Str) (l:Nat),as=[.str z,.int l]/\2<=l/\z.length<=9000/\Ei (aI l z) (λd=>q (Iq d) M) (x CT [] M)
def kS:Δ ["text","length","words"] ["text","length"] (π mL):=.of rfl
def xU   (F:eE K "read_door" "read_door" mL f fd) (E:Ev K mg Cl CT Ce Cf Cg Ca) {m_:Addr} {mU:FuncData} (dW:aV P w K mg base 2 "read_name" ["text"] (mG CT) m_ mU)   (aE:aV P w K mg base 3 "read_fraction" ["text"] (rf CT) cH cK):ay P w K mg base (bP P w) 4 f fd ["text","length"] (eN K (my CT)):=by
 refine F.ip kS (λds M q x h=>?_) (λbC A outer s H E' hr=>⟨_,(θ (τ 2 kS.nd (cY (jv 0) (ε χ η Ε)))
   (θ (Υ (fJ hr (b_ E.bG (ai (jv 2) η)) (jv 1)) (μ (aN bf aas E.cp E.b6 (ε χ η Ε))) Α)
   (μ (Β (BF E.d8 (ε (cU (aZ (ε (aK dW hr Θ (ε (Φ (jv 2) ο) η aJ)) η cy)) (lM gG (ys:=[]) (Γ:=[]) (.of kS rfl rfl rfl) (bw (lQ (nD (jv 2) ο))) (λC s H fp=>(aK aE hr jA (ai (jv 0) η))))) η Ι)))))),λds M q x h=>?_⟩)
 ·have⟨z,l,rfl,_⟩:=h;rfl
 ·have⟨z,l,rfl,l2,hz,h⟩:=h;have hp:∀a∈Txt.split z (mk [32]),a.length<=9000:=λa ha=>aaD (PyProof.Rows.part_short ha) hz;have jZ:=lP z (mk [32]);have hsz:=PyProof.Rows.split_le z (mk [32]);unfold aI at h;walk_at "vc";refine⟨⟨_,rfl⟩,?_⟩;refine(eZ n_ () ?_:eJ (.str z) [.str (Str.ofString " ")] M _);generalize Txt.split z (mk [32])=ps at h hp jZ hsz⊢;cases ps with
  | nil=>exact aaG rfl jZ
  | cons w ws=>
   dsimp only at h;have wl:(w::ws).length<=9002:=()
   have el:((((w::ws).map Dt.str).length:Nat):Int)=((ws.length+1:Nat):Int):=by simp
   refine(bE (d:=.lst ((w::ws).map Dt.str)) rfl ?_:vU [.lst ((w::ws).map Dt.str)] M _);refine⟨λy=>?_,λy=>?_⟩
   ·have y:¬ws.length+1=l:=λe=>by have y:(!decide ((((w::ws).map Dt.str).length:Int)=(l:Int)))=true:=y;rw[el,e,aaK rfl]at y;exact nomatch y
    rw[aay y]at h;exact⟨by show 1<=sizeLine;decide,h⟩
   have y:ws.length+1=l:=by have y:(!decide ((((w::ws).map Dt.str).length:Int)=(l:Int)))=false:=y;rw[el,Bool.not_eq_false',aa0]at y;omega
   rw[aaB y]at h;refine(ah (d:=.lst ((w::ws).map Dt.str)) rfl dj ?_:fE (.lst ((w::ws).map Dt.str)) (.int 0) M _);refine⟨w,rfl,by have:=hp w aaf;omega,?_⟩;by_cases hn:pP w.cps.toList=true
   ·rw[aaB hn]at h⊢;refine⟨by show 1<=sizeLine;decide,?_⟩;dsimp only[jF,dM,O7,Gr,aH,dC];refine⟨_,1,rfl,rfl,?_⟩;have un:∀zs:List Str,Dt.br M.length (zs.map Dt.str):=λzs=>by
     induction zs with
     | nil=>trivial
     | cons a zs ih=>exact⟨trivial,ih⟩
    refine vc (un ws) ?_;show(ws.map Dt.str).length<=sizeLine/\fX _ _ _ _ (ws.map Dt.str) [] M _;refine⟨by rw[List.length_map];exact ι (by simp only[List.length_cons]at wl;omega),?_⟩;refine dR (f:=rd) (db:=df) (X:=x CT [] M) trivial (λa ha q' eK=>uL (hp a (aag _ ha)) eK) ?_;cases ha:aO rd ws with
    | none=>rw[ha]at h;exact h
    | some bs=>
     rw[ha]at h;have lb:bs.length<=9002:=by
      have:∀{ws:List Str} {bs:List Fr},aO rd ws=some bs->bs.length=ws.length:=by
       intro ws
       induction ws with
       | nil=>intro bs h;cases h;rfl
       | cons a ws ih=>
        intro bs h;unfold aO at h;cases h1:rd a with
        | none=>rw[h1]at h;cases h
        | some b=>
         rw[h1]at h;cases h2:aO rd ws with
         | none=>rw[h2]at h;cases h
         | some cs=>rw[h2]at h;cases h;rw[aat,aat,ih h2]
      rw[this ha];simp only[List.length_cons]at wl;omega
     show FQ (.lst [.str w]) (.lst ([]++bs.map df)) M λd M1=>wG [d] M1 q;exact⟨_,_,rfl,rfl,by rw[aaI,aac];exact ι (by show 1+_<=_;omega),_,rfl,h⟩
   ·rw[aay hn]at h⊢;exact h
def yn(CT:Addr):DF:=λas M q x=>∃(k z:Str),as=[.str k,.str z]/\z.length<=9000/\Ei (aM k z) (λr=>q (SD r) M) (x CT [] M)
def mv:Δ ["kind","text"] ["kind","text"] (π qW):=.of rfl
def zq(F:eE K "read_row" "read_row" qW f fd)(E:Ev K mg Cl CT Ce Cf Cg Ca)(aE:aV P w K mg base 3 "read_fraction" ["text"] (rf CT) cH cK){DM:Addr}{D3:FuncData}(gT:aV P w K mg base 4 "read_door" ["text","length"] (my CT) DM D3):ay P w K mg base (bP P w) 5 f fd ["kind","text"] (eN K (yn CT)):=by
 refine F.ip mv (λds M q x h=>?_) (λbC A outer s H E' hr=>⟨_,(θ (Υ (cG hr (jv 0) χ) (μ (Β (bQ (ai (jv 0) (ε (aK aE hr Θ (ai (jv 1) η)) η cy))))) Α)
   (θ (Υ (HU (jv 0) (Ln E.yV)) (μ (Β (bQ (ai (jv 0) (ε (lM gG (ys:=[]) (Γ:=[]) (.of mv rfl rfl rfl) (bw (cY (jv 1) (ε χ η Ε))) (λC s H fp=>(aK gT hr jA (ai (jv 0) (ε ο η Ε))))) η))))) Α)
   (θ (Υ (cG hr (jv 0) χ) (μ (Β (bQ (ai (jv 0) (ε (lM gG (ys:=[]) (Γ:=[]) (.of mv rfl rfl rfl) (bw (cY (jv 1) (ε χ η Ε))) (λC s H fp=>(aK gT hr jA (ai (jv 0) (ε ο η Ε))))) η))))) Α)
   (μ (aN bf aas E.cp E.b6 (ε χ η Ε)))))),λds M q x h=>?_⟩)
 ·have⟨k,z,rfl,_⟩:=h;rfl
 ·have⟨k,z,rfl,hz,h⟩:=h;have go:∀l:Nat,2<=l->(Ei ((aO (aI l) (Txt.split z (mk [44,32]))).map (NR.υ k)) (λr=>q (SD r) M) (x CT [] M))->jF (dM (Hj eJ (aH 1) (bW (dC (Dt.str (Str.ofString ", "))) fC))) (sH (my CT) (bW (aH 0) (bW (dC (Dt.int l)) fC))) [] [some (.str k),some (.str z)] M (λd_1 M1=>2<=sizeLine/\q (Dt.tup [.str k,d_1]) M1) (λ_=>x):=λl l2 h=>by
   dsimp only[jF,dM,Hj,aH,dC,bW,fC,List.getElem?_cons_succ,List.getElem?_cons_zero];refine⟨⟨_,rfl⟩,?_⟩;refine(eZ Ka () ?_:eJ (.str z) [.str (Str.ofString ", ")] M _);have hp:∀a∈Txt.split z (mk [44,32]),a.length<=9000:=λa ha=>aaD (PyProof.Rows.part_short ha) hz;have hsz:=PyProof.Rows.split_le z (mk [44,32]);generalize Txt.split z (mk [44,32])=ps at h hp hsz⊢;show(ps.map Dt.str).length<=sizeLine/\fX _ _ _ _ (ps.map Dt.str) [] M _;refine⟨by rw[aac];exact ι (),?_⟩;refine dR (f:=aI l) (db:=Iq) (X:=x CT [] M) trivial (λa ha q' eK=>⟨a,l,rfl,l2,hp a ha,eK⟩) ?_;cases ha:aO (aI l) ps with
   | none=>rw[ha]at h;exact h
   | some bs=>rw[ha]at h;exact⟨@_,h⟩
  unfold aM at h;walk_at "vc";refine⟨λy=>?_,λy=>?_⟩
  ·have y:k="end":=aaV y;rw[aaB y]at h;subst y;refine uL hz ?_;cases hr:rd z with
   | none=>rw[hr]at h;exact h
   | some p=>rw[hr]at h;exact⟨pz,h⟩
  rw[aay (show¬k="end" from aaZ y)]at h;refine⟨.str k,[.str "one",.str "other"],[.str "one",.str "other"],rfl,rfl,rfl,?_⟩;rw[x_];refine⟨λhh=>?_,λhh=>?_⟩
  ·rw[aaB hh]at h;exact go 2 @_ h
  rw[aay (by rw[hh];decide)]at h;refine⟨λy=>?_,λy=>?_⟩
  ·rw[aaB (show k="chance" from aaV y)]at h;exact go 3 @_ h
  ·rw[aay (show¬k="chance" from aaZ y)]at h;exact⟨by show 1<=sizeLine;decide,h⟩
def Iz(p:Str×NR):Dt:=.tup [.str p.1,SD p.2]
def qP(CT:Addr):DF:=λas M q x=>∃z:Str,as=[.str z]/\z.length<=9000/\Ei (Τ z) (λp=>q (Iz p) M) (x CT [] M)
def nQ:Δ ["text","words"] ["text"] (π kP):=.of rfl
def vH(F:eE K "read_place" "read_place" kP f fd)(E:Ev K mg Cl CT Ce Cf Cg Ca){Fi:Addr}{Ge:FuncData}(nr:aV P w K mg base 5 "read_row" ["kind","text"] (yn CT) Fi Ge){m_:Addr}{mU:FuncData}(dW:aV P w K mg base 2 "read_name" ["text"] (mG CT) m_ mU):ay P w K mg base (bP P w) 6 f fd ["text"] (eN K (qP CT)):=by
 refine F.ip nQ (λds M q x h=>?_) (λbC A outer s H E' hr=>⟨_,(θ (τ 1 nQ.nd (za (jv 0) (ε χ (ε ο η Ε) Ε)))
   (θ (Υ (fJ hr (b_ E.bG (ai (jv 1) η)) ο) (μ (aN bf aas E.cp E.b6 (ε χ η Ε))) Α)
   (μ (Β (bQ (ε (aK dW hr Θ (ε (Φ (jv 1) ο) η aJ)) (ε (aK nr hr Θ (ε (Φ (jv 1) ο) (ε (Φ (jv 1) ο) η aJ) aJ)) η cy) cy)))))),λds M q x h=>?_⟩)
 ·have⟨z,rfl,_⟩:=h;rfl
 ·have⟨z,rfl,hz,h⟩:=h;have hp:∀a∈Txt.splitMax z (mk [32]) 2,a.length<=9000:=λa ha=>aaD (PyProof.Rows.partMax_short ha) hz;unfold Τ at h;walk_at "vc";refine⟨⟨_,rfl⟩,⟨⟨by rw[n_];rfl,ι (),@_,@_⟩,?_⟩⟩;rw[n_];generalize Txt.splitMax z (mk [32]) 2=ps at h hp⊢;have bad:∀n:Int,n≠3->(!decide (n=3))=false->False:=λn hn e=>by rw[aao hn]at e;exact nomatch e
  match ps,h,hp with
  | [],h,_=>exact⟨λ_=>⟨by show 1<=sizeLine;decide,h⟩,nofun⟩
  | [a],h,_=>exact⟨λ_=>⟨by show 1<=sizeLine;decide,h⟩,nofun⟩
  | [a,b],h,_=>exact⟨λ_=>⟨by show 1<=sizeLine;decide,h⟩,nofun⟩
  | [n,k,t],h,hp=>
   dsimp only at h;refine⟨nofun,λ_=>?_⟩;refine⟨n,rfl,by have:=hp n (by simp);omega,?_⟩;by_cases hn:pP n.cps.toList=true
   ·rw[aaB hn]at h⊢;refine⟨k,t,rfl,hp t (by simp),?_⟩;cases hr:aM k t with
    | none=>rw[hr]at h;exact h
    | some r=>rw[hr]at h;exact⟨pz,h⟩
   ·rw[aay hn]at h⊢;exact h
  | a::b::c::d::r,h,_=>
   refine⟨λ_=>⟨by show 1<=sizeLine;decide,h⟩,λz=>(bad _ ?_ z).elim⟩;simp only[List.map_cons,List.length_cons];omega
def dz(z:Str):Key:=Sum.inr z
def OR(n:Nat):List Dt:=(List.range n).map λi:Nat=>Dt.int i
def gu(ns:List Str):MO:=.rB (ns.map dz) (OR ns.length)
def ml{n:Str}(ns:List Str):Io (ns.map dz) (dz n)=decide (n∈ns):=by
 unfold Io;rw[aa7,List.any_eq_true,aa0];constructor
 ·rintro⟨c,hc,e⟩;have⟨m,hm,rfl⟩:=aah.mp hc;rw[<-Sum.inr.inj (aaV e)];exact hm
 ·intro h;exact⟨_,aah.mpr ⟨n,h,rfl⟩,aaK rfl⟩
def GV(j:Nat):OR (j+1)=OR j++[.int j]:=by unfold OR;rw[List.range_succ,aaU];rfl
def qG{n:Str}{d:Dt}:∀{ns:List Str} {ds:List Dt} {i:Nat},ns.Nodup->ns.length=ds.length->ns[i]? =some n->ds[i]? =some d->fj (ns.map dz) ds (dz n)=some d
 | [],_,_,_,_,h,_=>by simp at h
 | _::_,[],_,_,h,_,_=>by simp at h
 | m::ns,e::ds,0,_,_,h,h'=>by cases h;cases h';unfold fj;rw[aaJ,abb,List.find?_cons_of_pos (by exact aaK rfl)];rfl
 | m::ns,e::ds,i+1,nd,hl,h,h'=>by have h:ns[i]? =some n:=h;have h':ds[i]? =some d:=h';have nd:=aa9.mp nd;have ne:m≠n:=λz=>nd.1 (by rw[z];exact aaA h);have ih:=qG (ns:=ns) (ds:=ds) (i:=i) nd.2 (by simpa using hl) h h';unfold fj at ih⊢;rw[List.map_cons,List.zip_cons_cons,List.find?_cons_of_neg (by simp only[decide_eq_true_eq];exactλz=>ne (Sum.inr.inj z))];exact ih
def cQ(ns:List Str)(d:Str×List Fr):Option Eg:=if d.1∈ns then (match d.2 with
 | p::r=>some ((ns.idxOf d.1:Nat),p,r)
 | []=>none) else none
def g6(ns:List Str):NR->Option Rw
 | .fin p=>some (.fin p)
 | .υ k ds=>(aO (cQ ns) ds).map (.υ k)
def Ii:NR->Prop
 | .fin p=>0 < p.2
 | .υ k ds=>k≠"end"/\ds.length<=12/\∀d∈ds,d.2.length=(if k="chance" then 2 else 1)/\∀p∈d.2,0 < p.2/\p.2 < 2 ^ 200/\p.1.natAbs < 2 ^ 200
def yF(Ce:Addr):DF:=λas M q x=>∃k ns,as=[.loc k]/\M[k]? =some (.lst (ns.map Dt.str))/\ns.length<=900/\if ns.Nodup then q (.loc M.length) (M++[gu ns]) else∀M',x Ce [] M'
def fN:Δ ["names","numbers","number","name"] ["names"] (π kB):=.of rfl
def vK(F:eE K "numbers_of" "numbers_of" kB f fd)(E:Ev K mg Cl CT Ce Cf Cg Ca):ay P w K mg base (bP P w) 1 f fd ["names"] (eN K (yF Ce)):=by
 refine F.ip fN (λds M q x h=>?_) (λbC A outer s H E' hr=>⟨_,(θ (τ 1 fN.nd Nv)
   (θ (oS (AX E.eC (ai (jv 0) η)) (zS rfl (dk (bS (i:=2) fN.nd rfl (Or.inl rfl)) (dk (bS (i:=3) fN.nd rfl (Or.inl rfl)) oE))) HA (θ (Υ (Mx hr (jv 3) (jv 1)) (μ (aN bf aas E.vk E.oH (ε χ η Ε))) Α)
   (μ (B8 hr (jv 1) (jv 3) (jv 2)))))
   (μ (Β (jv 1))))),λds M q x h=>?_⟩)
 ·have⟨k,ns,rfl,_⟩:=h;rfl
 ·have⟨k,ns,rfl,hk,Xh,h⟩:=h;have kl:k < M.length:=(aai.mp hk).1;have IH:∀E:MO,(M++[E])[k]? =some (.lst (ns.map Dt.str)):=λE=>by rw[aav kl];exact hk
  have RB:∀E:MO,(M++[E])[M.length]? =some E:=λE=>by simp
  walk_at "vc";dsimp only[HN,Lb,bW,fC,aH];refine⟨.loc k,ns.map Dt.str,λM':Ms=>M'[k]? =some (MO.lst (ns.map Dt.str)),rfl,?_,?_⟩
  ·show(match (M++[MO.rB [] []])[k]? with| some (MO.lst xs)=>some (xs,λM':Ms=>M'[k]? =some (MO.lst xs))| _=>none)=_;rw[IH]
  refine jf (λxs ρ M'=>∃(done rest:List Str) (a b:Option Dt),xs=iQ done.length (rest.map Dt.str)/\ns=done++rest/\done.Nodup/\M'=M++[gu done]/\ρ=[some (.loc k),some (.loc M.length),a,b]) (λxs ρ M' hj=>by have⟨done,rest,a,b,_,_,_,rfl,_⟩:=hj;exact IH _) (λx xs ρ M' hj Eh=>?_) (λρ M' hj=>?_) _ _ _ ⟨[],ns,none,none,rfl,rfl,List.nodup_nil,rfl,rfl⟩
  ·have⟨done,rest,a,b,ex,e,nd,rfl,rfl⟩:=hj;cases rest with
   | nil=>cases ex
   | cons n rest=>
    cases ex;have dl:done.length < 1000:=by rw[e,aae]at Xh;omega
    refine⟨M.length,_,_,dz n,rfl,RB _,rfl,λz=>?_,λz=>?_⟩
    ·rw[ml]at z;have z:n∈done:=aaV z
     rw[aay (λXi=>by
      rw[e]at Xi
      exact(List.nodup_append.mp Xi).2.2 n z n aaf rfl)]at h
     exact⟨@_,h _⟩
    rw[ml]at z;have hn:n∉done:=aaZ z;have i0:Io (done.map dz) (dz n)=false:=by rw[ml,aao hn]
    refine⟨M.length,_,_,dz n,rfl,RB _,rfl,by rw[aac];exact dl,?_⟩;refine Eh _ _ ⟨done++[n],rest,_,_,by rw[List.length_append];rfl,by rw[e,List.append_assoc];rfl,List.nodup_append.mpr ⟨nd,by simp,λa ha b hb=>?_⟩,?_,rfl⟩
    ·have:b=n:=by simpa using hb
     rw[this];exactλy=>hn (y▸ha)
    unfold nF jY;rw[aay (by rw[i0];decide),aay (by rw[i0];decide)];unfold gu;rw[aae,show([n]:List Str).length=1 from rfl,GV,aaU];simp
  ·have⟨done,rest,a,b,ex,e,nd,rfl,rfl⟩:=hj;cases rest with
   | cons n rest=>cases ex
   | nil=>
    rw[aaO]at e;subst e;rw[aaB nd]at h;exact h
def xc(Ce:Addr):DF:=λas M q x=>∃k ns d,as=[Iq d,.loc k]/\M[k]? =some (gu ns)/\ns.Nodup/\(d.2≠[]/\d.2.length<=2)/\Ei (cQ ns d) (λr=>q (oh r) M) (x Ce [] M)
def qa:Δ ["door","numbers"] ["door","numbers"] (π gb):=.of rfl
def oi(F:eE K "numbered_door" "numbered_door" gb f fd)(E:Ev K mg Cl CT Ce Cf Cg Ca):ay P w K mg base (bP P w) 1 f fd ["door","numbers"] (eN K (xc Ce)):=by
 refine F.ip qa (λds M q x h=>?_) (λbC A outer s H E' hr=>⟨_,(θ (Υ (CL hr (Φ (jv 0) ο) (jv 1)) (μ (aN bf aas E.vk E.oH (ε χ η Ε))) Α)
   (μ (Β (ν (bQ (ε (ze hr (jv 1) (Φ (jv 0) ο)) η aJ)) (Ds (jv 0) ο))))),λds M q x h=>?_⟩)
 ·have⟨k,ns,d,rfl,_⟩:=h;rfl
 ·have⟨k,ns,⟨n,ps⟩,rfl,hk,nd,⟨p0,p2⟩,h⟩:=h;have p0:ps≠[]:=p0;have p2:ps.length<=2:=p2;unfold cQ at h;walk_at "vc";refine(ah (d:=Iq (n,ps)) rfl dj ?_:fE (Iq (n,ps)) (.int 0) M _);refine⟨k,_,_,dz n,rfl,hk,rfl,λz=>?_,λz=>?_⟩
  ·rw[ml]at z;have z:n∉ns:=by simpa using z
   rw[aay z]at h;exact⟨@_,h⟩
  rw[ml]at z;have z:n∈ns:=by simpa using z
  rw[aaB z]at h;cases ps with
  | nil=>exact aaG rfl p0
  | cons p r=>
   have h:q (oh ((ns.idxOf n:Nat),p,r)) M:=h;have hi:ns.idxOf n < ns.length:=aby z;have en:ns[ns.idxOf n]? =some n:=by rw[aaa hi,List.getElem_idxOf hi]
   have ed:(OR ns.length)[ns.idxOf n]? =some (.int (ns.idxOf n:Nat)):=by unfold OR;rw[aaM,List.getElem?_range hi];rfl
   have gt:=qG nd (by unfold OR;simp) en ed;dsimp only[HF,cz,aH,dC];refine(ah (d:=Iq (n,p::r)) rfl dj ?_:fE (Iq (n,p::r)) (.int 0) M _);refine⟨k,_,_,dz n,_,rfl,hk,rfl,gt,by show 1<=sizeLine;decide,?_⟩;refine⟨_,1,rfl,rfl,@_,by simp,⟨by simp,?_⟩,h⟩;show 1+((p::r).map df).length<=sizeLine;rw[aac];exact ι ()
def BC(Ce:Addr):DF:=λas M q x=>∃k ns r,as=[SD r,.loc k]/\M[k]? =some (gu ns)/\ns.Nodup/\Ii r/\Ei (g6 ns r) (λr=>q (dJ r) M) (x Ce [] M)
def jT:Δ ["row","numbers"] ["row","numbers"] (π hW):=.of rfl
def qc(F:eE K "numbered_row" "numbered_row" hW f fd)(E:Ev K mg Cl CT Ce Cf Cg Ca){sf:Addr}{rW:FuncData}(e7:aV P w K mg base 1 "numbered_door" ["door","numbers"] (xc Ce) sf rW):ay P w K mg base (bP P w) 2 f fd ["row","numbers"] (eN K (BC Ce)):=by
 refine F.ip jT (λds M q x h=>?_) (λbC A outer s H E' hr=>⟨_,(θ (Υ (cG hr (Φ (jv 0) ο) χ) (μ (Β (jv 0))) Α)
   (μ (Β (bQ (ε (Φ (jv 0) ο) (ε (lM gG (ys:=["numbers"]) (Γ:=[1]) (.of jT rfl rfl rfl) (bw (Φ (jv 0) ο)) (λC s H fp=>(aK e7 hr jA (ai (jv 0) (ai (jv 1) η))))) η) aJ))))),λds M q x h=>?_⟩)
 ·have⟨k,ns,r,rfl,_⟩:=h;rfl
 ·have⟨k,ns,r,rfl,hk,nd,jC,h⟩:=h;cases r with
  | fin p=>exact⟨λ_=>h,nofun⟩
  | υ kd ds=>
   walk_at "vc";refine⟨λz=>aaG (aaV z) jC.1,λ_=>?_⟩;have Ze:=jC.2.1;show((ds.map Iq).length<=sizeLine/\fX _ _ _ _ (ds.map Iq) [] M _);refine⟨by rw[aac];exact ι (),?_⟩;refine dR (f:=cQ ns) (db:=oh) (X:=x Ce [] M) trivial (λa ha q' eK=>⟨k,ns,a,rfl,hk,nd,?_,eK⟩) ?_
   ·have:=(jC.2.2 a ha).1;refine⟨λz=>?_,?_⟩
    ·rw[z]at this;split at this <;> simp at this
    ·split at this <;> omega
   unfold g6 at h;dsimp only at h;cases ha:aO (cQ ns) ds with
   | none=>rw[ha]at h;exact h
   | some bs=>rw[ha]at h;exact⟨pz,h⟩
def ql{α β:Type}{f:α->Option β}:∀{l:List α} {bs:List β},aO f l=some bs->∀b∈bs,∃a∈l,f a=some b
 | [],bs,h,b,hb=>by cases h;cases hb
 | a ::l,bs,h,b,hb=>by
  unfold aO at h;cases hf:f a with
  | none=>rw[hf]at h;cases h
  | some c=>
   rw[hf]at h;cases hl:aO f l with
   | none=>rw[hl]at h;cases h
   | some cs=>
    rw[hl]at h;cases h;rcases aam.mp hb with rfl| hb
    ·exact⟨a,aaf,hf⟩
    ·have⟨y,hy,e⟩:=ql hl b hb;exact⟨y,aag _ hy,e⟩
def qm{α β:Type}{f:α->Option β}:∀{l:List α} {bs:List β},aO f l=some bs->bs.length=l.length
 | [],bs,h=>by cases h;rfl
 | a::l,bs,h=>by
  unfold aO at h;cases hf:f a with
  | none=>rw[hf]at h;cases h
  | some c=>
   rw[hf]at h;cases hl:aO f l with
   | none=>rw[hl]at h;cases h
   | some cs=>rw[hl]at h;cases h;rw[aat,aat,qm hl]
def wu{α β γ:Type}{f:β->Option γ}{g:α->β}:∀{l:List α},aO f (l.map g)=aO (λa=>f (g a)) l
 | []=>rfl
 | a::l=>by show(match f (g a) with| none=>none| some b=>match aO f (l.map g) with| none=>none| some bs=>some (b::bs))=_;rw[wu];rfl
def Fc{ns:List Str}{d:Str×List Fr}{r:Eg}(h:cQ ns d=some r):d.2=r.2.1::r.2.2:=by
 unfold cQ at h;split at h
 ·split at h
  ·rename_i p t e;cases h;exact e
  ·cases h
 ·cases h
def GX{ns:List Str}{r:NR}{r':Rw}(hr:Ii r)(h:g6 ns r=some r'):fM r':=by
 cases r with
 | fin p=>cases h;exact hr
 | υ k ds=>
  unfold g6 at h;dsimp only at h;cases ha:aO (cQ ns) ds with
  | none=>rw[ha]at h;cases h
  | some bs=>
   rw[ha]at h;cases h;have⟨h1,h2,h3⟩:=hr;have len:bs.length=ds.length:=qm ha;have each:∀b∈bs,b.2.2.length+1=(if k="chance" then 2 else 1)/\∀p∈b.2.1::b.2.2,0 < p.2/\p.2 < 2 ^ 200/\p.1.natAbs < 2 ^ 200:=λb hb=>by have⟨a,Yr,e⟩:=ql ha b hb;have e:=Fc e;have h:=h3 a Yr;rw[e]at h;exact⟨h.1,h.2⟩
   refine⟨h1,(),λhc=>⟨λd hd=>?_,by rw[aac];omega,λc IG=>?_⟩,λd hd=>⟨?_,((each d hd).2 d.2.1 aaf).1⟩⟩
   ·have h:=(each d hd).1;rw[aaB hc]at h;unfold bj
    match hq:d.2.2,h with
    | [c],_=>rfl
    | [],h=>simp at h
    | _::_::_,h=>simp at h
   ·have⟨d,hd,rfl⟩:=aah.mp IG;have h:=(each d hd).1;rw[aaB hc]at h;have h2:=(each d hd).2;unfold bj
    match hq:d.2.2,h with
    | [c],_=>exact h2 c (by rw[hq];simp)
    | [],h=>simp at h
    | _::_::_,h=>simp at h
   ·have h:=(each d hd).1;split at h <;> omega
inductive Res where
 | text
 | name
 | floor
 | place (j:Nat)
 | ok (Ζ:Fr) (Μ:List Rw) (ns:List Str)
def aY(Ζ:Fr)(ak:List (Str×NR)):Res:=
 if (ak.map (·.1)).Nodup then (match aO (g6 (ak.map (·.1))) (ak.map (·.2)) with
  | none=>.name
  | some Μ=>if bR Ζ=true/\1<=Μ.length/\Μ.length<=12 then (match aB Μ.length Μ 0 with
   | none=>.ok Ζ Μ (ak.map (·.1))
   | some j=>.place j) else .floor) else .name
def aQ:List Str->Res
 | []=>.text
 | p0::ps=>match aq p0 with
  | none=>.text
  | some Ζ=>match aO Τ ps with
   | none=>.text
   | some ak=>aY Ζ ak
def QH(AF CT CN CF CP:Addr)(r:Res)(n:Nat)(M:Ms)(q:DQ)(x:SR):Prop:=match r with
 | .text=>∀M',x CT [] M'
 | .name=>∀M',x CN [] M'
 | .floor=>∀M',x CF [] M'
 | .place j=>∀M',x CP [("place",.int (j:Int))] M'
 | .ok Ζ Μ ns=>q (.tup [qH AF Ζ Μ,.loc n]) (M++[.lst (ns.map Dt.str),gu ns])
def j_(AF CT CN CF CP:Addr):DF:=λas M q x=>∃z:Str,as=[.str z]/\z.length<=9000/\(∀p0 ps Ζ ak,Txt.split z (mk [59,32])=p0::ps->aq p0=some Ζ->aO Τ ps=some ak->ak.length<=100/\∀p∈ak,Ii p.2)/\
 QH AF CT CN CF CP (aQ (Txt.split z (mk [59,32]))) M.length M q x
def aR:Δ ["text","parts","share","places","names","numbers","rows"] ["text"] (π ki):=.of rfl
def u9   (F:eE K "read_floor" "read_floor" ki f fd) (E:Ev K mg Cl CT Ce Cf Cg Ca) {zR:Addr} {yX:FuncData} (iV:aV P w K mg base 4 "read_share" ["text"] (ph CT) zR yX) {yU:Addr} {yK:FuncData} (iT:aV P w K mg base 6 "read_place" ["text"] (qP CT) yU yK) {zf:Addr} {zm:FuncData} (iU:aV P w K mg base 1 "numbers_of" ["names"] (yF Ce) zf zm) {vD:Addr} {uR:FuncData} (gi:aV P w K mg base 2 "numbered_row" ["row","numbers"] (BC Ce) vD uR) {yN:Addr} {Ak:FuncData} (ji:N_ P w K mg base 5 "Floor" Cl ["self","share","rows"] (LB Cl Cf Cg) yN Ak):ay P w K mg base (bP P w) 7 f fd ["text"] (eN K (j_ Cl CT Ce Cf Cg)):=by
 refine F.ip aR (λds M q x h=>?_) (λbC A outer s H E' hr=>⟨_,(θ (τ 1 aR.nd (cY (jv 0) (ε χ η Ε)))
   (θ (τ 2 aR.nd (aK iV hr Θ (ε (Φ (jv 1) ο) η aJ)))
   (θ (lT gG (ys:=[]) (Γ:=[]) (.of aR rfl rfl rfl) (bw (lQ (nD (jv 1) ο))) (λC s H fp=>(aK iT hr jA (ai (jv 0) η))) (i:=3) aR.nd rfl (Or.inl rfl))
   (θ (eQ (i:=4) aR.nd rfl (Or.inl rfl) (ys:=[]) (Γ:=[]) (.of aR rfl rfl rfl) (bw (jv 3)) (λC s H fp=>(Φ (jv 0) ο)))
   (θ (τ 5 aR.nd (aK iU hr Θ (ai (jv 4) η)))
   (θ (lT gG (ys:=["numbers"]) (Γ:=[5]) (.of aR rfl rfl rfl) (bw (jv 3)) (λC s H fp=>(aK gi hr jA (ε (Φ (jv 0) ο) (ai (jv 1) η) aJ))) (i:=6) aR.nd rfl (Or.inl rfl))
   (μ (Β (bQ (ε (lQ (Ol ji hr Θ (ai (jv 2) (ai (jv 6) η)))) (ai (jv 4) η) cy)))))))))),λds M q x h=>?_⟩)
 ·have⟨z,rfl,_⟩:=h;rfl
 ·have⟨z,rfl,hz,hn,h⟩:=h;have hp:∀p∈Txt.split z (mk [59,32]),p.length<=9000:=λa ha=>aaD (PyProof.Rows.part_short ha) hz;have jZ:=lP z (mk [59,32]);have hsz:=PyProof.Rows.split_le z (mk [59,32]);walk_at "vc";refine⟨⟨_,rfl⟩,?_⟩;refine(eZ ER () ?_:eJ (.str z) [.str (Str.ofString "; ")] M _);generalize Txt.split z (mk [59,32])=parts at h hp hn jZ hsz⊢;cases parts with
  | nil=>exact aaG rfl jZ
  | cons p0 ps=>
   have hn:=hn p0 ps;unfold aQ at h;dsimp only at h;refine(ah (d:=.lst ((p0::ps).map Dt.str)) rfl dj ?_:fE (.lst ((p0::ps).map Dt.str)) (.int 0) M _);refine⟨p0,rfl,hp p0 aaf,?_⟩;cases hs:aq p0 with
   | none=>rw[hs]at h;exact h M
   | some Ζ=>
    rw[hs]at h;dsimp only at h;dsimp only[Ei,jF,dM,O7,Gr,aH,dC];refine⟨_,1,rfl,rfl,?_⟩;have un:∀zs:List Str,Dt.br M.length (zs.map Dt.str):=λzs=>by
     induction zs with
     | nil=>trivial
     | cons a zs ih=>exact⟨trivial,ih⟩
    refine vc (un ps) ?_;show(ps.map Dt.str).length<=sizeLine/\fX _ _ _ _ (ps.map Dt.str) [] M _;refine⟨by rw[List.length_map];exact ι (by simp only[List.length_cons]at hsz;omega),?_⟩;refine dR (f:=Τ) (db:=Iz) (X:=x CT [] M) trivial (λa ha q' eK=>⟨a,rfl,hp a (aag _ ha),eK⟩) ?_;cases ha:aO Τ ps with
    | none=>rw[ha]at h;exact h M
    | some ak=>
     rw[ha]at h;have⟨VT,WQ⟩:=hn Ζ ak rfl hs ha;dsimp only at h;unfold aY at h;have l2:(ak.map Iz).length<=sizeLine:=by rw[aac];exact ι ()
     show((ak.map Iz).length<=sizeLine/\jd _ _ _ (ak.map Iz) [] M _);refine⟨l2,?_⟩;refine cS (F:=λx a=>x=Iz a/\a∈ak) (f:=λp=>Dt.str p.1) trivial (λx a ha q' eK=>?_) (gA Iz ak ak λ_ h=>h) ?_
     ·have⟨rfl,ha⟩:=ha;exact eK
     rw[aaI,show(ak.map λp=>Dt.str p.1)=(ak.map (·.1)).map Dt.str by rw[aap];rfl];refine⟨M.length,ak.map (·.1),rfl,by simp,by rw[List.length_map];omega,?_⟩;rw[wu]at h;generalize BM:ak.map (·.1)=ns at h⊢;by_cases nd:ns.Nodup
     ·rw[aaB nd]at h⊢;show((ak.map Iz).length<=sizeLine/\fX _ _ _ _ (ak.map Iz) [] (M++[MO.lst (ns.map Dt.str)]++[gu ns]) _);refine⟨l2,?_⟩;refine dR (f:=λp:Str×NR=>g6 ns p.2) (db:=dJ) (X:=∀M',x Ce [] M') trivial (λa ha q' eK=>?_) ?_
      ·refine⟨M.length+1,ns,a.2,by simp[Iz],by simp,nd,WQ a ha,?_⟩;cases hr:g6 ns a.2 with
       | none=>rw[hr]at eK;exact eK _
       | some r=>rw[hr]at eK;exact eK
      have eM:M++[MO.lst (ns.map Dt.str)]++[gu ns]=M++[.lst (ns.map Dt.str),gu ns]:=by simp
      rw[eM];cases SH:aO (λp:Str×NR=>g6 ns p.2) ak with
      | none=>rw[SH]at h;exact h
      | some Μ=>
       rw[SH]at h;dsimp only at h;have RA:∀r∈Μ,fM r:=λr hr=>by have⟨a,ha,e⟩:=ql SH r hr;exact GX (WQ a ha) e
       have UU:Μ.length<=100:=by rw[qm SH];exact VT
       dsimp only[Ei];rw[aaI];generalize X4:M++[MO.lst (ns.map Dt.str),gu ns]=M2 at h⊢;dsimp only[LK,bW,fC,aH];refine⟨M2.length,.lst (Μ.map dJ),Ζ,Μ.map dJ,Μ,λ_=>True,rfl,by simp,rfl,BI _ _,UU,RA,?_⟩;by_cases hc:bR Ζ=true/\1<=Μ.length/\Μ.length<=12
       ·rw[aaB hc]at h⊢;cases hb:aB Μ.length Μ 0 with
        | some j=>rw[hb]at h;exact h _
        | none=>
         rw[hb]at h;refine⟨rfl,?_⟩;rw[show(M2++[MO.ins Cl [] []]).set M2.length (.ins Cl ["kept_share","kept_rows"] [df Ζ,.lst (Μ.map dJ)])=M2++[.ins Cl ["kept_share","kept_rows"] [df Ζ,.lst (Μ.map dJ)]] by simp[List.set_append]];refine kL (d':=qH Cl Ζ Μ) (.Vj (Nat.le_refl _) (by simp) (.cons (.old (nC Ζ)) (.cons (.old (qf Μ)) .nil))) ?_;refine⟨pz,?_⟩;rw[<-X4];exact h
       ·rw[aay hc]at h⊢;exact h _
     ·rw[aay nd]at h⊢;exact h
def Lw(p:Fr):Prop:=p.1.natAbs < 10 ^ 60/\0 < p.2/\p.2.natAbs < 10 ^ 60/\Int.gcd p.1 p.2=1
def fr(p:Fr):List Nat:=wr p.1 p.2
def dF(n:List Nat):Prop:=1<=n.length/\n.length<=8/\∀c∈n,97<=c/\c<=122
def gq:pP n=true↔dF n:=by unfold pP dF;rw[aaz,aaz,aa0,aa0,abi];exact and_congr_right λ_=>and_congr_right λ_=>⟨λh c hc=>aaV (h c hc),λh c hc=>aaK (h c hc)⟩
inductive NL where
 | fin (p:Fr)
 | υ (k:Str) (ds:List (List Nat×List Fr))
def Ω:NL->Str
 | .fin _=>"end"
 | .υ k _=>k
def ae(d:List Nat×List Fr):List Nat:=jn [32] (d.1::d.2.map fr)
def aF:NL->List Nat
 | .fin p=>fr p
 | .υ _ ds=>jn [44,32] (ds.map ae)
def uI(n:List Nat)(r:NL):List Nat:=n++(32::((Ω r).cps.toList++(32::aF r)))
def Jl(d:List Nat×List Fr):Str×List Fr:=(mk d.1,d.2)
def Lx:NL->NR
 | .fin p=>.fin p
 | .υ k ds=>.υ k (ds.map Jl)
def K4(k:Str)(d:List Nat×List Fr):Prop:=dF d.1/\d.2.length=(if k="chance" then 2 else 1)/\∀p∈d.2,Lw p
def iC:NL->Prop
 | .fin p=>Lw p
 | .υ k ds=>(k="one"\/k="other"\/k="chance")/\1<=ds.length/\ds.length<=7/\∀d∈ds,K4 k d
def dH{p:Fr}(h:c∈fr p):45<=c/\c<=57:=by
 unfold fr wr at h;rcases aaj.mp h with h| h
 ·rcases aaj.mp h with h| h
  ·unfold sg at h;split at h
   ·have:c=45:=by simpa using h
    omega
   ·cases h
  ·have:=js _ c h;omega
 ·split at h
  ·cases h
  ·rcases aam.mp h with h| h
   ·omega
   ·have:=js _ c h;omega
def g_{s:List Nat}{c:Nat}:∀{ps:List (List Nat)},c∈jn s ps->c∈s\/∃p∈ps,c∈p
 | [],h=>nomatch h
 | [p],h=>.inr ⟨p,aaf,h⟩
 | p::q::r,h=>by
  have h:c∈p++(s++jn s (q::r)):=h;rcases aaj.mp h with h| h
  ·exact .inr ⟨p,aaf,h⟩
  ·rcases aaj.mp h with h| h
   ·exact .inl h
   ·rcases g_ h with h| ⟨y,hy,h⟩
    ·exact .inl h
    ·exact .inr ⟨y,aag _ hy,h⟩
def OG:Builtin.Str.strKind (mk [32])=1:=by decide+kernel
def UP:Builtin.Str.strKind (mk [44,32])=1:=by decide+kernel
def YY:Builtin.Str.strKind (mk [59,32])=1:=by decide+kernel
def EK{p:Fr}(h:Lw p):rd (mk (fr p))=some p:=QK h.2.1 h.2.2.2 h.1 h.2.2.1
def jI{α β γ:Type}{f:β->Option γ}{g:α->β}{h:α->γ}:∀{l:List α},(∀a∈l,f (g a)=some (h a))->aO f (l.map g)=some (l.map h)
 | [],_=>rfl
 | a::l,hh=>by show(match f (g a) with| none=>none| some b=>match aO f (l.map g) with| none=>none| some bs=>some (b::bs))=_;rw[hh a aaf,jI λy hy=>hh y (aag _ hy)];rfl
def bA{α β:Type}{f:α->Option β}:∀{l:List α} {a:α},a∈l->f a=none->aO f l=none
 | b::l,a,hm,h=>by
  unfold aO;rcases aam.mp hm with rfl| hm
  ·rw[h]
  ·rw[bA hm h];cases f b <;> rfl
def h9{ps:List Fr}(hn:dF n):∀y∈n::ps.map fr,32∉y:=λy hy z=>by
 rcases aam.mp hy with rfl| hy
 ·have:=hn.2.2 _ z;omega
 ·have⟨p,_,rfl⟩:=aah.mp hy;have:=dH z;omega
def C1{k:Str}{d:List Nat×List Fr}(h:K4 k d):aI (if k="chance" then 3 else 2) (mk (ae d))=some (Jl d):=by unfold aI ae;rw[cN OG (by simp) (h9 h.1),List.map_cons];dsimp only;rw[aaB (by rw[aac,aac,h.2.1];split <;> rfl),aL,aaB (gq.mpr h.1),aap,jI (f:=rd) (g:=mk ∘ fr) (h:=λp=>p) (λp hp=>EK (h.2.2 p hp)),List.map_id'];rfl
def qY{k:Str}{d:List Nat×List Fr}(h:K4 k d)(hc:c∈ae d):c=32\/45<=c/\c<=57\/97<=c/\c<=122:=by
 rcases g_ hc with hc| ⟨p,hp,hc⟩
 ·exact .inl (by simpa using hc)
 rcases aam.mp hp with rfl| hp
 ·exact .inr (.inr (h.1.2.2 c hc))
 ·have⟨q,_,rfl⟩:=aah.mp hp;exact .inr (.inl (dH hc))
def Fy{r:NL}(h:iC r):aM (Ω r) (mk (aF r))=some (Lx r):=by
 unfold aM;cases r with
 | fin p=>rw[aaB (show Ω (.fin p)="end" from rfl),show aF (.fin p)=fr p from rfl,EK h];rfl
 | υ k ds=>
  have⟨hk,h1,h7,hd⟩:=h;have ne:¬Ω (.υ k ds)="end":=by show¬k="end";rcases hk with rfl| rfl| rfl <;> decide
  have sp:Txt.split (mk (aF (.υ k ds))) (mk [44,32])=(ds.map ae).map mk:=cN UP (λz=>by have z:=aaN List.length z;rw[aac]at z;have z:ds.length=0:=z;omega) λy hy z=>by have⟨d,v_,rfl⟩:=aah.mp hy;have:=qY (hd d v_) z;omega
  have all:∀l,l=(if k="chance" then 3 else 2)->aO (aI l) ((ds.map ae).map mk)=some (ds.map Jl):=λl hl=>by rw[aap,hl];exact jI λd v_=>C1 (hd d v_)
  rw[aay ne,sp];by_cases hh:eI k=true
  ·have nc:¬k="chance":=λe=>by rw[e]at hh;exact aaG hh @_
   rw[aaB (show eI (Ω (.υ k ds))=true from hh),all 2 (by rw[aay nc])];rfl
  ·have kc:k="chance":=by
    rcases hk with e| e| e
    ·rw[e]at hh;exact aaG @_ hh
    ·rw[e]at hh;exact aaG @_ hh
    ·exact e
   rw[aay (show¬eI (Ω (.υ k ds))=true from hh),aaB (show Ω (.υ k ds)="chance" from kc),all 3 (by rw[aaB kc])];rfl
def gB{r:NL}(h:iC r)(hc:c∈(Ω r).cps.toList):97<=c/\c<=122:=by
 have all:∀k:Str,k="end"\/k="one"\/k="other"\/k="chance"->∀c∈k.cps.toList,97<=c/\c<=122:=λk hk c hc=>by
  have he:(Str.ofString "end").cps.toList=[101,110,100]:=by decide+kernel
  have h1:(Str.ofString "one").cps.toList=[111,110,101]:=by decide+kernel
  have h2:(Str.ofString "other").cps.toList=[111,116,104,101,114]:=by decide+kernel
  have h3:(Str.ofString "chance").cps.toList=[99,104,97,110,99,101]:=by decide+kernel
  rcases hk with rfl| rfl| rfl| rfl
  ·rw[he]at hc;simp only[List.mem_cons,List.not_mem_nil,or_false]at hc;omega
  ·rw[h1]at hc;simp only[List.mem_cons,List.not_mem_nil,or_false]at hc;omega
  ·rw[h2]at hc;simp only[List.mem_cons,List.not_mem_nil,or_false]at hc;omega
  ·rw[h3]at hc;simp only[List.mem_cons,List.not_mem_nil,or_false]at hc;omega
 refine all (Ω r) ?_ c hc;cases r with
 | fin p=>exact .inl rfl
 | υ k ds=>exact .inr h.1
def pI{k:List Nat}(hn:32∉n)(hk:32∉k):Txt.splitMax (mk (n++(32::(k++(32::t))))) (mk [32]) 2=[mk n,mk k,mk t]:=
 iP (x:=mk (n++(32::(k++(32::t))))) (c:=32) (tl:=[]) (l:=2) (ps:=[n,k,t]) OG (by
  rw[aL]
  exact .more hn (.more hk (.last (.inl rfl))))
def kC{k:List Nat}(hn:32∉n)(hk:32∉k):Τ (mk (n++(32::(k++(32::t)))))=if pP n=true then (aM (mk k) (mk t)).map λr=>(mk n,r) else none:=by unfold Τ;rw[pI hn hk];rfl
def mj(h:dF n)(hc:c < 97):c∉n:=λz=>by have:=h.2.2 _ z;omega
def Ax{r:NL}(hn:dF n)(h:iC r):Τ (mk (uI n r))=some (mk n,Lx r):=by unfold uI;rw[kC (mj hn @_) (λz=>by have:=gB h z;omega),aaB (gq.mpr hn),show mk (Ω r).cps.toList=Ω r from rfl,Fy h];rfl
def Ν:List Nat:=[115,104,97,114,101]
def lF:(Str.ofString "share")=mk Ν:=by decide+kernel
def zk{p:Fr}(h:Lw p):aq (mk (Ν++32::fr p))=some p:=by
 unfold aq
 rw[show Ν++32::fr p=jn [32] [Ν,fr p] from rfl,cN OG (by simp) (λy hy z=>by
  have hy:y=Ν\/y=fr p:=by simpa using hy
  rcases hy with rfl| rfl
  ·exact aaG z @_
  ·have:=dH z;omega)]
 show(if mk Ν=Str.ofString "share" then rd (mk (fr p)) else none)=_;rw[aaB lF.symm,EK h]
def oQ{n:Nat}(h:gz cs=some n):cs≠[]/\∀c∈cs,48<=c/\c<=57:=by
 unfold gz at h;split at h
 ·rename_i hk;exact⟨hk.1,λc hc=>by have:=hk.2.2.1 c hc;omega⟩
 ·cases h
def AW{t:Int}(h:ke cs=some t):cs≠[]/\∀c∈cs,45<=c/\c<=57:=by
 unfold ke at h;split at h
 ·rename_i r;split at h
  ·rename_i n hf;refine⟨by simp,λc hc=>?_⟩;rcases aam.mp hc with rfl| hc
   ·omega
   ·have:=(oQ hf).2 c hc;omega
  ·cases h
 ·split at h
  ·rename_i n hf;exact⟨(oQ hf).1,λc hc=>by have:=(oQ hf).2 c hc;omega⟩
  ·cases h
def tW{p:Fr}(h:rd z=some p):z.cps.toList≠[]/\∀c∈z.cps.toList,45<=c/\c<=57:=by
 have hj:(Str.join ⟨#[47]⟩ (Txt.split z ⟨#[47]⟩)).cps.toList=z.cps.toList:=aaN (λy:Str=>y.cps.toList) (StrLaws.join_split z ⟨#[47]⟩);unfold rd at h;split at h
 ·rename_i a e;rw[e]at hj;have hj:a.cps.toList=z.cps.toList:=hj;rw[<-hj];cases ht:ke a.cps.toList with
  | none=>rw[ht]at h;cases h
  | some t=>exact AW ht
 ·rename_i a b e;rw[e,fA]at hj;have hj:a.cps.toList++([47]++b.cps.toList)=z.cps.toList:=hj;rw[<-hj];cases ht:ke a.cps.toList with
  | none=>rw[ht]at h;cases h
  | some t=>
   rw[ht]at h;cases hf:gz b.cps.toList with
   | none=>rw[hf]at h;cases h
   | some n=>
    refine⟨by simp,λc hc=>?_⟩;rcases aaj.mp hc with hc| hc
    ·exact(AW ht).2 c hc
    rcases aaj.mp hc with hc| hc
    ·have:c=47:=by simpa using hc
     omega
    ·have:=(oQ hf).2 c hc;omega
 ·cases h
def qg(hc:c∈cs)(h:c < 45\/57 < c):rd (mk cs)=none:=by
 cases e:rd (mk cs) with
 | none=>rfl
 | some p=>have:=(tW e).2 c hc;omega
def N4:rd (mk [])=none:=by
 cases e:rd (mk []) with
 | none=>rfl
 | some p=>exact aaG rfl (tW e).1
def mr(h:∀y∈n::ws,32∉y):aI l (mk (jn [32] (n::ws)))=if ws.length+1=l then (if pP n=true then (aO rd (ws.map mk)).map λps=>(mk n,ps) else none) else none:=by unfold aI;rw[cN OG (by simp) h,List.map_cons];dsimp only;rw[aac,aL]
def dD(h:∀y∈n::ws,32∉y)(hl:ws.length+1≠l):aI l (mk (jn [32] (n::ws)))=none:=by rw[mr h,aay hl]
def dg(h:∀y∈n::ws,32∉y)(hn:¬dF n):aI l (mk (jn [32] (n::ws)))=none:=by
 rw[mr h];split
 ·rw[aay λz=>hn (gq.mp z)]
 ·rfl
def zJ(h:∀y∈n::ws,32∉y)(hw:wd∈ws)(hr:rd (mk wd)=none):aI l (mk (jn [32] (n::ws)))=none:=by
 rw[mr h];split
 ·split
  ·rw[bA (aah.mpr ⟨wd,hw,rfl⟩) hr];rfl
  ·rfl
 ·rfl
def tQ{d:Str×List Fr}(h:aI l z=some d):∀c∈z.cps.toList,c=32\/45<=c/\c<=57\/97<=c/\c<=122:=by
 have hj:=StrLaws.join_split z (mk [32]);unfold aI at h;generalize Txt.split z (mk [32])=ps at h hj;cases ps with
 | nil=>cases h
 | cons wd ws=>
  dsimp only at h;split at h
  ·split at h
   ·rename_i hn;have hn:=gq.mp hn;cases ha:aO rd ws with
    | none=>rw[ha]at h;cases h
    | some bs=>
     have e:(wd::ws)=((wd.cps.toList::ws.map λy=>y.cps.toList)).map mk:=by rw[aaJ,aap];have:((mk ∘ λy:Str=>y.cps.toList):Str->Str)=id:=rfl;rw[this,List.map_id];rfl
     rw[e,fQ]at hj;intro c hc;rw[<-hj,aL]at hc;rcases g_ hc with hc| ⟨p,hp,hc⟩
     ·exact .inl (by simpa using hc)
     rcases aam.mp hp with rfl| hp
     ·exact .inr (.inr (hn.2.2 c hc))
     ·have⟨y,hy,rfl⟩:=aah.mp hp;cases hr:rd y with
      | none=>rw[bA hy hr]at ha;cases ha
      | some p=>exact .inr (.inl ((tW hr).2 c hc))
   ·cases h
  ·cases h
def xy{k:Str}{r:NR}(h:aM k z=some r):(k="end"\/k="one"\/k="other"\/k="chance")/\∀c∈z.cps.toList,c=32\/c=44\/45<=c/\c<=57\/97<=c/\c<=122:=by
 have go:∀l,(∃r,(aO (aI l) (Txt.split z (mk [44,32]))).map (NR.υ k)=some r)->∀c∈z.cps.toList,c=32\/c=44\/45<=c/\c<=57\/97<=c/\c<=122:=λl ⟨r,h⟩=>by
  have hj:=StrLaws.join_split z (mk [44,32]);generalize Txt.split z (mk [44,32])=ps at h hj;cases ha:aO (aI l) ps with
  | none=>rw[ha]at h;cases h
  | some bs=>
   have e:ps=(ps.map λy=>y.cps.toList).map mk:=by rw[aap];have:((mk ∘ λy:Str=>y.cps.toList):Str->Str)=id:=rfl;rw[this,List.map_id]
   rw[e,fQ]at hj;intro c hc;rw[<-hj,aL]at hc;rcases g_ hc with hc| ⟨p,hp,hc⟩
   ·have:c=44\/c=32:=by simpa using hc
    omega
   ·have⟨y,hy,rfl⟩:=aah.mp hp;cases hr:aI l y with
    | none=>rw[bA hy hr]at ha;cases ha
    | some p=>have:=tQ hr c hc;omega
 unfold aM at h;split at h
 ·rename_i hk;refine⟨.inl hk,λc hc=>?_⟩;cases hr:rd z with
  | none=>rw[hr]at h;cases h
  | some p=>have:=(tW hr).2 c hc;omega
 split at h
 ·rename_i hk;unfold eI at hk;rw[Bool.or_eq_true]at hk;exact⟨by rcases hk with hk| hk;exact .inr (.inl (eq_of_beq hk));exact .inr (.inr (.inl (eq_of_beq hk))),go 2 ⟨_,h⟩⟩
 split at h
 ·rename_i hk;exact⟨.inr (.inr (.inr hk)),go 3 ⟨_,h⟩⟩
 ·cases h
def EJ{k:Str}(hk:k="end"\/k="one"\/k="other"\/k="chance"):∀c∈k.cps.toList,97<=c/\c<=122:=λc hc=>by
 have he:(Str.ofString "end").cps.toList=[101,110,100]:=by decide+kernel
 have h1:(Str.ofString "one").cps.toList=[111,110,101]:=by decide+kernel
 have h2:(Str.ofString "other").cps.toList=[111,116,104,101,114]:=by decide+kernel
 have h3:(Str.ofString "chance").cps.toList=[99,104,97,110,99,101]:=by decide+kernel
 rcases hk with rfl| rfl| rfl| rfl
 ·rw[he]at hc;simp only[List.mem_cons,List.not_mem_nil,or_false]at hc;omega
 ·rw[h1]at hc;simp only[List.mem_cons,List.not_mem_nil,or_false]at hc;omega
 ·rw[h2]at hc;simp only[List.mem_cons,List.not_mem_nil,or_false]at hc;omega
 ·rw[h3]at hc;simp only[List.mem_cons,List.not_mem_nil,or_false]at hc;omega
def sx(x y:Str)(k:Int):Str.join y (Txt.splitMax x y k)=x:=by
 unfold Txt.splitMax;split
 ·rfl
 ·split
  ·rfl
  ·have⟨f,h⟩:=StrLaws.occ_chain x y (limitOf x k);rw[StrLaws.partsBetween_eq,StrLaws.join_partsFrom x y _ 0 f h,StrLaws.sub_whole]
def qL{p:Str×NR}(h:Τ z=some p):∀c∈z.cps.toList,c=32\/c=44\/45<=c/\c<=57\/97<=c/\c<=122:=by
 have hj:=sx z (mk [32]) 2;unfold Τ at h;split at h
 ·rename_i n k t e;split at h
  ·rename_i hn;have hn:=gq.mp hn;cases hr:aM k t with
   | none=>rw[hr]at h;cases h
   | some r=>
    have⟨hk,ht⟩:=xy hr;rw[e]at hj;have hj:mk (jn [32] [n.cps.toList,k.cps.toList,t.cps.toList])=z:=by rw[<-fQ];exact hj
    intro c hc;rw[<-hj,aL]at hc;rcases g_ hc with hc| ⟨y,hy,hc⟩
    ·exact .inl (by simpa using hc)
    have hy:y=n.cps.toList\/y=k.cps.toList\/y=t.cps.toList:=by simpa using hy
    rcases hy with rfl| rfl| rfl
    ·have:=hn.2.2 c hc;omega
    ·have:=EJ hk c hc;omega
    ·exact ht c hc
  ·cases h
 ·cases h
def de(hc:c∈cs)(h:¬(c=32\/c=44\/45<=c/\c<=57\/97<=c/\c<=122)):Τ (mk cs)=none:=by
 cases e:Τ (mk cs) with
 | none=>rfl
 | some p=>exact aaG (qL e c hc) h
def EA{c:Nat}:∀t:List Nat,c∉t\/∃a b,t=a++c::b/\c∉a
 | []=>.inl (by simp)
 | d::t=>by
  by_cases h:d=c
  ·exact .inr ⟨[],t,by rw[h];rfl,by simp⟩
  ·rcases EA t with q| ⟨a,b,e,q⟩
   ·exact .inl (by simp only[List.mem_cons,not_or];exact⟨λz=>h z.symm,q⟩)
   ·exact .inr ⟨d::a,b,by rw[e];rfl,by simp only[List.mem_cons,not_or];exact⟨λz=>h z.symm,q⟩⟩
def nv{x:List Nat}(h:xY 32 [] 2 x ps):Txt.splitMax (mk x) (mk [32]) 2=ps.map mk:=iP (x:=mk x) (l:=2) OG h
def d_(ha:32∉a)(hn:¬dF a):Τ (mk (a++32::t))=none:=by
 rcases EA (c:=32) t with q| ⟨b,c,rfl,q⟩
 ·unfold Τ;rw[nv (x:=a++32::t) (ps:=[a,t]) (.more ha (.last (.inr q)))];rfl
 ·rw[kC ha q,aay λz=>hn (gq.mp z)]
def n4(ha:32∉a)(ht:32∉t):Τ (mk (a++32::t))=none:=by unfold Τ;rw[nv (x:=a++32::t) (ps:=[a,t]) (.more ha (.last (.inr ht)))];rfl
def nJ(ha:32∉a):Τ (mk a)=none:=by unfold Τ;rw[nv (x:=a) (ps:=[a]) (.last (.inr ha))];rfl
def Ρ{k:List Nat}(hn:32∉n)(hk:32∉k)(h:aM (mk k) (mk t)=none):Τ (mk (n++(32::(k++(32::t)))))=none:=by rw[kC hn hk,h];split <;> rfl
def kD{k:Str}(h:¬(k="end"\/k="one"\/k="other"\/k="chance")):aM k z=none:=by
 cases e:aM k z with
 | none=>rfl
 | some r=>exact aaG (xy e).1 h
def cg{k:Str}{ds:List (List Nat)}{d:List Nat}(hk:k="one"\/k="other"\/k="chance")(hf:∀y∈ds,44∉y)(hd:d∈ds)(h:aI (if k="chance" then 3 else 2) (mk d)=none):aM k (mk (jn [44,32] ds))=none:=by
 unfold aM;have ne:¬k="end":=by rcases hk with rfl| rfl| rfl <;> decide
 rw[aay ne,cN UP (λz=>by rw[z]at hd;cases hd) hf];have hm:mk d∈ds.map mk:=aah.mpr ⟨d,hd,rfl⟩;by_cases hh:eI k=true
 ·have nc:¬k="chance":=λe=>by rw[e]at hh;exact aaG hh @_
  rw[aay nc]at h;rw[aaB hh,bA hm h];rfl
 ·rw[aay hh];by_cases hc:k="chance"
  ·rw[aaB hc]at h⊢;rw[bA hm h];rfl
  ·rw[aay hc]
def Aq{c d:Nat}:∀{ps:List (List Nat)} {a b:List Nat},(∀p∈ps,c∉p)->jn [c,d] ps=a++c::b->c≠d->∃b',b=d::b'
 | [],a,b,_,e,_=>by cases a <;> cases e
 | [p],a,b,h,e,_=>by have e:p=a++c::b:=e;exact absurd (by rw[e];simp) (h p List.mem_cons_self)
 | p::q::r,a,b,h,e,we=>by
  have e:p++(c::(d::jn [c,d] (q::r)))=a++c::b:=e;have hp:=h p aaf;rcases List.append_eq_append_iff.mp e with ⟨x,e1,e2⟩| ⟨x,e1,e2⟩
  ·cases x with
   | nil=>exact⟨_,by simpa using(List.cons.inj e2).2.symm⟩
   | cons y x=>
    have e3:y=c:=by simpa using(List.cons.inj e2).1.symm
    have e2:d::jn [c,d] (q::r)=x++c::b:=by simpa using(List.cons.inj e2).2
    cases x with
    | nil=>exact absurd (by simpa using(List.cons.inj e2).1.symm) we
    | cons z x=>exact Aq (λy hy=>h y (List.mem_cons_of_mem _ hy)) (by simpa using(List.cons.inj e2).2) we
  ·cases x with
   | nil=>exact⟨_,by simpa using(List.cons.inj e2).2⟩
   | cons y x=>
    have e3:y=c:=by simpa using(List.cons.inj e2).1.symm
    exact absurd (by rw[e1,e3];simp) hp
def iS{k:Str}(hb:∀b',b≠32::b'):aM k (mk (a++44::b))=none:=by
 cases e:aM k (mk (a++44::b)) with
 | none=>rfl
 | some r=>
  exfalso;have go:∀l,(∃r,(aO (aI l) (Txt.split (mk (a++44::b)) (mk [44,32]))).map (NR.υ k)=some r)->False:=λl ⟨r,h⟩=>by
   have hj:=StrLaws.join_split (mk (a++44::b)) (mk [44,32]);generalize Txt.split (mk (a++44::b)) (mk [44,32])=ps at h hj;cases ha:aO (aI l) ps with
   | none=>rw[ha]at h;cases h
   | some bs=>
    have e:ps=(ps.map λy=>y.cps.toList).map mk:=by rw[aap];have:((mk ∘ λy:Str=>y.cps.toList):Str->Str)=id:=rfl;rw[this,List.map_id]
    rw[e,fQ]at hj;have hj:jn [44,32] (ps.map λy=>y.cps.toList)=a++44::b:=aaN (λy:Str=>y.cps.toList) hj
    have⟨b',e'⟩:=Aq (λp hp z=>by
     have⟨y,hy,rfl⟩:=aah.mp hp;cases hr:aI l y with
     | none=>rw[bA hy hr]at ha;cases ha
     | some p=>have:=tQ hr 44 z;omega) hj @_
    exact hb b' e'
  unfold aM at e;split at e
  ·cases hr:rd (mk (a++44::b)) with
   | none=>rw[hr]at e;cases e
   | some p=>have:=(tW hr).2 44 (by rw[aL];simp);omega
  split at e
  ·exact go 2 ⟨_,e⟩
  split at e
  ·exact go 3 ⟨_,e⟩
  ·cases e
def me{s t l:List Nat}:∀{ps:List (List Nat)},jn s (ps++[l])++t=jn s (ps++[l++t])
 | []=>rfl
 | [p]=>by show p++(s++l)++t=p++(s++(l++t));simp
 | p::q::r=>by have:=me (s:=s) (t:=t) (l:=l) (ps:=q::r);show p++(s++jn s (q::r++[l]))++t=p++(s++jn s (q::r++[l++t]));rw[<-this];simp
def tx(s:String):List Nat:=(Str.ofString s).cps.toList
def iz(n k t:List Nat):List (List Nat):=[
 tx "A "++k++[32]++t,[32]++k++[32]++t,tx "abcdefghi "++k++[32]++t,
 n++[45]++k++[32]++t,n++[32,32]++k++[32]++t,n++[32]++k++[32,32]++t,
 n++tx " once "++t,n++[32]++k,n++[32]++k++[32],n++tx " End 0",
 n++[32]++k++[32]++t++[44],tx "a1 "++k++[32]++t,n++tx " one "++n,
 n++[32]++k++[32]++t++tx " 1/2 0 0",n++tx " chance "++n++tx " 1",
 n++tx " one B 1",n++tx " other abcdefghi 1",n++tx " one  1",n++tx " chance a1 1 1",
 n++tx " other "++n++tx "  1",
 n++tx " one "++n++tx " 1,"++n++tx " 0",n++tx " one "++n++tx " 1,  "++n++tx " 0",
 n++[10]++k++[32]++t,n++[32]++k++[10]++t,n++tx " one "++n++tx "\n1",
 n++[32]++k++[32]++t++[10],[10]++n++[32]++k++[32]++t]
def oF{r:NL}(h:iC r):(∃p,r= .fin p)\/∃k d ds,r= .υ k (d::ds):=by
 cases r with
 | fin p=>exact .inl ⟨p,rfl⟩
 | υ k ds=>
  cases ds with
  | nil=>exact aaG h.2.1 @_
  | cons d ds=>exact .inr ⟨k,d,ds,rfl⟩
def fb{k:Str}{d:List Nat×List Fr}(h:K4 k d):44∉ae d:=λz=>by have:=qY h z;omega
def C7{r:NL}(h:iC r):aM (Ω r) (mk (32::aF r))=none:=by
 rcases oF h with ⟨p,rfl⟩| ⟨k,d,ds,rfl⟩
 ·unfold aM;rw[if_pos (show Ω (.fin p)="end" from rfl),qg (c:=32) (by simp) ()];rfl
 ·have e:32::aF (.υ k (d::ds))=jn [44,32] ((32::ae d)::ds.map ae):=by cases ds <;> rfl
  rw[e];have hd:=h.2.2.2 d aaf;refine cg h.1 (λy hy z=>?_) aaf ?_
  ·rcases aam.mp hy with rfl| hy
   ·rcases aam.mp z with z| z
    ·omega
    ·exact fb hd z
   ·have⟨d',uv,rfl⟩:=aah.mp hy;exact fb (h.2.2.2 d' (aag _ uv)) z
  ·show aI _ (mk (jn [32] ([]::d.1::d.2.map fr)))=none
   exact dg (λy hy=>by
    rcases aam.mp hy with rfl| hy
    ·simp
    ·exact h9 hd.1 y hy) (λz=>aaG z.1 @_)
def Ku{k:Str}:aM k (mk [])=none:=by
 have e1:aM "end" (mk [])=none:=by unfold aM;rw[aaB rfl,N4];rfl
 by_cases hk:k="end"\/k="one"\/k="other"\/k="chance"
 ·rcases hk with rfl| hk
  ·exact e1
  ·refine cg (ds:=[[]]) (d:=[]) hk (by simp) (by simp) ?_;exact dg (n:=[]) (ws:=[]) (by simp) (λz=>absurd z.1 @_)
 ·exact kD hk
def row_more{r:NL}(h:iC r)(hw:∀y∈wd::ws,32∉y/\44∉y):aM (Ω r) (mk (aF r++32::jn [32] (wd::ws)))=none:=by
 rcases oF h with ⟨p,rfl⟩| ⟨k,d0,Ue,rfl⟩
 ·unfold aM;rw[if_pos (show Ω (.fin p)="end" from rfl),qg (c:=32) (by simp) ()];rfl
 ·obtain⟨init,last,el⟩:∃init last,d0::Ue=init++[last]:=⟨_,_,(List.dropLast_concat_getLast (by simp)).symm⟩;rw[el]at h⊢;have hl:=h.2.2.2 last (by simp);have e:aF (.υ k (init++[last]))++32::jn [32] (wd::ws)=jn [44,32] (init.map ae++[ae last++32::jn [32] (wd::ws)]):=by show jn [44,32] ((init++[last]).map ae)++_=_;rw[aaU];exact me
  have e2:ae last++32::jn [32] (wd::ws)=jn [32] (last.1::(last.2.map fr++wd::ws)):=by
   have:∀(ps:List (List Nat)) (p:List Nat),jn [32] (p::ps)++32::jn [32] (wd::ws)=jn [32] (p::(ps++wd::ws)):=by
    intro ps
    induction ps with
    | nil=>intro p;rfl
    | cons q ps ih=>
     intro p;show p++([32]++jn [32] (q::ps))++32::jn [32] (wd::ws)=p++([32]++jn [32] (q::(ps++wd::ws)));rw[<-ih q];simp
   exact this _ _
  rw[e];refine cg (d:=ae last++32::jn [32] (wd::ws)) h.1 (λy hy z=>?_) (by simp) ?_
  ·rcases aaj.mp hy with hy| hy
   ·have⟨d',uv,rfl⟩:=aah.mp hy;exact fb (h.2.2.2 d' (by simp[uv])) z
   ·have:y=ae last++32::jn [32] (wd::ws):=by simpa using hy
    rw[this]at z;rcases aaj.mp z with z| z
    ·exact fb hl z
    ·rcases aam.mp z with z| z
     ·omega
     ·rcases g_ z with z| ⟨p,hp,z⟩
      ·simp at z
      ·exact(hw p hp).2 z
  ·rw[e2];refine dD (λy hy=>?_) ?_
   ·rcases aam.mp hy with rfl| hy
    ·exact mj hl.1 @_
    rcases aaj.mp hy with hy| hy
    ·exact h9 hl.1 y (aag _ hy)
    ·exact(hw y hy).1
   ·rw[aae,aac,hl.2.1,aat];show _≠(if k="chance" then 3 else 2);by_cases hc:k="chance"
    ·rw[aaB hc,aaB hc];omega
    ·rw[aay hc,aay hc];omega
def Tt:tx "A "=[65,32]:=by decide+kernel
def KQ:tx "abcdefghi "=[97,98,99,100,101,102,103,104,105]++[32]:=by decide+kernel
def J4:tx " once "=32::([111,110,99,101]++[32]):=by decide+kernel
def NT:tx " End 0"=[32,69,110,100,32,48]:=by decide+kernel
def PD:tx "a1 "=[97,49]++[32]:=by decide+kernel
def yZ:tx " one "=32::([111,110,101]++[32]):=by decide+kernel
def GA:tx " other "=32::([111,116,104,101,114]++[32]):=by decide+kernel
def Cz:tx " chance "=32::([99,104,97,110,99,101]++[32]):=by decide+kernel
def k_one:mk [111,110,101]=(Str.ofString "one"):=by decide+kernel
def AV:mk [111,116,104,101,114]=(Str.ofString "other"):=by decide+kernel
def xb:mk [99,104,97,110,99,101]=(Str.ofString "chance"):=by decide+kernel
def jD{k:Str}{d:List Nat}(hk:k="one"\/k="other"\/k="chance")(hf:44∉d)(h:aI (if k="chance" then 3 else 2) (mk d)=none):aM k (mk d)=none:=
 cg (ds:=[d]) (d:=d) hk (by simpa using hf) (by simp) h
def Cy{r:NL}(hn:dF n)(h:iC r):∀x∈iz n (Ω r).cps.toList (aF r),Τ (mk x)=none:=by
 have rT:32∉n:=mj hn @_;have Sk:44∉n:=mj hn @_;have y9:32∉(Ω r).cps.toList:=λz=>by have:=gB h z;omega
 have ek:mk (Ω r).cps.toList=Ω r:=rfl;generalize hK:(Ω r).cps.toList=k at y9 ek;intro x hx;unfold iz at hx;simp only[List.mem_cons,List.not_mem_nil,or_false]at hx;rcases hx with rfl| rfl| rfl| rfl| rfl| rfl| rfl| rfl| rfl| rfl| rfl| rfl| rfl| rfl| rfl| rfl| rfl| rfl| rfl| rfl| rfl| rfl| rfl| rfl| rfl| rfl| rfl
 ·exact de (c:=65) (by rw[Tt];simp) ()
 ·rw[show[32]++k++[32]++aF r=[]++32::(k++([32]++aF r)) by simp];exact d_ (by simp) (λz=>absurd z.1 @_)
 ·rw[KQ,show∀a:List Nat,a++[32]++k++[32]++aF r=a++32::(k++([32]++aF r)) fromλa=>by simp];exact d_ @_ (λz=>aaG z.2.1 @_)
 ·rw[show n++[45]++k++[32]++aF r=(n++[45]++k)++32::aF r by simp];refine d_ (λz=>?_) (λz=>?_)
  ·rcases aaj.mp z with z| z
   ·rcases aaj.mp z with z| z
    ·exact rT z
    ·simp at z
   ·exact y9 z
  ·have:=z.2.2 45 (by simp);omega
 ·rw[show n++[32,32]++k++[32]++aF r=n++(32::([]++(32::(k++([32]++aF r))))) by simp];exact Ρ rT (by simp) (kD (by decide+kernel))
 ·rw[show n++[32]++k++[32,32]++aF r=n++(32::(k++(32::(32::aF r)))) by simp];exact Ρ rT y9 (by rw[ek];exact C7 h)
 ·rw[J4,show n++(32::([111,110,99,101]++[32]))++aF r=n++(32::([111,110,99,101]++(32::aF r))) by simp];exact Ρ rT @_ (kD (by decide+kernel))
 ·rw[show n++[32]++k=n++32::k by simp];exact n4 rT y9
 ·rw[show n++[32]++k++[32]=n++(32::(k++(32::[]))) by simp];exact Ρ rT y9 Ku
 ·exact de (c:=69) (by rw[NT];simp) ()
 ·rw[show n++[32]++k++[32]++aF r++[44]=n++(32::(k++(32::(aF r++44::[])))) by simp];exact Ρ rT y9 (iS λb' z=>by cases z)
 ·rw[PD,show[97,49]++[32]++k++[32]++aF r=[97,49]++32::(k++([32]++aF r)) by simp];exact d_ @_ (λz=>absurd (z.2.2 49 (by simp)) @_)
 ·rw[yZ,show n++(32::([111,110,101]++[32]))++n=n++(32::([111,110,101]++(32::n))) by simp];exact Ρ rT @_ (by rw[k_one];exact jD (.inl rfl) Sk (dD (n:=n) (ws:=[]) (by simpa using rT) (by decide+kernel)))
 ·rw[show tx " 1/2 0 0"=32::jn [32] [[49,47,50],[48],[48]] by decide+kernel,show∀t:List Nat,n++[32]++k++[32]++aF r++t=n++(32::(k++(32::(aF r++t)))) fromλt=>by simp];exact Ρ rT y9 (by rw[ek];exact row_more h @_)
 ·rw[Cz,show tx " 1"=32::[49] by decide+kernel,show n++(32::([99,104,97,110,99,101]++[32]))++n++32::[49]=n++(32::([99,104,97,110,99,101]++(32::(n++([32]++[49]))))) by simp]
  exact Ρ rT @_ (by
   rw[xb]
   exact jD (.inr (.inr rfl)) (by simp[Sk]) (dD (n:=n) (ws:=[[49]]) (by simp[rT]) (by decide+kernel)))
 ·exact de (c:=66) (by rw[show tx " one B 1"=[32,111,110,101,32,66,32,49] by decide+kernel];simp) ()
 ·rw[show tx " other abcdefghi 1"=32::([111,116,104,101,114]++(32::jn [32] [[97,98,99,100,101,102,103,104,105],[49]])) by decide+kernel];exact Ρ rT @_ (by rw[AV];exact jD (.inr (.inl rfl)) @_ (dg @_ λz=>aaG z.2.1 @_))
 ·rw[show tx " one  1"=32::([111,110,101]++(32::jn [32] [[],[49]])) by decide+kernel];exact Ρ rT @_ (by rw[k_one];exact jD (.inl rfl) @_ (dg @_ λz=>aaG z.1 @_))
 ·rw[show tx " chance a1 1 1"=32::([99,104,97,110,99,101]++(32::jn [32] [[97,49],[49],[49]])) by decide+kernel];exact Ρ rT @_ (by rw[xb];exact jD (.inr (.inr rfl)) @_ (dg @_ λz=>absurd (z.2.2 49 (by simp)) @_))
 ·rw[GA,show tx "  1"=[32,32,49] by decide+kernel,show n++(32::([111,116,104,101,114]++[32]))++n++[32,32,49]=n++(32::([111,116,104,101,114]++(32::(n++([32]++([]++([32]++[49]))))))) by simp]
  exact Ρ rT @_ (by
   rw[AV]
   exact jD (.inr (.inl rfl)) (by simp[Sk]) (dD (n:=n) (ws:=[[],[49]]) (by simp[rT]) (by decide+kernel)))
 ·rw[yZ,show tx " 1,"=[32,49,44] by decide+kernel,show tx " 0"=[32,48] by decide+kernel,show n++(32::([111,110,101]++[32]))++n++[32,49,44]++n++[32,48]=n++(32::([111,110,101]++(32::((n++[32,49])++44::(n++[32,48]))))) by simp];refine Ρ rT @_ (iS λb' z=>?_);cases n with
  | nil=>exact aaG hn.1 @_
  | cons c n=>
   have:c=32:=(List.cons.inj z).1;exact rT (by rw[this];simp)
 ·rw[yZ,show tx " 1,  "=[32,49,44,32,32] by decide+kernel,show tx " 0"=[32,48] by decide+kernel,show n++(32::([111,110,101]++[32]))++n++[32,49,44,32,32]++n++[32,48]=n++(32::([111,110,101]++(32::jn [44,32] [n++[32,49],[]++([32]++(n++([32]++[48])))]))) by simp[jn]];refine Ρ rT @_ ?_;rw[k_one];refine cg (d:=[]++([32]++(n++([32]++[48])))) (.inl rfl) (by simp[Sk]) (by simp) ?_;exact dD (n:=[]) (ws:=[n,[48]]) (by simp[rT]) (by show 3≠_;decide+kernel)
 ·exact de (c:=10) (by simp) ()
 ·exact de (c:=10) (by simp) ()
 ·exact de (c:=10) (by rw[show tx "\n1"=[10,49] by decide+kernel];simp) ()
 ·exact de (c:=10) (by simp) ()
 ·exact de (c:=10) (by simp) ()
def b9{ws:List (List Nat)}(hn:ws≠[])(h:∀y∈ws,32∉y):aq (mk (jn [32] ws))=match ws with
 | [a,b]=>if a=Ν then rd (mk b) else none
 | _=>none:=by
 unfold aq;rw[cN OG hn h]
 match ws with
 | []=>rfl
 | [a]=>rfl
 | [a,b]=>
  show(if mk a=Str.ofString "share" then rd (mk b) else none)=if a=Ν then rd (mk b) else none
  rw[lF];by_cases e:a=Ν
  ·rw[aaB (by rw[e]),aaB e]
  ·rw[aay (λz=>e (by have:=aaN (λy:Str=>y.cps.toList) z;exact this)),aay e]
 | a::b::c::r=>rfl
def y4{p:Fr}(h:aq z=some p):59∉z.cps.toList:=by
 have hj:=StrLaws.join_split z (mk [32]);unfold aq at h;split at h
 ·rename_i a b e;split at h
  ·rename_i ha;rw[e]at hj;have hj:mk (jn [32] [a.cps.toList,b.cps.toList])=z:=by rw[<-fQ];exact hj
   intro hc;rw[<-hj,aL]at hc;rcases g_ hc with hc| ⟨y,hy,hc⟩
   ·simp at hc
   have hy:y=a.cps.toList\/y=b.cps.toList:=by simpa using hy
   rcases hy with rfl| rfl
   ·rw[ha,lF,aL]at hc;exact aaG hc @_
   ·have:=(tW h).2 59 hc;omega
  ·cases h
 ·cases h
def wM(hb:∀b',b≠32::b'):aQ (Txt.split (mk (a++59::b)) (mk [59,32]))= .text:=by
 have hj:=StrLaws.join_split (mk (a++59::b)) (mk [59,32]);generalize Txt.split (mk (a++59::b)) (mk [59,32])=ps at hj;cases ps with
 | nil=>rfl
 | cons p0 ps=>
  show(match aq p0 with| none=>Res.text| some Ζ=>match aO Τ ps with| none=>.text| some ak=>aY Ζ ak)= .text;cases hs:aq p0 with
  | none=>rfl
  | some Ζ=>
   cases ha:aO Τ ps with
   | none=>rfl
   | some ak=>
    exfalso;have e:p0::ps=((p0::ps).map λy=>y.cps.toList).map mk:=by rw[aap];have:((mk ∘ λy:Str=>y.cps.toList):Str->Str)=id:=rfl;rw[this,List.map_id]
    rw[e,fQ]at hj;have hj:jn [59,32] ((p0::ps).map λy=>y.cps.toList)=a++59::b:=aaN (λy:Str=>y.cps.toList) hj
    have⟨b',e'⟩:=Aq (λp hp z=>by
     have⟨y,hy,rfl⟩:=aah.mp hp;rcases aam.mp hy with rfl| hy
     ·exact y4 hs z
     ·cases hr:Τ y with
      | none=>rw[bA hy hr]at ha;cases ha
      | some q=>have:=qL hr 59 z;omega) hj @_
    exact hb b' e'
def mi(ps:List (List Nat)):List Nat:=jn [59,32] ps
def mF(hn:ps≠[])(h:∀p∈ps,59∉p):Txt.split (mk (mi ps)) (mk [59,32])=ps.map mk:=cN YY hn h
def jH(h:∀p∈s::ps,59∉p)(hs:aq (mk s)=none):aQ (Txt.split (mk (mi (s::ps))) (mk [59,32]))= .text:=by rw[mF (by simp) h];show(match aq (mk s) with| none=>Res.text| some Ζ=>match aO Τ (ps.map mk) with| none=>.text| some ak=>aY Ζ ak)= .text;rw[hs]
def qu{p:List Nat}(h:∀p∈s::ps,59∉p)(hp:p∈ps)(hb:Τ (mk p)=none):aQ (Txt.split (mk (mi (s::ps))) (mk [59,32]))= .text:=by rw[mF (by simp) h];show(match aq (mk s) with| none=>Res.text| some Ζ=>match aO Τ (ps.map mk) with| none=>.text| some ak=>aY Ζ ak)= .text;rw[bA (aah.mpr ⟨p,hp,rfl⟩) hb];cases aq (mk s) <;> rfl
def wz{r:NL}(h:iC r):∃pre p,Lw p/\aF r=pre++fr p/\∀wd,32∉wd->44∉wd->rd (mk wd)=none->aM (Ω r) (mk (pre++wd))=none:=by
 rcases oF h with ⟨p,rfl⟩| ⟨k,d0,Ue,rfl⟩
 ·refine⟨[],p,h,rfl,λwd _ _ hr=>?_⟩;unfold aM;rw[aaB (show Ω (.fin p)="end" from rfl),aaI,hr];rfl
 ·obtain⟨init,last,el⟩:∃init last,d0::Ue=init++[last]:=⟨_,_,(List.dropLast_concat_getLast (by simp)).symm⟩;rw[el]at h⊢;have hl:=h.2.2.2 last (by simp);obtain⟨qi,q,eq⟩:∃qi q,last.2=qi++[q]:=⟨_,_,(List.dropLast_concat_getLast (λz=>by have:=hl.2.1;rw[z]at this;split at this <;> simp at this)).symm⟩;have hq:Lw q:=hl.2.2 q (by rw[eq];simp);have e1:∀wd,jn [32] (last.1::(qi.map fr++[wd]))=jn [32] (last.1::(qi.map fr++[[]]))++wd:=λwd=>by have:=me (s:=[32]) (t:=wd) (l:=[]) (ps:=last.1::qi.map fr);rw[aaI]at this;exact this.symm
  have e2:∀wd,jn [44,32] (init.map ae++[jn [32] (last.1::(qi.map fr++[wd]))])=jn [44,32] (init.map ae++[jn [32] (last.1::(qi.map fr++[[]]))])++wd:=λwd=>by rw[e1 wd,me]
  refine⟨jn [44,32] (init.map ae++[jn [32] (last.1::(qi.map fr++[[]]))]),q,hq,?_,λwd w1 w2 hr=>?_⟩
  ·rw[<-e2];show jn [44,32] ((init++[last]).map ae)=_;rw[aaU];show jn [44,32] (init.map ae++[jn [32] (last.1::last.2.map fr)])=_;rw[eq,aaU];rfl
  ·rw[<-e2];refine cg (d:=jn [32] (last.1::(qi.map fr++[wd]))) h.1 (λy hy z=>?_) (by simp) (zJ (λy hy=>?_) (List.mem_append_right _ List.mem_cons_self) hr)
   ·rcases aaj.mp hy with hy| hy
    ·have⟨d',uv,rfl⟩:=aah.mp hy;exact fb (h.2.2.2 d' (by simp[uv])) z
    ·have:y=jn [32] (last.1::(qi.map fr++[wd])):=by simpa using hy
     rw[this]at z;rcases g_ z with z| ⟨p,hp,z⟩
     ·simp at z
     rcases aam.mp hp with rfl| hp
     ·exact mj hl.1 @_ z
     rcases aaj.mp hp with hp| hp
     ·have⟨a,_,rfl⟩:=aah.mp hp;have:=dH z;omega
     ·have:p=wd:=by simpa using hp
      exact w2 (this▸z)
   ·rcases aam.mp hy with rfl| hy
    ·exact mj hl.1 @_
    rcases aaj.mp hy with hy| hy
    ·have⟨a,_,rfl⟩:=aah.mp hy;exactλz=>by have:=dH z;omega
    ·have:y=wd:=by simpa using hy
     rw[this];exact w1
def A3{p:Fr}(h:Lw p):rd (mk (fr p++[47,49]))=none:=by
 unfold fr wr;unfold rd;by_cases hb:p.2=1
 ·rw[aaB hb,aaO,show sg p.1++dig p.1.natAbs++[47,49]=sg p.1++dig p.1.natAbs++47::[49] from rfl,wR (JV p.1) @_];dsimp only;rw[aL,aL,rn h.1];have:gz [49]=some 1:=@_
  rw[this];rfl
 ·rw[if_neg hb,show sg p.1++dig p.1.natAbs++47::dig p.2.natAbs++[47,49]=jn [47] [sg p.1++dig p.1.natAbs,dig p.2.natAbs,[49]] by simp[jn],show(⟨#[47]⟩:Str)=mk [47] from rfl,cN (by decide+kernel) (by simp) (by
   intro y hy;have hy:y=sg p.1++dig p.1.natAbs\/y=dig p.2.natAbs\/y=[49]:=by simpa using hy
   rcases hy with rfl| rfl| rfl
   ·exact JV p.1
   ·exact Lk _
   ·decide)]
  rfl
def vn{r:NL}(h:iC r)(hc:c∈aF r):c=32\/c=44\/45<=c/\c<=57\/97<=c/\c<=122:=by
 cases r with
 | fin p=>have:=dH (p:=p) hc;omega
 | υ k ds=>
  rcases g_ (ps:=ds.map ae) hc with hc| ⟨p,hp,hc⟩
  ·have:c=44\/c=32:=by simpa using hc
   omega
  ·have⟨d,hd,rfl⟩:=aah.mp hp;have:=qY (h.2.2.2 d hd) hc;omega
abbrev PL:=List Nat×NL
def b7(q:PL):List Nat:=uI q.1 q.2
def jM(q:PL):Prop:=dF q.1/\iC q.2
def mS{q:PL}(h:jM q)(hc:c∈b7 q):c=32\/c=44\/45<=c/\c<=57\/97<=c/\c<=122:=by
 have hc:c∈q.1++(32::((Ω q.2).cps.toList++(32::aF q.2))):=hc;rcases aaj.mp hc with hc| hc
 ·have:=h.1.2.2 _ hc;omega
 rcases aam.mp hc with hc| hc
 ·omega
 rcases aaj.mp hc with hc| hc
 ·have:=gB h.2 hc;omega
 rcases aam.mp hc with hc| hc
 ·omega
 ·exact vn h.2 hc
def eG(p:Fr):List Nat:=Ν++32::fr p
def kg(p:Fr):59∉eG p:=λz=>by
 rcases aaj.mp z with z| z
 ·exact aaG z @_
 rcases aam.mp z with z| z
 ·omega
 ·have:=dH z;omega
def j3(p:Fr)(ak:List PL):List Nat:=mi (eG p::ak.map b7)
def HH{p:Fr}{ak:List PL}(h:∀q∈ak,jM q):∀y∈eG p::ak.map b7,59∉y:=λy hy z=>by
 rcases aam.mp hy with rfl| hy
 ·exact kg p z
 ·have⟨q,hq,rfl⟩:=aah.mp hy;have:=mS (h q hq) z;omega
def BE{p:Fr}{ak:List PL}(h:∀q∈ak,jM q)(f:List Nat->List Nat)(h1:59∉f (eG p))(h2:∀q∈ak,59∉f (b7 q))(s1:aq (mk (f (eG p)))=none)(s2:∀q∈ak,Τ (mk (f (b7 q)))=none):
  ∃pre last,j3 p ak=pre++last/\(last=eG p\/∃q∈ak,last=b7 q)/\aQ (Txt.split (mk (pre++f last)) (mk [59,32]))= .text:=by
 rcases List.eq_nil_or_concat ak with rfl| ⟨init,last,rfl⟩
 ·refine⟨[],eG p,rfl,.inl rfl,?_⟩;exact jH (s:=f (eG p)) (ps:=[]) (by simpa using h1) s1
 ·have e:∀wd,mi (eG p::(init.map b7++[wd]))=mi (eG p::(init.map b7++[[]]))++wd:=λwd=>by have:=me (s:=[59,32]) (t:=wd) (l:=[]) (ps:=eG p::init.map b7);rw[aaI]at this;exact this.symm
  refine⟨mi (eG p::(init.map b7++[[]])),b7 last,?_,.inr ⟨last,by simp,rfl⟩,?_⟩
  ·rw[<-e];unfold j3;rw[List.concat_eq_append,aaU];rfl
  ·rw[<-e];refine qu (p:=f (b7 last)) (λy hy=>?_) (by simp) (s2 last (by simp));rcases aam.mp hy with rfl| hy
   ·exact kg p
   rcases aaj.mp hy with hy| hy
   ·have⟨q,hq,rfl⟩:=aah.mp hy;exactλz=>by have:=mS (h q (by simp[hq])) z;omega
   ·have:y=f (b7 last):=by simpa using hy
    rw[this];exact h2 last (by simp)
def eY{p:Fr}{ak:List PL}{X:List Nat}(h:∀q∈ak,jM q)(hX:59∉X)(s1:aq (mk (eG p++X))=none)(s2:∀q∈ak,aM (Ω q.2) (mk (aF q.2++X))=none):aQ (Txt.split (mk (j3 p ak++X)) (mk [59,32]))= .text:=by
 have⟨pre,last,e,_,r⟩:=BE h (λy=>y++X) (λz=>(aaj.mp z).elim (kg p) hX) (λq hq z=>(aaj.mp z).elim (λz=>by have:=mS (h q hq) z;omega) hX) s1 λq hq=>by
  have e:b7 q++X=q.1++(32::((Ω q.2).cps.toList++(32::(aF q.2++X)))):=by show q.1++(32::((Ω q.2).cps.toList++(32::aF q.2)))++X=_;simp
  rw[e];exact Ρ (mj (h q hq).1 @_) (λz=>by have:=gB (h q hq).2 z;omega) (s2 q hq)
 rw[e,aaQ];exact r
def jh{p:Fr}(hw:∀y∈wd::ws,32∉y):aq (mk (eG p++32::jn [32] (wd::ws)))=none:=by
 rw[show eG p++32::jn [32] (wd::ws)=jn [32] (Ν::fr p::wd::ws) by
  show Ν++32::fr p++32::jn [32] (wd::ws)=Ν++([32]++(fr p++([32]++jn [32] (wd::ws))))
  simp,b9 (by simp) (λy hy=>?_)]
 rcases aam.mp hy with rfl| hy
 ·decide
 rcases aam.mp hy with rfl| hy
 ·exactλz=>by have:=dH z;omega
 ·exact hw y hy
def mX(hw:32∉wd)(hr:rd (mk wd)=none):aq (mk (Ν++32::wd))=none:=by
 rw[show Ν++32::wd=jn [32] [Ν,wd] from rfl,b9 (by simp) (by
  intro y hy;have hy:y=Ν\/y=wd:=by simpa using hy
  rcases hy with rfl| rfl
  ·decide
  ·exact hw)]
 show(if Ν=Ν then rd (mk wd) else none)=none;rw[aaB rfl,hr]
def CM(t:List Nat):List (List Nat):=[t++[59],t++[32],32::t,t++[59,32],t++[44,32],t++tx " 0",t.dropLast++[97],t++tx "/1",
 [],t.drop 6,Ν,t++tx "; a",t++tx "; z end",t++tx "; z end 2/4",t++tx "; z end -0",
 tx "share  "++t.drop 6,t++tx ";z end 0",t++[44],t++[32,32]]
def lq{p:Fr}{ak:List PL}(h:∀q∈ak,jM q)(hw:59∉wd)(hb:Τ (mk wd)=none):aQ (Txt.split (mk (j3 p ak++([59,32]++wd))) (mk [59,32]))= .text:=by
 have e:j3 p ak++([59,32]++wd)=mi (eG p::(ak.map b7++[wd])):=by
  have:∀(ps:List (List Nat)) (p:List Nat),jn [59,32] (p::ps)++([59,32]++wd)=jn [59,32] (p::(ps++[wd])):=by
   intro ps
   induction ps with
   | nil=>intro p;rfl
   | cons q ps ih=>
    intro p;show p++([59,32]++jn [59,32] (q::ps))++([59,32]++wd)=p++([59,32]++jn [59,32] (q::(ps++[wd])));rw[<-ih q];simp
  exact this _ _
 rw[e];refine qu (p:=wd) (λy hy=>?_) (by simp) hb;rcases aam.mp hy with rfl| hy
 ·exact kg p
 rcases aaj.mp hy with hy| hy
 ·have⟨q,hq,rfl⟩:=aah.mp hy;exactλz=>by have:=mS (h q hq) z;omega
 ·have:y=wd:=by simpa using hy
  rw[this];exact hw
def iL{p:Fr}{ak:List PL}(h:∀q∈ak,jM q)(hs:59∉s)(hb:aq (mk s)=none):aQ (Txt.split (mk (mi (s::ak.map b7))) (mk [59,32]))= .text:=
 jH (λy hy=>by
  rcases aam.mp hy with rfl| hy
  ·exact hs
  ·exact HH (p:=p) h y (aag _ hy)) hb
def qe{a b:List Nat}:∀{ps:List (List Nat)},mi ((a++b)::ps)=a++mi (b::ps)
 | []=>rfl
 | p::ps=>by show(a++b)++_=a++(b++_);simp
def Li(p:Fr):fr p≠[]:=λz=>by unfold fr wr at z;rw[aaQ]at z;have:=(List.append_eq_nil_iff.mp (List.append_eq_nil_iff.mp z).2).1;exact FO _ this
def CV{p:Fr}{ak:List PL}(hp:Lw p)(h:∀q∈ak,jM q):∀x∈CM (j3 p ak),aQ (Txt.split (mk x) (mk [59,32]))= .text:=by
 have d6:(j3 p ak).drop 6=mi (fr p::ak.map b7):=by unfold j3 eG;rw[show Ν++32::fr p=(Ν++[32])++fr p by simp,qe];exact List.drop_left' rfl
 intro x hx;unfold CM at hx;simp only[List.mem_cons,List.not_mem_nil,or_false]at hx;rcases hx with rfl| rfl| rfl| rfl| rfl| rfl| rfl| rfl| rfl| rfl| rfl| rfl| rfl| rfl| rfl| rfl| rfl| rfl| rfl
 ·exact wM λb' z=>by cases z
 ·exact eY h @_ (jh (wd:=[]) (ws:=[]) (by simp)) λq hq=>row_more (wd:=[]) (ws:=[]) (h q hq).2 (by simp)
 ·rw[show 32::j3 p ak=mi (([32]++eG p)::ak.map b7) by rw[qe];rfl];refine iL (p:=p) h (λz=>?_) ?_
  ·rcases aaj.mp z with z| z
   ·simp at z
   ·exact kg p z
  ·rw[show[32]++eG p=jn [32] [[],Ν,fr p] from rfl,b9 (by simp) (by
    intro y hy;have hy:y=[]\/y=Ν\/y=fr p:=by simpa using hy
    rcases hy with rfl| rfl| rfl
    ·simp
    ·decide
    ·exactλz=>by have:=dH z;omega)]
 ·exact lq (wd:=[]) h (by simp) (nJ (by simp))
 ·refine eY h @_ ?_ λq hq=>?_
  ·show aq (mk (eG p++[44,32]))=none
   rw[show eG p++[44,32]=jn [32] [Ν,fr p++[44],[]] by show Ν++32::fr p++[44,32]=Ν++([32]++(fr p++[44]++([32]++[])));simp,b9 (by simp) (by
    intro y hy;have hy:y=Ν\/y=fr p++[44]\/y=[]:=by simpa using hy
    rcases hy with rfl| rfl| rfl
    ·decide
    ·exactλz=>(List.mem_append.mp z).elim (λz=>by have:=dH z;omega) (by simp)
    ·simp)]
  ·have hr:=(h q hq).2;rcases oF hr with ⟨p',e⟩| ⟨k,d,ds,e⟩
   ·rw[e];unfold aM;rw[if_pos (show Ω (.fin p')="end" from rfl),qg (c:=32) (by simp) ()];rfl
   ·rw[e]at hr⊢;have e2:aF (.υ k (d::ds))++[44,32]=jn [44,32] ((d::ds).map ae++[[]]):=by
     have:∀(ps:List (List Nat)) (p:List Nat),jn [44,32] (p::ps)++[44,32]=jn [44,32] (p::(ps++[[]])):=by
      intro ps
      induction ps with
      | nil=>intro p;rfl
      | cons q ps ih=>
       intro p;show p++([44,32]++jn [44,32] (q::ps))++[44,32]=p++([44,32]++jn [44,32] (q::(ps++[[]])));rw[<-ih q];simp
     exact this _ _
    rw[e2];refine cg (d:=[]) hr.1 (λy hy z=>?_) (by simp) (dg (n:=[]) (ws:=[]) (by simp) λz=>absurd z.1 @_);rcases aaj.mp hy with hy| hy
    ·have⟨d',uv,rfl⟩:=aah.mp hy;exact fb (hr.2.2.2 d' uv) z
    ·have:y=[]:=by simpa using hy
     rw[this]at z;cases z
 ·rw[show tx " 0"=32::jn [32] [[48]] by decide+kernel];exact eY h @_ (jh @_) λq hq=>row_more (h q hq).2 @_
 ·show aQ (Txt.split (mk ((j3 p ak).dropLast++[97])) (mk [59,32]))= .text;have dl:∀(a:List Nat) {b:List Nat},b≠[]->(a++b).dropLast++[97]=a++(b.dropLast++[97]):=λa b hb=>by rw[List.dropLast_append_of_ne_nil hb,aaQ]
  have ins:∀{c:Nat} {q:Fr},c∈(fr q).dropLast++[97]->45<=c/\c<=57\/c=97:=λ{c q} hc=>by
   rcases aaj.mp hc with z| z
   ·exact .inl (dH (List.dropLast_subset _ z))
   ·exact .inr (by simpa using z)
  have bad:∀q:Fr,rd (mk ((fr q).dropLast++[97]))=none:=λq=>qg (c:=97) (by simp) ();have Y3:(eG p).dropLast++[97]=Ν++32::((fr p).dropLast++[97]):=by show(Ν++32::fr p).dropLast++[97]=_;rw[show Ν++32::fr p=(Ν++[32])++fr p by simp,dl _ (Li p)];simp
  have Z7:∀q∈ak,∃t,(b7 q).dropLast++[97]=q.1++(32::((Ω q.2).cps.toList++(32::t)))/\aM (Ω q.2) (mk t)=none/\∀c∈t,c≠59:=λq hq=>by
   have⟨pre,p',hl,e,wd⟩:=wz (h q hq).2;refine⟨pre++((fr p').dropLast++[97]),?_,wd _ (λz=>?_) (λz=>?_) (bad p'),λc hc z=>?_⟩
   ·show(q.1++(32::((Ω q.2).cps.toList++(32::aF q.2)))).dropLast++[97]=_;rw[e,show q.1++(32::((Ω q.2).cps.toList++(32::(pre++fr p'))))=(q.1++(32::((Ω q.2).cps.toList++(32::pre))))++fr p' by simp,dl _ (Li p')];simp
   ·have:=ins z;omega
   ·have:=ins z;omega
   ·rcases aaj.mp hc with hc| hc
    ·have:=vn (h q hq).2 (c:=c) (by rw[e];simp[hc]);omega
    ·have:=ins hc;omega
  have⟨pre,last,e,hl,r⟩:=BE h (λy=>y.dropLast++[97]) (p:=p) (by
   show 59∉(eG p).dropLast++[97];intro z;rcases aaj.mp z with z| z
   ·exact kg p (List.dropLast_subset _ z)
   ·simp at z) (λq hq z=>by
   rcases aaj.mp z with z| z
   ·have:=mS (h q hq) (List.dropLast_subset _ z);omega
   ·simp at z) (by
   show aq (mk ((eG p).dropLast++[97]))=none;rw[Y3]
   exact mX (λz=>by have:=ins z;omega) (bad p)) λq hq=>by
   have⟨t,e,ht,_⟩:=Z7 q hq;show Τ (mk ((b7 q).dropLast++[97]))=none;rw[e];exact Ρ (mj (h q hq).1 @_) (λz=>by have:=gB (h q hq).2 z;omega) ht
  rw[e,dl pre (by
   rcases hl with rfl| ⟨q,_,rfl⟩
   ·unfold eG;simp
   ·unfold b7 uI;simp)]
  exact r
 ·rw[show tx "/1"=[47,49] by decide+kernel];refine eY h @_ ?_ λq hq=>?_
  ·rw[show eG p++[47,49]=Ν++32::(fr p++[47,49]) by show Ν++32::fr p++[47,49]=_;simp]
   exact mX (λz=>by
    rcases aaj.mp z with z| z
    ·have:=dH z;omega
    ·simp at z) (A3 hp)
  ·have⟨pre,p',hl,e,wd⟩:=wz (h q hq).2;rw[e,aaQ];refine wd _ (λz=>?_) (λz=>?_) (A3 hl)
   ·rcases aaj.mp z with z| z
    ·have:=dH z;omega
    ·simp at z
   ·rcases aaj.mp z with z| z
    ·have:=dH z;omega
    ·simp at z
 ·exact jH (s:=[]) (ps:=[]) (by simp) (by rw[show([]:List Nat)=jn [32] [[]] from rfl,b9 (by simp) (by simp)])
 ·rw[d6]
  exact iL (p:=p) h (λz=>by have:=dH z;omega) (by rw[show fr p=jn [32] [fr p] from rfl,b9 (by simp) (by
   intro y hy;have:y=fr p:=by simpa using hy
   rw[this];exactλz=>by have:=dH z;omega)])
 ·exact jH (s:=Ν) (ps:=[]) @_ (by rw[show Ν=jn [32] [Ν] from rfl,b9 (by simp) @_])
 ·rw[show tx "; a"=[59,32]++[97] by decide+kernel];exact lq h @_ (nJ @_)
 ·rw[show tx "; z end"=[59,32]++([122]++32::[101,110,100]) by decide+kernel];exact lq h @_ (n4 @_ @_)
 ·rw[show tx "; z end 2/4"=[59,32]++([122]++(32::([101,110,100]++(32::[50,47,52])))) by decide+kernel];exact lq h @_ (Ρ @_ @_ (by unfold aM;rw[if_pos (by decide+kernel)];show(rd (mk [50,47,52])).map NR.fin=none;rw[show rd (mk [50,47,52])=none by decide+kernel];rfl))
 ·rw[show tx "; z end -0"=[59,32]++([122]++(32::([101,110,100]++(32::[45,48])))) by decide+kernel];exact lq h @_ (Ρ @_ @_ (by unfold aM;rw[if_pos (by decide+kernel)];show(rd (mk [45,48])).map NR.fin=none;rw[show rd (mk [45,48])=none by decide+kernel];rfl))
 ·rw[d6,show tx "share  "=Ν++[32,32] by decide+kernel,<-qe];refine iL (p:=p) h (λz=>?_) ?_
  ·rcases aaj.mp z with z| z
   ·exact aaG z @_
   ·have:=dH z;omega
  ·rw[show Ν++[32,32]++fr p=jn [32] [Ν,[],fr p] by show _=Ν++([32]++([]++([32]++fr p)));simp,b9 (by simp) (by
    intro y hy;have hy:y=Ν\/y=[]\/y=fr p:=by simpa using hy
    rcases hy with rfl| rfl| rfl
    ·decide
    ·simp
    ·exactλz=>by have:=dH z;omega)]
 ·rw[show tx ";z end 0"=59::tx "z end 0" by decide+kernel];exact wM λb' z=>by rw[show tx "z end 0"=122::tx " end 0" by decide+kernel]at z;cases z
 ·refine eY h @_ ?_ λq hq=>iS λb' z=>by cases z
  rw[show eG p++[44]=Ν++32::(fr p++[44]) by show Ν++32::fr p++[44]=_;simp]
  exact mX (λz=>by
   rcases aaj.mp z with z| z
   ·have:=dH z;omega
   ·simp at z) (qg (c:=44) (by simp) ())
 ·exact eY h @_ (jh (wd:=[]) (ws:=[[]]) (by simp)) λq hq=>row_more (wd:=[]) (ws:=[[]]) (h q hq).2 (by simp)
def rA(h:mk a=mk b):a=b:=by have:=aaN (λz:Str=>z.cps.toList) h;exact this
def Lr(ps:List (List Nat)):ps.map sD=(ps.map mk).map Dt.str:=by rw[aap];rfl
def vg{n:Nat}:∀ps:List (List Nat),Dt.br n (ps.map sD)
 | []=>trivial
 | _::ps=>⟨trivial,vg ps⟩
def et{s:Str}{sl:List Nat}{e:Dt}{q:DQ}(hs:s=mk sl)(he:nq M e=some (ps.map sD))(n m:Nat)(hl:ps.length<=n)(hp:∀p∈ps,p.length+sl.length<=m)(hb:n * m<=16777216)(h:q (sD (jn sl ps)) M):qO (.str s) [e] M q:=by subst hs;refine⟨ps.map mk,by rw[he,Lr],Ea hl hp (ι hb),?_⟩;rw[KA];exact h
def Ox(h0:0<=i)(h1:i < 26):iF (Str.ofString "abcdefghijklmnopqrstuvwxyz").cps.toList i=some (97+i.toNat):=by rw[LJ];have:=au (xs:=(List.range 26).map (97+ ·)) (j:=i.toNat) (v:=97+i.toNat) (by rw[aaM,List.getElem?_range ()];rfl);rwa[show((i.toNat:Nat):Int)=i by omega]at this
def uy{q:DQ}(h0:0<=i)(h1:i < 26)(h:q (sD [97+i.toNat]) M):fE (.str (Str.ofString "abcdefghijklmnopqrstuvwxyz")) (.int i) M q:=by refine⟨by show 26<=sizeLine;decide,?_⟩;rw[Ox h0 h1];exact h
def jE(n c:Nat):kh n (mk [c])=mk (List.replicate n c):=iw (by
 rw[yr,aL]
 induction n with
 | zero=>rfl
 | succ n ih=>rw[aa5,abl,ih,aa5];rfl)
def sR{g:Nat->List Nat}{n:Nat}(h:∀i j,i < j->j < n->g i≠g j):((List.range n).map g).Nodup:=by refine List.pairwise_map.mpr (List.Pairwise.imp_of_mem (λ{a b} ha hb ZM=>h a b ZM (abk.mp hb)) List.pairwise_lt_range)
def tq{n:List Nat}:∀{ns:List (List Nat)} {i:Nat},ns.Nodup->n∉ns->(ns.set i n).Nodup
 | [],_,h,_=>h
 | m::ns,0,h,hn=>aa9.mpr ⟨λz=>hn (aag _ z),(aa9.mp h).2⟩
 | m::ns,i+1,h,hn=>by
  have h:=aa9.mp h;refine aa9.mpr ⟨λz=>?_,tq h.2 λz=>hn (aag _ z)⟩;rcases abo z with z| z
  ·exact h.1 z
  ·exact hn (by rw[<-z];exact aaf)
def Mq(bF:Nat)(ns:List (List Nat)):Prop:=ns.length=bF/\(∀n∈ns,dF n)/\ns.Nodup
def mT:∀ns:List (List Nat),fc (ns.map sD)=some (ns.map λn=>V.str (mk n))
 | []=>rfl
 | n::ns=>by show(match qb (sD n),fc (ns.map sD) with| some v,some vs=>some (v::vs)| _,_=>none)=_;rw[mT ns];rfl
def x3(n:List Nat)(ns:List (List Nat)):OA (V.str (mk n)) (ns.map λn=>V.str (mk n))=decide (n∈ns):=by
 unfold OA;rw[aa7,List.any_eq_true,aa0];constructor
 ·rintro⟨c,hc,e⟩;have⟨m,hm,rfl⟩:=aah.mp hc;have e:(mk m==mk n)=true:=e;rw[<-rA (eq_of_beq e)];exact hm
 ·intro h;refine⟨_,aah.mpr ⟨n,h,rfl⟩,?_⟩;show(mk n==mk n)=true;exact abE _
def GW{j:Nat}(h:j<=st.length):Txt.slice (mk st) none (some (j:Int))=mk (st.take j):=by have e:Txt.slice (mk st) none (some (j:Int))=StrLaws.sliceText (mk st) none (some (j:Int)):=rfl;rw[e,StrLaws.sliceText_to ⟨(),by rw[aL];omega⟩,aL];refine iw ?_;show(st.drop 0).take ((j:Int) - 0).toNat=_;rw[abC,show((j:Int) - 0).toNat=j by omega]
def kU{j:Nat}(h:j<=st.length):Txt.slice (mk st) (some (j:Int)) none=mk (st.drop j):=by have e:Txt.slice (mk st) (some (j:Int)) none=StrLaws.sliceText (mk st) (some (j:Int)) none:=rfl;rw[e,StrLaws.sliceText_from ⟨(),by rw[aL];omega⟩,aL];refine iw ?_;show(st.drop (j:Int).toNat).take ((st.length:Int) - j).toNat=_;rw[Int.toNat_natCast];exact List.take_of_length_le (by rw[abg];omega)
def E8:∀cs:List Nat,jn [] (cs.map λc=>[c])=cs
 | []=>rfl
 | [c]=>rfl
 | c::d::r=>by have:=E8 (d::r);show[c]++([]++jn [] ((d::r).map λc=>[c]))=_;rw[this];rfl
def O6(a b k:Nat):List Nat:=if k < 8 then List.replicate (k+1) a else List.replicate (k - 7) b
def Oq{a b n:Nat}(ha:97<=a/\a<=122)(hb:97<=b/\b<=122)(ab:a≠b)(hn:n<=12):Mq n ((List.range n).map (O6 a b)):=by
 refine⟨by simp,λy hy=>?_,sR λi j ZH hj e=>?_⟩
 ·have⟨k,hk,rfl⟩:=aah.mp hy;have hk:=abk.mp hk;unfold O6;split
  ·refine⟨by rw[aak];omega,by rw[aak];omega,λc hc=>?_⟩;rw[(abF.mp hc).2];exact ha
  ·refine⟨by rw[aak];omega,by rw[aak];omega,λc hc=>?_⟩;rw[(abF.mp hc).2];exact hb
 ·unfold O6 at e;split at e <;> split at e
  ·have:=aaN List.length e;rw[aak,aak]at this;omega
  ·have h1:a∈List.replicate (i+1) a:=abF.mpr ⟨(),rfl⟩;rw[e]at h1;exact ab (abF.mp h1).2
  ·omega
  ·have:=aaN List.length e;rw[aak,aak]at this;omega
def FG(st:List Nat)(cut:Nat)(a:Int)(k:Nat):List Nat:=st.take cut++[97+((a+k) % 26).toNat]++st.drop cut
def ON{cut n:Nat}{a:Int}(hs:∀c∈st,97<=c/\c<=122)(h7:st.length<=7)(hc:cut<=st.length)(hn:n<=12):Mq n ((List.range n).map (FG st cut a)):=by
 refine⟨by simp,λy hy=>?_,sR λi j ZH hj e=>?_⟩
 ·have⟨k,hk,rfl⟩:=aah.mp hy;have l:(FG st cut a k).length=st.length+1:=by unfold FG;simp only[List.length_append,List.length_take,List.length_drop,List.length_cons,List.length_nil];omega
  refine⟨(),(),λc h=>?_⟩;unfold FG at h;rcases aaj.mp h with h| h
  ·rcases aaj.mp h with h| h
   ·exact hs c (List.mem_of_mem_take h)
   ·have:c=97+((a+k) % 26).toNat:=by simpa using h
    omega
  ·exact hs c (List.mem_of_mem_drop h)
 ·unfold FG at e;rw[aaQ,aaQ]at e;have e:=List.append_cancel_left e;have e:(97+((a+i) % 26).toNat)=97+((a+j) % 26).toNat:=(List.cons.inj e).1;omega
def T'(f:Nat->Dt)(x:Dt):Dt:=match x with
 | .int j=>f j.toNat
 | _=>.aS
def B_(f:Nat->Dt)(n:Nat):(iW 0 (n:Int).toNat).map (T' f)=(List.range n).map f:=by unfold iW;rw[aap,show(n:Int).toNat=n by omega];apply abt;intro k _;show f (0+(k:Int)).toNat=f k;rw[show(0+(k:Int)).toNat=k by omega]
def wq{n:Nat}{q:DQ}(e:i=(n:Nat))(h1:1<=n)(h2:n<=100)(h:q (sD (List.replicate n c)) M):qq (sD [c]) (.int i) M q:=by subst e;refine⟨⟨(),(),by rw[ζ];show 1<=100;decide,by rw[ζ];show 1≠0;decide⟩,?_⟩;show q (.str (kh (n:Int).toNat (mk [c]))) M;rw[Int.toNat_natCast,jE];exact h
def MH{cut k:Nat}{cell:Int}{q:DQ}(s7:st.length<=7)(hc:cut<=st.length)(hq:q (sD (FG st cut (cell / 64) k)) M):cz dI (cz dI (AA (aH 1) none (some (aH 3))) (cz fE (aH 2) (cz Kc (cz dI (cz J5 (aH 4) (dC (.int 64))) (aH 0)) (dC (.int 26))))) (AA (aH 1) (some (aH 3)) none) [some (.int (0+(k:Int))),some (sD st),some (.str (Str.ofString "abcdefghijklmnopqrstuvwxyz")),some (.int cut),some (.int cell)] M q iB:=by
 have l1:(mk st).length<=sizeLine:=by rw[ζ];exact ι ()
 dsimp only[cz,AA,aH,dC,List.getElem?_cons_zero,List.getElem?_cons_succ,sD];refine⟨l1,⟨@_,bg (k:=10) @_⟩,@_,uy (aaR _ @_) (aaL _ @_) ?_⟩;rw[GW hc,Int.zero_add];refine⟨by rw[ζ,ζ,abD];exact ι (by show _+1<=_;omega),l1,?_⟩;rw[kU hc];refine⟨by rw[aa,ζ,ζ,aae,abD,abg];exact ι (by show _+1+_<=_;omega),?_⟩;show q (.str (mk (st.take cut)++mk [97+((cell / 64+(k:Int)) % 26).toNat]++mk (st.drop cut))) M;rw[aa,aa];exact hq
def gF:List (List Nat):=[[115,104,97,114,101],[111,110,101],[111,116,104,101,114],[99,104,97,110,99,101],[101,110,100]]
def Kn:[Dt.str (Str.ofString "share"),.str (Str.ofString "one"),.str (Str.ofString "other"),.str (Str.ofString "chance"),.str (Str.ofString "end")]=gF.map sD:=by show _=[Dt.str (mk [115,104,97,114,101]),.str (mk [111,110,101]),.str (mk [111,116,104,101,114]),.str (mk [99,104,97,110,99,101]),.str (mk [101,110,100])];rw[show Str.ofString "share"=mk [115,104,97,114,101] by decide+kernel,show Str.ofString "one"=mk [111,110,101] by decide+kernel,show Str.ofString "other"=mk [111,116,104,101,114] by decide+kernel,show Str.ofString "chance"=mk [99,104,97,110,99,101] by decide+kernel,show Str.ofString "end"=mk [101,110,100] by decide+kernel]
def Kh:∀n∈gF,dF n:=λn hn=>by
 have:∀n∈gF,1<=n.length/\n.length<=8/\∀c∈n,97<=c/\c<=122:=@_
 exact this n hn
def KO{bF i:Nat}(h:Mq bF ns)(hn:dF n)(h0:n∉ns):Mq bF (ns.set i n):=by
 refine⟨by rw[aaY];exact h.1,λy hy=>?_,tq h.2.2 h0⟩;rcases abo hy with hy| rfl
 ·exact h.2.1 y hy
 ·exact hn
def FI:DF:=λas M q _=>∃(cell:Int) (bF:Nat),as=[.int cell,.int bF]/\0<=cell/\cell < 10 ^ 12/\1<=bF/\bF<=12/\∀ns,Mq bF ns->q (.loc M.length) (M++[.lst (ns.map sD)])
def aD:Δ ["_law_cell","_law_many","_law_letters","_law_way","_law_sign","_law_other","_law_stem","_law_cut","_law_found","_law_some","_law_k"] ["_law_cell","_law_many"] (π nA):=.of rfl
def wm(F:eE K "_law_names" "_law_names" nA f fd)(E:Ev K mg Cl CT Ce Cf Cg Ca):ay P w K mg base (bP P w) 1 f fd ["_law_cell","_law_many"] (eN K FI):=by
 refine F.ip aD (λds M q x h=>?_) (λbC A outer s H E' hr=>⟨_,(θ (τ 2 aD.nd χ)
   (θ (τ 3 aD.nd (aU (jv 0) ο))
   (θ (τ 0 aD.nd (bO (jv 0) ο))
   (θ (Υ (cG hr (jv 3) ο) (θ (τ 4 aD.nd (Φ (jv 2) (aU (jv 0) ο)))
   (θ (τ 5 aD.nd (Φ (jv 2) (aU (ν (ν (jv 0) ο) (aU (bO (jv 0) ο) ο)) ο)))
   (μ (Β (Jh (ys:=["_law_sign","_law_other"]) (Γ:=[4,5]) (.of aD rfl rfl rfl) (fw E.ej (ai (jv 1) η)) (λC s H fp=>(Ld (pX (jv 0) ο) (uS (jv 1) (ν (jv 0) ο)) (uS (jv 2) (Lu (jv 0) ο))))))))) Α)
   (θ (τ 6 aD.nd (cM χ (ε (uN (ys:=["_law_letters","_law_cell"]) (Γ:=[2,0]) (.of aD rfl rfl rfl) (fw E.ej (ε (aU (jv 0) ο) η Ι)) (λC s H fp=>(Φ (jv 1) (aU (ν (bO (jv 2) ο) (xJ (jv 0) (aU (bO (jv 2) ο) ο))) ο)))) η)))
   (θ (τ 7 aD.nd (aU (bO (jv 0) ο) (ν (b_ E.bG (ai (jv 6) η)) ο)))
   (θ (eQ (i:=8) aD.nd rfl (Or.inl rfl) (ys:=["_law_stem","_law_letters","_law_cut","_law_cell"]) (Γ:=[6,2,7,0]) (.of aD rfl rfl rfl) (B0 (fw E.ej (ai (jv 1) η))) (λC s H fp=>(ν (ν (E6 (jv 1) (jv 3)) (Φ (jv 2) (aU (ν (bO (jv 4) ο) (jv 0)) ο))) (jk (jv 1) (jv 3)))))
   (θ (cj (Υ (cG hr (jv 3) ο) (θ (τ 9 aD.nd (fL 3 (d:=.lst [.str "share",.str "one",.str "other",.str "chance",.str "end"]) (by rfl)))
   (μ (F_ (fw E.ej (ε (PZ E.Bt (ai (jv 1) (ε ο η Ε))) η cy)) (bS (i:=10) aD.nd rfl (Or.inl rfl)) bV (μ (Υ (sG (Φ (jv 9) (jv 10)) (jv 8)) (μ (qF (jv 8) (aU (ν (jv 0) (jv 10)) (jv 1)) (Φ (jv 9) (jv 10)))) Α))))) Α))
   (μ (Β (jv 8))))))))))),λds M q x h=>?_⟩)
 ·have⟨cell,bF,rfl,_⟩:=h;rfl
 ·have⟨yc,bF,rfl,c0,c1,m1,Xp,h⟩:=h;have c1:yc < 1000000000000:=c1;walk_at "vc";refine⟨@_,⟨@_,b3⟩,?_⟩;generalize hw:yc % 3=way;have x0:0<=yc / 3:=()
  have x1:yc / 3 < 1000000000000:=()
  generalize yc / 3=cell at x0 x1⊢;refine⟨λz=>?_,λz=>?_⟩
  ·refine⟨@_,uy () () ?_⟩;generalize ha:97+(cell % 26).toNat=a;refine⟨⟨@_,bg (k:=10) @_⟩,@_,@_,uy () () ?_⟩;generalize hb:97+((cell+1+cell / 26 % 25) % 26).toNat=b;refine⟨⟨(),()⟩,by rw[cJ];exact ι (),?_⟩;refine eX (f:=T' λk=>sD (O6 a b k)) _ _ (λx HZ q' hq=>?_) ?_
   ·have⟨k,IH,rfl⟩:=gL HZ;have hq:q' (sD (O6 a b (0+(k:Int)).toNat)) M:=hq;rw[show(0+(k:Int)).toNat=k by omega]at hq;unfold O6 at hq;refine⟨λz=>?_,λz=>?_⟩
    ·have z:0+(k:Int) < 8:=aaV z;rw[aaB ()]at hq;exact wq (n:=k+1) () () () hq
    ·have z:¬0+(k:Int) < 8:=aaZ z;rw[aay ()]at hq;exact wq (n:=k - 7) () () () hq
   ·rw[aaI,B_];have:=h _ (Oq (a:=a) (b:=b) (n:=bF) () () () Xp);rw[aap]at this;exact this
  refine⟨⟨_,rfl⟩,@_,⟨(),()⟩,by rw[cJ];exact ι (),?_⟩;refine kj (f:=λc:Nat=>sD [c]) (λc=>97<=c/\c<=122) _ [] (λ_ z=>(nomatch z)) (λx HZ q' hq=>?_) λst Pa tD=>?_
  ·have⟨k,hk,rfl⟩:=gL HZ;refine⟨⟨@_,bg (k:=10) @_⟩,⟨@_,bg (k:=10) @_⟩,@_,⟨bg (k:=20) (),bg (k:=10) ()⟩,@_,uy (aaR _ @_) (aaL _ @_) (hq _ ?_)⟩;have e0:=aaR (cell / 26+(0+(k:Int)) * (cell / 7 % 5)) (show(26:Int)≠0 by decide);have e1:=aaL (cell / 26+(0+(k:Int)) * (cell / 7 % 5)) (show(0:Int) < 26 by decide);omega
  have s7:st.length<=7:=by rw[Pa,cJ];simp;omega
  refine et (sl:=[]) (ps:=st.map λc=>[c]) (by decide+kernel) (by show some _=_;rw[aap];rfl) 7 1 (by rw[aac];exact s7) (λp hp=>?_) @_ ?_
  ·have⟨c,_,rfl⟩:=aah.mp hp;exact aaq 1
  rw[E8];have l1:(mk st).length<=sizeLine:=by rw[ζ];exact ι ()
  have el:((mk st).length:Int)=st.length:=by rw[ζ]
  refine⟨⟨@_,bg (k:=10) @_⟩,l1,(by omega:(0:Int) < ((mk st).length:Int)+1),?_⟩;have m0:=aaR (cell / 8) (show((mk st).length:Int)+1≠0 by omega);have m2:=aaL (cell / 8) (show(0:Int) < ((mk st).length:Int)+1 by omega);obtain⟨cut,ec⟩:∃cut:Nat,cell / 8 % (((mk st).length:Int)+1)=cut:=⟨_,(Int.toNat_of_nonneg m0).symm⟩;rw[ec]at m2;rw[ec];have hc:cut<=st.length:=()
  dsimp only[h_,Xo,GF,bW,fC,aH];refine⟨⟨(),()⟩,by rw[cJ];exact ι (),?_⟩;refine e6 (f:=T' λk=>sD (FG st cut (cell / 64) k)) trivial (λx HZ q' hq=>?_) ?_
  ·have⟨k,IH,rfl⟩:=gL HZ;have hq:q' (sD (FG st cut (cell / 64) (0+(k:Int)).toNat)) M:=hq;rw[show(0+(k:Int)).toNat=k by omega]at hq;exact MH s7 hc hq
  rw[aaI,B_];have n0:=ON (a:=cell / 64) (n:=bF) tD s7 hc Xp;rw[show(λk=>sD (FG st cut (cell / 64) k))=sD ∘ FG st cut (cell / 64) from rfl,<-aap];generalize (List.range bF).map (FG st cut (cell / 64))=Wu at n0⊢;refine⟨λρ M'=>∃(ns:List (List Nat)) (a b:Option Dt),Mq bF ns/\M'=M++[.lst (ns.map sD)]/\ρ=[some (.int cell),some (.int bF),some (.str (Str.ofString "abcdefghijklmnopqrstuvwxyz")),some (.int way),none,none,some (sD st),some (.int cut),some (.loc M.length),a,b],⟨λ_=>?_,λ_=>⟨Wu,none,none,n0,rfl,rfl⟩⟩,?_⟩
  ·walk_at "vc";rw[Kn];refine⟨⟨by split <;> omega,by split <;> omega⟩,?_⟩;obtain⟨c,ec,c5⟩:∃c:Nat,(if (5:Int) < (bF:Int) then (5:Int) else bF).toNat=c/\c<=5:=⟨_,rfl,by split <;> omega⟩;rw[ec];refine pF (λxs ρ M'=>∃(n k:Nat) (ns:List (List Nat)) (b:Option Dt),xs=iW k n/\k+n=c/\Mq bF ns/\M'=M++[MO.lst (ns.map sD)]/\ρ=[some (.int cell),some (.int bF),some (.str (Str.ofString "abcdefghijklmnopqrstuvwxyz")),some (.int way),none,none,some (sD st),some (.int cut),some (.loc M.length),some (.lst (gF.map sD)),b]) (λx xs ρ M' hj Eh=>?_) (λρ M' hj=>?_) _ _ _ ⟨c,0,Wu,none,rfl,(),n0,rfl,rfl⟩
   ·have⟨n,k,ns,b,ex,S7,hn,rfl,rfl⟩:=hj;have⟨m,rfl,rfl,rfl⟩:=tP ex;have k5:k < gF.length:=by show k < 5;omega
    have e5:iF (gF.map sD) (k:Int)=some (sD gF[k]):=au (by rw[aaM,aaa k5];rfl);have Wg:=Kh gF[k] (List.getElem_mem k5);generalize gF[k]=wd at e5 Wg;have RB:(M++[MO.lst (ns.map sD)])[M.length]? =some (.lst (ns.map sD)):=by simp
    have sq:lU (M++[MO.lst (ns.map sD)]) (.loc M.length)=some (ns.map sD):=by show(match (M++[MO.lst (ns.map sD)])[M.length]? with| some (MO.lst xs)=>some xs| _=>none)=_;rw[RB]
    have e1:((k:Int)+1)=((k+1:Nat):Int):=rfl;walk_at "vc";refine(ah (d:=.lst (gF.map sD)) rfl e5 ?_:fE (.lst (gF.map sD)) (.int (k:Int)) _ _);refine⟨V.str (mk wd),ns.map sD,_,rfl,sq,mT ns,?_⟩;rw[x3];refine⟨λz=>?_,λz=>Eh _ _ ⟨m,k+1,ns,_,rfl,(),hn,rfl,rfl⟩⟩;have h0:wd∉ns:=by have z:(!decide (wd∈ns))=true:=z;rw[Bool.not_eq_true',decide_eq_false_iff_not]at z;exact z
    dsimp only[vF,cz,aH];refine(ah (d:=.lst (gF.map sD)) rfl e5 ?_:fE (.lst (gF.map sD)) (.int (k:Int)) _ _);have q0:=aaR (cell+k) (show(bF:Int)≠0 by omega);have q1:=aaL (cell+k) (show(0:Int) < (bF:Int) by omega);refine⟨(by omega:(0:Int) < (bF:Int)),M.length,(cell+k) % bF,ns.map sD,((cell+k) % bF).toNat,rfl,rfl,RB,?_,?_⟩
    ·unfold By;rw[aac,hn.1,aaB q0,aaB q1]
    refine Eh _ _ ⟨m,k+1,ns.set ((cell+k) % bF).toNat wd,_,rfl,(),KO hn Wg h0,?_,rfl⟩;rw[List.map_set];simp
   ·have⟨n,k,ns,b,ex,S7,hn,rfl,rfl⟩:=hj;exact⟨ns,_,_,hn,rfl,rfl⟩
  ·rintro ρ' M' ⟨ns,a,b,hn,rfl,rfl⟩;exact h ns hn
def ou:List Fr:=[(0,1),(1,1),(-1,1),(3,1),(-3,1),(1,2),(-3,2)]
def hI:∀p∈ou,Lw p/\eg p=true/\(fr p).length<=4:=λp hp=>by unfold ou at hp;simp only[List.mem_cons,List.not_mem_nil,or_false]at hp;rcases hp with rfl| rfl| rfl| rfl| rfl| rfl| rfl <;> exact⟨⟨by decide+kernel,@_,by decide+kernel,@_⟩,by decide+kernel,by decide+kernel⟩
def K5:[Dt.str (Str.ofString "0"),.str (Str.ofString "1"),.str (Str.ofString "-1"),.str (Str.ofString "3"),.str (Str.ofString "-3"),.str (Str.ofString "1/2"),.str (Str.ofString "-3/2")]=ou.map λp=>sD (fr p):=by show _=[sD (fr (0,1)),sD (fr (1,1)),sD (fr (-1,1)),sD (fr (3,1)),sD (fr (-3,1)),sD (fr (1,2)),sD (fr (-3,2))];rw[show Str.ofString "0"=mk (fr (0,1)) by decide+kernel,show Str.ofString "1"=mk (fr (1,1)) by decide+kernel,show Str.ofString "-1"=mk (fr (-1,1)) by decide+kernel,show Str.ofString "3"=mk (fr (3,1)) by decide+kernel,show Str.ofString "-3"=mk (fr (-3,1)) by decide+kernel,show Str.ofString "1/2"=mk (fr (1,2)) by decide+kernel,show Str.ofString "-3/2"=mk (fr (-3,2)) by decide+kernel];rfl
def jm{α:Type}{f:α->Dt}{l:List α}{q:DQ}(h0:0<=i)(h1:i < l.length)(h:∀a∈l,q (f a) M):fE (.lst (l.map f)) (.int i) M q:=by
 have hi:i.toNat < l.length:=()
 refine ah (d:=.lst (l.map f)) (xs:=l.map f) rfl (y:=f l[i.toNat]) ?_ (h _ (List.getElem_mem hi));have:=au (xs:=l.map f) (j:=i.toNat) (v:=f l[i.toNat]) (by rw[aaM,aaa hi];rfl);rwa[show((i.toNat:Nat):Int)=i by omega]at this
def Q3:List Fr:=[(1,1),(1,2),(1,3)]
def Oc:[Dt.str (Str.ofString "1"),.str (Str.ofString "1/2"),.str (Str.ofString "1/3")]=Q3.map λp=>sD (fr p):=by show _=[sD (fr (1,1)),sD (fr (1,2)),sD (fr (1,3))];rw[show Str.ofString "1"=mk (fr (1,1)) by decide+kernel,show Str.ofString "1/2"=mk (fr (1,2)) by decide+kernel,show Str.ofString "1/3"=mk (fr (1,3)) by decide+kernel];rfl
def Ez:DF:=λas M q _=>∃cell:Int,as=[.int cell]/\∀p∈ou,q (sD (fr p)) M
def x5:Δ ["_law_cell"] ["_law_cell"] (π kn):=.of rfl
def vY(F:eE K "_law_number" "_law_number" kn f fd)(E:Ev K mg Cl CT Ce Cf Cg Ca):ay P w K mg base (bP P w) 1 f fd ["_law_cell"] (eN K Ez):=by
 refine F.ip x5 (λds M q x h=>?_) (λbC A outer s H E' hr=>⟨_,(μ (Β (Φ (fL 3 (d:=.lst [.str "0",.str "1",.str "-1",.str "3",.str "-3",.str "1/2",.str "-3/2"]) (by rfl)) (aU (jv 0) ο)))),λds M q x h=>?_⟩)
 ·have⟨c,rfl,_⟩:=h;rfl
 ·have⟨c,rfl,h⟩:=h;walk_at "vc";refine⟨@_,?_⟩;rw[K5];exact jm (aaR _ @_) (aaL _ @_) h
def FA:DF:=λas M q _=>∃(cell:Int) (ns:List (List Nat)) (size:Nat) (ch:Bool),as=[.int cell,.lst (ns.map sD),.int size,.bl ch]/\ns≠[]/\(∀n∈ns,dF n)/\1<=size/\size<=3/\∀n∈ns,∀p∈ou,q (sD (ae (n,p::if ch=true then [((1:Int),(size:Int))] else []))) M
def mn:Δ ["_law_cell","_law_names_here","_law_size","_law_chance","_law_text"] ["_law_cell","_law_names_here","_law_size","_law_chance"] (π pv):=.of rfl
def zA(F:eE K "_law_door" "_law_door" pv f fd)(E:Ev K mg Cl CT Ce Cf Cg Ca){kT:Addr}{kE:FuncData}(dc:aV P w K mg base 1 "_law_number" ["_law_cell"] Ez kT kE):ay P w K mg base (bP P w) 2 f fd ["_law_cell","_law_names_here","_law_size","_law_chance"] (eN K FA):=by
 refine F.ip mn (λds M q x h=>?_) (λbC A outer s H E' hr=>⟨_,(θ (τ 4 mn.nd (ν (ν (Φ (jv 1) (aU (jv 0) (b_ E.bG (ai (jv 1) η)))) χ) (aK dc hr Θ (ε (bO (jv 0) ο) η Ι))))
   (θ (cj (Υ (dq (jv 3)) (μ (τ 4 mn.nd (ν (ν (jv 4) χ) (Φ (fL 3 (d:=.lst [.str "1",.str "1/2",.str "1/3"]) (by rfl)) (Lu (jv 2) ο))))) Α))
   (μ (Β (jv 4))))),λds M q x h=>?_⟩)
 ·have⟨c,ns,size,ch,rfl,_⟩:=h;rfl
 ·have⟨c,ns,size,ch,rfl,jZ,hn,s1,s3,h⟩:=h;have nl:0 < ns.length:=List.length_pos_iff.mpr jZ;walk_at "vc";refine(bE (d:=.lst (ns.map sD)) (xs:=ns.map sD) rfl ?_:vU [.lst (ns.map sD)] M _);rw[aac];refine⟨(),?_⟩;refine(jm (f:=sD) (l:=ns) (aaR _ ()) (aaL _ ()) λn SG=>?_:fE (.lst (ns.map sD)) _ M _);have n8:=(hn n SG).2.1;refine⟨by rw[n_,ζ,ζ];exact ι (by show _+1<=_;omega),⟨@_,bg (k:=10) @_⟩,_,rfl,λp hp=>?_⟩;have p4:=(hI p hp).2.2;have e0:mk n++Str.ofString " "++mk (fr p)=mk (ae (n,[p])):=by rw[n_,aa,aa];show mk _=mk (n++([32]++fr p));rw[aaQ]
  refine⟨?_,?_⟩
  ·show(mk n++Str.ofString " ").length+(mk (fr p)).length<=sizeLine;rw[n_,aa,ζ,ζ,aae];exact ι (by show _+1+_<=_;omega)
  rw[show(Dt.str (mk n++Str.ofString " "++mk (fr p)))=sD (ae (n,[p])) by rw[e0];rfl];have l1:(ae (n,[p])).length<=13:=by show(n++([32]++fr p)).length<=13;rw[aae,aae];show _+(1+_)<=13;omega
  refine⟨λρ M'=>M'=M/\∃a b c d,ρ=[a,b,c,d,some (sD (ae (n,p::if ch=true then [((1:Int),(size:Int))] else [])))],?_,?_⟩
  ·cases ch with
   | false=>exact⟨nofun,λ_=>⟨rfl,_,_,_,_,rfl⟩⟩
   | true=>
    refine⟨λ_=>?_,nofun⟩;walk_at "vc";refine⟨by rw[n_,ζ,ζ];exact ι (by show _+1<=_;omega),?_⟩;rw[Oc];have fin:∀cc:Fr,(fr cc).length<=3->cc=(1,(size:Int))->iF (Q3.map λp=>sD (fr p)) ((size:Int) - 1)=some (sD (fr cc))->fE (.lst (Q3.map λp=>sD (fr p))) (.int ((size:Int) - 1)) M λd2 M2=>dI (.str (mk (ae (n,[p]))++Str.ofString " ")) d2 M2 λd M1=>M1=M/\∃a b c' d',List.set [some (.int c),some (.lst (ns.map sD)),some (.int size),some (.bl true),some (sD (ae (n,[p])))] 4 (some d)=[a,b,c',d',some (sD (ae (n,p::[((1:Int),(size:Int))])))]:=λcc hc ec ea=>by
     refine(ah (d:=.lst (Q3.map λp=>sD (fr p))) rfl ea ?_:fE (.lst (Q3.map λp=>sD (fr p))) (.int ((size:Int) - 1)) M _);refine⟨by show(mk (ae (n,[p]))++Str.ofString " ").length+(mk (fr cc)).length<=sizeLine;rw[n_,aa,ζ,ζ,aae];exact ι (by show _+1+_<=_;omega),rfl,some (.int c),some (.lst (ns.map sD)),some (.int size),some (.bl true),?_⟩;have e3:mk (ae (n,[p]))++Str.ofString " "++mk (fr cc)=mk (ae (n,p::[((1:Int),(size:Int))])):=by rw[n_,aa,aa,ec];show mk (n++([32]++fr p)++[32]++fr (1,(size:Int)))=mk (n++([32]++(fr p++([32]++fr (1,(size:Int))))));simp
     rw[e3];rfl
    have s:size=1\/size=2\/size=3:=()
    rcases s with rfl| rfl| rfl
    ·exact fin (1,1) (by decide+kernel) rfl (au (j:=0) rfl)
    ·exact fin (1,2) (by decide+kernel) rfl (au (j:=1) rfl)
    ·exact fin (1,3) (by decide+kernel) rfl (au (j:=2) rfl)
  ·rintro ρ' M' ⟨rfl,a,b,c',d,rfl⟩;exact h n SG p hp
def GY(s:String):Str.ofString s=mk (tx s):=(id rfl:Str.ofString s=mk (tx s))
def GJ(h:t≠[]):Txt.slice (mk t) none (some (-1))=mk t.dropLast:=by have l1:1<=t.length:=List.length_pos_iff.mpr h;have e:Txt.slice (mk t) none (some (-1))=StrLaws.sliceText (mk t) none (some (-1)):=rfl;rw[e,StrLaws.sliceText_to_neg @_ (by rw[ζ];omega),aL,ζ];refine iw ?_;show(t.drop 0).take (-1+(t.length:Int) - 0).toNat=_;rw[abC,List.dropLast_eq_take,show(-1+(t.length:Int) - 0).toNat=t.length - 1 by omega]
def xG:DF:=λas M q _=>∃(t:List Nat) (cell:Int),as=[sD t,.int cell]/\6<=t.length/\t.length<=50000/\∀x∈CM t,q (sD x) M
def eU:Δ ["_law_text","_law_cell","_law_some"] ["_law_text","_law_cell"] (π iR):=.of rfl
def su(F:eE K "_law_bad_form" "_law_bad_form" iR f fd)(E:Ev K mg Cl CT Ce Cf Cg Ca):ay P w K mg base (bP P w) 1 f fd ["_law_text","_law_cell"] (eN K xG):=by
 refine F.ip eU (λds M q x h=>?_) (λbC A outer s H E' hr=>⟨_,(θ (τ 2 eU.nd (aZ (ε (ν (jv 0) χ) (ε (ν (jv 0) χ) (ε (ν χ (jv 0)) (ε (ν (jv 0) χ) (ε (ν (jv 0) χ) (ε (ν (jv 0) χ) (ε (ν (E6 (jv 0) (nN ο)) χ) (ε (ν (jv 0) χ) η Ι) Ι) Ι) Ι) Ι) Ι) Ι) Ι)))
   (θ (τ 2 eU.nd (cU (jv 2) (aZ (ε χ (ε (jk (jv 0) ο) (ε χ (ε (ν (jv 0) χ) (ε (ν (jv 0) χ) (ε (ν (jv 0) χ) (ε (ν (jv 0) χ) η Ι) Ι) Ι) Ι) Ε) aJ) Ε))))
   (θ (τ 2 eU.nd (cU (jv 2) (aZ (ε (ν χ (jk (jv 0) ο)) (ε (ν (jv 0) χ) (ε (ν (jv 0) χ) (ε (ν (jv 0) χ) η Ι) Ι) Ι) Ι))))
   (μ (Β (Φ (jv 2) (aU (jv 1) ο))))))),λds M q x h=>?_⟩)
 ·have⟨t,c,rfl,_⟩:=h;rfl
 ·have⟨t,c,rfl,t6,t5,h⟩:=h;have Yq:t≠[]:=λz=>by rw[z]at t6;simp at t6
  have l0:(mk t).length<=sizeLine:=by rw[ζ];exact ι ()
  have YL:=GJ Yq;have sl6:Txt.slice (mk t) (some 6) none=mk (t.drop 6):=kU (j:=6) t6;have d1:t.dropLast.length=t.length - 1:=List.length_dropLast;have d6:(t.drop 6).length=t.length - 6:=abg;have c0:(Str.ofString ";").length=1:=by decide+kernel
  have c1:(Str.ofString " ").length=1:=by decide+kernel
  have c2:(Str.ofString "; ").length=2:=by decide+kernel
  have c3:(Str.ofString ", ").length=2:=by decide+kernel
  have c4:(Str.ofString " 0").length=2:=by decide+kernel
  have c5:(Str.ofString "a").length=1:=by decide+kernel
  have c6:(Str.ofString "/1").length=2:=by decide+kernel
  have c7:(Str.ofString "").length=0:=by decide+kernel
  have c8:(Str.ofString "share").length=5:=by decide+kernel
  have c9:(Str.ofString "; a").length=3:=by decide+kernel
  have As:(Str.ofString "; z end").length=7:=by decide+kernel
  have zF:(Str.ofString "; z end 2/4").length=11:=by decide+kernel
  have Fn:(Str.ofString "; z end -0").length=10:=by decide+kernel
  have Xk:(Str.ofString "share  ").length=7:=by decide+kernel
  have Xn:(Str.ofString ";z end 0").length=8:=by decide+kernel
  have We:(Str.ofString ",").length=1:=by decide+kernel
  have W':(Str.ofString "  ").length=2:=by decide+kernel
  have A1:∀(r:En) (q':DQ) (x':DX),q' (sD t.dropLast) M->AA (aH 0) none (some (L7 DR (dC (.int 1)))) (some (sD t)::r) M q' x':=λr q' x' h=>by refine⟨l0,?_⟩;show q' (.str (Txt.slice (mk t) none (some (-1)))) M;rw[YL];exact h
  have A6:∀(r:En) (q':DQ) (x':DX),q' (sD (t.drop 6)) M->AA (aH 0) (some (dC (.int 6))) none (some (sD t)::r) M q' x':=λr q' x' h=>by refine⟨l0,?_⟩;show q' (.str (Txt.slice (mk t) (some 6) none)) M;rw[sl6];exact h
  walk_at "vc";refine⟨(by(try simp only[Str.length_append,ζ]);exact ι ()),?_⟩;refine⟨(by(try simp only[Str.length_append,ζ]);exact ι ()),?_⟩;refine⟨(by(try simp only[Str.length_append,ζ]);exact ι ()),?_⟩;refine⟨(by(try simp only[Str.length_append,ζ]);exact ι ()),?_⟩;refine⟨(by(try simp only[Str.length_append,ζ]);exact ι ()),?_⟩;refine⟨(by(try simp only[Str.length_append,ζ]);exact ι ()),?_⟩;refine A1 _ _ _ ?_;refine⟨(by(try simp only[Str.length_append,ζ]);exact ι ()),?_⟩;refine⟨(by(try simp only[Str.length_append,ζ]);exact ι ()),?_⟩;refine⟨by show 8<=sizeLine;decide,?_⟩;refine A6 _ _ _ ?_;refine⟨(by(try simp only[Str.length_append,ζ]);exact ι ()),?_⟩;refine⟨(by(try simp only[Str.length_append,ζ]);exact ι ()),?_⟩;refine⟨(by(try simp only[Str.length_append,ζ]);exact ι ()),?_⟩;refine⟨(by(try simp only[Str.length_append,ζ]);exact ι ()),?_⟩;refine⟨by show 7<=sizeLine;decide,_,_,rfl,rfl,by show 15<=sizeLine;decide,?_⟩;refine A6 _ _ _ ?_;refine⟨(by(try simp only[Str.length_append,ζ]);exact ι ()),?_⟩;refine⟨(by(try simp only[Str.length_append,ζ]);exact ι ()),?_⟩;refine⟨(by(try simp only[Str.length_append,ζ]);exact ι ()),?_⟩;refine⟨(by(try simp only[Str.length_append,ζ]);exact ι ()),?_⟩;refine⟨by show 4<=sizeLine;decide,_,_,rfl,rfl,by show 19<=sizeLine;decide,?_⟩;have key:∀l,l=(CM t).map sD->fE (.lst l) (.int (c % 19)) M q:=λl e=>by rw[e];exact jm (aaR _ @_) (aaL _ @_) h
  refine⟨@_,key _ ?_⟩;rw[show Str.ofString ";"=mk [59] by decide+kernel,show Str.ofString " "=mk [32] by decide+kernel,show Str.ofString "; "=mk [59,32] by decide+kernel,show Str.ofString ", "=mk [44,32] by decide+kernel,show Str.ofString "a"=mk [97] by decide+kernel,show Str.ofString ""=mk [] by decide+kernel,show Str.ofString ","=mk [44] by decide+kernel,show Str.ofString "  "=mk [32,32] by decide+kernel,lF];simp only[GY,aa];rfl
def GL(ns:List (List Nat)):NL->Prop
 | .fin p=>p∈ou
 | .υ k ds=>(k="one"\/k="other"\/k="chance")/\1<=ds.length/\ds.length<=3/\∀d∈ds,d.1∈ns/\∃p∈ou,d.2=p::if k="chance" then [((1:Int),(ds.length:Int))] else []
def L_{n:Nat}(h1:1<=n)(h3:n<=3):Lw ((1:Int),(n:Int))/\(fr ((1:Int),(n:Int))).length<=3:=by
 have s:n=1\/n=2\/n=3:=()
 rcases s with rfl| rfl| rfl <;> exact⟨⟨by decide+kernel,@_,by decide+kernel,@_⟩,by decide+kernel⟩
def GL.ok{r:NL}(hn:∀n∈ns,dF n)(h:GL ns r):iC r:=by
 cases r with
 | fin p=>exact(hI p h).1
 | υ k ds=>
  have⟨hk,h1,h3,hd⟩:=h;refine⟨hk,h1,(),λd v_=>?_⟩;have⟨d1,p,hp,e⟩:=hd d v_;refine⟨hn _ d1,?_,λq hq=>?_⟩
  ·rw[e];split <;> rfl
  ·rw[e]at hq;rcases aam.mp hq with rfl| hq
   ·exact(hI _ hp).1
   ·split at hq
    ·have:q=((1:Int),(ds.length:Int)):=by simpa using hq
     rw[this];exact(L_ h1 h3).1
    ·cases hq
def mO{p:Fr}{ch:Bool}{m:Nat}(hn:dF n)(hp:p∈ou)(h1:1<=m)(h3:m<=3):(ae (n,p::if ch=true then [((1:Int),(m:Int))] else [])).length<=20:=by
 have a:=hn.2.1;have b:=(hI p hp).2.2;have c:=(L_ h1 h3).2;cases ch with
 | false=>
  show(n++([32]++fr p)).length<=20;simp only[List.length_append,List.length_cons,List.length_nil];omega
 | true=>
  show(n++([32]++(fr p++([32]++fr ((1:Int),(m:Int)))))).length<=20;simp only[List.length_append,List.length_cons,List.length_nil];omega
def LZ:DF:=λas M q _=>∃(cell:Int) (at_:Nat) (ns:List (List Nat)) (size:Nat) (n:List Nat),as=[.int cell,.int at_,.lst (ns.map sD),.int size]/\ns[at_]? =some n/\(∀n∈ns,dF n)/\1<=size/\size<=3/\∀r,GL ns r->q (.lst [sD n,.str (Ω r),sD (aF r)]) M
def jx:Δ ["_law_cell","_law_at","_law_names_here","_law_size","_law_kind","_law_doors"] ["_law_cell","_law_at","_law_names_here","_law_size"] (π pO):=.of rfl
def AH(F:eE K "_law_part" "_law_part" pO f fd)(E:Ev K mg Cl CT Ce Cf Cg Ca){kT:Addr}{kE:FuncData}(dc:aV P w K mg base 1 "_law_number" ["_law_cell"] Ez kT kE){EF:Addr}{GP:FuncData}(mH:aV P w K mg base 2 "_law_door" ["_law_cell","_law_names_here","_law_size","_law_chance"] FA EF GP):ay P w K mg base (bP P w) 3 f fd ["_law_cell","_law_at","_law_names_here","_law_size"] (eN K LZ):=by
 refine F.ip jx (λds M q x h=>?_) (λbC A outer s H E' hr=>⟨_,(θ (τ 4 jx.nd (Φ (fL 3 (d:=.lst [.str "one",.str "other",.str "chance",.str "end"]) (by rfl)) (aU (jv 0) ο)))
   (θ (Υ (cG hr (jv 4) χ) (μ (Β (aZ (ε (Φ (jv 2) (jv 1)) (ε χ (ε (aK dc hr Θ (ε (bO (jv 0) ο) η Ι)) η cy) Ε) aJ)))) Α)
   (θ (zW (i:=5) jx.nd rfl (Or.inl rfl) (ys:=["_law_names_here","_law_size","_law_kind","_law_cell"]) (Γ:=[2,3,4,0]) (.of jx rfl rfl rfl) (fw E.ej (ai (jv 3) η)) (λC s H fp=>(aK mH hr (gX (P:=P) (w:=w)) (ε (ν (NF (bO (jv 4) ο) (ν (jv 0) ο)) (jv 0)) (ai (jv 1) (ai (jv 2) (ε (DU hr (jv 3) χ) η K'))) Ι))))
   (μ (Β (aZ (ε (Φ (jv 2) (jv 1)) (ai (jv 4) (ε (cM χ (ai (jv 5) η)) η cy)) aJ))))))),λds M q x h=>?_⟩)
 ·have⟨cell,a,ns,size,n,rfl,_⟩:=h;rfl
 ·have⟨cell,a,ns,size,n,rfl,Mz,hn,s1,s3,h⟩:=h;have jZ:ns≠[]:=λz=>by rw[z]at Mz;simp at Mz
  have ea:iF (ns.map sD) (a:Int)=some (sD n):=au (by rw[aaM,Mz];rfl);walk_at "vc";refine⟨@_,?_⟩;have⟨d,ed,hd⟩:=Gx (a:=.str "one") (b:=.str "other") (c:=.str "chance") (d:=.str "end") (j:=cell % 4) () ();refine ah rfl ed ?_;obtain⟨kd,rfl,hk⟩:∃kd:Str,d= .str kd/\(kd="one"\/kd="other"\/kd="chance"\/kd="end"):=by
   rcases hd with rfl| rfl| rfl| rfl
   ·exact⟨_,rfl,.inl rfl⟩
   ·exact⟨_,rfl,.inr (.inl rfl)⟩
   ·exact⟨_,rfl,.inr (.inr (.inl rfl))⟩
   ·exact⟨_,rfl,.inr (.inr (.inr rfl))⟩
  refine⟨λz=>?_,λz=>?_⟩
  ·refine(ah (d:=.lst (ns.map sD)) rfl ea ?_:fE (.lst (ns.map sD)) (.int (a:Int)) M _);refine⟨⟨@_,b4⟩,_,rfl,λp hp=>⟨by show 3<=sizeLine;decide,h (.fin p) hp⟩⟩
  have hk:kd="one"\/kd="other"\/kd="chance":=by
   rcases hk with e| e| e| e
   ·exact .inl e
   ·exact .inr (.inl e)
   ·exact .inr (.inr e)
   ·exact aaG e (aaZ z)
  refine⟨⟨(),()⟩,by rw[cJ];exact ι (),?_⟩;refine kj (f:=λd:List Nat×List Fr=>sD (ae d)) (λd=>d.1∈ns/\∃p∈ou,d.2=p::if kd="chance" then [((1:Int),(size:Int))] else []) _ [] (λ_ z=>(nomatch z)) (λx HZ q' hq=>?_) λds Pa hw=>?_
  ·have⟨k,IH,rfl⟩:=gL HZ;refine⟨⟨@_,bg (k:=10) @_⟩,(by show(0+(k:Int)+1).natAbs < 2 ^ 60;omega),?_⟩;refine⟨_,ns,size,decide (kd="chance"),rfl,jZ,hn,s1,s3,λn' oz p hp=>?_⟩;have:=hq (n',p::if kd="chance" then [((1:Int),(size:Int))] else []) ⟨oz,p,hp,rfl⟩;by_cases hc:kd="chance"
   ·rw[aaB hc]at this;rw[aaB (aaK hc)];exact this
   ·rw[aay hc]at this;rw[aay (by rw[aao hc];decide)];exact this
  have Pa:ds.length=size:=by rw[Pa,cJ];simp
  refine(ah (d:=.lst (ns.map sD)) rfl ea ?_:fE (.lst (ns.map sD)) (.int (a:Int)) M _);refine⟨⟨_,rfl⟩,?_⟩;refine et (ps:=ds.map ae) Ka (by show some _=_;rw[aap];rfl) 3 30 (by rw[aac];omega) (λy hy=>?_) @_ ⟨by show 3<=sizeLine;decide,h (.υ kd ds) ⟨hk,(),(),λd hd=>?_⟩⟩
  ·have⟨d,hd,rfl⟩:=aah.mp hy;have⟨d1,p,hp,e⟩:=hw d hd;have:=mO (ch:=decide (kd="chance")) (hn _ d1) hp s1 s3;have e2:d=(d.1,p::if decide (kd="chance")=true then [((1:Int),(size:Int))] else []):=by
    rw[Prod.ext_iff];refine⟨rfl,?_⟩;rw[e];by_cases hc:kd="chance"
    ·rw[aaB hc,aaB (aaK hc)]
    ·rw[aay hc,aay (by rw[aao hc];decide)]
   rw[e2];show _+2<=30;omega
  ·rw[Pa];exact hw d hd
def SV(t:List Nat):Prop:=t.length<=9000/\(∀p0 ps Ζ ak,Txt.split (mk t) (mk [59,32])=p0::ps->aq p0=some Ζ->aO Τ ps=some ak->ak.length<=100/\∀p∈ak,Ii p.2)
def Fz:Res->Nat->List Bool->Prop
 | .text,_,l=>l=[true,false,false,false]
 | .name,_,l=>l=[false,true,false,false]
 | .floor,_,l=>l=[false,false,true,false]
 | .place j,i,l=>l=[false,false,false,true]/\j=i
 | .ok ..,_,_=>False
def o5{n:Nat}(l:List Bool):Ed M (n+1) (.lst (l.map Dt.bl)) (.lst (l.map Dt.bl)) true:=by
 have:=Ed.lst (M:=M) (n:=n) (d:=.lst (l.map Dt.bl)) (e:=.lst (l.map Dt.bl)) (f:=λ_=>true) rfl rfl rfl λj d e h1 h2=>by rw[h1]at h2;cases h2;have⟨b,_,rfl⟩:=aah.mp (aaA h1);have:=Ed.flat (M:=M) (n:=n) (d:=.bl b) (e:=.bl b) rfl rfl;rwa[show uG (V.bl b) (V.bl b)=true by cases b <;> rfl]at this
 rwa[show(List.range (l.map Dt.bl).length).all (λ_=>true)=true by simp]at this
def wx:DF:=λas M q _=>∃(t:List Nat) (l:List Bool) (i:Nat),as=[sD t,.lst (l.map Dt.bl),.int i]/\SV t/\Fz (aQ (Txt.split (mk t) (mk [59,32]))) i l/\∀M',q (.bl true) M'
def cq:Δ ["_law_text","_law_due","_law_spot","_law_seen","_law_place","e"] ["_law_text","_law_due","_law_spot"] (π iM):=.of rfl
def rX(F:eE K "_law_refused" "_law_refused" iM f fd)(E:Ev K mg Cl CT Ce Cf Cg Ca){kr:Addr}{kX:FuncData}(cZ:aV P w K mg base 7 "read_floor" ["text"] (j_ Cl CT Ce Cf Cg) kr kX){nz:Addr}{mI:FuncData}(bq:aV P w K mg base 7 "_law_alike" ["_law_found","_law_due"] (mW 6) nz mI):ay P w K mg base (bP P w) 8 f fd ["_law_text","_law_due","_law_spot"] (eN K wx):=by
 refine F.ip cq (λds M q x h=>?_) (λbC A outer s H E' hr=>⟨_,(θ (τ 3 cq.nd Eu)
   (θ (τ 4 cq.nd (nN ο))
   (θ (Jv (i:=5) (U6 CT Ce Cf Cg) cq.nd rfl E.pD (by decide+kernel) E.ky (λR δ=>(μ (oX (aK cZ hr Ji (ai (jv 0) η))))) (λx C od pn jX ex=>(θ (τ 3 cq.nd (aZ (ε (pw K ex (E.ty jX) E.ω (ai (jv 5) (ai (pR E.b6) η))) (ε (pw K ex (E.ty jX) E.ω (ai (jv 5) (ai (pR E.oH) η))) (ε (pw K ex (E.ty jX) E.ω (ai (jv 5) (ai (pR E.lL) η))) (ε (pw K ex (E.ty jX) E.ω (ai (jv 5) (ai (pR E.qQ) η))) η cy) cy) cy) cy)))
   (μ (Υ (dq (pw K ex (E.ty jX) E.ω (ai (jv 5) (ai (pR E.qQ) η)))) (μ (τ 4 cq.nd (VS K ex (E.ty jX) (E.Hk jX) (jv 5)))) Α)))))
   (μ (Β (ck (Ri 2 hr (jv 3) (jv 1)) (dY (RL (Ar (Φ (jv 1) ο)) (dY (aK bq hr Θ (ai (jv 4) (ai (jv 2) η)))))))))))),λds M q x h=>?_⟩)
 ·have⟨t,l,i,rfl,_⟩:=h;rfl
 ·have⟨t,l,i,rfl,jC,hd,h⟩:=h;walk_at "vc";dsimp only[Lh,A_,sH,bW,fC,aH];refine⟨mk t,rfl,by rw[ζ];exact jC.1,jC.2,?_⟩;generalize aQ (Txt.split (mk t) (mk [59,32]))=res at hd⊢;cases res with
  | ok Ζ Μ ns=>exact hd.elim
  | text=>
   have hd:l=_:=hd;subst hd;intro M';refine⟨.inl rfl,E.oR,λx od=>?_⟩;refine⟨_,_,_,_,true,rfl,rfl,E.cu,_,_,_,_,false,rfl,rfl,E.cw,_,_,_,_,false,rfl,rfl,E.bU,_,_,_,_,false,rfl,rfl,E.bh,by show 4<=sizeLine;decide,_,_,_,_,false,rfl,rfl,E.bh,nofun,λ_=>?_⟩;dsimp only[sC,qp];walk_at "vc";refine⟨true,.inr ⟨_,rfl⟩,.inr ⟨_,rfl⟩,o5 [true,false,false,false],λ_=>?_,nofun⟩;exact⟨λ_=>h _,nofun⟩
  | name=>
   have hd:l=_:=hd;subst hd;intro M';refine⟨.inr (.inl rfl),E.oM,λx od=>?_⟩;refine⟨_,_,_,_,false,rfl,rfl,E.cn,_,_,_,_,true,rfl,rfl,E.cv,_,_,_,_,false,rfl,rfl,E.bX,_,_,_,_,false,rfl,rfl,E.bb,by show 4<=sizeLine;decide,_,_,_,_,false,rfl,rfl,E.bb,nofun,λ_=>?_⟩;dsimp only[sC,qp];walk_at "vc";refine⟨true,.inr ⟨_,rfl⟩,.inr ⟨_,rfl⟩,o5 [false,true,false,false],λ_=>?_,nofun⟩;exact⟨λ_=>h _,nofun⟩
  | floor=>
   have hd:l=_:=hd;subst hd;intro M';refine⟨.inr (.inr (.inl rfl)),E.lK,λx od=>?_⟩;refine⟨_,_,_,_,false,rfl,rfl,E.bY,_,_,_,_,false,rfl,rfl,E.bT,_,_,_,_,true,rfl,rfl,E.bL,_,_,_,_,false,rfl,rfl,E.aX,by show 4<=sizeLine;decide,_,_,_,_,false,rfl,rfl,E.aX,nofun,λ_=>?_⟩;dsimp only[sC,qp];walk_at "vc";refine⟨true,.inr ⟨_,rfl⟩,.inr ⟨_,rfl⟩,o5 [false,false,true,false],λ_=>?_,nofun⟩;exact⟨λ_=>h _,nofun⟩
  | place j=>
   have⟨hd,rfl⟩:=hd;subst hd;intro M';refine⟨.inr (.inr (.inr rfl)),E.lR,λx od=>?_⟩;refine⟨_,_,_,_,false,rfl,rfl,E.bZ,_,_,_,_,false,rfl,rfl,E.b5,_,_,_,_,false,rfl,rfl,E.bK,_,_,_,_,true,rfl,rfl,E.aW,by show 4<=sizeLine;decide,_,_,_,_,true,rfl,rfl,E.aW,λ_=>?_,nofun⟩;refine⟨_,_,_,rfl,rfl,?_⟩;dsimp only[qp];walk_at "vc";refine⟨true,.inr ⟨_,rfl⟩,.inr ⟨_,rfl⟩,o5 [false,false,false,true],λ_=>?_,nofun⟩;exact⟨nofun,λ_=>⟨_,.int j,rfl,trivial,.old trivial,h _⟩⟩
def tm(n k t:List Nat)(c:Int)(l:List Dt):En:=[some (.lst [sD n,sD k,sD t]),some (.int c),some (sD n),some (sD k),some (sD t),some (.lst l)]
def Iy:Str.ofString " "=mk [32]:=by decide+kernel
def IB:Str.ofString "-"=mk [45]:=by decide+kernel
def sk:Str.ofString "  "=mk [32,32]:=by decide+kernel
def ID:Str.ofString ","=mk [44]:=by decide+kernel
def IE:Str.ofString "\n"=mk [10]:=by decide+kernel
def xH:DF:=λas M q _=>∃(n k t:List Nat) (cell:Int),as=[.lst [sD n,sD k,sD t],.int cell]/\n.length<=8/\k.length<=8/\t.length<=500/\∀x∈iz n k t,q (sD x) M
def ag:Δ ["_law_part_here","_law_cell","_law_name","_law_kind","_law_told","_law_some"] ["_law_part_here","_law_cell"] (π iJ):=.of rfl
def rN(F:eE K "_law_bad_part" "_law_bad_part" iJ f fd)(E:Ev K mg Cl CT Ce Cf Cg Ca):ay P w K mg base (bP P w) 1 f fd ["_law_part_here","_law_cell"] (eN K xH):=by
 refine F.ip ag (λds M q x h=>?_) (λbC A outer s H E' hr=>⟨_,(θ (G_ (jv 0) (Ou rfl (dk (bS (i:=2) ag.nd rfl (Or.inl rfl)) (dk (bS (i:=3) ag.nd rfl (Or.inl rfl)) (dk (bS (i:=4) ag.nd rfl (Or.inl rfl)) oE)))))
   (θ (cj (τ 5 ag.nd (aZ (ε (ν (ν (ν χ (jv 3)) χ) (jv 4)) (ε (ν (ν (ν χ (jv 3)) χ) (jv 4)) (ε (ν (ν (ν χ (jv 3)) χ) (jv 4)) η Ι) Ι) Ι))))
   (θ (cj (τ 5 ag.nd (cU (jv 5) (aZ (ε (ν (ν (ν (ν (jv 2) χ) (jv 3)) χ) (jv 4)) (ε (ν (ν (ν (ν (jv 2) χ) (jv 3)) χ) (jv 4)) (ε (ν (ν (ν (ν (jv 2) χ) (jv 3)) χ) (jv 4)) η Ι) Ι) Ι)))))
   (θ (cj (τ 5 ag.nd (cU (jv 5) (aZ (ε (ν (ν (jv 2) χ) (jv 4)) (ε (ν (ν (jv 2) χ) (jv 3)) (ε (ν (ν (ν (jv 2) χ) (jv 3)) χ) (ε (ν (jv 2) χ) η Ι) Ι) Ι) Ι)))))
   (θ (cj (τ 5 ag.nd (cU (jv 5) (aZ (ε (ν (ν (ν (ν (ν (jv 2) χ) (jv 3)) χ) (jv 4)) χ) (ε (ν (ν (ν χ (jv 3)) χ) (jv 4)) (ε (ν (ν (jv 2) χ) (jv 2)) η Ι) Ι) Ι)))))
   (θ (cj (τ 5 ag.nd (cU (jv 5) (aZ (ε (ν (ν (ν (ν (ν (jv 2) χ) (jv 3)) χ) (jv 4)) χ) (ε (ν (ν (ν (jv 2) χ) (jv 2)) χ) η Ι) Ι)))))
   (θ (cj (τ 5 ag.nd (cU (jv 5) (aZ (ε (ν (jv 2) χ) (ε (ν (jv 2) χ) (ε (ν (jv 2) χ) (ε (ν (jv 2) χ) η Ι) Ι) Ι) Ι)))))
   (θ (cj (τ 5 ag.nd (cU (jv 5) (aZ (ε (ν (ν (ν (jv 2) χ) (jv 2)) χ) η Ι)))))
   (θ (cj (τ 5 ag.nd (cU (jv 5) (aZ (ε (ν (ν (ν (ν (ν (jv 2) χ) (jv 2)) χ) (jv 2)) χ) (ε (ν (ν (ν (ν (ν (jv 2) χ) (jv 2)) χ) (jv 2)) χ) η Ι) Ι)))))
   (θ (cj (τ 5 ag.nd (cU (jv 5) (aZ (ε (ν (ν (ν (ν (jv 2) χ) (jv 3)) χ) (jv 4)) (ε (ν (ν (ν (ν (jv 2) χ) (jv 3)) χ) (jv 4)) (ε (ν (ν (ν (jv 2) χ) (jv 2)) χ) η Ι) Ι) Ι)))))
   (θ (cj (τ 5 ag.nd (cU (jv 5) (aZ (ε (ν (ν (ν (ν (ν (jv 2) χ) (jv 3)) χ) (jv 4)) χ) (ε (ν (ν (ν (ν (ν χ (jv 2)) χ) (jv 3)) χ) (jv 4)) η Ι) Ι)))))
   (μ (Β (Φ (jv 5) (aU (jv 1) ο))))))))))))))),λds M q x h=>?_⟩)
 ·have⟨n,k,t,c,rfl,_⟩:=h;rfl
 ·have⟨n,k,t,c,rfl,n8,k8,t5,h⟩:=h;have c0:(Str.ofString " ").length=1:=by decide+kernel
  have c1:(Str.ofString " End 0").length=6:=by decide+kernel
  have c2:(Str.ofString ",").length=1:=by decide+kernel
  have c3:(Str.ofString " 1/2 0 0").length=8:=by decide+kernel
  have c4:(Str.ofString " 1").length=2:=by decide+kernel
  have c5:(Str.ofString " one B 1").length=8:=by decide+kernel
  have c6:(Str.ofString " other abcdefghi 1").length=18:=by decide+kernel
  have c7:(Str.ofString " one  1").length=7:=by decide+kernel
  have c8:(Str.ofString " chance a1 1 1").length=14:=by decide+kernel
  have c9:(Str.ofString "  1").length=3:=by decide+kernel
  have As:(Str.ofString " 0").length=2:=by decide+kernel
  have zF:(Str.ofString "\n1").length=2:=by decide+kernel
  have Fn:(Str.ofString "\n").length=1:=by decide+kernel
  have Xk:(Str.ofString "A ").length=2:=by decide+kernel
  have Xn:(Str.ofString "abcdefghi ").length=10:=by decide+kernel
  have We:(Str.ofString "  ").length=2:=by decide+kernel
  have W':(Str.ofString " once ").length=6:=by decide+kernel
  have X5:(Str.ofString " one ").length=5:=by decide+kernel
  have c18:(Str.ofString "a1 ").length=3:=by decide+kernel
  have XR:(Str.ofString " chance ").length=8:=by decide+kernel
  have c20:(Str.ofString " other ").length=7:=by decide+kernel
  have c21:(Str.ofString " 1,").length=3:=by decide+kernel
  have c22:(Str.ofString " 1,  ").length=5:=by decide+kernel
  have c23:(Str.ofString "-").length=1:=by decide+kernel
  dsimp only[qE,HJ,aH];refine⟨sD n,sD k,sD t,rfl,?_⟩;refine⟨λρ' M'=>M=M'/\ρ'=tm n k t c (((iz n k t).take 3).map sD),?_,?_⟩
  ·try walk_at "vc"
   refine⟨(by(try simp only[Str.length_append,ζ]);exact ι ()),?_⟩;refine⟨(by(try simp only[Str.length_append,ζ]);exact ι ()),?_⟩;refine⟨(by(try simp only[Str.length_append,ζ]);exact ι ()),?_⟩;refine⟨(by(try simp only[Str.length_append,ζ]);exact ι ()),?_⟩;refine⟨(by(try simp only[Str.length_append,ζ]);exact ι ()),?_⟩;refine⟨(by(try simp only[Str.length_append,ζ]);exact ι ()),?_⟩;refine⟨(by(try simp only[Str.length_append,ζ]);exact ι ()),?_⟩;refine⟨(by(try simp only[Str.length_append,ζ]);exact ι ()),?_⟩;refine⟨(by(try simp only[Str.length_append,ζ]);exact ι ()),?_⟩;refine⟨by show 3<=sizeLine;decide,rfl,aaN (tm n k t c) ?_⟩
   try simp only[Iy,IB,sk,ID,IE]
   simp only[GY,aa];rfl
  rintro ρ' M' ⟨rfl,rfl⟩;refine⟨λρ' M'=>M=M'/\ρ'=tm n k t c (((iz n k t).take 6).map sD),?_,?_⟩
  ·try walk_at "vc"
   refine⟨(by(try simp only[Str.length_append,ζ]);exact ι ()),?_⟩;refine⟨(by(try simp only[Str.length_append,ζ]);exact ι ()),?_⟩;refine⟨(by(try simp only[Str.length_append,ζ]);exact ι ()),?_⟩;refine⟨(by(try simp only[Str.length_append,ζ]);exact ι ()),?_⟩;refine⟨(by(try simp only[Str.length_append,ζ]);exact ι ()),?_⟩;refine⟨(by(try simp only[Str.length_append,ζ]);exact ι ()),?_⟩;refine⟨(by(try simp only[Str.length_append,ζ]);exact ι ()),?_⟩;refine⟨(by(try simp only[Str.length_append,ζ]);exact ι ()),?_⟩;refine⟨(by(try simp only[Str.length_append,ζ]);exact ι ()),?_⟩;refine⟨(by(try simp only[Str.length_append,ζ]);exact ι ()),?_⟩;refine⟨(by(try simp only[Str.length_append,ζ]);exact ι ()),?_⟩;refine⟨(by(try simp only[Str.length_append,ζ]);exact ι ()),?_⟩;refine⟨by show 3<=sizeLine;decide,_,_,rfl,rfl,by show 6<=sizeLine;decide,rfl,aaN (tm n k t c) ?_⟩
   try simp only[Iy,IB,sk,ID,IE]
   simp only[GY,aa];rfl
  rintro ρ' M' ⟨rfl,rfl⟩;refine⟨λρ' M'=>M=M'/\ρ'=tm n k t c (((iz n k t).take 10).map sD),?_,?_⟩
  ·try walk_at "vc"
   refine⟨(by(try simp only[Str.length_append,ζ]);exact ι ()),?_⟩;refine⟨(by(try simp only[Str.length_append,ζ]);exact ι ()),?_⟩;refine⟨(by(try simp only[Str.length_append,ζ]);exact ι ()),?_⟩;refine⟨(by(try simp only[Str.length_append,ζ]);exact ι ()),?_⟩;refine⟨(by(try simp only[Str.length_append,ζ]);exact ι ()),?_⟩;refine⟨(by(try simp only[Str.length_append,ζ]);exact ι ()),?_⟩;refine⟨(by(try simp only[Str.length_append,ζ]);exact ι ()),?_⟩;refine⟨(by(try simp only[Str.length_append,ζ]);exact ι ()),?_⟩;refine⟨by show 4<=sizeLine;decide,_,_,rfl,rfl,by show 10<=sizeLine;decide,rfl,aaN (tm n k t c) ?_⟩
   try simp only[Iy,IB,sk,ID,IE]
   simp only[GY,aa];rfl
  rintro ρ' M' ⟨rfl,rfl⟩;refine⟨λρ' M'=>M=M'/\ρ'=tm n k t c (((iz n k t).take 13).map sD),?_,?_⟩
  ·try walk_at "vc"
   refine⟨(by(try simp only[Str.length_append,ζ]);exact ι ()),?_⟩;refine⟨(by(try simp only[Str.length_append,ζ]);exact ι ()),?_⟩;refine⟨(by(try simp only[Str.length_append,ζ]);exact ι ()),?_⟩;refine⟨(by(try simp only[Str.length_append,ζ]);exact ι ()),?_⟩;refine⟨(by(try simp only[Str.length_append,ζ]);exact ι ()),?_⟩;refine⟨(by(try simp only[Str.length_append,ζ]);exact ι ()),?_⟩;refine⟨(by(try simp only[Str.length_append,ζ]);exact ι ()),?_⟩;refine⟨(by(try simp only[Str.length_append,ζ]);exact ι ()),?_⟩;refine⟨(by(try simp only[Str.length_append,ζ]);exact ι ()),?_⟩;refine⟨(by(try simp only[Str.length_append,ζ]);exact ι ()),?_⟩;refine⟨by show 3<=sizeLine;decide,_,_,rfl,rfl,by show 13<=sizeLine;decide,rfl,aaN (tm n k t c) ?_⟩
   try simp only[Iy,IB,sk,ID,IE]
   simp only[GY,aa];rfl
  rintro ρ' M' ⟨rfl,rfl⟩;refine⟨λρ' M'=>M=M'/\ρ'=tm n k t c (((iz n k t).take 15).map sD),?_,?_⟩
  ·try walk_at "vc"
   refine⟨(by(try simp only[Str.length_append,ζ]);exact ι ()),?_⟩;refine⟨(by(try simp only[Str.length_append,ζ]);exact ι ()),?_⟩;refine⟨(by(try simp only[Str.length_append,ζ]);exact ι ()),?_⟩;refine⟨(by(try simp only[Str.length_append,ζ]);exact ι ()),?_⟩;refine⟨(by(try simp only[Str.length_append,ζ]);exact ι ()),?_⟩;refine⟨(by(try simp only[Str.length_append,ζ]);exact ι ()),?_⟩;refine⟨(by(try simp only[Str.length_append,ζ]);exact ι ()),?_⟩;refine⟨(by(try simp only[Str.length_append,ζ]);exact ι ()),?_⟩;refine⟨pz,_,_,rfl,rfl,by show 15<=sizeLine;decide,rfl,aaN (tm n k t c) ?_⟩
   try simp only[Iy,IB,sk,ID,IE]
   simp only[GY,aa];rfl
  rintro ρ' M' ⟨rfl,rfl⟩;refine⟨λρ' M'=>M=M'/\ρ'=tm n k t c (((iz n k t).take 19).map sD),?_,?_⟩
  ·try walk_at "vc"
   refine⟨(by(try simp only[Str.length_append,ζ]);exact ι ()),?_⟩;refine⟨(by(try simp only[Str.length_append,ζ]);exact ι ()),?_⟩;refine⟨(by(try simp only[Str.length_append,ζ]);exact ι ()),?_⟩;refine⟨(by(try simp only[Str.length_append,ζ]);exact ι ()),?_⟩;refine⟨by show 4<=sizeLine;decide,_,_,rfl,rfl,by show 19<=sizeLine;decide,rfl,aaN (tm n k t c) ?_⟩
   try simp only[Iy,IB,sk,ID,IE]
   simp only[GY,aa];rfl
  rintro ρ' M' ⟨rfl,rfl⟩;refine⟨λρ' M'=>M=M'/\ρ'=tm n k t c (((iz n k t).take 20).map sD),?_,?_⟩
  ·try walk_at "vc"
   refine⟨(by(try simp only[Str.length_append,ζ]);exact ι ()),?_⟩;refine⟨(by(try simp only[Str.length_append,ζ]);exact ι ()),?_⟩;refine⟨(by(try simp only[Str.length_append,ζ]);exact ι ()),?_⟩;refine⟨by show 1<=sizeLine;decide,_,_,rfl,rfl,by show 20<=sizeLine;decide,rfl,aaN (tm n k t c) ?_⟩
   try simp only[Iy,IB,sk,ID,IE]
   simp only[GY,aa];rfl
  rintro ρ' M' ⟨rfl,rfl⟩;refine⟨λρ' M'=>M=M'/\ρ'=tm n k t c (((iz n k t).take 22).map sD),?_,?_⟩
  ·try walk_at "vc"
   refine⟨(by(try simp only[Str.length_append,ζ]);exact ι ()),?_⟩;refine⟨(by(try simp only[Str.length_append,ζ]);exact ι ()),?_⟩;refine⟨(by(try simp only[Str.length_append,ζ]);exact ι ()),?_⟩;refine⟨(by(try simp only[Str.length_append,ζ]);exact ι ()),?_⟩;refine⟨(by(try simp only[Str.length_append,ζ]);exact ι ()),?_⟩;refine⟨(by(try simp only[Str.length_append,ζ]);exact ι ()),?_⟩;refine⟨(by(try simp only[Str.length_append,ζ]);exact ι ()),?_⟩;refine⟨(by(try simp only[Str.length_append,ζ]);exact ι ()),?_⟩;refine⟨(by(try simp only[Str.length_append,ζ]);exact ι ()),?_⟩;refine⟨(by(try simp only[Str.length_append,ζ]);exact ι ()),?_⟩;refine⟨pz,_,_,rfl,rfl,by show 22<=sizeLine;decide,rfl,aaN (tm n k t c) ?_⟩
   try simp only[Iy,IB,sk,ID,IE]
   simp only[GY,aa];rfl
  rintro ρ' M' ⟨rfl,rfl⟩;refine⟨λρ' M'=>M=M'/\ρ'=tm n k t c (((iz n k t).take 25).map sD),?_,?_⟩
  ·try walk_at "vc"
   refine⟨(by(try simp only[Str.length_append,ζ]);exact ι ()),?_⟩;refine⟨(by(try simp only[Str.length_append,ζ]);exact ι ()),?_⟩;refine⟨(by(try simp only[Str.length_append,ζ]);exact ι ()),?_⟩;refine⟨(by(try simp only[Str.length_append,ζ]);exact ι ()),?_⟩;refine⟨(by(try simp only[Str.length_append,ζ]);exact ι ()),?_⟩;refine⟨(by(try simp only[Str.length_append,ζ]);exact ι ()),?_⟩;refine⟨(by(try simp only[Str.length_append,ζ]);exact ι ()),?_⟩;refine⟨(by(try simp only[Str.length_append,ζ]);exact ι ()),?_⟩;refine⟨(by(try simp only[Str.length_append,ζ]);exact ι ()),?_⟩;refine⟨(by(try simp only[Str.length_append,ζ]);exact ι ()),?_⟩;refine⟨(by(try simp only[Str.length_append,ζ]);exact ι ()),?_⟩;refine⟨by show 3<=sizeLine;decide,_,_,rfl,rfl,by show 25<=sizeLine;decide,rfl,aaN (tm n k t c) ?_⟩
   try simp only[Iy,IB,sk,ID,IE]
   simp only[GY,aa];rfl
  rintro ρ' M' ⟨rfl,rfl⟩;refine⟨λρ' M'=>M=M'/\ρ'=tm n k t c (((iz n k t).take 27).map sD),?_,?_⟩
  ·try walk_at "vc"
   refine⟨(by(try simp only[Str.length_append,ζ]);exact ι ()),?_⟩;refine⟨(by(try simp only[Str.length_append,ζ]);exact ι ()),?_⟩;refine⟨(by(try simp only[Str.length_append,ζ]);exact ι ()),?_⟩;refine⟨(by(try simp only[Str.length_append,ζ]);exact ι ()),?_⟩;refine⟨(by(try simp only[Str.length_append,ζ]);exact ι ()),?_⟩;refine⟨(by(try simp only[Str.length_append,ζ]);exact ι ()),?_⟩;refine⟨(by(try simp only[Str.length_append,ζ]);exact ι ()),?_⟩;refine⟨(by(try simp only[Str.length_append,ζ]);exact ι ()),?_⟩;refine⟨(by(try simp only[Str.length_append,ζ]);exact ι ()),?_⟩;refine⟨(by(try simp only[Str.length_append,ζ]);exact ι ()),?_⟩;refine⟨pz,_,_,rfl,rfl,by show 27<=sizeLine;decide,rfl,aaN (tm n k t c) ?_⟩
   try simp only[Iy,IB,sk,ID,IE]
   simp only[GY,aa];rfl
  rintro ρ' M' ⟨rfl,rfl⟩;have key:∀l,l=(iz n k t).map sD->fE (.lst l) (.int (c % 27)) M q:=λl e=>by rw[e];exact jm (aaR _ @_) (aaL _ @_) h
  exact⟨@_,key _ rfl⟩
def jV{s:List Nat}{m:Nat}:∀{ps:List (List Nat)},(∀p∈ps,p.length+s.length<=m)->(jn s ps).length<=ps.length * m
 | [],_=>by simp[jn]
 | [p],h=>by have:=h p aaf;show p.length<=1 * m;omega
 | p::q::r,h=>by have h1:=h p aaf;have h2:=jV (ps:=q::r) λy hy=>h y (aag _ hy);show(p++(s++jn s (q::r))).length<=_;rw[aae,aae];rw[show(p::q::r).length * m=(q::r).length * m+m by rw[aat,Nat.succ_mul]];omega
def jL(ns:List (List Nat)):NL->Rw
 | .fin p=>.fin p
 | .υ k ds=>.υ k (ds.map λd=>((ns.idxOf d.1:Nat),d.2.headD (0,1),d.2.tail))
def zE(q:PL):Str×NR:=(mk q.1,Lx q.2)
def EL{ak:List PL}(h:∀q∈ak,jM q):aO Τ ((ak.map b7).map mk)=some (ak.map zE):=by rw[aap];exact jI λq hq=>Ax (h q hq).1 (h q hq).2
def xS{p:Fr}{ak:List PL}(h:∀q∈ak,jM q):Txt.split (mk (j3 p ak)) (mk [59,32])=mk (eG p)::(ak.map b7).map mk:=by unfold j3;rw[mF (by simp) (HH h)];rfl
def x4{p:Fr}{ak:List PL}(hp:Lw p)(h:∀q∈ak,jM q):aQ (Txt.split (mk (j3 p ak)) (mk [59,32]))=aY p (ak.map zE):=by rw[xS h];unfold aQ;dsimp only;rw[show aq (mk (eG p))=some p from zk hp,EL h]
def LU{r:NL}(h:iC r):Ii (Lx r):=by
 have e:(10:Nat) ^ 60 < 2 ^ 200:=@_
 cases r with
 | fin p=>exact h.2.1
 | υ k ds=>
  refine⟨λz=>by rcases h.1 with e| e| e <;> rw[z]at e <;> exact aaG e @_,by rw[aac];have:=h.2.2.1;omega,λd hd=>?_⟩;have⟨d,uv,rfl⟩:=aah.mp hd;have hd:=h.2.2.2 d uv;refine⟨hd.2.1,λp hp=>?_⟩;have⟨h1,h2,h3,_⟩:=hd.2.2 p hp;exact⟨h2,(),()⟩
def E4{p:Fr}{ak:List PL}(h:∀q∈ak,jM q)(l:ak.length<=100)(hl:(j3 p ak).length<=9000):SV (j3 p ak):=by refine⟨hl,λp0 ps Ζ YE e hs ha=>?_⟩;rw[xS h]at e;cases e;rw[EL h]at ha;cases ha;refine⟨by rw[aac];exact l,λq hq=>?_⟩;have⟨q,eK,rfl⟩:=aah.mp hq;exact LU (h q eK).2
def yO(Ζ:Fr)(ak:List (Str×NR)):aY Ζ ak≠ .text:=λz=>by
 unfold aY at z;split at z
 ·split at z
  ·cases z
  ·split at z
   ·split at z <;> cases z
   ·cases z
 ·cases z
def wo(hl:t.length<=9000)(h:aQ (Txt.split (mk t) (mk [59,32]))= .text):SV t:=by refine⟨hl,λp0 ps Ζ ak e hs ha=>?_⟩;rw[e]at h;unfold aQ at h;dsimp only at h;rw[hs,ha]at h;exact aaG h (yO Ζ ak)
def zK:mk n∈ns.map mk↔n∈ns:=
 ⟨λh=>by have⟨m,hm,e⟩:=aah.mp h;rw[<-rA e];exact hm,λh=>aah.mpr ⟨n,h,rfl⟩⟩
def E9{n:List Nat}:∀ns:List (List Nat),(ns.map mk).idxOf (mk n)=ns.idxOf n
 | []=>rfl
 | m::ns=>by
  rw[aaJ,List.idxOf_cons,List.idxOf_cons,E9 ns];have:(mk m==mk n)=(m==n):=by rw[aa7,aa8,aa8];exact⟨rA,λe=>by rw[e]⟩
  rw[this]
def R_(h:ns.Nodup):(ns.map mk).Nodup:=
 List.pairwise_map.mpr (h.imp λh z=>h (rA z))
def LN(ns:List (List Nat)):NL->Prop
 | .fin _=>True
 | .υ _ ds=>∀d∈ds,d.1∈ns/\d.2≠[]
def EM{r:NL}(h:LN ns r):g6 (ns.map mk) (Lx r)=some (jL ns r):=by
 cases r with
 | fin p=>rfl
 | υ k ds=>
  show(aO (cQ (ns.map mk)) (ds.map Jl)).map (Rw.υ k)=_;rw[jI (g:=Jl) (h:=λd:List Nat×List Fr=>(((ns.idxOf d.1:Nat):Int),d.2.headD (0,1),d.2.tail)) (λd hd=>?_)]
  ·rfl
  ·have⟨h1,h2⟩:=h d hd;unfold cQ Jl;dsimp only;rw[aaB (zK.mpr h1),E9]
   match hq:d.2,h2 with
   | p::r,_=>rfl
   | [],h2=>exact aaG rfl h2
abbrev zp(ns:List (List Nat))(rs:List NL):List PL:=ns.zip rs
def xW{rs:List NL}(hl:ns.length=rs.length):((zp ns rs).map zE).map (·.1)=ns.map mk:=by
 rw[aap,show((λx:Str×NR=>x.1) ∘ zE)=mk ∘ (λq:PL=>q.1) from rfl,<-aap]
 congr 1
 exact List.map_fst_zip (Nat.le_of_eq hl)
def Kl{rs:List NL}(hl:ns.length=rs.length):((zp ns rs).map zE).map (·.2)=rs.map Lx:=by
 rw[aap,show((λx:Str×NR=>x.2) ∘ zE)=Lx ∘ (λq:PL=>q.2) from rfl,<-aap]
 congr 1
 exact List.map_snd_zip (Nat.le_of_eq hl.symm)
def lG{Ζ:Fr}{ns:List (List Nat)}{rs:List NL}(hl:ns.length=rs.length)(nd:ns.Nodup)(h:∀r∈rs,LN ns r):
  aY Ζ ((zp ns rs).map zE)=if bR Ζ=true/\1<=rs.length/\rs.length<=12 then (match aB rs.length (rs.map (jL ns)) 0 with
   | none=>.ok Ζ (rs.map (jL ns)) (ns.map mk)
   | some j=>.place j) else .floor:=by
 unfold aY;rw[xW hl,Kl hl,aaB (R_ nd),jI λr hr=>EM (h r hr)];dsimp only;rw[aac]
 try rfl
def yP{Ζ:Fr}{ak:List PL}{k:Str}{ds:List (List Nat×List Fr)}{d:List Nat×List Fr}(hq:(n,NL.υ k ds)∈ak)(hd:d∈ds)(hn:d.1∉ak.map (·.1)):aY Ζ (ak.map zE)= .name:=by
 unfold aY;split
 ·rw[bA (a:=Lx (.υ k ds)) (by rw[aap];exact aah.mpr ⟨_,hq,rfl⟩)];show(aO (cQ _) (ds.map Jl)).map (Rw.υ k)=none;rw[bA (a:=Jl d) (aah.mpr ⟨d,hd,rfl⟩)]
  ·rfl
  ·unfold cQ Jl;rw[aay];intro z;rw[aap,show((λx:Str×NR=>x.1) ∘ zE)=mk ∘ (λq:PL=>q.1) from rfl,<-aap]at z;exact hn (zK.mp z)
 ·rfl
def wU{Ζ:Fr}{rs:List NL}{r:NL}(hl:ns.length=rs.length)(hn:n∈ns):aY Ζ ((zp ns rs++[(n,r)]).map zE)= .name:=by unfold aY;rw[aay];rw[aaU,aaU,xW hl];intro z;exact(List.nodup_append.mp z).2.2 (mk n) (zK.mpr hn) (mk n) (by simp[zE]) rfl
def pe{size:Int}:∀{R:List Rw} {n:Nat},(∀r∈R,bJ r size=true)->aB size R n=none
 | [],_,_=>rfl
 | r::R,n,h=>by unfold aB;rw[aaB (h r aaf)];exact pe λr' jC=>h r' (aag _ jC)
def sS{size:Int}{b:Rw}(hb:bJ b size=false):∀{R:List Rw} {n i:Nat},(∀r∈R,bJ r size=true)->i < R.length->aB size (R.set i b) n=some (n+i)
 | [],_,_,_,h=>by simp at h
 | r::R,n,0,_,_=>by rw[List.set_cons_zero];unfold aB;rw[aay (by rw[hb];decide)];rfl
 | r::R,n,i+1,h,hi=>by
  rw[List.set_cons_succ];unfold aB;rw[if_pos (h r List.mem_cons_self),sS hb (λr' jC=>h r' (List.mem_cons_of_mem _ jC)) (by simpa using hi)]
  congr 1;omega
def Jw:∀{m:Nat},1<=m->m<=3->ax (List.replicate m ((1:Int),(m:Int)))=true:=λ{m} h1 h3=>by
 have s:m=1\/m=2\/m=3:=()
 rcases s with rfl| rfl| rfl <;> decide+kernel
def GL.inR{r:NL}(h:GL ns r):LN ns r:=by
 cases r with
 | fin p=>trivial
 | υ k ds=>
  intro d hd;have⟨h1,p,_,e⟩:=h.2.2.2 d hd;exact⟨h1,by rw[e];simp⟩
def CZ{ds:List (List Nat×List Fr)}(h1:1<=ds.length)(h3:ds.length<=6)(h:∀d∈ds,d.1∈ns/\eg (d.2.headD (0,1))=true):ar (ds.map λd=>(((ns.idxOf d.1:Nat):Int),d.2.headD (0,1),d.2.tail)) (ns.length:Int)=true:=by unfold ar;rw[aaz,aaz,aa0,aa0,aac,abi];refine⟨⟨h1,h3⟩,λd hd=>?_⟩;have⟨d,uv,rfl⟩:=aah.mp hd;have hd:=uv;have:=aby (h d hd).1;unfold bN;rw[aaz,aaz,aa0,aa0];exact⟨by show(0:Int)<=(List.idxOf d.1 ns:Nat);omega,by show((List.idxOf d.1 ns:Nat):Int) < _;omega,(h d hd).2⟩
def GL.fits{r:NL}(h:GL ns r):bJ (jL ns r) (ns.length:Int)=true:=by
 cases r with
 | fin p=>exact(hI p h).2.1
 | υ k ds=>
  have⟨hk,h1,h3,hd⟩:=h;have fd:=CZ (ns:=ns) h1 () λd v_=>by have⟨d1,p,hp,e⟩:=hd d v_;rw[e];exact⟨d1,(hI p hp).2.1⟩
  show(if eI k then ar _ _ else if k="chance" then ar _ _&&ax _ else false)=true;by_cases hc:k="chance"
  ·rw[aay (by rw[hc];decide),aaB hc,fd,Bool.true_and];have e:((ds.map λd=>(((ns.idxOf d.1:Nat):Int),d.2.headD (0,1),d.2.tail)).map bj)=List.replicate ds.length ((1:Int),(ds.length:Int)):=by rw[aap];refine List.eq_replicate_iff.mpr ⟨by rw[aac],λc IG=>?_⟩;have⟨d,v_,rfl⟩:=aah.mp IG;have⟨_,p,_,e⟩:=hd d v_;rw[aaB hc]at e;unfold bj;show d.2.tail.headD (0,1)=_;rw[e];rfl
   rw[e];exact Jw h1 h3
  ·have:eI k=true:=by rcases hk with rfl| rfl| e <;> first| decide| exact aaG e hc
   rw[aaB this];exact fd
def kI(a b:List Nat):List NL:=[.υ "one" (List.replicate 7 (a,[(1,1)])),.υ "other" (List.replicate 7 (a,[(1,1)])),.υ "chance" [(a,[(1,1),(1,2)]),(b,[(0,1),(1,3)])],.υ "chance" (List.replicate 7 (a,[(1,1),(1,7)]))]
def jS{p:Fr}(h:p∈[((1:Int),(1:Int)),(1,2),(0,1),(1,3),(1,7),(-1,2),(1,1001)]):Lw p:=by
 have s:p=(1,1)\/p=(1,2)\/p=(0,1)\/p=(1,3)\/p=(1,7)\/p=(-1,2)\/p=(1,1001):=by simpa using h
 rcases s with rfl| rfl| rfl| rfl| rfl| rfl| rfl <;> exact⟨by decide+kernel,@_,by decide+kernel,@_⟩
def AL{p a b:Fr}(h:p∈[a,b])(hh:∀p∈[a,b],p∈[((1:Int),(1:Int)),(1,2),(0,1),(1,3),(1,7),(-1,2),(1,1001)]):Lw p:=jS (hh p h)
def mq{k:Str}{ds:List Eg}{size:Int}(h:ar ds size=false):bJ (.υ k ds) size=false:=by
 unfold bJ;dsimp only;rw[h];split
 ·rfl
 ·split <;> rfl
def xu{ds:List Eg}{size:Int}(h:ax (ds.map bj)=false):bJ (.υ "chance" ds) size=false:=by unfold bJ;dsimp only;rw[h,aay @_,aaB rfl,abB]
def D4(ha:dF a)(hb:dF b)(Xm:a∈ns)(YA:b∈ns):∀r∈kI a b,iC r/\LN ns r/\bJ (jL ns r) (ns.length:Int)=false:=by
 intro r hr;have s:r= .υ "one" (List.replicate 7 (a,[(1,1)]))\/r= .υ "other" (List.replicate 7 (a,[(1,1)]))\/r= .υ "chance" [(a,[(1,1),(1,2)]),(b,[(0,1),(1,3)])]\/r= .υ "chance" (List.replicate 7 (a,[(1,1),(1,7)])):=by simpa [kI] using hr
 have one:Lw (1,1):=jS (by simp)
 have Fq:∀(k:Str) (ps:List Fr),(k="one"\/k="other"\/k="chance")->ps≠[]->ps.length=(if k="chance" then 2 else 1)->(∀p∈ps,Lw p)->iC (.υ k (List.replicate 7 (a,ps)))/\LN ns (.υ k (List.replicate 7 (a,ps))):=λk ps hk h0 hl hp=>
  ⟨⟨hk,by simp,by simp,λd hd=>by rw[List.eq_of_mem_replicate hd];exact⟨ha,hl,hp⟩⟩,λd hd=>by rw[List.eq_of_mem_replicate hd];exact⟨Xm,h0⟩⟩
 have Mi:∀ps:List Fr,ar ((List.replicate 7 (a,ps)).map λd=>(((ns.idxOf d.1:Nat):Int),d.2.headD (0,1),d.2.tail)) (ns.length:Int)=false:=λps=>by unfold ar;rw[show decide (((List.replicate 7 (a,ps)).map λd=>(((ns.idxOf d.1:Nat):Int),d.2.headD (0,1),d.2.tail)).length<=6)=false by simp,Bool.and_false,Bool.false_and]
 rcases s with rfl| rfl| rfl| rfl
 ·have⟨h1,h2⟩:=Fq "one" [(1,1)] (.inl rfl) (by simp) rfl λp hp=>by rw[List.mem_singleton.mp hp];exact one
  exact⟨h1,h2,mq (Mi _)⟩
 ·have⟨h1,h2⟩:=Fq "other" [(1,1)] (.inr (.inl rfl)) (by simp) rfl λp hp=>by rw[List.mem_singleton.mp hp];exact one
  exact⟨h1,h2,mq (Mi _)⟩
 ·refine⟨⟨.inr (.inr rfl),by simp,by simp,λd hd=>?_⟩,λd hd=>?_,?_⟩
  ·have:d=(a,[(1,1),(1,2)])\/d=(b,[(0,1),(1,3)]):=by simpa using hd
   rcases this with rfl| rfl
   ·exact⟨ha,rfl,λp hp=>AL hp (by simp)⟩
   ·exact⟨hb,rfl,λp hp=>AL hp (by simp)⟩
  ·have:d=(a,[(1,1),(1,2)])\/d=(b,[(0,1),(1,3)]):=by simpa using hd
   rcases this with rfl| rfl
   ·exact⟨Xm,by simp⟩
   ·exact⟨YA,by simp⟩
  ·exact xu (by show ax [((1:Int),(2:Int)),(1,3)]=false;decide+kernel)
 ·have⟨h1,h2⟩:=Fq "chance" [(1,1),(1,7)] (.inr (.inr rfl)) (by simp) rfl λp hp=>AL hp (by simp);exact⟨h1,h2,mq (Mi _)⟩
def OQ:List Fr:=ou++[(1,3)]
def Lf:MO:=.rB ((OQ.map λp=>mk (fr p)).map dz) (OQ.map df)
def Ib{p:Fr}(h:p∈OQ):fj ((OQ.map λp=>mk (fr p)).map dz) (OQ.map df) (dz (mk (fr p)))=some (df p):=by have⟨i,hi,e⟩:=List.getElem_of_mem h;exact qG (i:=i) (by decide+kernel) (by simp) (by rw[List.getElem?_map,List.getElem?_eq_getElem hi,e];rfl) (by rw[List.getElem?_map,List.getElem?_eq_getElem hi,e];rfl)
def Ss:List Str:=[Str.ofString "0",Str.ofString "1",Str.ofString "-1",Str.ofString "3",Str.ofString "-3",Str.ofString "1/2",Str.ofString "-3/2"]
def Z9:MO.rB (nF (Ss.map dz) (dz (Str.ofString "1/3"))) (jY (Ss.map dz) (dz (Str.ofString "1/3")) (ou.map df) (Dt.tup [Dt.int 1,Dt.int 3]))=Lf:=by
 unfold nF jY;rw[aay (by decide+kernel),aay (by decide+kernel)];have e:Ss++[Str.ofString "1/3"]=OQ.map λp=>mk (fr p):=by decide+kernel
 unfold Lf;rw[<-e,aaU];rfl
def QD(i:Int)(ps:List Fr)(h:ps≠[]):Dt.tup (.int i::ps.map df)=oh (i,ps.headD (0,1),ps.tail):=by
 cases ps with
 | nil=>exact aaG rfl h
 | cons p r=>rfl
def Qh{d:List Nat×List Fr}{a b c:Option Dt}{q:DQ}{i:Nat}(hm:d.1∈ns)(hp:∀p∈d.2,p∈OQ)(h1:d.2≠[])(h2:d.2.length<=2)(hi:M[i]? =some Lf)(h:q (oh (((ns.idxOf d.1:Nat):Int),d.2.headD (0,1),d.2.tail)) M):
  cz dI (Kd (bW (z6 1 (aH 1) (bW (cz fE (aH 5) (dC (.int 0))) fC)) fC)) (vP wG (bW (ko (dM (O7 (Gr (aH 5) (dC (.int 1))))) (HF (aH 1) (aH 0)) [2]) fC)) [a,some (.lst (ns.map sD)),some (.loc i),b,c,some (.lst ((d.1::d.2.map fr).map sD))] M q x:=by
 dsimp only[cz,Kd,bW,fC,z6,aH,dC,vP,List.getElem?_cons_zero,List.getElem?_cons_succ];refine⟨⟨_,rfl⟩,?_⟩;refine(ah (d:=.lst ((d.1::d.2.map fr).map sD)) rfl dj ?_:fE (.lst ((d.1::d.2.map fr).map sD)) (.int 0) M _);have lt:=aby hm;refine⟨sD d.1,ns.map sD,λi=>decide (ns[i]? =some d.1),ns.idxOf d.1,rfl,rfl,λj z hz=>?_,by rw[aac];exact lt,aaK (by rw[aaa lt,List.getElem_idxOf]),λj hj=>aao λz=>?_,?_⟩
 ·rw[aaM]at hz;cases e:ns[j]? with
  | none=>rw[e]at hz;cases hz
  | some n=>
   rw[e]at hz;cases hz;have:decide (some n=some d.1)=uG (V.str (mk n)) (V.str (mk d.1)):=by show _=(mk n==mk d.1);rw[aa7,aa0,aa8];exact⟨λe=>by cases e;rfl,λe=>by rw[rA e]⟩
   dsimp only;rw[e,this];exact .flat rfl rfl
 ·have lj:j < ns.length:=()
  rw[aaa lj]at z;have:=List.not_of_lt_findIdx (p:=(· ==d.1)) (xs:=ns) hj;have z:ns[j]=d.1:=aaw z;rw[z]at this;simp at this
 refine⟨by show 1<=sizeLine;decide,?_⟩;dsimp only[ko,dM,O7,Gr,aH,dC,List.getElem?_cons_zero,List.getElem?_cons_succ];refine⟨_,1,rfl,rfl,?_⟩;refine vc (vg (d.2.map fr)) ?_;show(((d.2.map fr).map sD).length<=sizeLine/\jd _ _ _ ((d.2.map fr).map sD) [] M _);rw[aap];refine⟨by rw[aac];exact ι (),?_⟩;refine cS (F:=λx p=>x=sD (fr p)/\p∈d.2) (f:=df) trivial (λx p ha q' eK=>?_) (gA (λp=>sD (fr p)) d.2 d.2 λ_ h=>h) ?_
 ·have⟨rfl,ha⟩:=ha;exact⟨i,_,_,dz (mk (fr p)),df p,rfl,hi,rfl,Ib (hp p ha),eK⟩
 rw[aaI];refine⟨_,rfl,⟨by simp,by rw[List.length_map];exact ι (by show 1+_<=_;omega)⟩,?_⟩;rw[<-QD _ _ h1]at h;exact h
def LA:DF:=λas M q _=>∃(ns:List (List Nat)) (n:List Nat) (r:NL),as=[.lst [sD n,.str (Ω r),sD (aF r)],.lst (ns.map sD)]/\(∀n∈ns,dF n)/\ns.length<=12/\GL ns r/\(match jL ns r with| .fin p=>q (dJ (.fin p)) (M++[Lf])| .υ k ds=>q (.tup [.str k,.loc (M.length+1)]) (M++[Lf,.lst (ds.map oh)]))
def gw:Δ ["_law_part_here","_law_names_here","_law_numbers","_law_doors","_law_told","_law_words"] ["_law_part_here","_law_names_here"] (π uM):=.of rfl
def Dj   (F:eE K "_law_row" "_law_row" uM f fd) (E:Ev K mg Cl CT Ce Cf Cg Ca):ay P w K mg base (bP P w) 1 f fd ["_law_part_here","_law_names_here"] (eN K LA):=by
 refine F.ip gw (λds M q x h=>?_) (λbC A outer s H E' hr=>⟨_,(θ (τ 2 gw.nd (Kg (fB χ (bQ (ε ο (ε ο η Ε) Ε)) (fB χ (bQ (ε ο (ε ο η Ε) Ε)) (fB χ (bQ (ε (nN ο) (ε ο η Ε) AU)) (fB χ (bQ (ε ο (ε ο η Ε) Ε)) (fB χ (bQ (ε (nN ο) (ε ο η Ε) AU)) (fB χ (bQ (ε ο (ε ο η Ε) Ε)) (fB χ (bQ (ε (nN ο) (ε ο η Ε) AU)) J7)))))))))
   (θ (B8 hr (jv 2) χ (bQ (ε ο (ε ο η Ε) Ε)))
   (θ (Υ (cG hr (Φ (jv 0) ο) χ) (μ (Β (bQ (ε χ (ε (ze hr (jv 2) (Φ (jv 0) ο)) η aJ) Ε)))) Α)
   (θ (τ 3 gw.nd (Hq η))
   (θ (oS (bw (cY (Φ (jv 0) ο) (ε χ η Ε))) (bS (i:=4) gw.nd rfl (Or.inl rfl)) bV (θ (τ 5 gw.nd (cY (jv 4) (ε χ η Ε)))
   (μ (oX (qA (jv 3) (ε (ν (bQ (ε (JD 1 hr (jv 1) (ε (Φ (jv 5) ο) η aJ)) η cy)) (BF E.d8 (ε (ij (ys:=["_law_numbers"]) (Γ:=[2]) (.of gw rfl rfl rfl) (bw (lQ (nD (jv 5) ο))) (λC s H fp=>(ze hr (jv 1) (jv 0)))) η))) η Ι))))))
   (μ (Β (bQ (ε (Φ (jv 0) ο) (ai (jv 3) η) aJ))))))))),λds M q x h=>?_⟩)
 ·have⟨ns,n,r,rfl,_⟩:=h;rfl
 ·have⟨ns,n,r,rfl,hn,Xh,hg,h⟩:=h;have two:2<=sizeLine:=@_
  walk_at "vc";dsimp only[Er,v8];walk_at "vc";refine⟨two,dz _,rfl,two,dz _,rfl,two,dz _,rfl,two,dz _,rfl,two,dz _,rfl,two,dz _,rfl,two,dz _,rfl,by decide+kernel,@_,?_⟩;dsimp only[Gw];walk_at "vc";refine⟨two,M.length,Ss.map dz,ou.map df,dz (Str.ofString "1/3"),rfl,by simp;exact⟨rfl,rfl⟩,rfl,@_,?_⟩;rw[Z9,show∀a b:MO,(M++[a]).set M.length b=M++[b] fromλa b=>by simp];cases r with
  | fin p=>
   refine⟨λ_=>?_,nofun⟩;exact⟨M.length,_,_,dz (mk (fr p)),df p,rfl,by simp[Lf],rfl,Ib (List.mem_append_left _ hg),two,h⟩
  | υ k ds=>
   have ne:k≠"end":=by rcases hg.1 with rfl| rfl| rfl <;> decide
   refine⟨λz=>aaG (aaV z) ne,λ_=>?_⟩;have av:=GL.ok hn hg;have Pd:∀d∈ds,(ae d).length<=20:=λd hd=>by
    have⟨d1,p,hp,e⟩:=hg.2.2.2 d hd;have:=mO (ch:=decide (k="chance")) (hn _ d1) hp hg.2.1 hg.2.2.1;have e2:d=(d.1,p::if decide (k="chance")=true then [((1:Int),(ds.length:Int))] else []):=by
     rw[Prod.ext_iff];refine⟨rfl,?_⟩;rw[e];by_cases hc:k="chance"
     ·rw[aaB hc,aaB (aaK hc)]
     ·rw[aay hc,aay (by rw[aao hc];decide)]
    rw[e2];exact this
   have sp:Txt.split (mk (aF (.υ k ds))) (mk [44,32])=(ds.map ae).map mk:=cN UP (λz=>by have z:=aaN List.length z;rw[aac]at z;have z:ds.length=0:=z;have:=hg.2.1;omega) λy hy z=>by have⟨d,v_,rfl⟩:=aah.mp hy;exact fb (av.2.2.2 d v_) z
   dsimp only[EC];walk_at "vc";refine⟨by show 0<=sizeLine;decide,?_⟩;have l3:=hg.2.2.1;have rl:(mk (aF (.υ k ds))).length<=100000:=by
    rw[ζ];have:=jV (s:=[44,32]) (m:=30) (ps:=ds.map ae) λy hy=>by have⟨d,v_,rfl⟩:=aah.mp hy;have:=Pd d v_;show _+2<=30;omega
    rw[aac]at this;show(jn [44,32] (ds.map ae)).length<=100000;omega
   dsimp only[HN,dM];walk_at "vc";refine(ah (d:=.lst [sD n,.str (Ω (.υ k ds)),sD (aF (.υ k ds))]) rfl (au (j:=2) rfl) ?_:fE (.lst [sD n,.str (Ω (.υ k ds)),sD (aF (.υ k ds))]) (.int 2) _ _);refine⟨⟨_,rfl⟩,?_⟩;refine(eZ (z:=mk (aF (.υ k ds))) Ka rl ?_:eJ (.str (mk (aF (.υ k ds)))) [.str (Str.ofString ", ")] _ _);rw[sp];show rO _ _ _ _ (((ds.map ae).map mk).map Dt.str) _ _;refine jf (λxs ρ M'=>∃(wa todo:List (List Nat×List Fr)) (a b:Option Dt),ds=wa++todo/\xs=((todo.map ae).map mk).map Dt.str/\M'=M++[Lf,MO.lst (wa.map λd=>oh (((ns.idxOf d.1:Nat):Int),d.2.headD (0,1),d.2.tail))]/\ρ=[some (.lst [sD n,.str (Ω (.υ k ds)),sD (aF (.υ k ds))]),some (.lst (ns.map sD)),some (.loc M.length),some (.loc (M.length+1)),a,b]) (λ_ _ _ _=>trivial) (λx xs ρ M' hj Eh=>?_) (λρ M' hj=>?_) _ _ _ ⟨[],ds,none,none,rfl,rfl,by simp,by simp⟩
   ·have⟨wa,todo,a,b,e,ex,rfl,rfl⟩:=hj;cases todo with
    | nil=>cases ex
    | cons d todo=>
     rw[aaJ,aaJ,aaJ]at ex;have⟨rfl,rfl⟩:=List.cons.inj ex;have v_:d∈ds:=by rw[e];simp
     have⟨d1,p,hp,ep⟩:=hg.2.2.2 d v_;have dl:=Pd d v_;have Zn:Txt.split (mk (ae d)) (mk [32])=(d.1::d.2.map fr).map mk:=cN OG (by simp) (h9 (hn _ d1));have ed:((d.1::d.2.map fr).map mk).map Dt.str=(d.1::d.2.map fr).map sD:=by rw[aap];rfl
     have ln:wa.length < 3:=by have:=aaN List.length e;rw[aae,aat]at this;omega
     walk_at "vc";refine⟨⟨_,rfl⟩,?_⟩;refine(eZ (z:=mk (ae d)) n_ (by rw[ζ];omega) ?_:eJ (.str (mk (ae d))) [.str (Str.ofString " ")] _ _);rw[Zn,ed];dsimp only[KW];walk_at "vc";refine⟨⟨M.length+1,_,rfl,by simp;rfl⟩,?_⟩;refine Qh (a:=some (.lst [sD n,.str (Ω (.υ k ds)),sD (aF (.υ k ds))])) (b:=some (.loc (M.length+1))) (c:=some (.str (mk (ae d)))) (i:=M.length) d1 (λp' D8=>?_) (by rw[ep];simp) (by rw[ep];split <;> simp) (by simp) ⟨M.length+1,_,_,rfl,rfl,by simp;rfl,by rw[List.length_map];exact Nat.lt_of_lt_of_le ln @_,?_⟩
     ·rw[ep]at D8;rcases aam.mp D8 with rfl| D8
      ·exact aa1 _ hp
      ·split at D8
       ·rw[abd.mp D8];have h1:=hg.2.1;have s:ds.length=1\/ds.length=2\/ds.length=3:=()
        rcases s with s| s| s <;> rw[s] <;> decide+kernel
       ·cases D8
     ·refine Eh _ _ ⟨wa++[d],todo,_,_,by rw[e];simp,rfl,?_,rfl⟩;simp
   ·have⟨wa,todo,a,b,e,ex,rfl,rfl⟩:=hj;cases todo with
    | cons d todo=>cases ex
    | nil=>
     rw[aaO]at e;subst e;walk_at "vc";refine(ah (d:=.lst [sD n,.str (Ω (.υ k ds)),sD (aF (.υ k ds))]) rfl (au (j:=1) rfl) ?_:fE (.lst [sD n,.str (Ω (.υ k ds)),sD (aF (.υ k ds))]) (.int 1) _ _);refine⟨two,?_⟩;have h:q (.tup [.str k,.loc (M.length+1)]) (M++[Lf,.lst ((ds.map λd=>(((ns.idxOf d.1:Nat):Int),d.2.headD (0,1),d.2.tail)).map oh)]):=h;rw[aap]at h;exact h
def cF(q:PL):Dt:=.lst [sD q.1,.str (Ω q.2),sD (aF q.2)]
structure OY(aG:Nat)(Ζ:Fr)(ak:List PL)(l:List Bool):Prop where
 lw:Lw Ζ
 ok:∀q∈ak,jM q
 len:ak.length<=13
 big:(j3 Ζ ak).length<=4000
 Pq:Fz (aY Ζ (ak.map zE)) aG l
def oZ(q:PL):(b7 q).length=q.1.length+((Ω q.2).cps.toList.length+(aF q.2).length+2):=by show(q.1++32::((Ω q.2).cps.toList++32::aF q.2)).length=_;simp only[List.length_append,List.length_cons];omega
def gP{r:NL}(h:iC r):(Ω r).cps.toList.length<=6:=by
 cases r with
 | fin p=>show(Str.ofString "end").cps.toList.length<=6;decide
 | υ k ds=>
  show k.cps.toList.length<=6;rcases h.1 with rfl| rfl| rfl <;> decide
def GL.small{r:NL}(hn:∀n∈ns,dF n)(h:GL ns r):(aF r).length<=66:=by
 cases r with
 | fin p=>have:=(hI p h).2.2;show(fr p).length<=66;omega
 | υ k ds=>
  have l3:=h.2.2.1;have:=jV (s:=[44,32]) (m:=22) (ps:=ds.map ae) λy hy=>by
   have⟨d,v_,rfl⟩:=aah.mp hy;have⟨d1,p,hp,e⟩:=h.2.2.2 d v_;have:=mO (ch:=decide (k="chance")) (hn _ d1) hp h.2.1 h.2.2.1;have e2:d=(d.1,p::if decide (k="chance")=true then [((1:Int),(ds.length:Int))] else []):=by
    rw[Prod.ext_iff];refine⟨rfl,?_⟩;rw[e];by_cases hc:k="chance"
    ·rw[aaB hc,aaB (aaK hc)]
    ·rw[aay hc,aay (by rw[aao hc];decide)]
   rw[e2];show _+2<=22;omega
  rw[aac]at this;show(jn [44,32] (ds.map ae)).length<=66;omega
def wL{rs:List NL}(hn:∀n∈ns,dF n)(hg:∀r∈rs,GL ns r){a:PL}(ha:a∈zp ns rs):(b7 a).length<=198:=by have ⟨h1,h2⟩:=abx ha;have a1:=(hn _ h1).2.1;have a2:=(hg _ h2).small hn;have a3:=gP ((hg _ h2).ok hn);rw[oZ];omega
def bI{q:DQ}(h:a.length+b.length<=16777216)(k:q (sD (a++b)) M):dI (sD a) (sD b) M q:=by refine⟨by rw[ζ,ζ];exact ι h,?_⟩;rw[aa];exact k
def jP(r:NL):List Nat:=32::((Ω r).cps.toList++32::aF r)
def mE{k:Str}{ps:List Fr}(ht:t=32::jn [32] (ps.map fr))(hp:ps≠[]):32::(k.cps.toList++32::jn [44,32] (List.replicate 7 (a++t)))=jP (.υ k (List.replicate 7 (a,ps))):=by
 unfold jP;show _=32::(k.cps.toList++32::jn [44,32] ((List.replicate 7 (a,ps)).map ae));rw[List.map_replicate];have:ae (a,ps)=a++t:=by
  rw[ht];cases ps with
  | nil=>exact aaG rfl hp
  | cons p r=>rfl
 rw[this]
def JC(s k:String)(h:tx s=32::(tx k++[32]))(t:List Nat):tx s++t=32::((Str.ofString k).cps.toList++32::t):=by rw[h];simp only[List.cons_append,List.append_assoc,List.nil_append];rfl
def HS(a b:List Nat):[tx " one "++jn [44,32] (List.replicate 7 (a++tx " 1")),tx " other "++jn [44,32] (List.replicate 7 (a++tx " 1")),tx " chance "++a++tx " 1 1/2, "++b++tx " 0 1/3",tx " chance "++jn [44,32] (List.replicate 7 (a++tx " 1 1/7"))]=(kI a b).map jP:=by
 have k1:∀t,tx " one "++t=32::((Str.ofString "one").cps.toList++32::t):=JC _ _ (by decide+kernel);have k2:∀t,tx " other "++t=32::((Str.ofString "other").cps.toList++32::t):=JC _ _ (by decide+kernel);have k3:∀t,tx " chance "++t=32::((Str.ofString "chance").cps.toList++32::t):=JC _ _ (by decide+kernel);have e3:tx " chance "++a++tx " 1 1/2, "++b++tx " 0 1/3"=jP (.υ "chance" [(a,[(1,1),(1,2)]),(b,[(0,1),(1,3)])]):=by rw[aaQ,aaQ,aaQ,k3];unfold jP;show _=32::((Str.ofString "chance").cps.toList++32::((a++([32]++(fr (1,1)++([32]++fr (1,2)))))++([44,32]++(b++([32]++(fr (0,1)++([32]++fr (1,3))))))));rw[show tx " 1 1/2, "=([32]++(fr (1,1)++([32]++fr (1,2))))++[44,32] by decide+kernel,show tx " 0 1/3"=[32]++(fr (0,1)++([32]++fr (1,3))) by decide+kernel];simp only[List.append_assoc]
 rw[k1,k2,e3,k3,mE (ps:=[(1,1)]) (by decide+kernel) (by simp),mE (ps:=[(1,1)]) (by decide+kernel) (by simp),mE (ps:=[(1,1),(1,7)]) (by decide+kernel) (by simp)];rfl
def vf(ha:a.length<=8)(hb:b.length<=8):∀r∈kI a b,(jP r).length<=180:=by
 intro r hr;have hm:jP r∈(kI a b).map jP:=aah.mpr ⟨r,hr,rfl⟩;have j1:=jV (s:=[44,32]) (m:=14) (ps:=List.replicate 7 (a++tx " 1")) λp hp=>by rw[aa3 hp,aae,show(tx " 1").length=2 by decide+kernel];show _+2<=14;omega
 have j2:=jV (s:=[44,32]) (m:=20) (ps:=List.replicate 7 (a++tx " 1 1/7")) λp hp=>by rw[aa3 hp,aae,show(tx " 1 1/7").length=6 by decide+kernel];show _+2<=20;omega
 rw[aak]at j1 j2;rw[<-HS]at hm;have c1:(tx " one ").length=5:=by decide+kernel
 have c2:(tx " other ").length=7:=by decide+kernel
 have c3:(tx " chance ").length=8:=by decide+kernel
 have c4:(tx " 1 1/2, ").length=8:=by decide+kernel
 have c5:(tx " 0 1/3").length=6:=by decide+kernel
 simp only[List.mem_cons,List.not_mem_nil,or_false]at hm;rcases hm with e| e| e| e <;> rw[e] <;> simp only[List.length_append] <;> omega
def Fj{α:Type} [BEq α] [LawfulBEq α]:∀{l m:List α},l.Nodup->(∀x∈l,x∈m)->l.length<=m.length
 | [],_,_,_=>aa2 _
 | a::l,m,nd,h=>by have nd:=aa9.mp nd;have ha:=h a aaf;have:=Fj (l:=l) (m:=m.erase a) nd.2 λx hx=>(List.mem_erase_of_ne (λe=>nd.1 (by rw[<-e];exact hx))).mpr (h x (aag _ hx));rw[List.length_erase_of_mem ha]at this;have:=List.length_pos_of_mem ha;rw[aat];omega
def HD{r:NL}{n:List Nat}:∀{ns:List (List Nat)} {rs:List NL} {i:Nat},ns[i]? =some n->(zp ns rs).set i (n,r)=zp ns (rs.set i r)
 | [],_,_,h=>by simp at h
 | m::ns,[],i,_=>by simp[zp]
 | m::ns,s::rs,0,h=>by
  have h:m=n:=by simpa using h
  rw[h];rfl
 | m::ns,s::rs,i+1,h=>congrArg ((m,s):: ·) (HD (ns:=ns) (rs:=rs) (i:=i) (by simpa using h))
structure S1(ns:List (List Nat))(way:Int)(aG:Nat)(rs:List NL)(l:List Bool):Prop where
 len:ns.length=rs.length
 ok:∀r∈rs,iC r/\LN ns r/\(jP r).length<=180
 Pq:(aB (ns.length:Int) (rs.map (jL ns)) 0=some aG/\l=[false,false,false,true])\/(way % 2=0/\l=[false,false,true,false])
structure S2(ns:List (List Nat))(way:Int)(aG:Nat)(rs:List NL)(sh:Fr)(l:List Bool):Prop where
 len:ns.length=rs.length
 ok:∀r∈rs,iC r/\LN ns r/\(jP r).length<=180
 lw:Lw sh
 sl:(eG sh).length<=100
 Pq:(aB (ns.length:Int) (rs.map (jL ns)) 0=some aG/\sh=(1,2)/\l=[false,false,false,true])\/(bR sh=false/\l=[false,false,true,false])\/(way % 2=0/\way / 2 % 2=0)
def Br{rs:List NL}(hn:∀n∈ns,dF n)(h:∀r∈rs,iC r/\LN ns r/\(jP r).length<=180):∀q∈zp ns rs,jM q/\(b7 q).length<=198:=λq hq=>by have ⟨h1,h2⟩:=abx hq;have a:=(hn _ h1).2.1;have b:=(h _ h2).2.2;refine⟨⟨hn _ h1,(h _ h2).1⟩,?_⟩;show(q.1++jP q.2).length<=198;rw[aae];omega
def p9{p:Fr}{ak:List PL}(hp:(eG p).length<=198)(h:∀q∈ak,(b7 q).length<=198)(hl:ak.length<=13):(j3 p ak).length<=4000:=by
 have:=jV (s:=[59,32]) (m:=200) (ps:=eG p::ak.map b7) λy hy=>by
  show _+2<=200;rcases aam.mp hy with rfl| hy
  ·omega
  ·have⟨q,hq,rfl⟩:=aah.mp hy;have:=h q hq;omega
 rw[aat,aac]at this;show(jn [59,32] (eG p::ak.map b7)).length<=4000;omega
def sQ:bR (1,2)=true:=by decide+kernel
def S2.spt{way:Int}{aG:Nat}{rs:List NL}{sh:Fr}{l:List Bool}(h:S2 ns way aG rs sh l)(hn:∀n∈ns,dF n)(nd:ns.Nodup)(h6:ns.length<=6)(h1:1<=ns.length)(hw:way≠0)(hw0:0<=way)(hw8:way < 8)(h4:way / 4≠1):OY aG sh (zp ns rs) l:=by
 have zo:=Br hn h.ok;have zl:(zp ns rs).length=ns.length:=by rw[abc];have:=h.len;omega
 have len:=h.len;refine⟨h.lw,λq hq=>(zo q hq).1,(),p9 (by have:=h.sl;omega) (λq hq=>(zo q hq).2) (),?_⟩;rw[lG h.len nd λr hr=>(h.ok r hr).2.1];rcases h.Pq with ⟨h2,rfl,rfl⟩| ⟨h2,rfl⟩| ⟨a,b⟩
 ·rw[aaB ⟨sQ,(),()⟩,<-len,h2];exact⟨rfl,rfl⟩
 ·rw[aay (λz=>by rw[h2]at z;exact aaG z.1 @_)];rfl
 ·omega
def S2.name{way:Int}{aG:Nat}{rs:List NL}{sh:Fr}{l:List Bool}{q:PL}(h:S2 ns way aG rs sh l)(hn:∀n∈ns,dF n)(h6:ns.length<=6)(hq:jM q)(hb:(b7 q).length<=198)(hd:aY sh ((zp ns rs++[q]).map zE)= .name):OY aG sh (zp ns rs++[q]) [false,true,false,false]:=by
 have zo:=Br hn h.ok;have zl:(zp ns rs).length=ns.length:=by rw[abc];have:=h.len;omega
 have all:∀q'∈zp ns rs++[q],jM q'/\(b7 q').length<=198:=λq' eK=>by
  rcases aaj.mp eK with z| z
  ·exact zo q' z
  ·rw[abd.mp z];exact⟨hq,hb⟩
 have ll:(zp ns rs++[q]).length<=13:=by rw[aae];show _+1<=13;omega
 refine⟨h.lw,λq' eK=>(all q' eK).1,ll,p9 (by have:=h.sl;omega) (λq' eK=>(all q' eK).2) ll,?_⟩;rw[hd];rfl
def He(aG:Nat):OY aG (1,2) [] [false,false,true,false]:=by refine⟨jS (by simp),λ_ z=>(nomatch z),@_,p9 (by decide+kernel) (λ_ z=>(nomatch z)) @_,?_⟩;show Fz (aY (1,2) ((zp [] []).map zE)) _ _;rw[lG (ns:=[]) (rs:=[]) rfl (by simp) λ_ z=>(nomatch z)];rfl
def vy:List (List Nat):=(List.range 13).map λi=>[97+i]
def r6:List PL:=zp vy (List.replicate 13 (.fin (0,1)))
def Hz(aG:Nat):OY aG (1,2) r6 [false,false,true,false]:=by
 have nm:∀n∈vy,dF n:=λn hn=>by have⟨i,hi,rfl⟩:=aah.mp hn;have:=abk.mp hi;refine⟨aaq _,(by show 1<=8;decide),λc hc=>?_⟩;rw[abd.mp hc];omega
 have zo:=Br (rs:=List.replicate 13 (.fin (0,1))) nm λr hr=>by rw[aa3 hr];exact⟨jS (by simp),trivial,by decide+kernel⟩
 refine⟨jS (by simp),λq hq=>(zo q hq).1,@_,p9 (by decide+kernel) (λq hq=>(zo q hq).2) @_,?_⟩;show Fz (aY (1,2) ((zp vy (List.replicate 13 (.fin (0,1)))).map zE)) _ _;rw[lG rfl (by decide+kernel) λr hr=>by rw[aa3 hr];trivial,aay (λz=>aaG z.2.2 @_)];rfl
def Jz:cb (Str.ofString "abcdefghijklm")=vy.map sD:=by show(tx "abcdefghijklm").map (λc=>Dt.str ⟨#[c]⟩)=_;rw[show tx "abcdefghijklm"=(List.range 13).map (97+ ·) by decide+kernel,aap];unfold vy;rw[aap];rfl
def Nz:(vy.map λa=>b7 (a,.fin (0,1)))=r6.map b7:=by decide+kernel
def Hh{s:Str}{q:DQ}(hs:s=mk t)(hv:ρ[1]? =some (some (.lst (ns.map sD))))(h0:iF (ns.map sD) 0=some (sD a))(ha:a.length<=8)(ht:t.length<=10)(h:q (sD (jn [44,32] (List.replicate 7 (a++t)))) M):
  Hj qO (dC (.str (Str.ofString ", "))) (bW (cz Kz (IY (bW (cz dI (cz fE (aH 1) (dC (.int 0))) (dC (.str s))) fC)) (dC (.int 7))) fC) ρ M q x:=by
 subst hs;dsimp only[Hj,dC,bW,fC,cz,IY,aH];rw[hv];refine⟨⟨_,rfl⟩,?_⟩;refine(ah (d:=.lst (ns.map sD)) rfl h0 ?_:fE (.lst (ns.map sD)) (.int 0) M _);refine(bI (a:=a) (b:=t) () ?_:dI (sD a) (.str (mk t)) M _);refine⟨by show 1<=sizeLine;decide,⟨@_,@_,by show 1 * 7<=sizeLine;decide⟩,?_⟩;refine et (ps:=List.replicate 7 (a++t)) Ka rfl 7 40 (by rw[aak];decide) (λp hp=>?_) @_ h;rw[aa3 hp,aae];show _+2<=40;omega
def BD:sD (eG (1,2))=Dt.str (Str.ofString "share 1/2"):=aaN Dt.str (by decide+kernel)
def bD(ns:List (List Nat)):Dt->Bool
 | .str z=> !decide ((kh 8 z).cps.toList∈ns)
 | _=>false
def fD:Dt->Dt
 | .str z=>.str (kh 8 z)
 | d=>d
def K2(h6:ns.length<=6):∃c,97<=c/\c<=122/\List.replicate 8 c∉ns/\∃r,((cb (Str.ofString "abcdefg")).filter (bD ns)).map fD=sD (List.replicate 8 c)::r:=by
 have ev:cb (Str.ofString "abcdefg")=((List.range 7).map (97+ ·)).map λc=>Dt.str (mk [c]):=by show(tx "abcdefg").map (λc=>Dt.str ⟨#[c]⟩)=_;rw[show tx "abcdefg"=(List.range 7).map (97+ ·) by decide+kernel];rfl
 have bd:∀c,bD ns (.str (mk [c]))= !decide (List.replicate 8 c∈ns):=λc=>by show(!decide ((kh 8 (mk [c])).cps.toList∈ns))=_;rw[jE,aL]
 rw[ev];cases e:(((List.range 7).map (97+ ·)).map λc=>Dt.str (mk [c])).filter (bD ns) with
 | nil=>
  exfalso;have:=Fj (l:=((List.range 7).map (97+ ·)).map (List.replicate 8)) (m:=ns) (by decide+kernel) λx hx=>by have⟨c,hc,rfl⟩:=aah.mp hx;have:=List.filter_eq_nil_iff.mp e (.str (mk [c])) (aah.mpr ⟨c,hc,rfl⟩);rw[bd]at this;simpa using this
  rw[aac,aac,List.length_range]at this;omega
 | cons x xs=>
  have hx:x∈(((List.range 7).map (97+ ·)).map λc=>Dt.str (mk [c])).filter (bD ns):=by rw[e];simp
  have⟨h1,h2⟩:=List.mem_filter.mp hx;have⟨c,hc,rfl⟩:=aah.mp h1;have⟨i,hi,rfl⟩:=aah.mp hc;have:=abk.mp hi;rw[bd]at h2;refine⟨97+i,(),(),by simpa using h2,xs.map fD,?_⟩;rw[aaJ,show fD (Dt.str (mk [97+i]))=sD (List.replicate 8 (97+i)) by show Dt.str (kh 8 (mk [97+i]))=_;rw[jE];rfl]
def Kt:List.replicate 7 c++tx " other "++List.replicate 8 c++tx " 0"=b7 (List.replicate 7 c,.υ "other" [(List.replicate 8 c,[(0,1)])]):=by show _=List.replicate 7 c++32::((Str.ofString "other").cps.toList++32::(List.replicate 8 c++([32]++fr (0,1))));rw[show tx " 0"=[32]++fr (0,1) by decide+kernel,aaQ,aaQ,JC " other " "other" (by decide+kernel)]
def Pu{q:DQ}(hv:ρ[1]? =some (some (.lst (ns.map sD))))(e0:iF (ns.map sD) 0=some (sD a))(e1:iF (ns.map sD) (-1)=some (sD b))(al:a.length<=8)(bl:b.length<=8)(h:q (sD (tx " chance "++a++tx " 1 1/2, "++b++tx " 0 1/3")) M):
  cz dI (cz dI (cz dI (cz dI (dC (.str (Str.ofString " chance "))) (cz fE (aH 1) (dC (.int 0)))) (dC (.str (Str.ofString " 1 1/2, ")))) (cz fE (aH 1) (L7 DR (dC (.int 1))))) (dC (.str (Str.ofString " 0 1/3"))) ρ M q x:=by
 have c3:(tx " chance ").length=8:=by decide+kernel
 have c4:(tx " 1 1/2, ").length=8:=by decide+kernel
 have c5:(tx " 0 1/3").length=6:=by decide+kernel
 dsimp only[cz,dC,aH,L7];rw[hv];refine(ah (d:=.lst (ns.map sD)) rfl e0 ?_:fE (.lst (ns.map sD)) (.int 0) _ _);refine(bI (a:=tx " chance ") (b:=a) () ?_:dI (.str (Str.ofString " chance ")) (sD a) _ _);refine(bI (a:=tx " chance "++a) (b:=tx " 1 1/2, ") (by rw[aae];omega) ?_:dI (sD (tx " chance "++a)) (.str (Str.ofString " 1 1/2, ")) _ _);dsimp only[DR];refine(ah (d:=.lst (ns.map sD)) rfl e1 ?_:fE (.lst (ns.map sD)) (.int (-1)) _ _);refine(bI (a:=tx " chance "++a++tx " 1 1/2, ") (b:=b) (by simp only[List.length_append];omega) ?_:dI (sD (tx " chance "++a++tx " 1 1/2, ")) (sD b) _ _);exact(bI (a:=tx " chance "++a++tx " 1 1/2, "++b) (b:=tx " 0 1/3") (by simp only[List.length_append];omega) h:dI (sD (tx " chance "++a++tx " 1 1/2, "++b)) (.str (Str.ofString " 0 1/3")) _ _)
def Qg{q:DQ}(hv:ρ[1]? =some (some (.lst (ns.map sD))))(h6:ns.length<=6)(h:∀c,97<=c->c<=122->List.replicate 8 c∉ns->q (sD (List.replicate 8 c)) M):
  cz fE (Fd 1 (dM (dC (.str (Str.ofString "abcdefg")))) (gN 0) (kY (cz vC (cz qq (aH 0) (dC (.int 8))) (aH 1))) (cz qq (aH 0) (dC (.int 8))) [1]) (dC (.int 0)) ρ M q x:=by
 have⟨c,c1,c2,hc,r,er⟩:=K2 h6;show((cb (Str.ofString "abcdefg")).length<=sizeLine/\ir (gN 0) _ _ (List.replicate 1 none++gY [1] ρ) _ (cb (Str.ofString "abcdefg")) [] M _);have TJ:gY [1] ρ=[some (.lst (ns.map sD))]:=by unfold gY;simp[hv]
 rw[TJ];refine⟨by decide+kernel,gW trivial (bD ns) fD _ _ (λy hy q' p' h1 h2=>?_) ?_⟩
 ·have⟨c,_,rfl⟩:=aah.mp hy;have mul:∀{M:Ms} {q:DQ},q (sD (List.replicate 8 c)) M->qq (.str (mk [c])) (.int 8) M q:=λ{M q} h=>by refine⟨⟨@_,@_,by rw[ζ];exact Nat.le_add_left 1 99,by rw[ζ];exact Nat.one_ne_zero⟩,?_⟩;rw[show(8:Int).toNat=8 from rfl,jE];exact h
  have bd:bD ns (.str (mk [c]))= !decide (List.replicate 8 c∈ns):=by show(!decide ((kh 8 (mk [c])).cps.toList∈ns))=_;rw[jE,aL]
  have fd:fD (.str (mk [c]))=sD (List.replicate 8 c):=by show Dt.str (kh 8 (mk [c]))=_;rw[jE];rfl
  have h1:bD ns (.str (mk [c]))=true->q' (fD (.str (mk [c]))) M:=h1;have h2:bD ns (.str (mk [c]))=false->p' M:=h2;rw[bd]at h1 h2;rw[fd]at h1;dsimp only[gN,kY,cz,aH,dC,List.replicate,List.cons_append,List.nil_append,List.set_cons_zero,List.getElem?_cons_zero,List.getElem?_cons_succ];refine mul ⟨_,_,_,rfl,rfl,mT ns,?_⟩;rw[x3];cases hb:(!decide (List.replicate 8 c∈ns)) with
  | true=>exact mul (h1 hb)
  | false=>exact h2 hb
 ·rw[aaI,er];exact(ah rfl dj (h c c1 c2 hc):fE (.lst (sD (List.replicate 8 c)::r)) (.int 0) M q)
def gJ{s p:List Nat}:∀{ps:List (List Nat)},p∈ps->p.length<=(jn s ps).length
 | [q],h=>by rw[abd.mp h];exact aaq _
 | q::r::t,h=>by
  show _<=(q++(s++jn s (r::t))).length;rw[aae,aae];rcases aam.mp h with rfl| h
  ·omega
  ·have:=gJ (s:=s) h;omega
def Lz{q:DQ}{i k:Nat}{ak:List PL}(hv:ρ[i]? =some (some (.loc k)))(hk:M[k]? =some (.lst (ak.map cF)))(hb:∀a∈ak,(b7 a).length<=198)(hl:ak.length<=12)(h:q (.loc M.length) (M++[.lst (ak.map λa=>sD (b7 a))])):
  h_ (dM (aH i)) (Hj qO (dC (.str (Str.ofString " "))) (bW (aH 0) fC)) [] ρ M q x:=by
 dsimp only[h_];refine dU (d:=.loc k) (xs:=ak.map cF) (ok:=λM'=>M'[k]? =some (.lst (ak.map cF))) hv (by show(match M[k]? with| some (MO.lst xs)=>some (xs,λM':Ms=>M'[k]? =some (MO.lst xs))| _=>none)=_;rw[hk]) ⟨by rw[aac];exact ι (),?_⟩;refine cS (F:=λx a=>x=cF a/\a∈ak) (f:=λa=>sD (b7 a)) hk (λx a ha q' eK=>?_) (gA cF ak ak λ_ h=>h) ?_
 ·have⟨rfl,ha⟩:=ha;have hb:=hb a ha;rw[oZ]at hb;dsimp only[Hj,dC,bW,fC,aH,List.getElem?_cons_zero];refine⟨⟨_,rfl⟩,?_⟩;refine et (ps:=[a.1,(Ω a.2).cps.toList,aF a.2]) n_ rfl 3 200 (aaq _) (λy hy=>?_) @_ eK;have:y=a.1\/y=(Ω a.2).cps.toList\/y=aF a.2:=by simpa using hy
  show _+1<=200;rcases this with rfl| rfl| rfl <;> omega
 rw[aaI];exact h
def Bl:DF:=λas M q _=>∃(k:Nat) (ns:List (List Nat)) (rs:List NL) (fault:Int) (aG:Nat),as=[.loc k,.lst (ns.map sD),.int fault,.int aG]/\M[k]? =some (.lst ((zp ns rs).map cF))/\ns.length=rs.length/\ns.length<=6/\aG < ns.length/\ns.Nodup/\(∀n∈ns,dF n)/\(∀r∈rs,GL ns r)/\0<=fault/\∀E Ζ ak l,OY aG Ζ ak l->q (.tup [sD (j3 Ζ ak),.lst (l.map Dt.bl)]) (M++[E])
def Χ:Δ ["_law_parts","_law_names_here","_law_fault","_law_spot","_law_rows","_law_share","_law_way","_law_due","_law_thirteen","_law_seven","_law_less","_law_some","_law_lone"] ["_law_parts","_law_names_here","_law_fault","_law_spot"] (π kO):=.of rfl
def vz(F:eE K "_law_spoilt" "_law_spoilt" kO f fd)(E:Ev K mg Cl CT Ce Cf Cg Ca):ay P w K mg base (bP P w) 1 f fd ["_law_parts","_law_names_here","_law_fault","_law_spot"] (eN K Bl):=by
 refine F.ip Χ (λds M q x h=>?_) (λbC A outer s H E' hr=>⟨_,(θ (eQ (i:=4) Χ.nd rfl (Or.inl rfl) (ys:=[]) (Γ:=[]) (.of Χ rfl rfl rfl) (bw (jv 0)) (λC s H fp=>(cM χ (ai (jv 0) η))))
   (θ (τ 5 Χ.nd χ)
   (θ (τ 6 Χ.nd (aU (bO (jv 2) ο) ο))
   (θ (τ 7 Χ.nd (aZ (ε mm (ε mm (ε mm (ε mm η Ε) Ε) Ε) Ε)))
   (θ (Υ (cG hr (jv 6) ο) (θ (τ 8 Χ.nd (cM χ (ε (ij (ys:=[]) (Γ:=[]) (.of Χ rfl rfl rfl) (bw χ) (λC s H fp=>(ν (jv 0) χ))) η)))
   (μ (Β (bQ (ε (Φ (aZ (ε χ (ε (ν χ (jv 8)) η Ι) Ε)) (aU (bO (jv 2) ο) ο)) (ai (jv 7) η) aJ))))) Α)
   (θ (cj (Υ (cG hr (aU (jv 6) ο) ο) (θ (τ 9 Χ.nd (cM χ (ε (xJ (aZ (ε (ν (Φ (jv 1) ο) χ) η Ι)) ο) η Ι)))
   (θ (τ 10 Χ.nd (ν (ν (ν (ν χ (Φ (jv 1) ο)) χ) (Φ (jv 1) (nN ο))) χ))
   (θ (τ 11 Χ.nd (cM χ (ε (xJ (aZ (ε (ν (Φ (jv 1) ο) χ) η Ι)) ο) η Ι)))
   (θ (qF (jv 4) (jv 3) (ν (Φ (jv 1) (jv 3)) (Φ (aZ (ε (ν χ (jv 9)) (ε (ν χ (jv 9)) (ai (jv 10) (ε (ν χ (jv 11)) η Ι)) Ι) Ι)) (aU (bO (jv 2) ο) ο))))
   (μ (τ 7 Χ.nd (aZ (ε mm (ε mm (ε mm (ε mm η Ε) Ε) Ε) Ε)))))))) Α))
   (θ (cj (Υ (cG hr (aU (bO (jv 6) ο) ο) ο) (θ (τ 5 Χ.nd (Φ (fL 3 (d:=.lst [.str "share 1",.str "share -1/2",.str "share 1/1001"]) (by rfl)) (aU (bO (jv 2) ο) ο)))
   (μ (τ 7 Χ.nd (aZ (ε mm (ε mm (ε mm (ε mm η Ε) Ε) Ε) Ε))))) Α))
   (θ (cj (Υ (cG hr (bO (jv 6) ο) ο) (θ (τ 12 Χ.nd (Φ (FL (ys:=["_law_names_here"]) (Γ:=[1]) (.of Χ rfl rfl rfl) (bw χ) (λC s H fp=>(sG (uS (jv 0) ο) (jv 1))) (λC s H fp=>(uS (jv 0) ο))) ο))
   (θ (oX (qA (jv 4) (ε (Φ (aZ (ε (ν (Φ (jv 1) (jv 3)) χ) (ε (ν (ν (ν (jk (jv 12) ο) χ) (jv 12)) χ) η Ι) Ι)) (aU (bO (jv 2) ο) ο)) η aJ)))
   (μ (τ 7 Χ.nd (aZ (ε mm (ε mm (ε mm (ε mm η Ε) Ε) Ε) Ε)))))) Α))
   (μ (Β (bQ (ε (cM χ (ε (cU (aZ (ai (jv 5) η)) (jv 4)) η Ι)) (ai (jv 7) η) cy)))))))))))),λds M q x h=>?_⟩)
 ·have⟨k,ns,rs,fault,aG,rfl,_⟩:=h;rfl
 ·have⟨kp,ns,rs,fault,aG,rfl,hkp,hl,h6,hs,nd,hn,hg,f0,h⟩:=h;walk_at "vc";have zl:(zp ns rs).length=ns.length:=by rw[abc];omega
  refine Lz (i:=0) (k:=kp) rfl hkp (λa ha=>wL hn hg ha) () ?_;refine⟨⟨@_,bg (k:=2) @_⟩,@_,by show 4<=sizeLine;decide,?_⟩;have w0:0<=fault / 2 % 8:=aaR _ @_;have w8:fault / 2 % 8 < 8:=aaL _ @_;generalize hw:fault / 2 % 8=way at w0 w8⊢;refine⟨λz=>?_,λz=>?_⟩
  ·refine⟨⟨_,rfl⟩,?_⟩;show((cb (Str.ofString "abcdefghijklm")).length<=sizeLine/\jd _ _ _ (cb (Str.ofString "abcdefghijklm")) [] _ _);rw[Jz];refine⟨by show 13<=sizeLine;decide,?_⟩;refine cS (F:=λx a=>x=sD a/\a∈vy) (f:=λa=>sD (b7 (a,.fin (0,1)))) trivial (λx a ha q' eK=>?_) (gA sD vy vy λ_ h=>h) ?_
   ·have⟨rfl,ha⟩:=ha;have⟨i,hi,rfl⟩:=aah.mp ha;refine(bI (a:=[97+i]) (b:=tx " end 0") (by show 1+(tx " end 0").length<=16777216;decide+kernel) ?_:dI (sD [97+i]) (.str (Str.ofString " end 0")) _ _);rw[show tx " end 0"=32::((Str.ofString "end").cps.toList++32::fr (0,1)) by decide+kernel];exact eK
   rw[aaI];refine et (ps:=r6.map b7) ER (by show some _=_;rw[<-Nz,aap];rfl) 13 20 (by decide+kernel) (by decide+kernel) @_ ?_;refine(bI (a:=tx "share 1/2; ") (b:=jn [59,32] (r6.map b7)) (by decide+kernel) ?_:dI (.str (Str.ofString "share 1/2; ")) (sD (jn [59,32] (r6.map b7))) _ _);refine⟨pz,⟨@_,bg (k:=5) @_⟩,@_,?_⟩;have key:∀l:List Dt,l=[((1,2),([]:List PL)),((1,2),r6)].map (λy:Fr×List PL=>sD (j3 y.1 y.2))->∀{i:Int},0<=i->i < 2->∀{M:Ms} {q:DQ},(∀y∈[((1,2),([]:List PL)),((1,2),r6)],q (sD (j3 y.1 y.2)) M)->fE (.lst l) (.int i) M q:=λl e i h0 h1 M q h=>by rw[e];exact jm h0 h1 h
   refine key _ (aaN (List.map sD) (show[tx "share 1/2",tx "share 1/2; "++jn [59,32] (r6.map b7)]=[j3 (1,2) [],j3 (1,2) r6] by decide+kernel)) (aaR _ @_) (aaL _ @_) λy hy=>⟨pz,?_⟩;have:y=((1,2),[])\/y=((1,2),r6):=by simpa using hy
   rcases this with rfl| rfl
   ·exact h _ _ _ _ (He aG)
   ·exact h _ _ _ _ (Hz aG)
  have wn:way≠0:=aaZ z;have n1:1<=ns.length:=()
  refine⟨λρ' M'=>∃DZ l,∃c8 c9 As zF Fn:Option Dt,S1 ns way aG DZ l/\M'=M++[MO.lst ((zp ns DZ).map λa=>sD (b7 a))]/\ρ'=[some (.loc kp),some (.lst (ns.map sD)),some (.int fault),some (.int aG),some (.loc M.length),some (.str (Str.ofString "share 1/2")),some (.int way),some (.lst (l.map Dt.bl)),c8,c9,As,zF,Fn],?_,λρ' M' hj=>?_⟩
  ·refine⟨@_,λz=>?_,λz=>?_⟩
   ·have zo:way % 2=1:=aaV z;obtain⟨a,a0⟩:∃a,ns[0]? =some a:=⟨_,aaa ()⟩;obtain⟨n,FN⟩:∃n,ns[aG]? =some n:=⟨_,aaa hs⟩;obtain⟨Wb,b,hb⟩:∃Wb b,ns=Wb++[b]:=⟨ns.dropLast,ns.getLast (λz=>by rw[z]at n1;simp at n1),(List.dropLast_concat_getLast _).symm⟩;have am:=aaA a0;have bm:b∈ns:=by rw[hb];simp
    have nm:=aaA FN;have al:=(hn a am).2.1;have bl:=(hn b bm).2.1;have nl:=(hn n nm).2.1;have e0:iF (ns.map sD) 0=some (sD a):=au (j:=0) (by rw[aaM,a0];rfl);have e1:iF (ns.map sD) (-1)=some (sD b):=by rw[hb,aaU];exact Hi _ _
    have en:iF (ns.map sD) (aG:Int)=some (sD n):=au (by rw[aaM,FN];rfl);have c3:(tx " chance ").length=8:=by decide+kernel
    have c4:(tx " 1 1/2, ").length=8:=by decide+kernel
    have c5:(tx " 0 1/3").length=6:=by decide+kernel
    dsimp only[qE,m8];refine Hh (ns:=ns) (t:=tx " 1") rfl rfl e0 al (by decide+kernel) ?_;refine Pu (ns:=ns) rfl e0 e1 al bl ?_;refine Hh (ns:=ns) (t:=tx " 1 1/7") rfl rfl e0 al (by decide+kernel) ?_;have j1:=jV (s:=[44,32]) (m:=14) (ps:=List.replicate 7 (a++tx " 1")) λp hp=>by rw[aa3 hp,aae,show(tx " 1").length=2 by decide+kernel];show _+2<=14;omega
    have j2:=jV (s:=[44,32]) (m:=20) (ps:=List.replicate 7 (a++tx " 1 1/7")) λp hp=>by rw[aa3 hp,aae,show(tx " 1 1/7").length=6 by decide+kernel];show _+2<=20;omega
    rw[aak]at j1 j2;dsimp only[vF];walk_at "vc";refine(ah (d:=.lst (ns.map sD)) rfl en ?_:fE (.lst (ns.map sD)) (.int (aG:Int)) _ _);refine(bI (a:=tx " one ") (b:=jn [44,32] (List.replicate 7 (a++tx " 1"))) (by rw[show(tx " one ").length=5 by decide+kernel];omega) ?_:dI (.str (Str.ofString " one ")) (sD (jn [44,32] (List.replicate 7 (a++tx " 1")))) _ _);refine(bI (a:=tx " other ") (b:=jn [44,32] (List.replicate 7 (a++tx " 1"))) (by rw[show(tx " other ").length=7 by decide+kernel];omega) ?_:dI (.str (Str.ofString " other ")) (sD (jn [44,32] (List.replicate 7 (a++tx " 1")))) _ _);refine(bI (a:=tx " chance ") (b:=jn [44,32] (List.replicate 7 (a++tx " 1 1/7"))) () ?_:dI (.str (Str.ofString " chance ")) (sD (jn [44,32] (List.replicate 7 (a++tx " 1 1/7")))) _ _);refine⟨by show 4<=sizeLine;decide,⟨@_,bg (k:=5) @_⟩,@_,?_⟩;have key:∀l:List Dt,l=((kI a b).map jP).map sD->∀{i:Int},0<=i->i < 4->∀{M:Ms} {q:DQ},(∀r∈kI a b,q (sD (jP r)) M)->fE (.lst l) (.int i) M q:=λl e i h0 h1 M q h=>by rw[e,aap];exact jm h0 h1 h
    refine key _ (aaN (List.map sD) (HS a b)) (aaR _ @_) (aaL _ @_) λr hr=>?_;have sm:=vf al bl r hr;have⟨o1,o2,o3⟩:=D4 (hn a am) (hn b bm) am bm r hr;refine(bI (a:=n) (b:=jP r) () ?_:dI (sD n) (sD (jP r)) _ _);refine⟨M.length,aG,_,aG,rfl,rfl,by simp;rfl,?_,?_⟩
    ·unfold By;rw[List.length_map,zl,if_pos (),if_pos ()];simp
    refine⟨by show 4<=sizeLine;decide,rs.set aG r,[false,false,false,true],_,_,_,_,_,⟨by rw[aaY];exact hl,λr' jC=>?_,.inl ⟨?_,rfl⟩⟩,?_,rfl⟩
    ·rcases abo jC with jC| rfl
     ·refine⟨(hg r' jC).ok hn,(hg r' jC).inR,?_⟩;have a:=(hg r' jC).small hn;have b:=gP ((hg r' jC).ok hn);show(32::((Ω r').cps.toList++32::aF r')).length<=180;simp only[List.length_append,List.length_cons];omega
     ·exact⟨o1,o2,sm⟩
    ·rw[List.map_set,sS o3 (λr' jC=>?_) (by rw[aac];omega),Nat.zero_add];have⟨Yi,Tb,rfl⟩:=aah.mp jC;exact(hg Yi Tb).fits
    ·rw[<-HD FN,List.map_set];simp[List.set_append];rfl
   ·exact⟨rs,_,_,_,_,_,_,⟨hl,λr hr=>⟨(hg r hr).ok hn,(hg r hr).inR,by have a:=(hg r hr).small hn;have b:=gP ((hg r hr).ok hn);show(32::((Ω r).cps.toList++32::aF r)).length<=180;simp only[List.length_append,List.length_cons];omega⟩,.inr ⟨by have:=of_decide_eq_false z;omega,rfl⟩⟩,rfl,rfl⟩
  have⟨DZ,l,c8,c9,As,zF,Fn,h1,rfl,rfl⟩:=hj;have n1:1<=ns.length:=()
  dsimp only[qE];refine⟨λρ' M'=>∃DZ sh l,∃c8 c9 As zF Fn:Option Dt,S2 ns way aG DZ sh l/\M'=M++[MO.lst ((zp ns DZ).map λa=>sD (b7 a))]/\ρ'=[some (.loc kp),some (.lst (ns.map sD)),some (.int fault),some (.int aG),some (.loc M.length),some (sD (eG sh)),some (.int way),some (.lst (l.map Dt.bl)),c8,c9,As,zF,Fn],?_,λρ' M' hj=>?_⟩
  ·refine⟨⟨@_,bg (k:=2) @_⟩,@_,λz=>?_,λz=>?_⟩
   ·refine⟨⟨@_,bg (k:=7) @_⟩,@_,?_⟩;have key:∀l:List Dt,l=([((1:Int),(1:Int)),(-1,2),(1,1001)].map eG).map sD->∀{i:Int},0<=i->i < 3->∀{M:Ms} {q:DQ},(∀p∈[((1:Int),(1:Int)),(-1,2),(1,1001)],q (sD (eG p)) M)->fE (.lst l) (.int i) M q:=λl e i h0 h1 M q h=>by rw[e,aap];exact jm h0 h1 h
    refine key _ (aaN (List.map sD) (show[tx "share 1",tx "share -1/2",tx "share 1/1001"]=[((1:Int),(1:Int)),(-1,2),(1,1001)].map eG by decide+kernel)) (aaR _ @_) (aaL _ @_) λp hp=>⟨by show 4<=sizeLine;decide,?_⟩;refine⟨DZ,p,[false,false,true,false],_,_,_,_,_,⟨h1.len,h1.ok,?_,?_,.inr (.inl ⟨?_,rfl⟩)⟩,rfl,rfl⟩
    ·have:p=(1,1)\/p=(-1,2)\/p=(1,1001):=by simpa using hp
     rcases this with rfl| rfl| rfl <;> exact jS (by simp)
    ·have:p=(1,1)\/p=(-1,2)\/p=(1,1001):=by simpa using hp
     rcases this with rfl| rfl| rfl <;> decide+kernel
    ·have:p=(1,1)\/p=(-1,2)\/p=(1,1001):=by simpa using hp
     rcases this with rfl| rfl| rfl <;> decide+kernel
   ·refine⟨DZ,(1,2),l,_,_,_,_,_,⟨h1.len,h1.ok,jS (by simp),by decide+kernel,?_⟩,rfl,by rw[BD]⟩;rcases h1.Pq with ⟨a,b⟩| ⟨a,b⟩
    ·exact .inl ⟨a,rfl,b⟩
    ·exact .inr (.inr ⟨a,by have:=aaZ z;omega⟩)
  have⟨DZ,sh,l,c8,c9,As,zF,Fn,h2,rfl,rfl⟩:=hj;clear h1;refine⟨λρ' M'=>∃ak sh l,∃c8 c9 As zF Fn:Option Dt,OY aG sh ak l/\M'=M++[MO.lst (ak.map λa=>sD (b7 a))]/\ρ'=[some (.loc kp),some (.lst (ns.map sD)),some (.int fault),some (.int aG),some (.loc M.length),some (sD (eG sh)),some (.int way),some (.lst (l.map Dt.bl)),c8,c9,As,zF,Fn],?_,λρ' M' hj=>?_⟩
  ·refine⟨⟨@_,bg (k:=3) @_⟩,λz=>?_,λz=>?_⟩
   ·obtain⟨n,FN⟩:∃n,ns[aG]? =some n:=⟨_,aaa hs⟩;have nm:=aaA FN;have nl:=(hn n nm).2.1;have en:iF (ns.map sD) (aG:Int)=some (sD n):=au (by rw[aaM,FN];rfl);have XW:(zp ns DZ).length=ns.length:=by rw[abc];have:=h2.len;omega
    dsimp only[qE,m8];refine Qg (ns:=ns) rfl h6 λc c1 c2 hc=>?_;have sl:Txt.slice (mk (List.replicate 8 c)) (some 1) none=mk (List.replicate 7 c):=kU (j:=1) (by simp);have n8:dF (List.replicate 8 c):=⟨by simp,by simp,λd hd=>by rw[List.eq_of_mem_replicate hd];exact⟨c1,c2⟩⟩;have n7:dF (List.replicate 7 c):=⟨by simp,by simp,λd hd=>by rw[List.eq_of_mem_replicate hd];exact⟨c1,c2⟩⟩;have r8:(List.replicate 8 c).length=8:=aak;have r7:(List.replicate 7 c).length=7:=aak;have lp:=Kt (c:=c);generalize List.replicate 8 c=R8 at sl n8 r8 lp hc⊢;generalize List.replicate 7 c=R7 at sl n7 r7 lp;dsimp only[A_,KW];refine⟨⟨M.length,_,rfl,by simp;rfl⟩,?_⟩;walk_at "vc";refine(ah (d:=.lst (ns.map sD)) rfl en ?_:fE (.lst (ns.map sD)) (.int (aG:Int)) _ _);refine(bI (a:=n) (b:=tx " end 1") (by rw[show(tx " end 1").length=6 by decide+kernel];omega) ?_:dI (sD n) (.str (Str.ofString " end 1")) _ _);have o7:(tx " other ").length=7:=by decide+kernel
    have o2:(tx " 0").length=2:=by decide+kernel
    refine⟨by rw[ζ,r8];decide,?_⟩;dsimp only[dC];rw[sl];refine(bI (a:=R7) (b:=tx " other ") () ?_:dI (.str (mk R7)) (.str (Str.ofString " other ")) _ _);refine(bI (a:=R7++tx " other ") (b:=R8) (by rw[aae];omega) ?_:dI (sD (R7++tx " other ")) (sD R8) _ _);refine(bI (a:=R7++tx " other "++R8) (b:=tx " 0") (by simp only[List.length_append];omega) ?_:dI (sD (R7++tx " other "++R8)) (.str (Str.ofString " 0")) _ _);refine⟨pz,⟨@_,bg (k:=8) @_⟩,@_,?_⟩;have key:∀l:List Dt,l=[(n,NL.fin (1,1)),(R7,NL.υ "other" [(R8,[(0,1)])])].map (λq:PL=>sD (b7 q))->∀{i:Int},0<=i->i < 2->∀{M:Ms} {q:DQ},(∀y∈[(n,NL.fin (1,1)),(R7,NL.υ "other" [(R8,[(0,1)])])],q (sD (b7 y)) M)->fE (.lst l) (.int i) M q:=λl e i h0 h1 M q h=>by rw[e];exact jm h0 h1 h
    have el:[sD (n++tx " end 1"),sD (R7++tx " other "++R8++tx " 0")]=[(n,NL.fin (1,1)),(R7,NL.υ "other" [(R8,[(0,1)])])].map (λq:PL=>sD (b7 q)):=by
     rw[lp,show tx " end 1"=32::((Str.ofString "end").cps.toList++32::fr (1,1)) by decide+kernel]
     try rfl
    have lz:(List.map (λa=>sD (b7 a)) (zp ns DZ)).length < sizeLine:=by rw[aac,XW];exact abm h6 @_
    refine key _ el (Int.emod_nonneg _ @_) (Int.emod_lt_of_pos _ @_) λy hy=>⟨M.length,_,_,rfl,rfl,by simp,lz,by show 4<=sizeLine;decide,zp ns DZ++[y],sh,[false,true,false,false],_,_,_,_,_,?_,by simp,rfl⟩;have:y=(n,NL.fin (1,1))\/y=(R7,NL.υ "other" [(R8,[(0,1)])]):=by simpa using hy
    rcases this with rfl| rfl
    ·refine h2.name hn h6 ⟨hn n nm,jS (by simp)⟩ ?_ (wU h2.len nm);rw[oZ];show n.length+((Str.ofString "end").cps.toList.length+(fr (1,1)).length+2)<=198;rw[show(Str.ofString "end").cps.toList.length=3 by decide+kernel,show(fr (1,1)).length=1 by decide+kernel];omega
    ·refine h2.name hn h6 ⟨n7,.inr (.inl rfl),by simp,by simp,λd hd=>?_⟩ ?_ (yP (List.mem_append_right _ (List.mem_singleton.mpr rfl)) (List.mem_singleton.mpr rfl) ?_)
     ·rw[abd.mp hd];exact⟨n8,rfl,λp hp=>by rw[List.mem_singleton.mp hp];exact jS (by simp)⟩
     ·rw[<-lp];simp only[List.length_append];omega
     ·rw[aaU,List.map_fst_zip (by have:=h2.len;omega)];intro z;rcases aaj.mp z with z| z
      ·exact hc z
      ·have z:R8=R7:=abd.mp z;rw[z]at r8;omega
   ·have z:way / 4≠1:=aaZ z;exact⟨zp ns DZ,sh,l,_,_,_,_,_,h2.spt hn nd h6 n1 wn w0 w8 z,rfl,rfl⟩
  have⟨ak,sh,l,c8,c9,As,zF,Fn,h3,rfl,rfl⟩:=hj;walk_at "vc";refine⟨⟨_,rfl⟩,by show 1<=sizeLine;decide,[sD (eG sh)],ak.map (λa=>sD (b7 a)),rfl,by show(match (M++[MO.lst (ak.map λa=>sD (b7 a))])[M.length]? with| some (MO.lst xs)=>some xs| _=>none)=_;simp,?_,?_⟩
  ·show 1+_<=sizeLine;rw[aac];exact ι (by have:=h3.len;omega)
  refine et (ps:=eG sh::ak.map b7) ER (by show some _=some _;rw[aaJ,aap];rfl) 14 4002 (by have:=h3.len;rw[aat,aac];omega) (λy hy=>?_) @_ ⟨pz,h _ _ _ _ h3⟩;have:=h3.big;have:=gJ (s:=[59,32]) hy;show _+2<=4002;have big:(jn [59,32] (eG sh::ak.map b7)).length<=4000:=h3.big;omega
def BO{s:List Nat}{ps:List (List Nat)}:∀{a:List Nat} {qs:List (List Nat)},jn s (jn s (a::qs)::ps)=jn s (a::(qs++ps))
 | a,[]=>by cases ps <;> rfl
 | a,b::qs=>by
  have ih:=BO (s:=s) (ps:=ps) (a:=b) (qs:=qs);cases ps with
  | nil=>rw[aaO];rfl
  | cons p ps=>
   show(a++(s++jn s (b::qs)))++(s++jn s (p::ps))=a++(s++jn s (b::(qs++p::ps)));rw[<-ih];show _=a++(s++(jn s (b::qs)++(s++jn s (p::ps))));simp only[List.append_assoc]
def E5:∀x∈CM t,x.length<=t.length+20:=by
 intro x hx;have c1:(tx " 0").length=2:=by decide+kernel
 have c2:(tx "/1").length=2:=by decide+kernel
 have c3:(tx "; a").length=3:=by decide+kernel
 have c4:(tx "; z end").length=7:=by decide+kernel
 have c5:(tx "; z end 2/4").length=11:=by decide+kernel
 have c6:(tx "; z end -0").length=10:=by decide+kernel
 have c7:(tx "share  ").length=7:=by decide+kernel
 have c8:(tx ";z end 0").length=8:=by decide+kernel
 unfold CM at hx;simp only[List.mem_cons,List.not_mem_nil,or_false]at hx
 rcases hx with rfl| rfl| rfl| rfl| rfl| rfl| rfl| rfl| rfl| rfl| rfl| rfl| rfl| rfl| rfl| rfl| rfl| rfl| rfl <;>
  simp only[List.length_append,List.length_cons,List.length_nil,List.length_dropLast,List.length_drop,Ν] <;> omega
def Gj{k:List Nat}:∀x∈iz n k t,x.length<=3 * n.length+k.length+t.length+30:=by
 intro x hx;have c1:(tx "A ").length=2:=by decide+kernel
 have c2:(tx "abcdefghi ").length=10:=by decide+kernel
 have c3:(tx " once ").length=6:=by decide+kernel
 have c4:(tx " End 0").length=6:=by decide+kernel
 have c5:(tx "a1 ").length=3:=by decide+kernel
 have c6:(tx " one ").length=5:=by decide+kernel
 have c7:(tx " 1/2 0 0").length=8:=by decide+kernel
 have c8:(tx " chance ").length=8:=by decide+kernel
 have c9:(tx " 1").length=2:=by decide+kernel
 have As:(tx " one B 1").length=8:=by decide+kernel
 have zF:(tx " other abcdefghi 1").length=18:=by decide+kernel
 have Fn:(tx " one  1").length=7:=by decide+kernel
 have Xk:(tx " chance a1 1 1").length=14:=by decide+kernel
 have Xn:(tx " other ").length=7:=by decide+kernel
 have We:(tx "  1").length=3:=by decide+kernel
 have W':(tx " 1,").length=3:=by decide+kernel
 have X5:(tx " 0").length=2:=by decide+kernel
 have c18:(tx " 1,  ").length=5:=by decide+kernel
 have XR:(tx "\n1").length=2:=by decide+kernel
 unfold iz at hx;simp only[List.mem_cons,List.not_mem_nil,or_false]at hx
 rcases hx with rfl| rfl| rfl| rfl| rfl| rfl| rfl| rfl| rfl| rfl| rfl| rfl| rfl| rfl| rfl| rfl| rfl| rfl| rfl| rfl| rfl| rfl| rfl| rfl| rfl| rfl| rfl <;>
  simp only[List.length_append,List.length_cons,List.length_nil] <;> omega
def JG{k:List Nat}(hn:59∉n)(hk:59∉k)(ht:59∉t):∀x∈iz n k t,59∉x:=by
 intro x hx;have c:∀s∈["A ","abcdefghi "," once "," End 0","a1 "," one "," 1/2 0 0"," chance "," 1"," one B 1"," other abcdefghi 1"," one  1"," chance a1 1 1"," other ","  1"," 1,"," 0"," 1,  ","\n1"],59∉tx s:=by decide+kernel
 simp only[List.mem_cons,List.not_mem_nil,or_false,forall_eq_or_imp,forall_eq]at c;unfold iz at hx;simp only[List.mem_cons,List.not_mem_nil,or_false]at hx
 rcases hx with rfl| rfl| rfl| rfl| rfl| rfl| rfl| rfl| rfl| rfl| rfl| rfl| rfl| rfl| rfl| rfl| rfl| rfl| rfl| rfl| rfl| rfl| rfl| rfl| rfl| rfl| rfl <;>
  simp[hn,hk,ht,c]
def Jn {nm : List (List Nat)} {rs : List NL}  {r : NL} (h : nm[rs.length]? = some n) : zp nm (rs ++ [r]) = zp nm rs ++ [(n,r)] :=by
  induction rs generalizing nm with
  | nil =>
    cases nm with
    | nil =>simp at h
    | cons m nm => have h : m = n := by simpa using h
                   rw[h];simp[zp]
  | cons s rs ih =>
    cases nm with
    | nil =>simp at h
    | cons m nm =>exact congrArg ((m,s) :: ·) (ih (by simpa using h))
def Fh{n:Nat}(h:ns.length<=12):Pl (n+1) (.lst (ns.map sD)):=by refine⟨by rw[aac];omega,λe he=>?_⟩;have⟨p,_,rfl⟩:=aah.mp he;cases n <;> trivial
def Et{n:Nat}:∀l:List Bool,Dt.br n (l.map Dt.bl)
 | []=>trivial
 | _::l=>⟨trivial,Et l⟩
def FF{sh:Fr}{ak:List PL}{Μ:List (List Nat)}{x:List Nat}(ok:∀q∈ak,jM q)(Xz:∀p∈Μ,59∉p)(hx:x∈Μ)(hb:Τ (mk x)=none):aQ (Txt.split (mk (jn [59,32] (j3 sh ak::Μ))) (mk [59,32]))= .text:=by
 have e:jn [59,32] (j3 sh ak::Μ)=mi (eG sh::(ak.map b7++Μ)):=BO;rw[e];refine qu (λp hp=>?_) (aal _ hx) hb;rcases aam.mp hp with rfl| hp
 ·exact kg sh
 ·rcases aaj.mp hp with hp| hp
  ·exact HH ok (p:=sh) p (aag _ hp)
  ·exact Xz p hp
def dt:Δ ["_law_script","_law_first","_law_fault","_law_many","_law_names_here","_law_parts","_law_at","_law_cell","_law_rows","_law_spot","_law_found","_law_due","_law_text"] ["_law_script"] (π M6):=.of rfl
def M9   (F:eE K "law" "law" M6 f fd) (E:Ev K mg Cl CT Ce Cf Cg Ca) {J6:Addr} {JY:FuncData} (je:aV P w K mg base 1 "_law_nth" ["_law_script","_law_k"] KY J6 JY) {Dm:Addr} {Dv:FuncData} (kz:aV P w K mg base 1 "_law_names" ["_law_cell","_law_many"] FI Dm Dv) {HB:Addr} {HQ:FuncData} (nh:aV P w K mg base 3 "_law_part" ["_law_cell","_law_at","_law_names_here","_law_size"] LZ HB HQ) {kr:Addr} {kX:FuncData} (cZ:aV P w K mg base 7 "read_floor" ["text"] (j_ Cl CT Ce Cf Cg) kr kX) {nz:Addr} {mI:FuncData} (bq:aV P w K mg base 7 "_law_alike" ["_law_found","_law_due"] (mW 6) nz mI) {wF:Addr} {xB:FuncData} (hV:E3 P w K mg base 1 Cl "share" ["self"] (E_ Cl) wF xB) {JJ:Addr} {Js:FuncData} (qD:aV P w K mg base 1 "_law_row" ["_law_part_here","_law_names_here"] LA JJ Js) {zy:Addr} {zj:FuncData} (iH:E3 P w K mg base 2 Cl "rows" ["self"] (LG Cl) zy zj) {Ae:Addr} {zC:FuncData} (iY:aV P w K mg base 1 "_law_spoilt" ["_law_parts","_law_names_here","_law_fault","_law_spot"] Bl Ae zC) {wH:Addr} {xj:FuncData} (hJ:aV P w K mg base 1 "_law_bad_form" ["_law_text","_law_cell"] xG wH xj) {xE:Addr} {wO:FuncData} (gS:aV P w K mg base 1 "_law_bad_part" ["_law_part_here","_law_cell"] xH xE wO) {wk:Addr} {xf:FuncData} (g8:aV P w K mg base 8 "_law_refused" ["_law_text","_law_due","_law_spot"] wx wk xf):ay P w K mg base (bP P w) 9 f fd ["_law_script"] (eN K OH):=by
 refine F.ip dt (λds M q x h=>?_) (λbC A outer s H E' hr=>⟨_,(θ (τ 1 dt.nd (aU (aK je hr Θ (ai (jv 0) (ε ο η Ε))) (Gs ο ο)))
   (θ (τ 2 dt.nd (aU (aK je hr Θ (ai (jv 0) (ε ο η Ε))) (Gs ο ο)))
   (θ (τ 3 dt.nd (ν ο (aU (jv 1) ο)))
   (θ (τ 4 dt.nd (lQ (aK kz hr Θ (ε (bO (jv 1) ο) (ai (jv 3) η) Ι))))
   (θ (τ 5 dt.nd (Hq η))
   (θ (F_ (fw E.ej (ai (jv 3) η)) (bS (i:=6) dt.nd rfl (Or.inl rfl)) bV (θ (τ 7 dt.nd (ν (aK je hr Θ (ai (jv 0) (ε (ν ο (jv 6)) η Ι))) (jv 6)))
   (μ (oX (qA (jv 5) (ε (aK nh hr Θ (ε (bO (jv 7) ο) (ai (jv 6) (ai (jv 4) (ε (ν ο (aU (jv 7) ο)) η Ι))) Ι)) η cy))))))
   (θ (eQ (i:=8) dt.nd rfl (Or.inl rfl) (ys:=[]) (Γ:=[]) (.of dt rfl rfl rfl) (bw (jv 5)) (λC s H fp=>(cM χ (ai (jv 0) η))))
   (θ (τ 9 dt.nd (aU (bO (jv 2) ο) (jv 3)))
   (θ (Υ (cG hr (aU (jv 2) ο) ο) (θ (τ 10 dt.nd (aK cZ hr Θ (ε (cM χ (ε (cU (fL 3 (d:=.lst [.str "share 1/2"]) (by rfl)) (jv 8)) η Ι)) η cy)))
   (θ (Υ (JW.jt (nZ (mK (dq (bH K E.ω (ai (jv 10) (ai (ik E.d8 c_) η))))) (nZ (fJ hr (b_ E.bG (ai (jv 10) η)) ο) (kW (mK (dq (aK bq hr Θ (ε (B3 hV hr Θ (Φ (jv 10) ο)) (ε (bQ (ε ο (ε ο η Ε) Ε)) η Lq) cy)))))))) (μ (Β mm)) Α)
   (θ (xq (i:=11) dt.nd rfl (Or.inl rfl) (ys:=["_law_names_here"]) (Γ:=[4]) (.of dt rfl rfl rfl) (bw (jv 5)) (λC s H fp=>(lQ (aK qD hr (gX (P:=P) (w:=w)) (ai (jv 0) (ai (jv 1) η))))))
   (μ (Β (ck (aK bq hr Θ (ε (lQ (B3 iH hr Θ (Φ (jv 10) ο))) (ai (jv 11) η) cy)) (dY (aK bq hr Θ (ε (Φ (jv 10) ο) (ai (jv 4) η) aJ))))))))) Α)
   (θ (Jm (lQ (aK iY hr Θ (ai (jv 5) (ai (jv 4) (ai (jv 2) (ai (jv 9) η)))))) (zS rfl (dk (bS (i:=12) dt.nd rfl (Or.inl rfl)) (dk (bS (i:=11) dt.nd rfl (Or.inl rfl)) oE))))
   (θ (cj (Υ (cG hr (aU (bO (jv 1) ο) ο) ο) (θ (τ 11 dt.nd (aZ (ε mm (ε mm (ε mm (ε mm η Ε) Ε) Ε) Ε)))
   (μ (Υ (cG hr (aU (bO (jv 1) ο) ο) ο) (μ (τ 12 dt.nd (aK hJ hr Θ (ai (jv 12) (ε (bO (jv 1) ο) η Ι))))) (θ (qF (jv 8) (jv 9) (aK gS hr Θ (ε (Φ (jv 5) (jv 9)) (ε (bO (jv 1) ο) η Ι) aJ)))
   (μ (τ 12 dt.nd (cM χ (ε (cU (aZ (ai (jv 12) η)) (jv 8)) η Ι)))))))) Α))
   (μ (Β (aK g8 hr Θ (ai (jv 12) (ai (jv 11) (ai (jv 9) η))))))))))))))))),λds M q x h=>?_⟩)
 ·have⟨ns,rfl,_⟩:=h;rfl
 ·have⟨ns,rfl,hl,hq⟩:=h;have Xq:KH 10 12:=⟨@_,@_,@_⟩;have WL:(0:Int) < 10 ^ (12:Int).toNat:=@_
  walk_at "vc";refine⟨@_,Xq,WL,@_,Xq,WL,@_,⟨@_,bg (k:=3) @_⟩,?_⟩;have f0:0<=CI ns 0 % 10 ^ (12:Int).toNat:=aaR _ @_;have f1:CI ns 0 % 10 ^ (12:Int).toNat < 10 ^ 12:=aaL _ @_;have g0:0<=CI ns 1 % 10 ^ (12:Int).toNat:=aaR _ @_;generalize CI ns 0 % 10 ^ (12:Int).toNat=first at f0 f1⊢
  generalize CI ns 1 % 10 ^ (12:Int).toNat=fault at g0⊢;obtain⟨bF,em⟩:∃bF:Nat,(1+first % 6:Int)=bF:=⟨(1+first % 6).toNat,()⟩;rw[em];have m1:1<=bF:=()
  have m6:bF<=6:=()
  refine⟨first / 6,bF,rfl,(),(),m1,(),λnm SG=>vc (vg nm) ?_⟩;have⟨nl,hn,nd⟩:=SG;dsimp only[EC];walk_at "vc";refine⟨by show 0<=sizeLine;decide,⟨(),()⟩,?_⟩;refine pF (λxs ρ M'=>∃(n k:Nat) (rs:List NL) (a b:Option Dt),xs=iW k n/\k+n=bF/\rs.length=k/\(∀r∈rs,GL nm r)/\M'=M++[MO.lst ((zp nm rs).map cF)]/\ρ=[some (.oK ns),some (.int first),some (.int fault),some (.int bF),some (.lst (nm.map sD)),some (.loc M.length),a,b,none,none,none,none,none]) (λx xs ρ M' hj Eh=>?_) (λρ M' hj=>?_) _ _ _ ⟨bF,0,[],none,none,by rw[Int.toNat_natCast];rfl,(),rfl,λ_ z=>(nomatch z),by simp[zp],rfl⟩
  ·have⟨n,k,rs,a,b,ex,S7,TK,hg,rfl,rfl⟩:=hj;have⟨m,rfl,rfl,rfl⟩:=tP ex;obtain⟨nk,WU⟩:∃n,nm[k]? =some n:=⟨_,aaa ()⟩;dsimp only[KW];walk_at "vc";refine⟨(),⟨M.length,_,rfl,by simp;rfl⟩,⟨@_,bg (k:=2) @_⟩,@_,?_⟩;obtain⟨sz,es⟩:∃sz:Nat,(1+(CI ns (2+(k:Int))+(k:Int)) % 3:Int)=sz:=⟨(1+(CI ns (2+(k:Int))+(k:Int)) % 3).toNat,()⟩;have lz:((zp nm rs).map cF).length < sizeLine:=by rw[aac,abc];exact abm (show _<=6 by omega) @_
   refine⟨_,k,nm,sz,nk,by rw[<-es],WU,hn,(),(),λr hr=>⟨M.length,_,_,rfl,rfl,by simp,lz,?_⟩⟩;refine Eh _ _ ⟨m,k+1,rs++[r],_,_,rfl,(),by rw[aae,TK];rfl,λr' jC=>?_,?_,rfl⟩
   ·rcases aaj.mp jC with jC| jC
    ·exact hg r' jC
    ·rw[abd.mp jC];exact hr
   ·rw[Jn (by rw[TK];exact WU),aaU];simp;rfl
  ·have⟨n,k,rs,a,b,ex,S7,TK,hg,rfl,rfl⟩:=hj;have hn0:n=0:=by have:=aaN List.length ex;unfold iW at this;simpa using this.symm
   subst hn0;have Le:nm.length=rs.length:=()
   have zl:(zp nm rs).length=nm.length:=by rw[abc];omega
   dsimp only[qE,m8];refine Lz (i:=5) (k:=M.length) rfl (by simp) (λa ha=>wL hn hg ha) () ?_;obtain⟨aG,ZF⟩:∃aG:Nat,(fault / 384 % (bF:Int):Int)=aG:=⟨(fault / 384 % (bF:Int)).toNat,by have:=aaR (fault / 384) (show(bF:Int)≠0 by omega);omega⟩;have sl:aG < nm.length:=by have:=aaL (fault / 384) (show(0:Int) < bF by omega);omega
   refine⟨⟨@_,bg (k:=9) @_⟩,(),?_⟩;rw[ZF];have zo:=Br (rs:=rs) hn λr hr=>⟨(hg r hr).ok hn,(hg r hr).inR,by have a:=(hg r hr).small hn;have b:=gP ((hg r hr).ok hn);show(32::((Ω r).cps.toList++32::aF r)).length<=180;simp only[List.length_append,List.length_cons];omega⟩;have r8:Fw (M++[MO.lst ((zp nm rs).map cF)]++[MO.lst ((zp nm rs).map λa=>sD (b7 a))]) (.loc (M.length+1))=some ((zp nm rs).map λa=>sD (b7 a)):=by show(match (M++[MO.lst ((zp nm rs).map cF)]++[MO.lst ((zp nm rs).map λa=>sD (b7 a))])[M.length+1]? with| some (MO.lst xs)=>some xs| _=>none)=_;simp
   have e8:List.length (M++[MO.lst ((zp nm rs).map cF)])=M.length+1:=by simp
   have a5:(M++[MO.lst ((zp nm rs).map cF)]++[MO.lst ((zp nm rs).map λa=>sD (b7 a))])[M.length]? =some (.lst ((zp nm rs).map cF)):=by simp
   have a8:(M++[MO.lst ((zp nm rs).map cF)]++[MO.lst ((zp nm rs).map λa=>sD (b7 a))])[M.length+1]? =some (.lst ((zp nm rs).map λa=>sD (b7 a))):=by simp
   rw[e8];generalize M++[MO.lst ((zp nm rs).map cF)]++[MO.lst ((zp nm rs).map λa=>sD (b7 a))]=M2 at r8 a5 a8⊢;have av:=λq hq=>(zo q hq).1;have big:(j3 (1,2) (zp nm rs)).length<=4000:=p9 (by decide+kernel) (λq hq=>(zo q hq).2) ();refine⟨@_,λz=>?_,λz=>?_⟩
   ·dsimp only[qE,m8];walk_at "vc";refine⟨⟨_,rfl⟩,_,_,rfl,r8,?_,?_⟩
    ·show 1+_<=sizeLine;rw[aac];exact ι ()
    refine et (ps:=eG (1,2)::(zp nm rs).map b7) ER (by show some _=some _;rw[aaJ,aap,BD];rfl) 7 4002 (by rw[aat,aac];omega) (λy hy=>?_) @_ ?_
    ·have:=gJ (s:=[59,32]) hy;have big:(jn [59,32] (eG (1,2)::(zp nm rs).map b7)).length<=4000:=big;show _+2<=4002;omega
    refine⟨mk (j3 (1,2) (zp nm rs)),rfl,by rw[ζ];omega,(E4 av () ()).2,?_⟩;have RA:∀r∈rs.map (jL nm),fM r:=λr hr=>by have⟨r',jC,rfl⟩:=aah.mp hr;exact GX (LU ((hg r' jC).ok hn)) (EM (hg r' jC).inR)
    have UQ:(rs.map (jL nm)).length<=12:=by rw[aac];omega
    rw[x4 (jS (by simp)) av,lG Le nd λr hr=>(hg r hr).inR,if_pos ⟨sQ,(),()⟩,pe λr hr=>by
     have⟨r',jC,rfl⟩:=aah.mp hr
     rw[<-Le];exact(hg r' jC).fits]
    dsimp only[QH];have two:2<=sizeLine:=@_
    have WE:(M2++[MO.lst ((nm.map mk).map Dt.str),gu (nm.map mk)])[M2.length]? =some (.lst (nm.map sD)):=by rw[Lr];simp
    have Vu:(M2++[MO.lst ((nm.map mk).map Dt.str),gu (nm.map mk)])[M.length]? =some (.lst ((zp nm rs).map cF)):=by rw[aav (aai.mp a5).1];exact a5
    generalize M2++[MO.lst ((nm.map mk).map Dt.str),gu (nm.map mk)]=M3 at WE Vu⊢;refine⟨_,_,_,_,true,rfl,rfl,rfl,dZ,nofun,λ_=>?_⟩;refine⟨nofun,λ_=>?_⟩;refine⟨⟨_,_,.inl rfl,rfl⟩,(1,2),_,rfl,two,df (1,2),df (1,2),rfl,BR _,.old (nC _),nofun,λ_=>?_⟩;dsimp only[ko];refine dU (i:=5) (d:=.loc M.length) (xs:=(zp nm rs).map cF) (ok:=λM'=>M'[M.length]? =some (.lst ((zp nm rs).map cF))) rfl (by show(match M3[M.length]? with| some (MO.lst xs)=>some (xs,λM':Ms=>M'[M.length]? =some (MO.lst xs))| _=>none)=_;rw[Vu]) ⟨by rw[aac];exact ι (),?_⟩;refine cS (F:=λx a=>x=cF a/\a∈zp nm rs) (f:=λa=>dJ (jL nm a.2)) Vu (λx a ha q' eK=>?_) (gA cF (zp nm rs) (zp nm rs) λ_ h=>h) ?_
    ·have⟨rfl,ha⟩:=ha;have ga:=hg _ (abx ha).2;have⟨n,r⟩:=a;refine⟨nm,n,r,rfl,hn,(),ga,?_⟩;cases r with
     | fin p=>exact kL (.old (vt (.fin p))) eK
     | υ k ds=>exact kL (.tup (.cons (.old trivial) (.cons (.zv (Nat.le_succ _) (by rw[aba];rfl) (eA.old (lA _))) .nil))) eK
    rw[aaI];have el:((zp nm rs).map λa=>dJ (jL nm a.2))=(rs.map (jL nm)).map dJ:=by rw[aap,show((zp nm rs).map λa=>dJ (jL nm a.2))=((zp nm rs).map (·.2)).map (dJ ∘ jL nm) by rw[aap];rfl,List.map_snd_zip ()]
    rw[el];generalize rs.map (jL nm)=Μ at RA UQ⊢;refine⟨⟨_,_,.inl rfl,rfl⟩,(1,2),Μ,rfl,UQ,RA,?_⟩;rw[aaQ];refine kL (d':=.lst (Μ.map dJ)) (.zv (Nat.le_add_right _ _) (by simp) (Gf Μ M3 _)) ?_;refine⟨_,_,rfl,KD UQ RA,.old (qf _),λ_=>?_,nofun⟩;exact⟨.loc M2.length,.lst (nm.map sD),rfl,Fh (),.zv (aa2 _) (by rw[Nat.sub_zero];exact WE) (eA.old (vg nm)),hq _⟩
   ·dsimp only[sC,qE,m8,Lp];walk_at "vc";refine⟨M.length,nm,rs,fault,aG,rfl,a5,Le,(),sl,nd,hn,hg,g0,λE0 sh ak l hs=>kL (E:=[E0]) (.old ?_) ?_⟩
    ·exact⟨trivial,Et l,trivial⟩
    have tail:∀pp:List Nat,pp∈eG sh::ak.map b7->pp.length<=4000:=λpp Y2=>by have:=gJ (s:=[59,32]) Y2;have big:(jn [59,32] (eG sh::ak.map b7)).length<=4000:=hs.big;omega
    have six:6<=(j3 sh ak).length:=by
     have:=gJ (s:=[59,32]) (p:=eG sh) (ps:=eG sh::ak.map b7) aaf;have e:(eG sh).length=5+((fr sh).length+1):=by unfold eG;rw[List.length_append];rfl
     show 6<=(jn [59,32] (eG sh::ak.map b7)).length;omega
    have sb:=hs.big;refine⟨λρ' M'=>∃t l,SV t/\Fz (aQ (Txt.split (mk t) (mk [59,32]))) aG l/\ρ'=[some (.oK ns),some (.int first),some (.int fault),some (.int bF),some (.lst (nm.map sD)),some (.loc M.length),a,b,some (.loc (M.length+1)),some (.int aG),none,some (.lst (l.map Dt.bl)),some (sD t)],?_,λρ' M' hj=>?_⟩
    ·refine⟨⟨@_,bg (k:=3) @_⟩,@_,λz=>?_,λz=>?_⟩
     ·dsimp only[qE,m8];refine⟨by show 4<=sizeLine;decide,⟨@_,bg (k:=5) @_⟩,@_,λz=>?_,λz=>?_⟩
      ·refine⟨⟨@_,bg (k:=6) @_⟩,j3 sh ak,first / 42,rfl,six,(),λx hx=>?_⟩;have bt:=CV hs.lw hs.ok x hx;have bl:=E5 x hx;exact⟨x,[true,false,false,false],wo () bt,by rw[bt];rfl,rfl⟩
      ·obtain⟨pa,Wk⟩:∃pa,(zp nm rs)[aG]? =some pa:=⟨_,aaa ()⟩;have Za:=aaA Wk;have⟨po,pb⟩:=zo pa Za;rw[oZ]at pb;dsimp only[qE,vF];walk_at "vc";refine(ah (d:=.loc M.length) (xs:=(zp nm rs).map cF) (by show(match M2[M.length]? with| some (MO.lst xs)=>some xs| _=>none)=_;rw[a5]) (au (by rw[aaM,Wk];rfl)) ?_:fE (.loc M.length) (.int (aG:Int)) M2 _);refine⟨⟨@_,bg (k:=6) @_⟩,pa.1,(Ω pa.2).cps.toList,aF pa.2,first / 42,rfl,po.1.2.1,by have:=gP po.2;omega,(),λy hy=>?_⟩;have yl:=Gj y hy;have kl:=gP po.2;have p8:=po.1.2.1;refine⟨M.length+1,aG,_,aG,rfl,rfl,a8,?_,?_⟩
       ·unfold By;rw[List.length_map,zl,if_pos (),if_pos ()];simp
       have el:(((zp nm rs).map λa=>sD (b7 a)).set aG (sD y))=(((zp nm rs).map b7).set aG y).map sD:=by rw[List.map_set,aap];rfl
       rw[el];have yb:∀p∈((zp nm rs).map b7).set aG y,p.length<=300/\59∉p:=λp hp=>by
        rcases abo hp with hp| rfl
        ·have⟨q,hq,rfl⟩:=aah.mp hp;have:=(zo q hq).2;exact⟨(),λz=>by have:=mS (zo q hq).1 z;omega⟩
        ·refine⟨(),JG (mj po.1 @_) (λz=>by have:=gB po.2 z;omega) (λz=>by have:=vn po.2 z;omega) _ hy⟩
       have ym:y∈((zp nm rs).map b7).set aG y:=List.mem_set (by rw[aac];omega) y;have rl:(((zp nm rs).map b7).set aG y).length<=6:=by rw[aaY,aac];omega
       generalize ((zp nm rs).map b7).set aG y=ue at yb ym rl⊢;have l3:Fw (M2.set (M.length+1) (.lst (ue.map sD))) (.loc (M.length+1))=some (ue.map sD):=by show(match (M2.set (M.length+1) (.lst (ue.map sD)))[M.length+1]? with| some (MO.lst xs)=>some xs| _=>none)=_;rw[aaS (aai.mp a8).1]
       refine⟨⟨_,rfl⟩,by show 1<=sizeLine;decide,_,_,rfl,l3,by show 1+_<=sizeLine;rw[aac];exact ι (),?_⟩;have bt:=FF (sh:=sh) hs.ok (λp hp=>(yb p hp).2) ym (Cy po.1 po.2 y hy);have jl:=jV (s:=[59,32]) (m:=4002) (ps:=[j3 sh ak]) λp hp=>by rw[abd.mp hp];show _+2<=4002;omega
       have jl2:=jV (s:=[59,32]) (m:=302) (ps:=ue) λp hp=>by have:=(yb p hp).1;show _+2<=302;omega
       refine et (ps:=j3 sh ak::ue) ER (by show some _=some _;rw[aaJ];rfl) 7 4002 (by rw[aat];omega) (λp hp=>?_) @_ ?_
       ·show _+2<=4002;rcases aam.mp hp with rfl| hp
        ·omega
        ·have:=(yb p hp).1;omega
       refine⟨_,[true,false,false,false],wo ?_ bt,by rw[bt];rfl,rfl⟩;cases ue with
       | nil=>cases ym
       | cons r0 Y4=>
        show(j3 sh ak++([59,32]++jn [59,32] (r0::Y4))).length<=9000;rw[aae,aae];show _+(2+_)<=9000;omega
     ·exact⟨j3 sh ak,l,E4 hs.ok (by have:=hs.len;omega) (),by rw[x4 hs.lw hs.ok];exact hs.Pq,rfl⟩
    have⟨t,l',h1,h2,rfl⟩:=hj;exact⟨t,l',aG,rfl,h1,h2,λM'=>hq M'⟩
structure FT(K:gV)(f:Addr)(x:Str)(st:Stmt):Prop where
 a:PySem.W.nsIn K mainGlobals x=some (some (.ref f))
 e:∃fd,eE K x x st f fd
structure FM(K:gV)(C f:Addr)(m x:Str)(st:Stmt):Prop where
 a:PySem.W.findIn K (.ref C) m=some (some (.ref f))
 i:PySem.W.isFn K (.ref f)=true
 e:∃fd,eE K m x st f fd
section
variable{K:gV}{m x:Str}{st:Stmt}{oc:Value}{od an:Option Addr}{z_:Array (Option Value)}{kV doc pm bC ct:Value}
def FT.of(a:PySem.W.nsIn K mainGlobals x=some (some (.ref f)))(l:K.lookup f=some ⟨oc,od,.func (PySem.W.fnOf x x (jr st) (eP st) (π st) .none kV doc pm an bC ct),z_⟩)(c:PySem.W.codeIn K bC x=true)(k:PySem.W.keepIn K (.ref f)=true):FT K f x st:=⟨a,_,Ih l c k⟩
def FM.of(a:PySem.W.findIn K (.ref C) m=some (some (.ref f)))(i:PySem.W.isFn K (.ref f)=true)(l:K.lookup f=some ⟨oc,od,.func (PySem.W.fnOf m x (jr st) (eP st) (π st) .none kV doc pm an bC ct),z_⟩)(c:PySem.W.codeIn K bC x=true)(k:PySem.W.keepIn K (.ref f)=true):FM K C f m x st:=⟨a,i,_,Ih l c k⟩
end
section
variable{P:List Value->Prop}
def Qo(h:P []):∀us:List Value,us.length=0->P us
 | [],_=>h
 | _::_,e=>nomatch e
def dN(h:∀a0:Value,P [a0]):∀us:List Value,us.length=1->P us
 | [],e=>nomatch e
 | a::us,e=>Qo (P:=λus=>P (a::us)) (h a) us (Nat.succ.inj e)
def dP(h:∀a0 a1:Value,P [a0,a1]):∀us:List Value,us.length=2->P us
 | [],e=>nomatch e
 | a::us,e=>dN (P:=λus=>P (a::us)) (h a) us (Nat.succ.inj e)
def HM(h:∀a0 a1 a2:Value,P [a0,a1,a2]):∀us:List Value,us.length=3->P us
 | [],e=>nomatch e
 | a::us,e=>dP (P:=λus=>P (a::us)) (h a) us (Nat.succ.inj e)
def EU(h:∀a0 a1 a2 a3:Value,P [a0,a1,a2,a3]):∀us:List Value,us.length=4->P us
 | [],e=>nomatch e
 | a::us,e=>HM (P:=λus=>P (a::us)) (h a) us (Nat.succ.inj e)
end
def vb{K:gV}(h:PySem.W.subIn K (.type "int") (.type "bool")=some false):PySem.W.kitOne K (.type "int") (.type "bool")=some false:=by unfold PySem.W.kitOne PySem.W.kitCls;rw[aay (by decide+kernel)];show(if PySem.W.kitMeta "bool"=true then _ else _)=_;rw[aaB (by decide+kernel)];exact h
def xg{K:gV}(h:PySem.W.subIn K (.type "int") (.type "str")=some false):PySem.W.kitOne K (.type "int") (.type "str")=some false:=by unfold PySem.W.kitOne PySem.W.kitCls;rw[aay (by decide+kernel)];show(if PySem.W.kitMeta "str"=true then _ else _)=_;rw[aaB (by decide+kernel)];exact h
def sd{K:gV}(h:PySem.W.subIn K (.type "tuple") (.type "str")=some false):PySem.W.kitOne K (.type "tuple") (.type "str")=some false:=by unfold PySem.W.kitOne PySem.W.kitCls;rw[aay (by decide+kernel)];show(if PySem.W.kitMeta "str"=true then _ else _)=_;rw[aaB (by decide+kernel)];exact h
def rP{K:gV}(h:PySem.W.subIn K (.type "tuple") (.type "int")=some false):PySem.W.kitOne K (.type "tuple") (.type "int")=some false:=by unfold PySem.W.kitOne PySem.W.kitCls;rw[aay (by decide+kernel)];show(if PySem.W.kitMeta "int"=true then _ else _)=_;rw[aaB (by decide+kernel)];exact h
def ud{K:gV}(h:PySem.W.subIn K (.type "list") (.type "str")=some false):PySem.W.kitOne K (.type "list") (.type "str")=some false:=by unfold PySem.W.kitOne PySem.W.kitCls;rw[aay (by decide+kernel)];show(if PySem.W.kitMeta "str"=true then _ else _)=_;rw[aaB (by decide+kernel)];exact h
def vO{K:gV}(h:PySem.W.subIn K (.type "list") (.type "int")=some false):PySem.W.kitOne K (.type "list") (.type "int")=some false:=by unfold PySem.W.kitOne PySem.W.kitCls;rw[aay (by decide+kernel)];show(if PySem.W.kitMeta "int"=true then _ else _)=_;rw[aaB (by decide+kernel)];exact h
def pQ{K:gV}(h:PySem.W.subIn K (.type "tuple") (.type "list")=some false):PySem.W.kitOne K (.type "tuple") (.type "list")=some false:=by unfold PySem.W.kitOne PySem.W.kitCls;rw[aay (by decide+kernel)];show(if PySem.W.kitMeta "list"=true then _ else _)=_;rw[aaB (by decide+kernel)];exact h
def pV{K:gV}(h:PySem.W.subIn K (.type "list") (.type "tuple")=some false):PySem.W.kitOne K (.type "list") (.type "tuple")=some false:=by unfold PySem.W.kitOne PySem.W.kitCls;rw[aay (by decide+kernel)];show(if PySem.W.kitMeta "tuple"=true then _ else _)=_;rw[aaB (by decide+kernel)];exact h
open PySem.W in
def all_mk{l:OpenLaw}{w:World}{K:Frag}{h:Heap}{fa Cd Ce Cf Ca Cl A0 Cg f1 f2 f3 f4 f5 f6 f7 f8 f9 YW Zw f12 f13 Zy ZG ZW Y0 YF Zs ZP f21 XJ YI ZK Zc YV Xd f28 YC f30 ZS ZJ X6 Xu Z4 f36 f37 f38 Z8:Addr}(X:K.In h)(G:h.Ns mainGlobals mg)(XO:mg "law"=some (.ref fa))
  {uJ sj se jQ CD rj Ck pS:Tok}
  (HL:nsIn K mainGlobals "NoText"=some (some (.ref Cd))) (Hg:excIn K Cd [.type "ValueError",.type "Exception",.type "BaseException",.type "object"] "ValueError.__new__"=true)
  (Fv:nsIn K mainGlobals "NoName"=some (some (.ref Ce))) (Gi:excIn K Ce [.type "ValueError",.type "Exception",.type "BaseException",.type "object"] "ValueError.__new__"=true)
  (Cr:nsIn K mainGlobals "NoFloor"=some (some (.ref Cf))) (Dc:excIn K Cf [.type "ValueError",.type "Exception",.type "BaseException",.type "object"] "ValueError.__new__"=true)
  (wD:nsIn K mainGlobals "DuelError"=some (some (.ref Ca))) (wJ:excIn K Ca [.type "ValueError",.type "Exception",.type "BaseException",.type "object"] "ValueError.__new__"=true)
  (sI:nsIn K mainGlobals "NoPlace"=some (some (.ref Cg)))
  (uW:nsIn K mainGlobals "MOST_DOORS"=some (some (.int (6) uJ)))
  (rJ:nsIn K mainGlobals "MOST_BOTTOM"=some (some (.int (1000000) sj)))
  (rQ:nsIn K mainGlobals "MOST_PLACES"=some (some (.int (12) se)))
  (jR:nsIn K mainGlobals "MOST_SHARE_BOTTOM"=some (some (.int (1000) jQ)))
  (Dy:nsIn K mainGlobals "FIGURES"=some (some (.str "0123456789" CD)))
  (qw:nsIn K mainGlobals "MOST_FIGURES"=some (some (.int (60) rj)))
  (Du:nsIn K mainGlobals "LETTERS"=some (some (.str "abcdefghijklmnopqrstuvwxyz" Ck)))
  (qR:nsIn K mainGlobals "MOST_LETTERS"=some (some (.int (8) pS)))
  (Ki:nsIn K mainGlobals "Floor"=some (some (.ref Cl))) (ua:plainGet K Cl Str.empty=true) (t_:hasDictIn K Cl=true) (uw:plainOver K Cl=true) (vW:findIn K (.ref Cl) "__setattr__"=some (some (.builtin "object.__setattr__"))) (Jf:makesIn K Cl=true) (K3:keepIn K (.ref Cl)=true)
  (uU:findIn K (.ref Cl) "kept_rows"=some none)
  (r9:findIn K (.ref Cl) "kept_share"=some none)
  {Ek Gh:Tok} {Ft:Option Addr} {Hm:Array (Option Value)} {Ep:Nat} (Gn:nsIn K mainGlobals "HANDS"=some (some (.ref A0))) (G6:K.lookup A0=some ⟨.type "tuple",Ft,.seq #[(.str "one" Ek),(.str "other" Gh)] Ep,Hm⟩)
  (xw:subIn K (.type "int") (.type "bool")=some false)
  (zu:subIn K (.type "int") (.type "str")=some false)
  (uf:subIn K (.type "tuple") (.type "str")=some false)
  (uH:subIn K (.type "tuple") (.type "int")=some false)
  (xX:subIn K (.type "list") (.type "str")=some false)
  (w4:subIn K (.type "list") (.type "int")=some false)
  (rM:subIn K (.type "tuple") (.type "list")=some false)
  (rH:subIn K (.type "list") (.type "tuple")=some false)
  (t1:FT K f1 "_law_nth" vM)
  (t2:FT K f2 "_law_names" nA)
  (t3:FT K f3 "_law_number" kn)
  (t4:FT K f4 "_law_door" pv)
  (t5:FT K f5 "_law_part" pO)
  (t6:FT K f6 "read_figures" gU)
  (t7:FT K f7 "read_top" qN)
  (t8:FT K f8 "common_divisor" fq)
  (t9:FT K f9 "fraction" mV)
  (XC:FT K YW "read_fraction" fV)
  (YJ:FT K Zw "read_share" kx)
  (t12:FT K f12 "is_name" vQ)
  (X2:FT K f13 "read_name" mz)
  (t14:FT K Zy "read_door" mL)
  (ZE:FT K ZG "read_row" qW)
  (Zj:FT K ZW "read_place" kP)
  (Yh:FT K Y0 "numbers_of" kB)
  (t18:FT K YF "numbered_door" gb)
  (t19:FT K Zs "numbered_row" hW)
  (Z':FT K ZP "fits_share" kZ)
  (Zm:FT K f21 "fits_pay" pT)
  (t22:FT K XJ "fits_door" nB)
  (Zb:FT K YI "fits_doors" kQ)
  (t24:FT K ZK "common_bottom" fW)
  (Z_:FT K Zc "fits_chances" ia)
  (Y9:FT K YV "fits_row" pC)
  (Yj:FM K Cg Xd "__init__" "NoPlace.__init__" hZ)
  (ZC:FT K f28 "copied_row" k4)
  (ZR:FM K Cl YC "__init__" "Floor.__init__" kG)
  (Ye:FT K f30 "read_floor" ki)
  (Z6:FT K ZS "_law_alike" gM)
  (X9:FM K Cl ZJ "share" "Floor.share" i6)
  (Zz:FT K X6 "_law_row" uM)
  (YR:FM K Cl Xu "rows" "Floor.rows" kq)
  (X3:FT K Z4 "_law_spoilt" kO)
  (Yw:FT K f36 "_law_bad_form" iR)
  (t37:FT K f37 "_law_bad_part" iJ)
  (t38:FT K f38 "_law_refused" iM)
  (t39:FT K Z8 "law" M6)
  (Pz:nsIn K mainGlobals "len"=some none)
  (RZ:nsIn K mainGlobals "abs"=some none)
  (vd:nsIn K mainGlobals "isinstance"=some none)
  (Po:nsIn K mainGlobals "int"=some none)
  (Nq:nsIn K mainGlobals "bool"=some none)
  (RK:nsIn K mainGlobals "str"=some none)
  (Kk:nsIn K mainGlobals "tuple"=some none)
  (Me:nsIn K mainGlobals "list"=some none)
  (Kx:nsIn K mainGlobals "range"=some none)
  (wA:nsIn K mainGlobals "enumerate"=some none)
  (Q5:nsIn K mainGlobals "any"=some none)
  (Qi:nsIn K mainGlobals "all"=some none)
  (P8:nsIn K mainGlobals "sum"=some none)
  (Pb:nsIn K mainGlobals "min"=some none)
  (vm:nsIn K mainGlobals "ValueError"=some none)
  (Rt:specialIn K (.ref Ca) "__getattribute__"=some (some (.builtin "type.__getattribute__")))
  (Qt:readsIn K Ca (.type "type")=true)
  (Ro:findCls K (.ref Ca) (.type "type") "__init__"=some (.val (.builtin "ValueError.__init__")))
  (w6:isClsIn K Cd=true)
  (zP:findIn K (.ref Cd) "__getattribute__"=some (some (.builtin "BaseException.__getattribute__")))
  (zG:findIn K (.ref Cd) "__getattr__"=some none)
  (Ad:findIn K (.ref Cd) "__class__"=some (some (.builtin "object.__class__")))
  (Au:mroIn K Cd (.type "object")=some true)
  (zz:subIn K (.ref Cd) (.type "BaseException")=some true)
  (z5:findIn K (.ref Cd) "place"=some none)
  (Hv:hasDictIn K Cd=true)
  (oR:subIn K (.ref Cd) (.ref Ca)=some true)
  (cu:kitOne K (.ref Cd) (.ref Cd)=some true)
  (cw:kitOne K (.ref Cd) (.ref Ce)=some false)
  (bU:kitOne K (.ref Cd) (.ref Cf)=some false)
  (bh:kitOne K (.ref Cd) (.ref Cg)=some false)
  (wX:isClsIn K Ce=true)
  (y8:findIn K (.ref Ce) "__getattribute__"=some (some (.builtin "BaseException.__getattribute__")))
  (Ai:findIn K (.ref Ce) "__getattr__"=some none)
  (zc:findIn K (.ref Ce) "__class__"=some (some (.builtin "object.__class__")))
  (zi:mroIn K Ce (.type "object")=some true)
  (zV:subIn K (.ref Ce) (.type "BaseException")=some true)
  (Az:findIn K (.ref Ce) "place"=some none)
  (EO:hasDictIn K Ce=true)
  (oM:subIn K (.ref Ce) (.ref Ca)=some true)
  (cn:kitOne K (.ref Ce) (.ref Cd)=some false)
  (cv:kitOne K (.ref Ce) (.ref Ce)=some true)
  (bX:kitOne K (.ref Ce) (.ref Cf)=some false)
  (bb:kitOne K (.ref Ce) (.ref Cg)=some false)
  (uY:isClsIn K Cf=true)
  (yt:findIn K (.ref Cf) "__getattribute__"=some (some (.builtin "BaseException.__getattribute__")))
  (xr:findIn K (.ref Cf) "__getattr__"=some none)
  (wj:findIn K (.ref Cf) "__class__"=some (some (.builtin "object.__class__")))
  (yx:mroIn K Cf (.type "object")=some true)
  (wt:subIn K (.ref Cf) (.type "BaseException")=some true)
  (xk:findIn K (.ref Cf) "place"=some none)
  (DO:hasDictIn K Cf=true)
  (lK:subIn K (.ref Cf) (.ref Ca)=some true)
  (bY:kitOne K (.ref Cf) (.ref Cd)=some false)
  (bT:kitOne K (.ref Cf) (.ref Ce)=some false)
  (bL:kitOne K (.ref Cf) (.ref Cf)=some true)
  (aX:kitOne K (.ref Cf) (.ref Cg)=some false)
  (uO:isClsIn K Cg=true)
  (yB:findIn K (.ref Cg) "__getattribute__"=some (some (.builtin "BaseException.__getattribute__")))
  (xM:findIn K (.ref Cg) "__getattr__"=some none)
  (wg:findIn K (.ref Cg) "__class__"=some (some (.builtin "object.__class__")))
  (wZ:mroIn K Cg (.type "object")=some true)
  (xt:subIn K (.ref Cg) (.type "BaseException")=some true)
  (yk:findIn K (.ref Cg) "place"=some none)
  (DY:hasDictIn K Cg=true)
  (lR:subIn K (.ref Cg) (.ref Ca)=some true)
  (bZ:kitOne K (.ref Cg) (.ref Cd)=some false)
  (b5:kitOne K (.ref Cg) (.ref Ce)=some false)
  (bK:kitOne K (.ref Cg) (.ref Cf)=some false)
  (aW:kitOne K (.ref Cg) (.ref Cg)=some true)
  (H_:takerIn K Cg "place"=some none)
  (sy:L2.y6 K Cg [.type "ValueError",.type "Exception",.type "BaseException",.type "object"] "ValueError.__new__" Xd=true)
  (sT:findIn K (.ref Cg) "__setattr__"=some (some (.builtin "object.__setattr__")))
  (sU:lJ K Cg=true)
  :∃fd:FuncData,(∀(s:Shared) (v:Value),BindsTo s fd ⟨[v],[]⟩ [("_law_script",v)])/\∀base:Heap,K.In base->base.Ns mainGlobals mg->ay l.prog w K mg base Sr 9 fa fd ["_law_script"] (xh K):=by
 have⟨a1,_,F1⟩:=t1;have⟨a2,_,F2⟩:=t2;have⟨a3,_,F3⟩:=t3;have⟨a4,_,F4⟩:=t4;have⟨a5,_,F5⟩:=t5;have⟨a6,_,F6⟩:=t6;have⟨a7,_,F7⟩:=t7;have⟨a8,_,F8⟩:=t8;have⟨a9,_,F9⟩:=t9;have⟨QU,_,U0⟩:=XC;have⟨Zh,_,U8⟩:=YJ;have⟨XM,_,Uc⟩:=t12;have⟨YN,_,Uo⟩:=X2;have⟨a14,_,S5⟩:=t14;have⟨a15,_,Ve⟩:=ZE;have⟨Yn,_,Vc⟩:=Zj;have⟨Zd,_,Vb⟩:=Yh;have⟨Y6,_,VL⟩:=t18;have⟨a19,_,Vo⟩:=t19;have⟨a20,_,Tp⟩:=Z';have⟨Z1,_,U2⟩:=Zm;have⟨X7,_,T2⟩:=t22;have⟨XA,_,S9⟩:=Zb;have⟨Z0,_,Vm⟩:=t24;have⟨XD,_,U1⟩:=Z_;have⟨XX,_,Vk⟩:=Y9;have⟨a27,Wn,_,Wr⟩:=Yj;have⟨Y8,_,UG⟩:=ZC;have⟨a29,ZU,_,W9⟩:=ZR;have⟨Xx,_,Tg⟩:=Ye;have⟨WA,_,QX⟩:=Z6;have⟨a32,Yt,_,Vi⟩:=X9;have⟨YM,_,T8⟩:=Zz;have⟨Yp,Zg,_,Vs⟩:=YR;have⟨Zv,_,Th⟩:=X3;have⟨Zo,_,VQ⟩:=Yw;have⟨Yg,_,Vq⟩:=t37;have⟨XB,_,UX⟩:=t38;have⟨ZN,dL,V'⟩:=t39;have e:=XO.symm.trans (mg_of X G ZN);cases e;have EZ:=mg_of X G HL;have JL:cR K Cd _ _:=⟨Hg⟩;have Hy:=mg_of X G Fv;have IK:cR K Ce _ _:=⟨Gi⟩;have Dg:=mg_of X G Cr;have EN:cR K Cf _ _:=⟨Dc⟩;have xC:=mg_of X G wD;have zL:cR K Ca _ _:=⟨wJ⟩;have vA:=mg_of X G uW;have rS:=mg_of X G rJ;have rL:=mg_of X G rQ;have jO:=mg_of X G jR;have CS:=mg_of X G Dy;have q_:=mg_of X G qw;have D6:=mg_of X G Du;have pq:=mg_of X G qR;have bG:=mg_none_of X G Pz;have sF:=mg_none_of X G RZ;have ω:=mg_none_of X G vd;have nP:=mg_none_of X G Po;have p_:=mg_none_of X G Nq;have qM:=mg_none_of X G RK;have d8:=mg_none_of X G Kk;have iG:=mg_none_of X G Me;have ej:=mg_none_of X G Kx;have eC:=mg_none_of X G wA;have wV:=mg_none_of X G Q5;have tJ:=mg_none_of X G Qi;have Bm:=mg_none_of X G P8;have Bt:=mg_none_of X G Pb;have g9:=mg_none_of X G vm;have E:Ev K mg Cl Cd Ce Cf Cg Ca:={bG:=bG,sF:=sF,ω:=ω,nP:=nP,p_:=p_,qM:=qM,d8:=d8,iG:=iG,ej:=ej,eC:=eC,wV:=wV,tJ:=tJ,Bm:=Bm,Bt:=Bt,g9:=g9,ib:=vb xw,T5:=xg zu,W8:=sd uf,Wo:=rP uH,W3:=ud xX,Xb:=vO w4,Tr:=pQ rM,klt:=pV rH,b6:=EZ,oH:=Hy,lL:=Dg,ky:=xC,qQ:=mg_of X G sI,cp:=JL,vk:=IK,pG:=EN,pD:=zL,qS:=⟨Rt,Qt,Ro,@_⟩,Bv:=⟨w6,zP,zG,Ad,Au,zz⟩,A4:=⟨z5,Hv⟩,oR:=oR,cu:=cu,cw:=cw,bU:=bU,bh:=bh,AS:=⟨wX,y8,Ai,zc,zi,zV⟩,BU:=⟨Az,EO⟩,oM:=oM,cn:=cn,cv:=cv,bX:=bX,bb:=bb,yC:=⟨uY,yt,xr,wj,yx,wt⟩,yy:=⟨xk,DO⟩,lK:=lK,bY:=bY,bT:=bT,bL:=bL,aX:=aX,xp:=⟨uO,yB,xM,wg,wZ,xt⟩,xi:=⟨yk,DY⟩,lR:=lR,bZ:=bZ,b5:=b5,bK:=bK,aW:=aW,iy:=⟨H_⟩,iK:=⟨ua,t_,uw,vW⟩,iq:=uU,fY:=r9,yV:=⟨_,_,_,_,mg_of X G Gn,G6,rfl,rfl,pz,.cons ⟨_,rfl⟩ (.cons ⟨_,rfl⟩ .nil)⟩,nE:=⟨_,vA⟩,ic:=⟨_,rS⟩,lD:=⟨_,rL⟩,fg:=⟨_,jO⟩,wI:=⟨_,CS⟩,j4:=⟨_,q_⟩,xF:=⟨_,D6⟩,j6:=⟨_,pq⟩};refine⟨dL,λs v=>by have⟨_,_,_,_,_,_,_,_,_,rfl,_⟩:=V'.ex;exact .of_eq rfl,λbase _ _=>?_⟩;have mc:=@aV.mk l.prog w K mg base;have je:=(Cs F1 E)&&&(F1,a1,dP λ_ _=>rfl);have kz:=(wm F2 E)&&&(F2,a2,dP λ_ _=>rfl);have dc:=(vY F3 E)&&&(F3,a3,dN λ_=>rfl);have mH:=(zA F4 E dc)&&&(F4,a4,EU λ_ _ _ _=>rfl);have nh:=(AH F5 E dc mH)&&&(F5,a5,EU λ_ _ _ _=>rfl);have bx:=(pM F6 E)&&&(F6,a6,dN λ_=>rfl);have mJ:=(yW F7 E bx)&&&(F7,a7,dN λ_=>rfl);have a_:=(mR F8 E)&&&(F8,a8,dP λ_ _=>rfl);have gR:=(wW F9 E a_)&&&(F9,a9,dP λ_ _=>rfl);have aE:=(oo U0 E mJ gR bx)&&&(U0,QU,dN λ_=>rfl);have iV:=(vR U8 E aE)&&&(U8,Zh,dN λ_=>rfl);have pN:=(DH Uc E)&&&(Uc,XM,dN λ_=>rfl);have dW:=(yD Uo E pN)&&&(Uo,YN,dN λ_=>rfl);have gT:=(xU S5 E dW aE)&&&(S5,a14,dP λ_ _=>rfl);have nr:=(zq Ve E aE gT)&&&(Ve,a15,dP λ_ _=>rfl);have iT:=(vH Vc E nr dW)&&&(Vc,Yn,dN λ_=>rfl);have iU:=(vK Vb E)&&&(Vb,Zd,dN λ_=>rfl);have e7:=(oi VL E)&&&(VL,Y6,dP λ_ _=>rfl);have gi:=(qc Vo E e7)&&&(Vo,a19,dP λ_ _=>rfl);have iZ:=(vV Tp E)&&&(Tp,a20,dN λ_=>rfl);have eW:=(yJ U2 E)&&&(U2,Z1,dN λ_=>rfl);have kH:=(xK T2 E eW)&&&(T2,X7,dP λ_ _=>rfl);have fR:=(uu S9 E kH)&&&(S9,XA,dP λ_ _=>rfl);have fh:=(og Vm E a_)&&&(Vm,Z0,dN λ_=>rfl);have fU:=(pL U1 E fh)&&&(U1,XD,dN λ_=>rfl);have ni:=(zw Vk E eW fR fU)&&&(Vk,XX,dP λ_ _=>rfl);have gj:S0 l.prog w K mg base _ "NoPlace" Cg VB "ValueError.__new__" _ _ _ _:=⟨qK Wr E ⟨sy,Wn,sT,sU⟩,(Wr.binds λ_ _ _ _ _ _=>dP λ_ _=>rfl),⟨sy,Wn,sT,sU⟩,mg_of X G sI⟩;have cW:=(uK UG E)&&&(UG,Y8,dN λ_=>rfl);have ji:N_ l.prog w K mg base _ "Floor" Cl _ _ _ _:=⟨vq W9 E iZ ni gj cW,(W9.binds λ_ _ _ _ _ _=>HM λ_ _ _=>rfl),⟨Jf,a29,ZU,K3⟩,mg_of X G Ki⟩;have cZ:=(u9 Tg E iV iT iU gi ji)&&&(Tg,Xx,dN λ_=>rfl);have bq:=mc (nO QX E (QX.binds λ_ _ _ _ _ _=>dP λ_ _=>rfl) (mg_of X G WA) QX.kp 6) (QX.binds λ_ _ _ _ _ _=>dP λ_ _=>rfl) (mg_of X G WA) QX.kp;have hV:E3 l.prog w K mg base _ Cl "share" _ _ _ _:=(rY Vi E)|||(Vi,a32,Yt,dN λ_=>rfl);have qD:=(Dj T8 E)&&&(T8,YM,dP λ_ _=>rfl);have iH:E3 l.prog w K mg base _ Cl "rows" _ _ _ _:=(ug Vs E cW)|||(Vs,Yp,Zg,dN λ_=>rfl);have iY:=(vz Th E)&&&(Th,Zv,EU λ_ _ _ _=>rfl);have hJ:=(su VQ E)&&&(VQ,Zo,dP λ_ _=>rfl);have gS:=(rN Vq E)&&&(Vq,Yg,dP λ_ _=>rfl);have g8:=(rX UX E cZ bq)&&&(UX,XB,HM λ_ _ _=>rfl);exact Nj (M9 V' E je kz nh cZ bq hV qD iH iY hJ gS g8)
def walk{l:PySem.W.OpenLaw}{q:Program}{loose:List Str}{XP:(Str->Option Value)->Heap->Prop}{YP:World->Heap->Prop}{d:DefRec}{K:Params->gV}(hn:l.most=some 63)(Pc:d.params.defaults=[])
  (hY:∀(w:World) (h:Heap),YP w h->(K w.params).In h)
  (F:∀(w:World) (mg:Str->Option Value) (fa:Addr) (h:Heap),(K w.params).In h->h.Ns mainGlobals mg->mg d.name=some (.ref fa)->
   ∃fd:FuncData,(∀(s:Shared) (u:Value),BindsTo s fd ⟨[u],[]⟩ [("_law_script",u)])/\∀base:Heap,(K w.params).In base->base.Ns mainGlobals mg->ay l.prog w (K w.params) mg base Sr 9 fa fd ["_law_script"] (xh (K w.params))):
  PySem.W.WalkO q loose XP YP l.row.toRowW d [] (λf vs=>PySem.call f vs):=
 L2.uD (n:=63) (k:=9) (x:="_law_script") (CX:=λ_=>Sr) (sp:=λw=>xh (K w.params)) hn @_ Pc ⟨rfl,@_,@_⟩ hY F (λ_ _ a ns hl _ hS=>⟨a,ns,rfl,hS,hl,λ_=>rfl⟩) λ_ _ _ _ _ z=>z
end
end Pg
open PySem PySem.W PyProof.Rows
set_option maxRecDepth 100000 in
set_option maxHeartbeats 0 in
theorem PySem.Challenge.cw_chanceduel_k10_floors_read_holds : PySem.Challenge.rw_chanceduel_k10_floors_read.Holds := by
 w_on;o_law
 refine holds_open (q:=Hd.q) (loose:=[]) (Xt:=Hd.Xt) (XP:=XL Hd.q [])
  (Yf:=Hd.H.obs) (Ya:=Hd.H.val) (YP:=Hd.H.says) Hd.left Hd.H.of Hd.H.keeps
  (λs e=>xl_of s (Bool.and_eq_true_iff.mp e).1) XL.keeps (by rfl) (by rfl) (by rfl)
  (λs e=>recFacts_of (Bool.and_eq_true_iff.mp e).2) (by rfl) (by assumption) (by decide+kernel)
  ⟨rfl,rfl,rfl,rfl,rfl,by decide+kernel⟩ ?hw ?hc
 (case hw=>w_witness2)
 refine Pg.walk (l:=PySem.Challenge.rw_chanceduel_k10_floors_read) rfl rfl (fun w h Y=>PySem.W.kIn_of Y) ?F
 case F=>
  k_fill
  intro w mg fa h KX G Jj
  refine' Pg.all_mk KX G Jj ?_ ?_ ?_ ?_ ?_ ?_ ?_ ?_ ?_ ?_ ?_ ?_ ?_ ?_ ?_ ?_ ?_ ?_ ?_ ?_ ?_ ?_ ?_ ?_ ?_ ?_ ?_ ?_ ?_ ?_ ?_ ?_ ?_ ?_ ?_ ?_ ?_ ?_ ?_ ?_ ?_ ?_ ?_ ?_ ?_ ?_ ?_ ?_ ?_ ?_ ?_ ?_ ?_ ?_ ?_ ?_ ?_ ?_ ?_ ?_ ?_ ?_ ?_ ?_ ?_ ?_ ?_ ?_ ?_ ?_ ?_ ?_ ?_ ?_ ?_ ?_ ?_ ?_ ?_ ?_ ?_ ?_ ?_ ?_ ?_ ?_ ?_ ?_ ?_ ?_ ?_ ?_ ?_ ?_ ?_ ?_ ?_ ?_ ?_ ?_ ?_ ?_ ?_ ?_ ?_ ?_ ?_ ?_ ?_ ?_ ?_ ?_ ?_ ?_ ?_ ?_ ?_ ?_ ?_ ?_ ?_ ?_ ?_ ?_ ?_ ?_ ?_ ?_ ?_ ?_ ?_ ?_ ?_ ?_ ?_ ?_ ?_ ?_ ?_ ?_ ?_ ?_ ?_ ?_ ?_ ?_ ?_ ?_ ?_
  all_goals try first| (refine' Pg.FT.of ?_ ?_ ?_ ?_ <;> try k_is)| (refine' Pg.FM.of ?_ ?_ ?_ ?_ ?_ <;> try k_is)| k_is| k_exc| kernel_rfl
