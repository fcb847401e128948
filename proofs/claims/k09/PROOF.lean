import PyProof.Rows.All
import Wide.All
import OpenK.AllK
import Wide.FinOn
import Lean
import PyProof.EqAt
import PyProof.EqKinds
import PyProof.TupleCall
import PyProof.NeKinds
import PyProof.ZipIter
import PyProof.DictUpdate
import PyProof.FactsAll.dict_1
import PyProof.DictIter
import PyProof.DictWalks
import PyProof.StrCalls2
import PyProof.Rows.StrSplitMax
import PyProof.StrOps2
import PySem.Challenge.RW_chanceduel_k09_floors_written
set_option Elab.async false
set_option linter.all false
set_option maxRecDepth 100000
set_option maxHeartbeats 4000000
set_option compiler.extract_closed false
def aaa:=@List.getElem?_eq_getElem
def aab:=@List.length_append
def aac:=@List.length_map
def aad:=@List.mem_cons_self
def aae:=@List.mem_cons_of_mem
def aaf:=@PySem.Heap.get?_push_of_some
def aag:=@PySem.wpAny_bind
def aah:=@PySem.Heap.lt_size
def aai:=@List.getElem?_eq_some_iff
def aaj:=@Nat.le_refl
def aak:=@Nat.lt_of_lt_of_le
def aal:=@Bool.false_ne_true
def aam:=@List.mem_map
def aan:=@Option.some.inj
def aao:=@List.length_replicate
def aap:=@List.nil_append
def aaq:=@Nat.le_trans
def aar:=@decide_eq_true
def aas:=@List.mem_append_right
def aat:=@List.map_map
def aau:=@decide_eq_false
def aav:=@List.getElem?_append_left
def aaw:=@PySem.F.excBase_ValueError
def aax:=@Bool.and_eq_true
def aay:=@List.mem_cons
def aaz:=@PySem.wpAny_pure
def aaA:=@List.length_cons
def aaB:=@List.getElem?_map
def aaC:=@Nat.ne_of_lt
def aaD:=@List.getElem?_append_right
def aaE:=@absurd
def aaF:=@Int.emod_lt_of_pos
def aaG:=@PySem.Heap.get?_push_size
def aaH:=@if_neg
def aaI:=@List.mem_append
def aaJ:=@List.mem_of_getElem?
def aaK:=@Int.emod_nonneg
def aaL:=@List.map_cons
def aaM:=@Int.le_of_lt
def aaN:=@if_pos
def aaO:=@List.getD_eq_getElem?_getD
def aaP:=@List.size_toArray
def aaQ:=@of_decide_eq_true
def aaR:=@decide_eq_true_iff
def aaS:=@List.getElem_mem
def aaT:=@Array.length_toList
def aaU:=@List.replicate_succ
def aaV:=@Nat.zero_le
def aaW:=@List.append_assoc
def aaX:=@congrArg
def aaY:=@List.of_mem_zip
def aaZ:=@List.zip_cons_cons
def aa0:=@of_decide_eq_false
def aa1:=@List.getElem?_set_self
def aa2:=@List.append_nil
def aa3:=@Nat.lt_of_le_of_lt
def aa4:=@List.getElem?_set_ne
def aa5:=@List.flatten_cons
def aa6:=@List.length_set
def aa7:=@List.map_congr_left
def aa8:=@Int.fmod_eq_emod_of_nonneg
def aa9:=@Array.getElem?_eq_some_iff
def aba:=@List.length_drop
def abb:=@List.lookup_cons
def abc:=@Nat.le_add_right
def abd:=@Bool.eq_iff_iff
def abe:=@List.nodup_cons
def abf:=@Nat.lt_irrefl
def abg:=@List.all_cons
def abh:=@List.any_cons
def abi:=@List.length_take
def abj:=@List.eq_nil_of_length_eq_zero
def abk:=@PySem.wpAny_mono
def abl:=@List.range_succ_eq_map
def abm:=@List.take_of_length_le
def abn:=@List.mem_filterMap
def abo:=@List.length_zip
def abp:=@Int.mul_comm
def abq:=@Int.fdiv_eq_ediv_of_nonneg
def abr:=@Int.natAbs_of_nonneg
def abt:=@List.drop_eq_getElem_cons
def abu:=@Int.eq_of_mul_eq_mul_left
def abv:=@beq_iff_eq
def abw:=@Option.isSome_iff_exists
def abx:=@Int.mul_ediv_cancel_left
def aby:=@Int.zero_add
def abz:=@List.foldl_cons
def abA:=@List.mem_replicate
def abB:=@Int.toNat_natCast
def abC:=@List.drop_drop
def abD:=@Nat.ne_of_gt
namespace Hd
open PySem PySem.W PyProof.Rows
def at_(i:Nat):Stmt:=PySem.Challenge.pw_chanceduel_k09_floors_written.main.body.getD i (.Pass ⟨0,0,0,0⟩)
def L8:Stmt->Nat->Stmt
  | .ClassDef _ _ _ b _ _ _ _ _ _ _,j=>b.getD j (.Pass ⟨0,0,0,0⟩)
  | s,_=>s
def dA:Stmt->Arguments
  | .FunctionDef _ a _ _ _ _ _ _ _ _=>a
  | _=>⟨[],[],none,[],[],none,[]⟩
def dB:Stmt->List Stmt
  | .FunctionDef _ _ b _ _ _ _ _ _ _=>b
  | _=>[]
def dS:Stmt->Scope
  | .FunctionDef _ _ _ _ _ _ c _ _ _=>c
  | _=>{kind:= .function,names:=[],isGenerator:=false,isCoroutine:=false}
abbrev row:=PySem.Challenge.rw_chanceduel_k09_floors_written.row
abbrev en(P:Params)(x:Str)(t:Tok)(v:Value):DictEntry:=⟨PyData.keyHash P x, .str x t,v⟩
def q:Program:={PySem.Challenge.pw_chanceduel_k09_floors_written with main:={PySem.Challenge.pw_chanceduel_k09_floors_written.main with body:=[at_ 0,at_ 2,at_ 3,at_ 4,at_ 5,at_ 6,at_ 7,at_ 9,at_ 10,at_ 12,at_ 13,at_ 14,at_ 15,at_ 16,at_ 17,at_ 18,at_ 19,at_ 20,at_ 21,at_ 23,at_ 24,at_ 25,at_ 26,at_ 28,at_ 29,at_ 30,at_ 31,at_ 32,at_ 33,at_ 35,at_ 36,at_ 37,at_ 38,at_ 39,at_ 40,at_ 41,at_ 42,at_ 43,at_ 44,at_ 45,at_ 46,at_ 47,at_ 48,at_ 49,at_ 51,at_ 52,at_ 53,at_ 54,at_ 55,at_ 56,at_ 57,at_ 58,at_ 59,at_ 60,at_ 61,at_ 62,at_ 63,at_ 64,at_ 65]}}
abbrev cO(x q:Str)(t l n f a m:Nat):Obj:=⟨.type "code",none, .fields #[.str x t, .str q (t+1), .str "/claim/cut.py" (t+2), .int l 0, .int n 0, .int 0 0, .int 0 0, .int f 0, .ref a, .bool true, .int 181 0, .ref (a+1), .none, .ref (a+2), .ref (a+3), .ref (a+4), .int m 0, .int l 0, .str "/claim/cut.py" (m+1)], #[]⟩
abbrev dO(x q:Str)(t l n f a m:Nat):Obj:=⟨.type "code",none, .fields #[.str x t, .str q (t+1), .str "/claim/cut.py" (t+2), .int l 0, .int n 0, .int 0 0, .int 0 0, .int f 0, .ref a, .bool true, .int 181 0, .ref (a+1), .none, .none, .none, .ref (a+2), .int m 0, .int l 0, .str "/claim/cut.py" (m+1)], #[]⟩
abbrev eO(x:Str)(a d b t u:Nat):Obj:=⟨.type "type",none, .cls ⟨x,[.ref 31],[.ref a, .ref 31, .type "ValueError", .type "Exception", .type "BaseException", .type "object"],d,x,true,[],[],false,none,false⟩, #[some (.ref b),none,some (.str x t),some (.str x u),some (.builtin "ValueError.__new__"),some (.bool true)]⟩
abbrev fO(x q:Str)(s:Stmt)(m:Value)(c:Nat):Obj:=⟨.type "function",none, .func ⟨x,q,(dA s), .stmts (dB s),(dS s),3,[], .none, .none, .none,m,none, .ref c, .none,0⟩, #[]⟩
abbrev m0:Value:= .str "chanceduel.parts" 303
abbrev m1:Value:= .str "chanceduel.places" 325
abbrev m2:Value:= .str "chanceduel.floors" 383
abbrev m3:Value:= .str "chanceduel.texts" 505
abbrev m4:Value:= .str "chanceduel.floortexts" 545
abbrev m5:Value:= .str "law_chanceduel_k09_floors_written" 640
noncomputable def K:Params->Frag:=λP=>
(nat_lit 2,⟨.none,none,(.dict #[] 0), #[]⟩)::
(nat_lit 3,⟨(.type "dict"),none,(.dict #[(en P "__name__" 165 m5),(en P "__doc__" 166 .none),(en P "__package__" 167 .none),(en P "__loader__" 168 (.builtin "__main__.__loader__#opaque")),(en P "__spec__" 169 .none),(en P "__annotations__" 170 (.ref 6)),(en P "__builtins__" 171 (.ref 4)),(en P "__file__" 173 (.str "/claim/cut.py" 172)),(en P "__cached__" 174 .none),(en P "_wall" 193 (.ref 21)),(en P "DuelError" 213 (.ref 31)),(en P "NoNumber" 229 (.ref 44)),(en P "NoText" 245 (.ref 56)),(en P "NoName" 261 (.ref 68)),(en P "NoFloor" 277 (.ref 80)),(en P "NoPlace" 302 (.ref 99)),(en P "common_divisor" 315 (.ref 108)),(en P "fraction" 324 (.ref 115)),(en P "HANDS" 329 (.ref 116)),(en P "MOST_DOORS" 331 (.int 6 330)),(en P "MOST_BOTTOM" 333 (.int 1000000 332)),(en P "fits_pay" 340 (.ref 123)),(en P "fits_door" 348 (.ref 130)),(en P "common_bottom" 357 (.ref 137)),(en P "fits_chances" 363 (.ref 142)),(en P "fits_doors" 369 (.ref 147)),(en P "fits_row" 375 (.ref 152)),(en P "copied_row" 382 (.ref 159)),(en P "MOST_PLACES" 386 (.int 12 385)),(en P "MOST_SHARE_BOTTOM" 388 (.int 1000 387)),(en P "fits_share" 395 (.ref 166)),(en P "Floor" 504 (.ref 249)),(en P "FIGURES" 508 (.str "0123456789" 507)),(en P "MOST_FIGURES" 510 (.int 60 509)),(en P "show_fraction" 519 (.ref 260)),(en P "read_figures" 525 (.ref 265)),(en P "read_top" 533 (.ref 272)),(en P "read_fraction" 544 (.ref 279)),(en P "LETTERS" 548 (.str "abcdefghijklmnopqrstuvwxyz" 547)),(en P "MOST_LETTERS" 550 (.int 8 549)),(en P "show_door" 556 (.ref 284)),(en P "show_place" 562 (.ref 289)),(en P "show_floor" 568 (.ref 294)),(en P "is_name" 574 (.ref 299)),(en P "read_name" 581 (.ref 306)),(en P "read_share" 589 (.ref 313)),(en P "read_door" 595 (.ref 318)),(en P "read_row" 601 (.ref 323)),(en P "read_place" 609 (.ref 330)),(en P "numbers_of" 619 (.ref 337)),(en P "numbered_door" 627 (.ref 344)),(en P "numbered_row" 633 (.ref 349)),(en P "read_floor" 639 (.ref 354)),(en P "_law_nth" 649 (.ref 361)),(en P "_law_mixed" 661 (.ref 368)),(en P "_law_gcd" 671 (.ref 375)),(en P "_law_lowest" 680 (.ref 382)),(en P "_law_pay" 688 (.ref 389)),(en P "_law_shares" 694 (.ref 394)),(en P "_law_row" 700 (.ref 399)),(en P "_law_rows" 706 (.ref 404)),(en P "_law_share" 714 (.ref 411)),(en P "_law_alike" 720 (.ref 416)),(en P "_law_names" 726 (.ref 421)),(en P "_law_fraction" 733 (.ref 428)),(en P "_law_text" 739 (.ref 433)),(en P "_law_read" 750 (.ref 440)),(en P "law" 756 (.ref 445))] 68), #[]⟩)::
(nat_lit 30,⟨(.type "dict"),none,(.dict #[(en P "__module__" 203 (.str "chanceduel.errors" 194)),(en P "__firstlineno__" 207 (.int 5 206)),(en P "__static_attributes__" 208 (.ref 29)),(en P "__weakref__" 210 (.ref 32)),(en P "__doc__" 211 .none)] 3), #[]⟩)::
(nat_lit 31,⟨(.type "type"),none,(.cls ⟨"DuelError",[(.type "ValueError")],[(.ref 31),(.type "ValueError"),(.type "Exception"),(.type "BaseException"),(.type "object")],30,"DuelError",true,[],[(.ref 44),(.ref 56),(.ref 68),(.ref 80),(.ref 99)],false,none,false⟩), #[(some (.ref 22)),none,(some (.str "DuelError" 196)),(some (.str "DuelError" 204)),(some (.builtin "ValueError.__new__")),(some (.bool true))]⟩)::
(nat_lit 44,eO "NoNumber" 44 43 35 214 222)::
(nat_lit 55,⟨(.type "dict"),none,(.dict #[(en P "__module__" 237 (.str "chanceduel.errors" 194)),(en P "__firstlineno__" 241 (.int 9 240)),(en P "__static_attributes__" 242 (.ref 54)),(en P "__doc__" 243 .none)] 2), #[]⟩)::
(nat_lit 56,eO "NoText" 56 55 47 230 238)::
(nat_lit 68,eO "NoName" 68 67 59 246 254)::
(nat_lit 80,eO "NoFloor" 80 79 71 262 270)::
(nat_lit 99,eO "NoPlace" 99 98 83 278 286)::
(nat_lit 107,cO "common_divisor" "common_divisor" 305 21 2 3 102 313)::
(nat_lit 108,fO "common_divisor" "common_divisor" (at_ 9) m0 107)::
(nat_lit 114,cO "fraction" "fraction" 316 29 2 3 109 322)::
(nat_lit 115,fO "fraction" "fraction" (at_ 10) m0 114)::
(nat_lit 116,⟨(.type "tuple"),none,(.seq #[(.str "one" 327),(.str "other" 328)] 0), #[]⟩)::
(nat_lit 122,cO "fits_pay" "fits_pay" 334 40 1 3 117 338)::
(nat_lit 123,fO "fits_pay" "fits_pay" (at_ 15) m1 122)::
(nat_lit 129,cO "fits_door" "fits_door" 341 42 2 3 124 346)::
(nat_lit 130,fO "fits_door" "fits_door" (at_ 16) m1 129)::
(nat_lit 136,cO "common_bottom" "common_bottom" 349 44 1 3 131 355)::
(nat_lit 137,fO "common_bottom" "common_bottom" (at_ 17) m1 136)::
(nat_lit 141,dO "fits_chances" "fits_chances" 358 49 1 3 138 361)::
(nat_lit 142,fO "fits_chances" "fits_chances" (at_ 18) m1 141)::
(nat_lit 146,dO "fits_doors" "fits_doors" 364 55 2 3 143 367)::
(nat_lit 147,fO "fits_doors" "fits_doors" (at_ 19) m1 146)::
(nat_lit 151,dO "fits_row" "fits_row" 370 59 2 3 148 373)::
(nat_lit 152,fO "fits_row" "fits_row" (at_ 20) m1 151)::
(nat_lit 158,cO "copied_row" "copied_row" 376 68 1 3 153 380)::
(nat_lit 159,fO "copied_row" "copied_row" (at_ 21) m1 158)::
(nat_lit 165,cO "fits_share" "fits_share" 389 75 1 3 160 393)::
(nat_lit 166,fO "fits_share" "fits_share" (at_ 25) m2 165)::
(nat_lit 177,dO "__init__" "Floor.__init__" 408 79 3 3 174 411)::
(nat_lit 178,fO "__init__" "Floor.__init__" (L8 (at_ 26) 0) m2 177)::
(nat_lit 191,cO "share" "Floor.share" 421 93 1 3 186 425)::
(nat_lit 192,fO "share" "Floor.share" (L8 (at_ 26) 2) m2 191)::
(nat_lit 217,dO "rows" "Floor.rows" 452 109 1 3 214 455)::
(nat_lit 218,fO "rows" "Floor.rows" (L8 (at_ 26) 6) m2 217)::
(nat_lit 248,⟨(.type "dict"),none,(.dict #[(en P "__module__" 403 m2),(en P "__firstlineno__" 407 (.int 77 406)),(en P "__init__" 413 (.ref 178)),(en P "size" 420 (.ref 185)),(en P "share" 427 (.ref 192)),(en P "kind" 435 (.ref 199)),(en P "doors" 443 (.ref 206)),(en P "pay" 451 (.ref 213)),(en P "rows" 457 (.ref 218)),(en P "shown" 467 (.ref 225)),(en P "all_shown" 476 (.ref 232)),(en P "look" 485 (.ref 239)),(en P "best" 494 (.ref 246)),(en P "__static_attributes__" 497 (.ref 247)),(en P "__dict__" 499 (.ref 250)),(en P "__weakref__" 501 (.ref 251)),(en P "__doc__" 502 .none)] 4), #[]⟩)::
(nat_lit 249,⟨(.type "type"),none,(.cls ⟨"Floor",[(.type "object")],[(.ref 249),(.type "object")],248,"Floor",true,[],[],false,none,false⟩), #[none,none,(some (.str "Floor" 396)),(some (.str "Floor" 404)),(some (.builtin "object.__new__")),(some (.bool true))]⟩)::
(nat_lit 259,cO "show_fraction" "show_fraction" 511 126 1 3 254 517)::
(nat_lit 260,fO "show_fraction" "show_fraction" (at_ 30) m3 259)::
(nat_lit 264,dO "read_figures" "read_figures" 520 132 1 3 261 523)::
(nat_lit 265,fO "read_figures" "read_figures" (at_ 31) m3 264)::
(nat_lit 271,cO "read_top" "read_top" 526 140 1 3 266 531)::
(nat_lit 272,fO "read_top" "read_top" (at_ 32) m3 271)::
(nat_lit 278,cO "read_fraction" "read_fraction" 534 147 1 3 273 542)::
(nat_lit 279,fO "read_fraction" "read_fraction" (at_ 33) m3 278)::
(nat_lit 283,dO "show_door" "show_door" 551 164 2 3 280 554)::
(nat_lit 284,fO "show_door" "show_door" (at_ 37) m4 283)::
(nat_lit 288,dO "show_place" "show_place" 557 166 3 3 285 560)::
(nat_lit 289,fO "show_place" "show_place" (at_ 38) m4 288)::
(nat_lit 293,dO "show_floor" "show_floor" 563 173 2 3 290 566)::
(nat_lit 294,fO "show_floor" "show_floor" (at_ 39) m4 293)::
(nat_lit 298,dO "is_name" "is_name" 569 177 1 3 295 572)::
(nat_lit 299,fO "is_name" "is_name" (at_ 40) m4 298)::
(nat_lit 305,cO "read_name" "read_name" 575 179 1 3 300 579)::
(nat_lit 306,fO "read_name" "read_name" (at_ 41) m4 305)::
(nat_lit 312,cO "read_share" "read_share" 582 183 1 3 307 587)::
(nat_lit 313,fO "read_share" "read_share" (at_ 42) m4 312)::
(nat_lit 317,dO "read_door" "read_door" 590 188 2 3 314 593)::
(nat_lit 318,fO "read_door" "read_door" (at_ 43) m4 317)::
(nat_lit 322,dO "read_row" "read_row" 596 193 2 3 319 599)::
(nat_lit 323,fO "read_row" "read_row" (at_ 44) m4 322)::
(nat_lit 329,cO "read_place" "read_place" 602 201 1 3 324 607)::
(nat_lit 330,fO "read_place" "read_place" (at_ 45) m4 329)::
(nat_lit 336,cO "numbers_of" "numbers_of" 610 206 1 3 331 617)::
(nat_lit 337,fO "numbers_of" "numbers_of" (at_ 46) m4 336)::
(nat_lit 343,cO "numbered_door" "numbered_door" 620 213 2 3 338 625)::
(nat_lit 344,fO "numbered_door" "numbered_door" (at_ 47) m4 343)::
(nat_lit 348,dO "numbered_row" "numbered_row" 628 217 2 3 345 631)::
(nat_lit 349,fO "numbered_row" "numbered_row" (at_ 48) m4 348)::
(nat_lit 353,dO "read_floor" "read_floor" 634 221 1 3 350 637)::
(nat_lit 354,fO "read_floor" "read_floor" (at_ 49) m4 353)::
(nat_lit 360,cO "_law_nth" "_law_nth" 642 230 2 3 355 647)::
(nat_lit 361,fO "_law_nth" "_law_nth" (at_ 51) m5 360)::
(nat_lit 367,cO "_law_mixed" "_law_mixed" 650 232 2 3 362 659)::
(nat_lit 368,fO "_law_mixed" "_law_mixed" (at_ 52) m5 367)::
(nat_lit 374,cO "_law_gcd" "_law_gcd" 662 244 2 3 369 669)::
(nat_lit 375,fO "_law_gcd" "_law_gcd" (at_ 53) m5 374)::
(nat_lit 381,cO "_law_lowest" "_law_lowest" 672 250 2 3 376 678)::
(nat_lit 382,fO "_law_lowest" "_law_lowest" (at_ 54) m5 381)::
(nat_lit 388,cO "_law_pay" "_law_pay" 681 253 2 3 383 686)::
(nat_lit 389,fO "_law_pay" "_law_pay" (at_ 55) m5 388)::
(nat_lit 393,dO "_law_shares" "_law_shares" 689 261 2 3 390 692)::
(nat_lit 394,fO "_law_shares" "_law_shares" (at_ 56) m5 393)::
(nat_lit 398,dO "_law_row" "_law_row" 695 265 2 3 395 698)::
(nat_lit 399,fO "_law_row" "_law_row" (at_ 57) m5 398)::
(nat_lit 403,dO "_law_rows" "_law_rows" 701 278 3 3 400 704)::
(nat_lit 404,fO "_law_rows" "_law_rows" (at_ 58) m5 403)::
(nat_lit 410,cO "_law_share" "_law_share" 707 280 1 3 405 712)::
(nat_lit 411,fO "_law_share" "_law_share" (at_ 59) m5 410)::
(nat_lit 415,dO "_law_alike" "_law_alike" 715 285 2 3 412 718)::
(nat_lit 416,fO "_law_alike" "_law_alike" (at_ 60) m5 415)::
(nat_lit 420,dO "_law_names" "_law_names" 721 297 2 3 417 724)::
(nat_lit 421,fO "_law_names" "_law_names" (at_ 61) m5 420)::
(nat_lit 427,cO "_law_fraction" "_law_fraction" 727 314 1 3 422 731)::
(nat_lit 428,fO "_law_fraction" "_law_fraction" (at_ 62) m5 427)::
(nat_lit 432,dO "_law_text" "_law_text" 734 318 3 3 429 737)::
(nat_lit 433,fO "_law_text" "_law_text" (at_ 63) m5 432)::
(nat_lit 439,cO "_law_read" "_law_read" 740 328 4 3 434 748)::
(nat_lit 440,fO "_law_read" "_law_read" (at_ 64) m5 439)::
(nat_lit 444,dO "law" "law" 751 338 1 3 441 754)::
(nat_lit 445,fO "law" "law" (at_ 65) m5 444)::[]
noncomputable abbrev H:Hook:=kHook K [2,3,30,31,44,55,56,68,80,99,107,108,114,115,116,122,123,129,130,136,137,141,142,146,147,151,152,158,159,165,166,177,178,191,192,217,218,248,249,259,260,264,265,271,272,278,279,283,284,288,289,293,294,298,299,305,306,312,313,317,318,322,323,329,330,336,337,343,344,348,349,353,354,360,361,367,368,374,375,381,382,388,389,393,394,398,399,403,404,410,411,415,416,420,421,427,428,432,433,439,440,444,445] (λ_=>by kernel_rfl)
abbrev Xt:Shared->Bool:=λs=>xlAt q [] s&&recOk (RowW.records row.toRowW) s
theorem N0{A B C:Type}{o:Option C}{f:C->A}{g:C->B}{a:A}{b:B}(h:o.map f=some a)(k:o.map g=some b):o.map (λs=>(f s,g s))=some (a,b):=by
  cases o with
  | none=>exact nomatch h
  | some c=>injection h with h;injection k with k;subst h;subst k;rfl
section
variable{A B C D E F G X:Type}{o:Option X}{f:X->A×B×C×D×E×F×G}{t:A×B×C×D×E×F×G}
def p1:A×B×C×D×E×F×G->A
  | (a,_,_,_,_,_,_)=>a
def p2:A×B×C×D×E×F×G->B×C
  | (_,b,c,_,_,_,_)=>(b,c)
def p3:A×B×C×D×E×F×G->D
  | (_,_,_,d,_,_,_)=>d
def p5:A×B×C×D×E×F×G->E
  | (_,_,_,_,e,_,_)=>e
def p6:A×B×C×D×E×F×G->F
  | (_,_,_,_,_,f,_)=>f
def p4:A×B×C×D×E×F×G->G
  | (_,_,_,_,_,_,g)=>g
theorem pr(h:o.map (λx=>p1 (f x))=some t.1)(g:o.map (λx=>p2 (f x))=some (t.2.1,t.2.2.1))(k:o.map (λx=>p3 (f x))=some t.2.2.2.1)(k1:o.map (λx=>p5 (f x))=some t.2.2.2.2.1)(k2:o.map (λx=>p6 (f x))=some t.2.2.2.2.2.1)(l:o.map (λx=>p4 (f x))=some t.2.2.2.2.2.2):o.map f=some t:=by
  cases o with
  | none=>exact nomatch h
  | some x=>
    replace h:p1 (f x)=t.1:=aan h;replace g:p2 (f x)=(t.2.1,t.2.2.1):=aan g;replace k:p3 (f x)=t.2.2.2.1:=aan k;replace k1:p5 (f x)=t.2.2.2.2.1:=aan k1;replace k2:p6 (f x)=t.2.2.2.2.2.1:=aan k2;replace l:p4 (f x)=t.2.2.2.2.2.2:=aan l;show some (f x)=some t;revert h g k k1 k2 l;generalize f x=u;obtain ⟨a,b,c,d,e,f',y⟩:=u;obtain ⟨a',b',c',d',e',Rk,y'⟩:=t;intro h g k k1 k2 l;cases (h:a=a');cases (g:(b,c)=(b',c'));cases (k:d=d');cases (k1:e=e');cases (k2:f'=Rk);cases (l:y=y');rfl
end
def Kj{A B:Type}(o:Option A)(c:A->Bool)(T:A->Option B):Option (A×B):=o.bind λa=>match c a with
  | true=>(T a).map λb=>(a,b)
  | false=>none
def KD {A B:Type} (o:Option A) (c:A->Bool) (T:A->Option B) (k:A->B->Bool):Option B:=o.bind λa=>match c a with
  | true=>(T a).bind λb=>match k a b with
    | true=>some b
    | false=>none
  | false=>none
theorem OP {A B C:Type} {o:Option A} {c:A->Bool} {T:A->Option B} {k:A->B->Bool} {g:B->C} {v:C} (h:(Kj o c T).map (λx=>k x.1 x.2)=some true) (l:(Kj o c T).map (λx=>g x.2)=some v):(KD o c T k).map g=some v:=by
  unfold Kj at h l;unfold KD;cases o with
  | none=>exact nomatch h
  | some a=>
    dsimp only [Option.bind] at h l⊢;cases hc:c a with
    | false=>rw [hc] at h;exact nomatch h
    | true=>
      rw [hc] at h l;dsimp only at h l⊢;cases hT:T a with
      | none=>rw [hT] at h;exact nomatch h
      | some b=>
        rw [hT] at h l;injection h with h;injection l with l
        dsimp only [Option.bind];rw [show k a b=true from h];exact aaX some l
noncomputable abbrev oA(p:Program)(w:World)(N:Nat):Option Shared:=(Fast.tw10274390034422433532 Fast.tw14364793385576792824 (opening p) w N (Fast.tw1435165496053646825 (opening p)).1 (Fast.tw1435165496053646825 (opening p)).2).bind (fenceModules? p)
abbrev cA(s:Shared):Bool:=s.heap.isNs mainGlobals&&s.gens.size==0
noncomputable abbrev tA(p:Program)(w:World)(N:Nat)(s₀:Shared):Option Shared:=Fast.tw14082659384304107361 Fast.tw14364793385576792824 p w s₀.heap.objs.size (s₀.heap.nsMap mainGlobals "__annotations__") N s₀ (topStub p)
abbrev kA(p:Program)(s₀ s₁:Shared):Bool:=staticsOk (importedModules p.main.body) s₀.heap s₁.heap&&namesBound p s₁.heap&&gensDone s₁&&laidKept s₀.heap s₁.heap
theorem oe(p:Program)(w:World)(N:Nat):openEnds treeTable p w N=KD (oA p w N) cA (tA p w N) (kA p):=by unfold openEnds fencedOpening topFrom KD oA tA;rewrite [Fast.te14082659384304107361,Fast.te14364793385576792824,Fast.te10274390034422433532,Fast.te1435165496053646825];rfl
noncomputable abbrev go(w:World):=Kj (oA row.prog w 6520) cA (tA row.prog w 6520)
abbrev gd:=openGood q []
noncomputable abbrev sn(x:Shared×Shared):=Fast.tw4187177175401517315 q [] (importedModules row.prog.main.body) Xt true x.2
theorem la(w:World):(go w).map (λx=>p1 (sn x))=some gd.1:=by kernel_rfl
theorem lb(w:World):(go w).map (λx=>p2 (sn x))=some (gd.2.1,gd.2.2.1):=by kernel_rfl
theorem lc(w:World):(go w).map (λx=>p3 (sn x))=some gd.2.2.2.1:=by kernel_rfl
theorem le(w:World):(go w).map (λx=>p5 (sn x))=some gd.2.2.2.2.1:=by kernel_rfl
theorem lg(w:World):(go w).map (λx=>p6 (sn x))=some gd.2.2.2.2.2.1:=by kernel_rfl
theorem ld(w:World):(go w).map (λx=>p4 (sn x))=some gd.2.2.2.2.2.2:=by kernel_rfl
theorem lk(w:World):(go w).map (λx=>kA row.prog x.1 x.2)=some true:=by kernel_rfl
theorem lo(w:World):(go w).map (λx=>H.obs x.2)=some (H.val w):=by kernel_rfl
theorem J7(w:World):(openEnds treeTable row.prog w 6520).map (openSeen q [] (importedModules row.prog.main.body) Xt true)=some gd:=by rewrite [oe,Fast.te4187177175401517315];exact OP (lk w) (pr (la w) (lb w) (lc w) (le w) (lg w) (ld w))
theorem HZ(w:World):(openEnds treeTable row.prog w 6520).map H.obs=some (H.val w):=by rewrite [oe];exact OP (lk w) (lo w)
theorem left:LeftO row.prog q [] Xt H.obs H.val 6520:=λw=>N0 (J7 w) (HZ w)
end Hd
local macro_rules|`(())=>`(by omega)
local macro_rules|`(@_)=>`(by decide)
open Lean in
def rpt:Nat → Term → MacroM (TSyntax `rcasesPat)
|0,_=>Macro.throwUnsupported
|n+1,t=>match t with
|`(⟨$a,*⟩)=>do
 let b←a.getElems.mapM (rpt n)
 let b←b.mapM λp=>`(Lean.Parser.Tactic.rcasesPatLo|$p:rcasesPat)
 `(rcasesPat|⟨$b,*⟩)
|`(_)=>`(rcasesPat|_)
|`($x:ident)=>`(rcasesPat|$x:ident)
|_=>Macro.throwUnsupported
open Lean in
local macro_rules|`(tactic|have ⟨$a,*⟩:=$e)=>do
 let p←rpt 99 (←`(⟨$a,*⟩))
 `(tactic|obtain $p:rcasesPat:=$e)
open Lean in
local macro_rules|`(λ$xs*=>$b)=>do
 let mut ys:=#[]
 let mut ts:=#[]
 if (←MonadRef.getRef)[0].isToken "fun" then Macro.throwUnsupported
 for x in xs do
  if x.1.isOfKind `Lean.Parser.Term.anonymousCtor then
   let p←rpt 99 ⟨x.1⟩
   let y←withFreshMacroScope `(h)
   ys:=ys.push y
   ts:=ts.push (←`(tactic|obtain $p:rcasesPat:=$y))
  else ys:=ys.push ⟨x.1⟩
 if ts.isEmpty then Macro.throwUnsupported
 `(λ$ys*=>by{$[$ts]*;exact $b})
set_option hygiene false in
local macro_rules|`($g &&& ($F,$a,$n))=>`(mc $g (($F).binds λ_ _ _ _ _ _=>$n) (mg_of X G $a) ($F).kp)
set_option hygiene false in
local macro_rules|`($g ||| ($F,$a,$i,$n))=>`(⟨$g,(($F).binds λ_ _ _ _ _ _=>$n),⟨pO,qx,o_,qz⟩,⟨$a,$i,($F).kp⟩⟩)
set_option genSizeOf false
set_option bootstrap.genMatcherCode false
noncomputable def PySem.W.Fast.tw717133435563089942:=PySem.Challenge.pw_chanceduel_k09_floors_written
theorem PySem.W.Fast.te717133435563089942:PySem.Challenge.pw_chanceduel_k09_floors_written=PySem.W.Fast.tw717133435563089942:=rfl
def gV:2<=PySem.sizeLine:=@_
abbrev fI:=PySem.W.Frag
namespace L2
open PySem PySem.Spec PyProof.Rows
variable{us:List Value}{a b dx C:Addr}{P prog:Program}{w:World}{h h' base:Heap}{γ:List (Addr×Obj)}{s:Shared}{g':Array GenState}{ch fp:List Addr}{i:Nat}{x:Str}{M:Model}{A:Around}{E Q:Value->Shared->Prop}{u:Value}{pos:Pos}{e c tg:Expr}{es:List Expr}{body:List Stmt}{f:Value->Value->Sem Value}{op:CmpOp}{mA mg:Str->Option Value}{kw:List (Str×Value)}{outer:List Env}{ps:List Str}
abbrev Key:=Sum Int Str
def oI:Key->Value->Bool
 | .inl k,v=>Value.isInt k v
 | .inr x,v=>Value.isStrOf x v
def NS(w:World):Key->Int
 | .inl k=>hashInt k
 | .inr x=>hashStr w x
def aO:∀{k:Key} {v:Value},oI k v=true->(∃i t,k=Sum.inl i/\v=Value.int i t)\/(∃x t,k=Sum.inr x/\v=Value.str x t)
 | .inl i,v,h=>by have⟨t,e⟩:=Value.isInt_shape (k:=i) (v:=v) h;exact .inl ⟨i,t,rfl,e⟩
 | .inr x,v,h=>by have⟨t,e⟩:=Value.isStrOf_shape (x:=x) (v:=v) h;exact .inr ⟨x,t,rfl,e⟩
def xf(i:Int)(t:Tok):oI (.inl i) (.int i t)=true:=by simp[oI,Value.isInt]
def x8(x:Str)(t:Tok):oI (.inr x) (.str x t)=true:=by simp[oI,Value.isStrOf]
def FO(a b:Int):decide ((Sum.inl a:Key)=Sum.inl b)=(a==b):=by
 by_cases e:a=b
 ·subst e;simp
 ·have h:¬(Sum.inl a:Key)=Sum.inl b:=λq=>e (Sum.inl.inj q);rw[aau h];exact(beq_eq_false_iff_ne.mpr e).symm
def FP(a b:Str):decide ((Sum.inr a:Key)=Sum.inr b)=decide (a=b):=by
 by_cases e:a=b
 ·subst e;simp
 ·have h:¬(Sum.inr a:Key)=Sum.inr b:=λq=>e (Sum.inr.inj q);rw[aau h,aau e]
def Gy(a:Int)(b:Str):decide ((Sum.inl a:Key)=Sum.inr b)=false:=aau nofun
def FV(a:Str)(b:Int):decide ((Sum.inr a:Key)=Sum.inl b)=false:=aau nofun
def bA(prog:Program)(w:World):PySem.KeyKind prog w Key where
 is:=oI
 hash:=NS w
 inj:=λv a b ha hb=>by
  rcases aO ha with ⟨i,t,rfl,rfl⟩| ⟨x,t,rfl,rfl⟩
  ·rcases aO hb with ⟨j,u,rfl,e⟩| ⟨y,u,rfl,e⟩
   ·injection e with e1 _;rw[e1]
   ·exact nomatch e
  ·rcases aO hb with ⟨j,u,rfl,e⟩| ⟨y,u,rfl,e⟩
   ·exact nomatch e
   ·injection e with e1 _;rw[e1]
 byValue:=λk v h=>by rcases aO h with ⟨i,t,rfl,rfl⟩| ⟨x,t,rfl,rfl⟩ <;> rfl
 pyHash:=λhv h=>by
  rcases aO hv with ⟨i,t,rfl,rfl⟩| ⟨x,t,rfl,rfl⟩
  ·exact wpAny_pyHash_int h
  ·exact wpAny_pyHash_str h
 eqBool:=λhu hv h=>by
  rcases aO hu with ⟨i,t,rfl,rfl⟩| ⟨x,t,rfl,rfl⟩
  ·rcases aO hv with ⟨j,u,rfl,rfl⟩| ⟨y,u,rfl,rfl⟩
   ·rw[FO]at h;exact wpAny_eqBool_int h
   ·rw[Gy]at h;exact SeqAt.EqAt.int_str i t y u _ _ _ _ h
  ·rcases aO hv with ⟨j,u,rfl,rfl⟩| ⟨y,u,rfl,rfl⟩
   ·rw[FV]at h;exact SeqAt.EqAt.str_int x t j u _ _ _ _ h
   ·rw[FP]at h;exact wpAny_eqBool_str h
 «strs»:=λk x t v h=>by
  rcases aO h with ⟨i,u,rfl,e⟩| ⟨y,u,rfl,e⟩
  ·exact nomatch e
  ·injection e with e1 _
   subst e1;cases v <;> rfl
def se(prog:Program)(w:World)(i:Int)(t:Tok):(bA prog w).is (.inl i) (.int i t)=true:=xf i t
def rW(prog:Program)(w:World)(x:Str)(t:Tok):(bA prog w).is (.inr x) (.str x t)=true:=x8 x t
inductive V where
 | aR| bl (b:Bool)| int (i:Int)| str (x:Str)| yF (b:Array UInt8)| FE (b:UInt64)| ref (a:Addr)| ty (n:String)
 deriving DecidableEq
variable{v:V}
def Ψ:V->Value->Prop
 | .aR,u=>u=Value.none
 | .bl b,u=>u=Value.bool b
 | .int i,u=>∃t,u=Value.int i t
 | .str x,u=>∃t,u=Value.str x t
 | .yF b,u=>∃t,u=Value.bytes b t
 | .FE b,u=>∃t,u=Value.float b t
 | .ref a,u=>u=Value.ref a
 | .ty n,u=>u=Value.type n
abbrev Ν:List V->List Value->Prop:=Paired Ψ
def Ν.length{xs:List V}(r:Ν xs us):xs.length=us.length:=Paired.length r
def Ν.get:∀{xs:List V} {us:List Value} {i:Nat} {x:V},Ν xs us->xs[i]? =some x->∃u,us[i]? =some u/\Ψ x u
 | _,_,_,_,.nil,e=>by simp at e
 | _,_,0,_,.cons r _,e=>by simp at e;subst e;exact⟨_,rfl,r⟩
 | _,_,i+1,x,.cons _ t,e=>by have⟨u,h1,h2⟩:=Ν.get (i:=i) (x:=x) t (by simpa using e);exact⟨u,by simpa using h1,h2⟩
def Ν.set{x:V}{u:Value}(r:Ψ x u):∀{xs:List V} {us:List Value} (i:Nat),Ν xs us->Ν (xs.set i x) (us.set i u)
 | _,_,_,.nil=>.nil
 | _,_,0,.cons _ t=>.cons r t
 | _,_,i+1,.cons q t=>.cons q (Ν.set r i t)
def Ν.append:∀{xs ys:List V} {us ws:List Value},Ν xs us->Ν ys ws->Ν (xs++ys) (us++ws)
 | _,_,_,_,.nil,s=>s
 | _,_,_,_,.cons r t,s=>.cons r (Ν.append t s)
def Ν.take:∀{xs:List V} {us:List Value} (n:Nat),Ν xs us->Ν (xs.take n) (us.take n)
 | _,_,0,_=>.nil
 | _,_,_+1,.nil=>.nil
 | _,_,n+1,.cons r t=>.cons r (Ν.take n t)
def Ν.drop:∀{xs:List V} {us:List Value} (n:Nat),Ν xs us->Ν (xs.drop n) (us.drop n)
 | _,_,0,r=>r
 | _,_,_+1,.nil=>.nil
 | _,_,n+1,.cons _ t=>Ν.drop n t
def gS:Option V->Option Value->Prop
 | some v,some u=>Ψ v u
 | none,none=>True
 | _,_=>False
def KV{κ:Type}:List (κ×V)->List (κ×Value)->Prop:=Paired λ(p:κ×V) (q:κ×Value)=>p.1=q.1/\Ψ p.2 q.2
def kV:Key->V
 | .inl i=>.int i
 | .inr x=>.str x
inductive HO where
 | lst (xs:List V)
 | tup (xs:List V)
 | dK (Χ:List (Key×V))| dT (Χ:List (List Key×V))
 | set (S:Int->Bool) (n:Nat)
 | ins (C dx:Addr) (fs:List (Str×V))
 | own (x:Addr)
 | xd (fs:List (Str×V))
 | met (f x:Addr)
 | Ki (lo hi:Int)
 | qO (o:Obj) (u:HO)
 | Bu (ps:Array Value)
 | ext (φ:Heap->Prop)
variable{o:HO}
abbrev Hp:=Addr->Option HO
def upd(H:Hp)(a:Addr)(o:HO):Hp:=λb=>if b=a then some o else H b
def Ω{H:Hp}:upd H a o a=some o:=by unfold upd;rw[if_pos rfl]
def ω{H:Hp}(h:b≠a):upd H a o b=H b:=by unfold upd;rw[if_neg h]
def Hm{H:Hp}{u:HO}(h:H a=some o)(h':H b=some u)(d:o≠u):a≠b:=by intro e;subst e;rw[h]at h';exact d (aan h')
def aS{H:Hp}(h:H a=some o)(h':H b=none):a≠b:=by intro e;subst e;rw[h]at h';cases h'
section
variable(P:Program)(w:World)
def aI(H:Hp)(h:Heap)(a:Addr):HO->Prop
 | .lst xs=>xs.length<=sizeLine/\∃(its:List Value) (n:Nat),Ν xs its/\h.get? a=some {cls:=.type "list",data:=.seq its.toArray n}
 | .tup xs=>xs.length<=sizeLine/\∃its:List Value,Ν xs its/\IsTup h a its.toArray
 | .dK Χ=>Χ.length<=sizeLine/\(a==sysModules)=false/\∃vs,KV Χ vs/\h.DictOf (bA P w) a vs
 | .dT Χ=>Χ.length<=sizeLine/\(a==sysModules)=false/\∃xs:List (List Key×Addr×Value),
   Paired (λ(p:List Key×V) (q:List Key×Addr×Value)=>p.1=q.1/\H q.2.1=some (.tup (p.1.map kV))/\Ψ p.2 q.2.2) Χ xs/\
   ∃o es ep,h.get? a=some o/\o.ExactDict/\o.data= .dict es ep/\es.toList=xs.map (entryOfKey (tupleKind (bA P w)))/\(xs.map (·.1)).Nodup
 | .set S n=>h.SetOf (intKind P w) a S n
 | .ins C dx fs=>H dx=some (.own a)/\fs.length<=1000/\dx≠a/\h.get? a=some (PySem.W.instObj C dx)/\
   ∃mA,h.Ns1 dx mA/\(∀f,gS (fs.lookup f) (mA f))/\PySem.Within mA (fs.map (·.1))
 | .own _=>∃o,h.get? a=some o
 | .xd fs=>∃mA,h.Ns1 a mA/\∀f,gS (fs.lookup f) (mA f)
 | .Ki lo hi=>∃t u v,h.get? a=some {cls:=.type "range",data:=.fields #[.int lo t,.int hi u,.int 1 v]}
 | .qO o u=>h.get? a=some o/\aI H h a u
 | .Bu ps=>h.get? a=some {cls:=.none,data:=.fields ps}
 | .met f x=>h.get? a=some (PySem.W.methodObj (.ref f) (.ref x))
 | .ext φ=>φ h/\(∃o,h.get? a=some o)/\∀h1 h2:Heap,φ h1->(∀o,h1.get? a=some o->h2.get? a=some o)->φ h2
def g9(H:Hp)(h:Heap):Prop:=∀a o,H a=some o->aI P w H h a o
end
section
variable{H H':Hp}
def aI.lt(x:aI P w H h a o):a < h.objs.size:=by
 cases o with
 | lst xs=>have⟨_,_,_,_,e⟩:=x;exact aah e
 | tup xs=>have⟨_,_,_,p⟩:=x;exact p.lt
 | dK Χ=>have⟨_,_,_,_,o,_,_,e,_⟩:=x;exact aah e
 | dT Χ=>have⟨_,_,_,_,o,_,_,e,_⟩:=x;exact aah e
 | set S n=>have⟨o,_,_,_,e,_⟩:=x;exact aah e
 | ins C dx fs=>have⟨_,_,_,e,_⟩:=x;exact aah e
 | own y=>have⟨_,e⟩:=x;exact aah e
 | xd fs=>have⟨_,⟨_,_,_,e,_⟩,_⟩:=x;exact aah e
 | Ki lo hi=>have⟨_,_,_,e⟩:=x;exact aah e
 | qO ob u=>have⟨e,_⟩:=x;exact aah e
 | Bu ps=>exact aah (show h.get? a=some _ from x)
 | met f y=>exact aah (show h.get? a=some _ from x)
 | ext φ=>have⟨_,⟨_,e⟩,_⟩:=x;exact aah e
def Paired.Et{α β:Type}{F G:α->β->Prop}:∀{l₁:List α} {l₂:List β},Paired F l₁ l₂->(∀a b,F a b->G a b)->Paired G l₁ l₂
 | _,_,.nil,_=>.nil
 | _,_,.cons r t,f=>.cons (f _ _ r) (Paired.Et t f)
def aI.sh(x:aI P w H h a o)(k:∀b u,(b=a\/H b=some (.own a))->h.get? b=some u->h'.get? b=some u)
  (ho:∀b,H b=some (.own a)->H' b=some (.own a)) (ht:∀b xs,H b=some (.tup xs)->H' b=some (.tup xs)):aI P w H' h' a o:=by
 induction o with
 | lst xs=>have⟨z,its,n,r,e⟩:=x;exact⟨z,its,n,r,k _ _ (.inl rfl) e⟩
 | tup xs=>have⟨z,its,r,ob,e,c⟩:=x;exact⟨z,its,r,ob,k _ _ (.inl rfl) e,c⟩
 | dK Χ=>have⟨z,y,vs,r,ob,es,ep,e,c⟩:=x;exact⟨z,y,vs,r,ob,es,ep,k _ _ (.inl rfl) e,c⟩
 | dT Χ=>
  have⟨z,y,xs,r,ob,es,ep,e,c⟩:=x;exact⟨z,y,xs,Paired.Et r λp q z=>⟨z.1,ht _ _ z.2.1,z.2.2⟩,ob,es,ep,k _ _ (.inl rfl) e,c⟩
 | set S n=>have⟨ob,es,ep,t,e,c⟩:=x;exact⟨ob,es,ep,t,k _ _ (.inl rfl) e,c⟩
 | ins C dx fs=>
  have⟨d,z,ne,e,mA,⟨od,es,ep,e2,c⟩,r⟩:=x;exact⟨ho _ d,z,ne,k _ _ (.inl rfl) e,mA,⟨od,es,ep,k _ _ (.inr d) e2,c⟩,r⟩
 | own y=>have⟨ob,e⟩:=x;exact⟨ob,k _ _ (.inl rfl) e⟩
 | xd fs=>have⟨mA,⟨od,es,ep,e,c⟩,r⟩:=x;exact⟨mA,⟨od,es,ep,k _ _ (.inl rfl) e,c⟩,r⟩
 | Ki lo hi=>have⟨t,u,v,e⟩:=x;exact⟨t,u,v,k _ _ (.inl rfl) e⟩
 | qO ob u ih=>have⟨e,q⟩:=x;exact⟨k _ _ (.inl rfl) e,ih q⟩
 | Bu ps=>
  have e:h.get? a=some {cls:=.none,data:=.fields ps}:=x;show h'.get? a=some {cls:=.none,data:=.fields ps};exact k a _ (.inl rfl) e
 | met f y=>
  have e:h.get? a=some (PySem.W.methodObj (.ref f) (.ref y)):=x;show h'.get? a=some (PySem.W.methodObj (.ref f) (.ref y));exact k a _ (.inl rfl) e
 | ext φ=>have⟨p,⟨o,e⟩,st⟩:=x;exact⟨st _ _ p λo q=>k _ _ (.inl rfl) q,⟨o,k _ _ (.inl rfl) e⟩,st⟩
def g9.lt(x:g9 P w H h)(e:H a=some o):a < h.objs.size:=(x a o e).lt
def g9.fresh(x:g9 P w H h)(e:h.objs.size<=a):H a=none:=by
 cases q:H a with
 | none=>rfl
 | some u=>exact aaE (aak (x.lt q) e) (abf _)
def g9.kept(x:g9 P w H h)(k:∀b u,h.get? b=some u->h'.get? b=some u):g9 P w H h':=λa o e=>
 (x a o e).sh (λb u _ q=>k b u q) (λ_ q=>q) λ_ _ q=>q
def g9.laid(x:g9 P w H h)(k:∀b u,h.get? b=some u->h'.get? b=some u)(hp:h.objs.size<=a)(new:aI P w (upd H a o) h' a o):g9 P w (upd H a o) h':=λb u e=>by
 have hn:=x.fresh hp;by_cases hb:b=a
 ·subst hb;rw[Ω]at e;cases e;exact new
 ·rw[ω hb]at e;exact(x b u e).sh (λc v _ q=>k c v q) (λc q=>by rw[ω (aS q hn)];exact q) λc xs q=>by rw[ω (aS q hn)];exact q
end
def Rd(H:Hp)(a:Addr)(u:HO):Prop:=H a=some u\/∃o,H a=some (.qO o u)
def Rd.ok{H:Hp}{u:HO}(r:Rd H a u)(x:g9 P w H h):aI P w H h a u:=by
 rcases r with r| ⟨o,r⟩
 ·exact x a u r
 ·have⟨_,q⟩:=x a _ r;exact q
def J2:Option HO->Prop
 | some (.lst _)=>True
 | some (.dK _)=>True
 | some (.dT _)=>True
 | some (.set _ _)=>True
 | some (.ins _ _ _)=>True
 | some (.ext _)=>True
 | _=>False
section
variable{H:Hp}{x e:Addr}{o':HO}
def g9.write(ok:g9 P w H h)(mu:J2 (H x))(he:e=x\/H e=some (.own x))(k:∀b u,b≠e->h.get? b=some u->h'.get? b=some u)(G8:∃u,h'.get? e=some u)
  (new:aI P w (upd H x o') h' x o'):g9 P w (upd H x o') h':=λb u q=>by
 have Hj:∀c y,H c=some (.own y)->c≠x:=λc y r z=>by subst z;rw[r]at mu;exact mu
 have M6:∀c xs,H c=some (.tup xs)->c≠x:=λc xs r z=>by subst z;rw[r]at mu;exact mu
 by_cases hb:b=x
 ·subst hb;rw[Ω]at q;cases q;exact new
 ·rw[ω hb]at q;by_cases D':b=e
  ·have q':H b=some (.own x):=by
    rcases he with z| z
    ·exact aaE (D'.trans z) hb
    ·rw[D'];exact z
   rw[q]at q';cases q';have⟨v,hv⟩:=G8;exact⟨v,by rw[D'];exact hv⟩
  ·refine(ok b u q).sh (λc v hc r=>k c v ?_ r) (λc r=>by rw[ω (Hj c b r)];exact r) λc xs r=>by rw[ω (M6 c xs r)];exact r
   rcases hc with rfl| hc
   ·exact D'
   ·rintro rfl;rcases he with z| z
    ·exact Hj c b hc z
    ·rw[hc]at z;cases z;exact hb rfl
end
structure Un(fs ex:List Addr)(H H':Hp)(h h':Heap):Prop where
 keep:∀b o,h.get? b=some o->H b=none->b∉fs->b∉ex->h'.get? b=some o
 slot:∀b o,h.get? b=some o->H b=none->b∈fs->b∉ex->∃sl,h'.get? b=some {o with slots:=sl}
 free:∀b o,h.get? b=some o->H b=none->b∉ex->H' b=none
 there:∀b o,h.get? b=some o->b∉ex->∃o',h'.get? b=some o'
 kW:∀b xs,H b=some (.tup xs)->H' b=some (.tup xs)
 jJ:∀b o u,H b=some (.qO o u)->H' b=some (.qO o u)
 kT:∀b ps,H b=some (.Bu ps)->∃more,H' b=some (.Bu (ps++more))
section
variable{fs NX ex QV:List Addr}{H H1 H2:Hp}{h1 h2:Heap}{x e:Addr}
def Un.any(u:Un fs ex H H1 h h1){ob:Obj}(q:h.get? b=some ob)(n:H b=none)(hx:b∉ex):∃sl,h1.get? b=some {ob with slots:=sl}:=by
 by_cases hb:b∈fs
 ·exact u.slot b ob q n hb hx
 ·exact⟨ob.slots,u.keep b ob q n hb hx⟩
def Un.kept(k:∀b u,h.get? b=some u->h'.get? b=some u):Un fs ex H H h h':=
 ⟨λb ob q _ _ _=>k b ob q,λb ob q _ _ _=>⟨ob.slots,k b ob q⟩,λ_ _ _ n _=>n,λb ob q _=>⟨ob,k b ob q⟩,λ_ _ q=>q,λ_ _ _ q=>q,λ_ ps q=>⟨#[],by rw[q];simp⟩⟩
def Un.refl:Un fs ex H H h h:=Un.kept λ_ _ q=>q
def Un.laid(k:∀b u,h.get? b=some u->h'.get? b=some u)(hp:h.objs.size<=a)(hn:H a=none):Un fs ex H (upd H a o) h h' where
 keep:=λb u q _ _ _=>k b u q
 slot:=λb u q _ _ _=>⟨u.slots,k b u q⟩
 free:=λb u q n _=>by rw[ω (aaC (aak (aah q) hp))];exact n
 there:=λb u q _=>⟨u,k b u q⟩
 kW:=λb xs q=>by rw[ω (aS q hn)];exact q
 jJ:=λb u xs q=>by rw[ω (aS q hn)];exact q
 kT:=λb ps q=>⟨#[],by rw[ω (aS q hn),q];simp⟩
def Un.write(mu:J2 (H x))(he:e=x\/H e=some (.own x))(k:∀b u,b≠e->h.get? b=some u->h'.get? b=some u)(G8:∃u,h'.get? e=some u):Un fs ex H (upd H x o) h h':=by
 have hx:∀b,H b=none->b≠x:=λb n z=>by subst z;rw[n]at mu;exact mu
 have hb:∀b,H b=none->b≠e:=λb n z=>by
  subst z;rcases he with r| r
  ·exact hx b n r
  ·rw[n]at r;cases r
 have hm:∀b u,H b=some u->¬J2 (some u)->b≠x:=λb u q nm z=>by subst z;rw[q]at mu;exact nm mu
 refine⟨λb u q n _ _=>k b u (hb b n) q,λb u q n _ _=>⟨u.slots,k b u (hb b n) q⟩,λb u q n _=>by rw[ω (hx b n)];exact n,λb u q _=>?_,
  λb xs q=>by rw[ω (hm b _ q λz=>z)];exact q,λb u xs q=>by rw[ω (hm b _ q λz=>z)];exact q,λb ps q=>⟨#[],by rw[ω (hm b _ q λz=>z),q];simp⟩⟩
 by_cases D':b=e
 ·subst D';exact G8
 ·exact⟨u,k b u D' q⟩
end
def KQ(h:Heap)(H:Hp):List Addr:=(List.range h.objs.size).filter λa=>(H a).isSome
def pH(h:Heap)(H:Hp):Heap:=PySem.W.hideAll h (KQ h H)
def xT(h:Heap)(H:Hp):(pH h H).objs.size=h.objs.size:=PySem.W.hideAll_size _ _
def AY{H:Hp}{o:Obj}(e:h.get? b=some o)(n:H b=none):(pH h H).get? b=some o:=
 PySem.W.hideAll_get _ e λhm=>by have q:(H b).isSome=true:=(List.mem_filter.mp hm).2;rw[n]at q;simp at q
def Cb{H:Hp}{o:Obj}(e:(pH h H).get? b=some o):h.get? b=some o/\H b=none:=by
 have e':h.get? b=some o:=PySem.W.of_hideAll (KQ h H) e;refine⟨e',?_⟩;cases q:H b with
 | none=>rfl
 | some x=>
  have hm:b∈KQ h H:=List.mem_filter.mpr ⟨List.mem_range.mpr (Heap.lt_size e'),by simp[q]⟩;have z:(pH h H).get? b=none:=PySem.W.hideAll_none (KQ h H) hm;rw[z]at e;cases e
structure Mod(K:fI)(mg:Str->Option Value)(base:Heap):Prop where
 Kl:K.In base
 glob:base.Ns mainGlobals mg
 blt:∃mb,base.Ns builtinsNs mb/\∀x:Str,x≠"__name__"->mb x=bootBuiltins x
 nolimit:base.NoLimit
structure Cx where
 prog:Program
 w:World
 K:fI
 mg:Str->Option Value
 base:Heap
 A:Around
 N:List Str
 s₀:Shared
 H₀:Hp
 env:Env
 outer:List Env
 stack:List Env
 ex:List Addr
 fn:Str->Bool
 calm:Bool
 pn:List (Addr×Obj)
 xe:Value->Shared->Prop
variable{X:Cx}
def jm(l:List Env):List Addr:=l.filterMap (·.frame)
abbrev Cx.fs(X:Cx):List Addr:=jm X.outer
def LQ(sc:Scope)(x:Str):Prop:=sc.names.lookup x=some .local\/sc.names.lookup x=some .cell\/sc.names.lookup x=some .free
def Loc(sc:Scope)(x:Str):Prop:=sc.names.lookup x=some .local\/sc.names.lookup x=some .cell
def N1(env:Env)(h:Heap)(m:Str->Option Value)(x:Str)(u:Value):Prop:=
 (env.kindOf x=some .local/\m x=some u)\/((env.kindOf x=some .cell\/env.kindOf x=some .free)/\∃c,env.cells.lookup x=some c/\h.IsCell c (some u))
structure Cx.Ok(X:Cx):Prop where
 mod:Mod X.K X.mg X.base
 kind:X.env.scope.kind= .function
 glob:X.env.globals=mainGlobals
 blt:X.env.builtins=builtinsNs
 above:X.s₀.heap.objs.size<=X.env.locals
 inj:∀x y c,X.env.cells.lookup x=some c->X.env.cells.lookup y=some c->x=y
 has:∀x,(X.env.kindOf x=some .cell\/X.env.kindOf x=some .free)->∃c,X.env.cells.lookup x=some c
 MI:∀x c,X.fn x=true->X.env.cells.lookup x=some c->X.s₀.heap.objs.size<=c
 hd:X.calm=true->X.A.handled=none
 frames:X.A.frames=some X.stack
 N5:X.stack=X.outer\/(X.stack=X.env::X.outer/\X.env.frame=some X.env.locals)
 Oe:∀b∈X.ex,b≠X.env.locals/\∀x c,X.env.cells.lookup x=some c->c≠b
 bs:∀b o,X.base.get? b=some o->X.s₀.heap.get? b=some o/\X.H₀ b=none
 G7:X.base.objs.size<=X.s₀.heap.objs.size
 EX:∀b o,X.base.get? b=some o->b∉X.ex
 FI:∀b∈X.ex,b∉X.fs
 nQ:X.s₀.heap.FunFrames X.base X.outer
 Hw:∀b∈X.fs,X.H₀ b=none
structure Inv(X:Cx)(γ:List (Addr×Obj))(σ:List (Option V))(H:Hp)(s:Shared):Prop where
 ok:X.Ok
 os:s.os=X.s₀.os
 bare:AllBare s.gens
 base:Un X.fs X.ex X.H₀ H X.s₀.heap s.heap
 loc:∃m,s.heap.Ns X.env.locals m/\∀(i:Nat) (x:Str) (v:V),X.N[i]? =some x->σ[i]? =some (some v)->LQ X.env.scope x->∃u,Ψ v u/\N1 X.env s.heap m x u
 cell:∀x c,X.env.cells.lookup x=some c->∃v,s.heap.IsCell c v
 free:H X.env.locals=none
 kC:∀x c,X.env.cells.lookup x=some c->H c=none
 pin:∀p∈X.pn++γ,s.heap.get? p.1=some p.2/\H p.1=none/\p.1≠X.env.locals/\p.1∉X.fs/\∀v,p.2.data≠ .cell v
 aE:g9 X.prog X.w H s.heap
 len:σ.length=X.N.length
section
variable{σ:List (Option V)}{H H':Hp}
def Cx.Ok.L_(ok:X.Ok){o:Obj}(e:X.base.get? b=some o):b∉X.fs:=λhb=>by have:=(ok.nQ.mem hb).1;rw[e]at this;cases this
def Inv.bs(I:Inv X γ σ H s):∀b o,X.base.get? b=some o->s.heap.get? b=some o/\H b=none:=λb o e=>
 ⟨I.base.keep b o (I.ok.bs b o e).1 (I.ok.bs b o e).2 (I.ok.L_ e) (I.ok.EX b o e),I.base.free b o (I.ok.bs b o e).1 (I.ok.bs b o e).2 (I.ok.EX b o e)⟩
def Inv.bk(I:Inv X γ σ H s):∀b o,X.base.get? b=some o->s.heap.get? b=some o:=λb o e=>(I.bs b o e).1
def Inv.mod(I:Inv X γ σ H s):Mod X.K X.mg X.base:=I.ok.mod
def Inv.jF(I:Inv X γ σ H s):X.K.In s.heap:=I.ok.mod.Kl.keeps I.bk
def Inv.lt(I:Inv X γ σ H s):X.env.locals < s.heap.objs.size:=let ⟨_,hn,_⟩:=I.loc;hn.lt
def Inv.sz(I:Inv X γ σ H s):X.s₀.heap.objs.size<=s.heap.objs.size:=aaq I.ok.above (Nat.le_of_lt I.lt)
def Inv.Lx(I:Inv X γ σ H s)(h:s.heap.objs.size<=a):a∉X.fs:=λhb=>by have⟨_,o,ho,_⟩:=I.ok.nQ.mem hb;exact aaE (aak (aah ho) (aaq I.sz h)) (abf _)
def Inv.Dg(I:Inv X γ σ H s):∀x c,X.env.cells.lookup x=some c->c≠X.env.locals:=λx c e z=>by have⟨v,o,ho,hd⟩:=I.cell x c e;have⟨m,⟨o',es,ep,tK,L7,_⟩,_⟩:=I.loc;rw[z,tK]at ho;cases ho;rw[L7]at hd;cases hd
def Inv.nQ(I:Inv X γ σ H s):s.heap.FunFrames X.base X.outer:=by
 have all:∀(l:List Env),(∀b∈jm l,b∈X.fs)->X.s₀.heap.FunFrames X.base l->s.heap.FunFrames X.base l:=by
  intro l
  induction l with
  | nil=>intro _ _;trivial
  | cons env r ih=>
   intro hs hl;have⟨hk,⟨L,o,hf,hn,ho,hd⟩,hr⟩:=hl;have hL:L∈X.fs:=hs L (by unfold jm;rw[List.filterMap_cons,hf];exact List.mem_cons_self);have⟨sl,e⟩:=I.base.slot L o ho (I.ok.Hw L hL) hL λz=>I.ok.FI L z hL;exact⟨hk,⟨L,_,hf,hn,e,hd⟩,ih (λb hb=>hs b (by unfold jm;rw[List.filterMap_cons,hf];exact List.mem_cons_of_mem _ hb)) hr⟩
 exact all X.outer (λ_ hb=>hb) I.ok.nQ
def Inv.stack(I:Inv X γ σ H s):s.heap.FunFrames X.base X.stack:=by
 rcases I.ok.N5 with e| ⟨e,hf⟩
 ·rw[e];exact I.nQ
 ·rw[e];have⟨m,hn,_⟩:=I.loc;refine .cons (by rw[I.ok.kind];decide) hf hn ?_ I.nQ;exact Heap.get?_none_of_le (aaq I.ok.G7 I.ok.above)
def Inv.pF(I:Inv X γ σ H s):∀b∈jm X.stack,b∈X.env.locals::X.fs:=λb hb=>by
 rcases I.ok.N5 with e| ⟨e,hf⟩
 ·rw[e]at hb;exact aae _ hb
 ·rw[e]at hb;unfold jm at hb;rw[List.filterMap_cons,hf]at hb;exact hb
def Inv.k8(I:Inv X γ σ H s):∀b∈jm X.stack,H b=none:=λb hb=>by
 rcases aay.mp (I.pF b hb) with e| hb
 ·rw[e];exact I.free
 ·have⟨_,o,ho,_⟩:=I.ok.nQ.mem hb;exact I.base.free b o ho (I.ok.Hw b hb) λz=>I.ok.FI b z hb
def Inv.step{t':Nat}{d':Drawn}(I:Inv X γ σ H s)
  (vZ:∀b∈ch,(b∈X.ex\/X.s₀.heap.objs.size<=b)/\b≠X.env.locals/\(∀x c,X.env.cells.lookup x=some c->c≠b)/\∀p∈X.pn++γ,p.1≠b)
  (keep:∀b o,b≠X.env.locals->b∉X.fs->b∉ch->s.heap.get? b=some o->H b=none->h'.get? b=some o)
  (slot:∀b o,b≠X.env.locals->b∈X.fs->b∉ch->s.heap.get? b=some o->H b=none->∃sl,h'.get? b=some {o with slots:=sl}) (free:∀b o,b∉ch->s.heap.get? b=some o->H b=none->H' b=none)
  (there:∀b o,b∉ch->s.heap.get? b=some o->∃o',h'.get? b=some o')
  (kW:∀b xs,H b=some (.tup xs)->H' b=some (.tup xs)) (jJ:∀b o u,H b=some (.qO o u)->H' b=some (.qO o u)) (kT:∀b ps,H b=some (.Bu ps)->∃more,H' b=some (.Bu (ps++more)))
  (ns:∀m,s.heap.Ns X.env.locals m->h'.Ns X.env.locals m) (aE:g9 X.prog X.w H' h') (hg:AllBare g'):
  Inv X γ σ H' {s with heap:=h',gens:=g',drawn:=d',toks:=t'}:=by
 have O6:∀b o,X.s₀.heap.get? b=some o->b≠X.env.locals:=λb o e=>aaC (aak (aah e) I.ok.above);have Ks:∀b o,X.s₀.heap.get? b=some o->b∉X.ex->b∉ch:=λb o e hx hb=>by
  rcases(vZ b hb).1 with z| z
  ·exact hx z
  ·exact aaE (aak (aah e) z) (abf _)
 have cellK:∀x c,X.env.cells.lookup x=some c->∀v,s.heap.IsCell c v->h'.IsCell c v:=λx c e v ⟨o,ho,hd⟩=>by
  have Hs:c∉ch:=λz=>(vZ c z).2.2.1 x c e rfl;by_cases hc:c∈X.fs
  ·have⟨sl,q⟩:=slot c o (I.Dg x c e) hc Hs ho (I.kC x c e);exact⟨_,q,hd⟩
  ·exact⟨o,keep c o (I.Dg x c e) hc Hs ho (I.kC x c e),hd⟩
 refine⟨I.ok,I.os,hg,⟨λb o e n hb hx=>?_,λb o e n hb hx=>?_,λb o e n hx=>?_,λb o e hx=>?_,λb xs e=>kW b xs (I.base.kW b xs e),λb o xs e=>jJ b o xs (I.base.jJ b o xs e),λb ps e=>?_⟩,?_,λx c e=>?_,?_,λx c e=>?_,λp hp=>?_,aE,I.len⟩
 ·exact keep b o (O6 b o e) hb (Ks b o e hx) (I.base.keep b o e n hb hx) (I.base.free b o e n hx)
 ·have⟨sl,e1⟩:=I.base.slot b o e n hb hx;have⟨RB,e2⟩:=slot b _ (O6 b o e) hb (Ks b o e hx) e1 (I.base.free b o e n hx);exact⟨RB,e2⟩
 ·have⟨o',e1⟩:=I.base.there b o e hx;exact free b o' (Ks b o e hx) e1 (I.base.free b o e n hx)
 ·have⟨o',e1⟩:=I.base.there b o e hx;exact there b o' (Ks b o e hx) e1
 ·have⟨m1,e1⟩:=I.base.kT b ps e;have⟨m2,e2⟩:=kT b _ e1;exact⟨m1++m2,by rw[e2,Array.append_assoc]⟩
 ·have⟨m,hn,hl⟩:=I.loc;refine⟨m,ns m hn,λi x v e1 e2 e3=>?_⟩;have⟨u,r,l⟩:=hl i x v e1 e2 e3;refine⟨u,r,?_⟩;rcases l with l| ⟨k,c,e,z⟩
  ·exact .inl l
  ·exact .inr ⟨k,c,e,cellK x c e _ z⟩
 ·have⟨v,z⟩:=I.cell x c e;exact⟨v,cellK x c e v z⟩
 ·have⟨m,⟨o,_,_,ho,_⟩,_⟩:=I.loc;exact free _ o (λz=>(vZ _ z).2.1 rfl) ho I.free
 ·have⟨v,o,ho,hd⟩:=I.cell x c e;exact free c o (λz=>(vZ c z).2.2.1 x c e rfl) ho (I.kC x c e)
 ·have⟨e,n,ne,nf,d⟩:=I.pin p hp;have Hs:p.1∉ch:=λz=>(vZ p.1 z).2.2.2 p hp rfl;exact⟨keep p.1 p.2 ne nf Hs e n,free p.1 p.2 Hs e n,ne,nf,d⟩
def Inv.un{t':Nat}(I:Inv X γ σ H s)(u:Un X.fs [] H H' s.heap h')(aE:g9 X.prog X.w H' h'):Inv X γ σ H' {s with heap:=h',toks:=t'}:=by
 have⟨m,⟨o,es,ep,ho,r⟩,_⟩:=id I.loc;have⟨sl,hL⟩:=u.any ho I.free (by simp)
 exact I.step (g':=s.gens) (d':=s.drawn) (ch:=[]) (λ_ z=>nomatch z) (λb o _ hb _ e n=>u.keep b o e n hb (by simp)) (λb o _ hb _ e n=>u.slot b o e n hb (by simp)) (λb o _ e n=>u.free b o e n (by simp)) (λb o _ e=>u.there b o e (by simp)) u.kW u.jJ u.kT (λm' hm=>by
  have⟨o',Nr,Mp,tK,r'⟩:=hm;rw[ho]at tK;cases tK
  exact⟨_,Nr,Mp,hL,r'⟩) aE I.bare
def Inv.call{t':Nat}{d':Drawn}(I:Inv X γ σ H s)(u:Un (jm X.stack) ch H H' s.heap h')(aE:g9 X.prog X.w H' h')(hg:AllBare g')
  (vZ:∀b∈ch,(b∈X.ex\/X.s₀.heap.objs.size<=b)/\b≠X.env.locals/\(∀x c,X.env.cells.lookup x=some c->c≠b)/\∀p∈X.pn++γ,p.1≠b):
  Inv X γ σ H' {s with heap:=h',gens:=g',drawn:=d',toks:=t'}:=by
 have⟨m,⟨o,es,ep,ho,r⟩,_⟩:=id I.loc;have⟨sl,hL⟩:=u.any ho I.free λz=>(vZ _ z).2.1 rfl
 exact I.step (ch:=ch) vZ (λb o hL hb hc e n=>u.keep b o e n (λz=>(aay.mp (I.pF b z)).elim hL hb) hc) (λb o _ _ hc e n=>u.any e n hc) (λb o hc e n=>u.free b o e n hc) (λb o hc e=>u.there b o e hc) u.kW u.jJ u.kT (λm' hm=>by
  have⟨o',Nr,Mp,tK,r'⟩:=hm;rw[ho]at tK;cases tK
  exact⟨_,Nr,Mp,hL,r'⟩) aE hg
def Inv.turned{t':Nat}{it:Addr}(I:Inv X γ σ H s)(k:∀b o,b≠it->s.heap.get? b=some o->h'.get? b=some o)(hn:H it=none)(hL:it≠X.env.locals)
  (h1:it∈X.ex\/X.s₀.heap.objs.size<=it) (h2:∀x c,X.env.cells.lookup x=some c->c≠it) (h3:∀p∈X.pn++γ,p.1≠it):Inv X γ σ H {s with heap:=h',toks:=t'}:=by
 have N6:∀b u,H b=some u->b≠it:=λb u e z=>by rw[z,hn]at e;cases e
 refine I.step (g':=s.gens) (d':=s.drawn) (ch:=[it]) (λb hb=>?_) (λb o _ _ hc e _=>k b o (λz=>hc (by simp[z])) e) (λb o _ _ hc e _=>⟨o.slots,k b o (λz=>hc (by simp[z])) e⟩) (λ_ _ _ _ n=>n)
  (λb o hc e=>⟨o,k b o (λz=>hc (by simp[z])) e⟩) (λ_ _ e=>e) (λ_ _ _ e=>e) (λb ps e=>⟨#[],by rw[e];simp⟩) (λm hm=>?_) (λb u e=>?_) I.bare
 ·have e:b=it:=by simpa using hb
  subst e;exact⟨h1,hL,h2,h3⟩
 ·have⟨o,es,ep,ho,r⟩:=hm;exact⟨o,es,ep,k _ o (Ne.symm hL) ho,r⟩
 ·refine(I.aE b u e).sh (λc v hc q=>k c v ?_ q) (λ_ q=>q) λ_ _ q=>q;rcases hc with z| z
  ·rw[z];exact N6 b u e
  ·exact N6 c _ z
def Inv.tok(I:Inv X γ σ H s)(t:Nat):Inv X γ σ H {s with toks:=t}:=I.un (h':=s.heap) (t':=t) Un.refl I.aE
def Inv.kept{t':Nat}(I:Inv X γ σ H s)(k:∀b u,s.heap.get? b=some u->h'.get? b=some u):Inv X γ σ H {s with heap:=h',toks:=t'}:=I.un (Un.kept k) (I.aE.kept k)
def Inv.laid{t':Nat}(I:Inv X γ σ H s)(k:∀b u,s.heap.get? b=some u->h'.get? b=some u)(hp:s.heap.objs.size<=a)(new:aI X.prog X.w (upd H a o) h' a o):
  Inv X γ σ (upd H a o) {s with heap:=h',toks:=t'}:=I.un (Un.laid k hp (I.aE.fresh hp)) (I.aE.laid k hp new)
def Inv.write{x e:Addr}{t':Nat}(I:Inv X γ σ H s)(mu:J2 (H x))(he:e=x\/H e=some (.own x))(k:∀b u,b≠e->s.heap.get? b=some u->h'.get? b=some u)(G8:∃u,h'.get? e=some u)
  (new:aI X.prog X.w (upd H x o) h' x o):Inv X γ σ (upd H x o) {s with heap:=h',toks:=t'}:=I.un (Un.write mu he k G8) (I.aE.write mu he k G8 new)
def Inv.vJ{D7:List (Addr×Obj)}(I:Inv X γ σ H s)(h:∀p∈D7,s.heap.get? p.1=some p.2/\H p.1=none/\p.1≠X.env.locals/\p.1∉X.fs/\∀v,p.2.data≠ .cell v):Inv X D7 σ H s:=
 ⟨I.ok,I.os,I.bare,I.base,I.loc,I.cell,I.free,I.kC,λp hp=>(aaI.mp hp).elim (λz=>I.pin p (List.mem_append_left _ z)) (h p),I.aE,I.len⟩
def rO{N:List Str}(hN:N.Nodup){j:Nat}(a:N[i]? =some x)(b:N[j]? =some x):i=j:=by have⟨h1,e1⟩:=aai.mp a;have⟨h2,e2⟩:=aai.mp b;exact(List.getElem_inj hN).mp (e1.trans e2.symm)
def oV{Q:Unit->Shared->Prop}(I:Inv X γ σ H s)(hN:X.N.Nodup)(hi:X.N[i]? =some x)(hx:Loc X.env.scope x)(r:Ψ v u)
  (h:∀s',Inv X γ (σ.set i (some v)) H s'->(∃a,Heap.SameBut a s.heap s'.heap/\(a=X.env.locals\/X.env.cells.lookup x=some a))->Q Unit.unit s') (hf:X.fn x=true\/X.env.scope.names.lookup x=some .local:=by first| exact .inl rfl| exact .inr rfl| assumption):wpAny M A (storeName X.env x u) Q E s:=by
 have⟨m,hn,hl⟩:=id I.loc;have MN:(X.env.scope.kind== .class|| (X.env.scope.kind== .module&&X.env.locals != X.env.globals))=false:=by rw[I.ok.kind];rfl
 have J3:i < σ.length:=by rw[I.len];exact(aai.mp hi).1
 have Dg:=I.Dg;have tracked:∀{a:Addr} {h':Heap},(∃o,s.heap.get? a=some o/\H a=none)->Heap.SameBut a s.heap h'->g9 X.prog X.w H h':=λ{a h'} ha hs b ob e=>by
  have⟨_,_,D3⟩:=ha;refine(I.aE b ob e).sh (λc w' hc q=>(hs.2 c ?_).trans q) (λ_ q=>q) λ_ _ q=>q;rintro rfl;rcases hc with rfl| hc
  ·rw[D3]at e;cases e
  ·rw[D3]at hc;cases hc
 rcases hx with hk| hk
 ·refine wpAny_storeName_local hk hn (λh' vC hs=>?_) MN;have⟨oL,_,_,Qv,_⟩:=id hn;refine h _ ⟨I.ok,I.os,I.bare,⟨λb o e n hb hx=>?_,λb o e n hb hx=>?_,I.base.free,λb o e hx=>?_,I.base.kW,I.base.jJ,I.base.kT⟩,⟨_,vC,λj y v' e1 e2 e3=>?_⟩,λy c e=>?_,I.free,I.kC,λp hp=>?_,tracked ⟨oL,Qv,I.free⟩ hs,by simpa using I.len⟩ ⟨_,hs,.inl rfl⟩
  ·exact(hs.2 b (aaC (aak (aah e) I.ok.above))).trans (I.base.keep b o e n hb hx)
  ·have⟨sl,e1⟩:=I.base.slot b o e n hb hx;exact⟨sl,(hs.2 b (aaC (aak (aah e) I.ok.above))).trans e1⟩
  ·have⟨o',e1⟩:=I.base.there b o e hx;exact⟨o',(hs.2 b (aaC (aak (aah e) I.ok.above))).trans e1⟩
  ·by_cases hj:j=i
   ·subst hj;rw[hi]at e1;cases e1;rw[aa1 J3]at e2;cases e2;exact⟨u,r,.inl ⟨hk,by simp⟩⟩
   ·rw[aa4 (Ne.symm hj)]at e2;have⟨u',r',q⟩:=hl j y v' e1 e2 e3;refine⟨u',r',?_⟩;rcases q with ⟨k,e⟩| ⟨k,c,e,z⟩
    ·refine .inl ⟨k,?_⟩;have:y≠x:=λe=>hj (rO hN e1 (e▸hi));simp[this,e]
    ·exact .inr ⟨k,c,e,z.sameBut hs (Dg y c e)⟩
  ·have⟨w',z⟩:=I.cell y c e;exact⟨w',z.sameBut hs (Dg y c e)⟩
  ·have⟨e,n,ne,nf,d⟩:=I.pin p hp;exact⟨(hs.2 p.1 ne).trans e,n,ne,nf,d⟩
 ·have Mb:X.fn x=true:=by
   rcases hf with z| z
   ·exact z
   ·rw[z]at hk;cases hk
  have⟨c,hc⟩:=I.ok.has x (.inl hk);have⟨w',z⟩:=I.cell x c hc;refine wpAny_storeName_cell I.ok.kind hk hc z (λh' Ke hs=>?_);have⟨oc,Oj,LC⟩:=id z;refine h {s with heap:=h'} ⟨I.ok,I.os,I.bare,⟨λb o e n hb hx=>?_,λb o e n hb hx=>?_,I.base.free,λb o e hx=>?_,I.base.kW,I.base.jJ,I.base.kT⟩,⟨m,hn.sameBut hs (Ne.symm (Dg x c hc)),λj y v' e1 e2 e3=>?_⟩,λy c' e=>?_,I.free,I.kC,λp hp=>?_,tracked ⟨oc,Oj,I.kC x c hc⟩ hs,by simpa using I.len⟩ ⟨c,hs,.inr hc⟩
  ·exact(hs.2 b (aaC (aak (aah e) (I.ok.MI x c Mb hc)))).trans (I.base.keep b o e n hb hx)
  ·have⟨sl,e1⟩:=I.base.slot b o e n hb hx;exact⟨sl,(hs.2 b (aaC (aak (aah e) (I.ok.MI x c Mb hc)))).trans e1⟩
  ·have⟨o',e1⟩:=I.base.there b o e hx;exact⟨o',(hs.2 b (aaC (aak (aah e) (I.ok.MI x c Mb hc)))).trans e1⟩
  ·by_cases hj:j=i
   ·subst hj;rw[hi]at e1;cases e1;rw[aa1 J3]at e2;cases e2;exact⟨u,r,.inr ⟨.inl hk,c,hc,Ke⟩⟩
   ·rw[aa4 (Ne.symm hj)]at e2;have⟨u',r',q⟩:=hl j y v' e1 e2 e3;refine⟨u',r',?_⟩;rcases q with q| ⟨k,c',e,z'⟩
    ·exact .inl q
    ·refine .inr ⟨k,c',e,z'.sameBut hs ?_⟩;rintro rfl;exact hj (rO hN e1 (I.ok.inj _ _ _ e hc▸hi))
  ·by_cases ER:c'=c
   ·subst ER;exact⟨_,Ke⟩
   ·have⟨w2,z2⟩:=I.cell y c' e;exact⟨w2,z2.sameBut hs ER⟩
  ·have⟨e,n,ne,nf,d⟩:=I.pin p hp;refine⟨(hs.2 p.1 ?_).trans e,n,ne,nf,d⟩;intro q;rw[q,Oj]at e;have q':oc=p.2:=aan e;exact d w' (by rw[<-q'];exact LC)
def js{Q:Unit->Shared->Prop}(I:Inv X γ σ H s)(hN:X.N.Nodup)(hi:X.N[i]? =some x)(hx:Loc X.env.scope x)(r:Ψ v u)
  (h:∀s',Inv X γ (σ.set i (some v)) H s'->Q Unit.unit s') (hf:X.fn x=true\/X.env.scope.names.lookup x=some .local:=by first| exact .inl rfl| exact .inr rfl| assumption):wpAny M A (storeName X.env x u) Q E s:=
 oV I hN hi hx r (λs' I' _=>h s' I') hf
def Inv.Hl{s':Shared}(I:Inv X γ σ H s)(ho:s'.os=s.os)(u:Un (jm X.stack) ch H H' s.heap s'.heap)(aE:g9 X.prog X.w H' s'.heap)(hg:AllBare s'.gens)
  (vZ:∀b∈ch,(b∈X.ex\/X.s₀.heap.objs.size<=b)/\b≠X.env.locals/\(∀x c,X.env.cells.lookup x=some c->c≠b)/\∀p∈X.pn++γ,p.1≠b):Inv X γ σ H' s':=by
 have⟨h',g',d',t',o'⟩:=s';have e:o'=s.os:=ho;subst e;exact I.call (g':=g') (t':=t') (d':=d') u aE hg vZ
end
abbrev XK:=Value->Option Addr->Hp->Prop
abbrev St:=List (Option V)
variable{σ:St}
abbrev VK:=V->Hp->Prop
abbrev TE:=St->Hp->VK->Prop
variable{ta te:TE}
abbrev TT:=St->Hp->(Bool->Hp->Prop)->Prop
abbrev TA:=St->Hp->(List V->Hp->Prop)->Prop
structure tG where
 nx:St->Hp->Prop
 rt:VK
 bk:St->Hp->Prop:=λ_ _=>False
 ct:St->Hp->Prop:=λ_ _=>False
abbrev TS:=tG->St->Hp->Prop
def EP(X:Cx)(γ:List (Addr×Obj))(σ:St)(Q:VK)(u:Value)(s':Shared):Prop:=∃v H',Inv X γ σ H' s'/\Ψ v u/\Q v H'
def TP(X:Cx)(γ:List (Addr×Obj))(σ:St)(Q:Bool->Hp->Prop)(b:Bool)(s':Shared):Prop:=∃H',Inv X γ σ H' s'/\Q b H'
def AP(X:Cx)(γ:List (Addr×Obj))(σ:St)(Q:List V->Hp->Prop)(us:List Value)(s':Shared):Prop:=∃vs H',Inv X γ σ H' s'/\Ν vs us/\Q vs H'
def SP(X:Cx)(γ:List (Addr×Obj))(D:tG)(f:Flow)(s':Shared):Prop:=
 match f with
 | .next=>∃σ' H',Inv X γ σ' H' s'/\D.nx σ' H'
 | .brk=>∃σ' H',Inv X γ σ' H' s'/\D.bk σ' H'
 | .cont=>∃σ' H',Inv X γ σ' H' s'/\D.ct σ' H'
 | .ret u=>∃v σ' H',Inv X γ σ' H' s'/\Ψ v u/\D.rt v H'
def PE(X:Cx)(e:Expr)(t:TE):Prop:=
 ∀(γ:List (Addr×Obj)) (s:Shared) (σ:St) (H:Hp) (Q:VK),Inv X γ σ H s->t σ H Q->wpAny (model X.prog X.w) X.A (eval e X.env) (EP X γ σ Q) X.xe s
def PT(X:Cx)(e:Expr)(t:TT):Prop:=
 ∀(γ:List (Addr×Obj)) (s:Shared) (σ:St) (H:Hp) (Q:Bool->Hp->Prop),Inv X γ σ H s->t σ H Q->wpAny (model X.prog X.w) X.A (isTrue e X.env (eval e X.env)) (TP X γ σ Q) X.xe s
def PW(X:Cx)(e:Expr)(t:TT):Prop:=
 ∀(whole:Sem Value) (γ:List (Addr×Obj)) (s:Shared) (σ:St) (H:Hp) (Q:Bool->Hp->Prop),Inv X γ σ H s->t σ H Q->wpAny (model X.prog X.w) X.A (isTrue e X.env whole) (TP X γ σ Q) X.xe s
def PA(X:Cx)(es:List Expr)(t:TA):Prop:=
 ∀(pos:Pos) (γ:List (Addr×Obj)) (s:Shared) (σ:St) (H:Hp) (Q:List V->Hp->Prop),Inv X γ σ H s->t σ H Q->wpAny (model X.prog X.w) X.A (spliced (backTo pos (starEach es X.env))) (AP X γ σ Q) X.xe s
def PS(X:Cx)(st:Stmt)(t:TS):Prop:=
 ∀(γ:List (Addr×Obj)) (s:Shared) (σ:St) (H:Hp) (D:tG),Inv X γ σ H s->t D σ H->wpAny (model X.prog X.w) X.A (exec st X.env) (SP X γ D) X.xe s
def yE(X:Cx)(st:List Stmt)(t:TS):Prop:=
 ∀(γ:List (Addr×Obj)) (s:Shared) (σ:St) (H:Hp) (D:tG),Inv X γ σ H s->t D σ H->wpAny (model X.prog X.w) X.A (execs st X.env) (SP X γ D) X.xe s
def ba{α:Type}{t:Sem α}{Q Q':α->Shared->Prop}(h:wpAny M A t Q E s)(hQ:∀a s,Q a s->Q' a s):wpAny M A t Q' E s:=abk h hQ λ_ _ x=>x
section
def NG(i:Nat):TE:=λσ H Q=>∃v,σ[i]? =some (some v)/\Q v H
def tC(v:V):TE:=λ_ H Q=>Q v H
def Gq(hN:X.N[i]? =some x)(hv:LQ X.env.scope x)(hd:(x==("__debug__":Str))=false:=by decide)(yK:(x==("__classdict__":Str))=false:=by decide):PE X (.Name x pos) (NG i):=by
 intro γ s σ H Q I h;have⟨v,e,h⟩:=h;have⟨m,hn,hl⟩:=I.loc;have⟨u,r,l⟩:=hl i x v hN e hv;have fin:EP X γ σ Q u s:=⟨v,H,I,r,h⟩;rcases l with ⟨hk,hm⟩| ⟨hk,c,hc,DB⟩
 ·exact wpAny_Name (wpAny_loadName_local I.ok.kind hk hn hm fin) hd
 ·rcases hk with hk| hk
  ·exact wpAny_Name (wpAny_loadName_cell I.ok.kind hk hc DB fin) hd
  ·exact wpAny_Name (wpAny_loadName_free I.ok.kind hk hc DB fin yK) hd
def FU{i j pos}:PE X (.Constant (.int i) j pos) (tC (.int i)):=λ_ _ _ H _ I h=>wpAny_Constant_int ⟨.int i,H,I.tok _,⟨_,rfl⟩,h⟩
def HN{b j pos}:PE X (.Constant (.bool b) j pos) (tC (.bl b)):=λ_ _ _ H _ I h=>Constant_bool ⟨.bl b,H,I,rfl,h⟩
def GS{j pos}:PE X (.Constant .none j pos) (tC .aR):=λ_ _ _ H _ I h=>Constant_none ⟨.aR,H,I,rfl,h⟩
def GC{x j pos}:PE X (.Constant (.str x) j pos) (tC (.str x)):=λ_ _ _ H _ I h=>Calls.Constant_str ⟨.str x,H,I.tok _,⟨_,rfl⟩,h⟩
def Gl(X:Cx)(x:Str):Prop:=X.env.kindOf x=some .globalImplicit
def lr{H:Hp}(I:Inv X γ σ H s)(hg:Gl X x)(hm:X.mg x=some u)(h:Q u s)
  (hd:(x==("__debug__":Str))=false:=by decide):wpAny (model X.prog X.w) X.A (eval (.Name x pos) X.env) Q E s:=
 Calls.Name_function_global I.ok.kind hg (Calls.loadGlobal_global (by rw[I.ok.glob];exact I.mod.glob.keeps I.bk) hm h) hd
def j9{H:Hp}(I:Inv X γ σ H s)(hg:Gl X x)(hm:X.mg x=none)(hv:bootBuiltins x=some u)(h:Q u s)
  (hn:x≠"__name__":=by decide) (hd:(x==("__debug__":Str))=false:=by decide):wpAny (model X.prog X.w) X.A (eval (.Name x pos) X.env) Q E s:=by
 have⟨mb,h1,h2⟩:=I.mod.blt;exact Calls.Name_function_global I.ok.kind hg (Calls.loadGlobal_builtin (by rw[I.ok.glob];exact I.mod.glob.keeps I.bk) hm (by rw[I.ok.blt];exact h1.keeps I.bk) ((h2 x hn).trans hv) h) hd
def qV(hg:Gl X x)(hm:X.mg x=some u)(r:Ψ v u)(hd:(x==("__debug__":Str))=false:=by decide):PE X (.Name x pos) (tC v):=
 λ_ _ _ H _ I h=>lr I hg hm ⟨v,H,I,r,h⟩ hd
def BE(hg:Gl X x)(hm:X.mg x=none)(hv:bootBuiltins x=some u)(r:Ψ v u)(hn:x≠"__name__":=by decide)(hd:(x==("__debug__":Str))=false:=by decide):PE X (.Name x pos) (tC v):=
 λ_ _ _ H _ I h=>j9 I hg hm hv ⟨v,H,I,r,h⟩ hn hd
variable{a b:Expr}{tb:TE}
def tB(t:TE):TT:=λσ H Q=>t σ H λx H1=>∃c,x= .bl c/\Q c H1
def Gu{t:TE}(h:PE X e t)(he:∀whole,isTrue e X.env whole=(do let v<-whole;standAt e.pos;holding [v] (truthy v)):=by intro _;rfl):PT X e (tB t):=by intro γ s σ H Q I hw;refine isTrue_plain (ba (h γ s σ H _ I hw) λv s1 xz=>?_) (he _);have⟨x,H1,I1,r1,q1⟩:=xz;have⟨d,rfl,q⟩:=q1;cases r1;exact wpAny_truthy_bool ⟨H1,I1,q⟩
variable{tA HU:TT}{aC:List Expr}
def K9(t u:TT):TT:=λσ H Q=>t σ H λc H1=>if c=true then u σ H1 Q else Q false H1
def SU(t u:TT):TT:=λσ H Q=>t σ H λc H1=>if c=true then Q true H1 else u σ H1 Q
def L9(t:TT):TT:=λσ H Q=>t σ H λc H1=>Q (!c) H1
def pw_and1(ha:PT X a tA):PW X (.BoolOp .And [a] pos) tA:=by
 intro wh γ s σ H Q I h;refine isTrue_and (ba (ha γ s σ H Q I h) λc s1 e=>?_);cases c with
 | true=>exact isTrue_and_nil e
 | false=>exact e
def pw_or1(ha:PT X a tA):PW X (.BoolOp .Or [a] pos) tA:=by
 intro wh γ s σ H Q I h;refine isTrue_or (ba (ha γ s σ H Q I h) λc s1 e=>?_);cases c with
 | false=>exact isTrue_or_nil e
 | true=>exact e
def pw_and(ha:PT X a tA)(hb:PW X (.BoolOp .And (b::aC) pos) HU):PW X (.BoolOp .And (a::b::aC) pos) (K9 tA HU):=by
 intro wh γ s σ H Q I h;refine isTrue_and (ba (ha γ s σ H _ I h) λc s1 xz=>?_);have⟨H1,I1,q1⟩:=xz;cases c with
 | true=>exact hb wh γ s1 σ H1 Q I1 q1
 | false=>exact⟨H1,I1,q1⟩
def pw_or(ha:PT X a tA)(hb:PW X (.BoolOp .Or (b::aC) pos) HU):PW X (.BoolOp .Or (a::b::aC) pos) (SU tA HU):=by
 intro wh γ s σ H Q I h;refine isTrue_or (ba (ha γ s σ H _ I h) λc s1 xz=>?_);have⟨H1,I1,q1⟩:=xz;cases c with
 | true=>exact⟨H1,I1,q1⟩
 | false=>exact hb wh γ s1 σ H1 Q I1 q1
def GO(ha:PT X a tA):PT X (.UnaryOp .Not a pos) (L9 tA):=by intro γ s σ H Q I h;exact isTrue_not (ha γ s σ H (λc H1=>Q (!c) H1) I h)
def IE(ta tb:TE):TE:=λσ H Q=>ta σ H λx H1=>∃c,x= .bl c/\if c=true then tb σ H1 Q else Q (.bl false) H1
def JN(ta:TE):TE:=λσ H Q=>ta σ H λx H1=>∃c,x= .bl c/\Q (.bl (!c)) H1
def GI{op}{t:TE}(h:PE X a t):PE X (.BoolOp op [a] pos) t:=λγ s σ H Q I hw=>BoolOp_one (h γ s σ H Q I hw)
def EJ(ha:PE X a ta)(hb:PE X (.BoolOp .And (b::aC) pos) tb):PE X (.BoolOp .And (a::b::aC) pos) (IE ta tb):=by
 intro γ s σ H Q I h;refine BoolOp_and (ba (ha γ s σ H _ I h) λv s1 xz=>?_);have⟨x,H1,I1,r1,q1⟩:=xz;have⟨c,rfl,q1⟩:=q1;cases r1;refine wpAny_truthy_bool ?_;cases c with
 | true=>exact hb γ s1 σ H1 Q I1 q1
 | false=>exact⟨.bl false,H1,I1,rfl,q1⟩
def GU(ha:PE X a ta):PE X (.UnaryOp .Not a pos) (JN ta):=by intro γ s σ H Q I h;refine UnaryOp_ (ba (ha γ s σ H _ I h) λv s1 xz=>?_);have⟨x,H1,I1,r1,q1⟩:=xz;have⟨c,rfl,q1⟩:=q1;cases r1;exact not_of (wpAny_truthy_bool ⟨.bl (!c),H1,I1,rfl,q1⟩)
def QN(t:TT)(ta tb:TE):TE:=λσ H Q=>t σ H λc H1=>if c=true then ta σ H1 Q else tb σ H1 Q
def Ap(hc:PT X c tA)(ha:PE X a ta)(hb:PE X b tb):PE X (.IfExp c a b pos) (QN tA ta tb):=by
 intro γ s σ H Q I h;refine wpAny_IfExp (ba (hc γ s σ H _ I h) λd s1 xz=>?_);have⟨H1,I1,q1⟩:=xz;cases d with
 | true=>exact ha γ s1 σ H1 Q I1 q1
 | false=>exact hb γ s1 σ H1 Q I1 q1
end
def d9(K:fI)(H:Hp)(a:Addr)(xs:List V):Prop:=
 Rd H a (.lst xs)\/
  ∃(o:Obj) (its:Array Value) (n:Nat),K.lookup a=some o/\o.cls= .type "list"/\o.dict=none/\o.data= .seq its n/\its.size<=sizeLine/\Ν xs its.toList
def iR(K:fI)(H:Hp)(a:Addr)(xs:List V):Prop:=
 Rd H a (.tup xs)\/
  ∃(o:Obj) (its:Array Value) (n:Nat),K.lookup a=some o/\o.cls= .type "tuple"/\o.data= .seq its n/\its.size<=sizeLine/\Ν xs its.toList
def Mq:Value->Option V
 | .none=>some .aR
 | .bool b=>some (.bl b)
 | .int i _=>some (.int i)
 | .str x _=>some (.str x)
 | .bytes b _=>some (.yF b)
 | .float b _=>some (.FE b)
 | .ref a=>some (.ref a)
 | .type n=>some (.ty n)
 | _=>none
def Ψ.abs{x:V}(r:Ψ x u):Mq u=some x:=by
 cases x with
 | aR=>cases r;rfl
 | bl _=>cases r;rfl
 | int _=>have⟨t,rfl⟩:=r;rfl
 | str _=>have⟨t,rfl⟩:=r;rfl
 | yF _=>have⟨t,rfl⟩:=r;rfl
 | FE _=>have⟨t,rfl⟩:=r;rfl
 | ref _=>cases r;rfl
 | ty _=>cases r;rfl
def Ψ.inj{x y:V}{u:Value}(r:Ψ x u)(q:Ψ y u):x=y:=aan (r.abs.symm.trans q.abs)
def Ν.inj:∀{xs ys:List V} {us:List Value},Ν xs us->Ν ys us->xs=ys
 | _,_,_,.nil,.nil=>rfl
 | _,_,_,.cons r t,.cons r' t'=>by rw[r.inj r',Ν.inj t t']
section
variable{H:Hp}{xs ys:List V}
def d9.of{K:fI}(h:H a=some (.lst xs)):d9 K H a xs:=.inl (.inl h)
def iR.of{K:fI}(h:H a=some (.tup xs)):iR K H a xs:=.inl (.inl h)
def Inv.list(I:Inv X γ σ H s)(h:d9 X.K H a xs):∃its:List Value,Ν xs its/\PlainL s.heap a its.toArray/\xs.length<=sizeLine:=by
 rcases h with h| ⟨o,its,n,hk,hc,hd,hs,hz,r⟩
 ·have⟨z,its,n,r,e⟩:=h.ok I.aE;exact⟨its,r,⟨_,n,e,rfl,rfl,rfl⟩,z⟩
 ·refine⟨its.toList,r,⟨o,n,I.jF a o hk,hc,hd,by simpa using hs⟩,?_⟩;have e:=r.length;simp only[Array.length_toList]at e;omega
def Inv.tuple(I:Inv X γ σ H s)(h:iR X.K H a xs):∃its:List Value,Ν xs its/\IsTup s.heap a its.toArray/\xs.length<=sizeLine:=by
 rcases h with h| ⟨o,its,n,hk,hc,hs,hz,r⟩
 ·have⟨z,its,r,p⟩:=h.ok I.aE;exact⟨its,r,p,z⟩
 ·refine⟨its.toList,r,⟨o,I.jF a o hk,hc,n,by simpa using hs⟩,?_⟩;have e:=r.length;simp only[Array.length_toList]at e;omega
def Inv.i7(I:Inv X γ σ H s)(h:d9 X.K H a xs)(h':d9 X.K H a ys):xs=ys:=by
 have⟨its,r,⟨o,n,e,_,_,d⟩,_⟩:=I.list h;have⟨its',r',⟨o',n',e',_,_,d'⟩,_⟩:=I.list h';rw[e]at e';cases e';rw[d]at d';injection d' with d1 _
 have:its=its':=by simpa using congrArg Array.toList d1
 subst this;exact r.inj r'
def Inv.wV(I:Inv X γ σ H s)(h:iR X.K H a xs)(h':iR X.K H a ys):xs=ys:=by
 have⟨its,r,⟨o,e,_,n,d⟩,_⟩:=I.tuple h;have⟨its',r',⟨o',e',_,n',d'⟩,_⟩:=I.tuple h';rw[e]at e';cases e';rw[d]at d';injection d' with d1 _
 have:its=its':=by simpa using congrArg Array.toList d1
 subst this;exact r.inj r'
end
section
variable{st:Stmt}{aC:List Stmt}{t u:TS}
def Ie:TS:=λD σ H=>D.nx σ H
def K0(t u:TS):TS:=λD σ H=>t {D with nx:=u D} σ H
def BP:yE X [] Ie:=λ_ _ σ H _ I h=>wpAny_execs_nil ⟨σ,H,I,h⟩
def z_(h1:PS X st t)(h2:yE X aC u):yE X (st::aC) (K0 t u):=by
 intro γ s σ H D I h;refine wpAny_execs_cons (ba (h1 γ s σ H {D with nx:=u D} I h) λf s1 q=>?_);cases f with
 | next=>
  have⟨σ',H',I',q⟩:=q;exact h2 γ s1 σ' H' D I' q
 | ret v=>exact q
 | brk=>exact q
 | cont=>exact q
def CH(h1:PS X st t):yE X [st] t:=by
 intro γ s σ H D I h;refine wpAny_execs_cons (ba (h1 γ s σ H D I h) λf s1 q=>?_);cases f with
 | next=>exact wpAny_execs_nil q
 | ret v=>exact q
 | brk=>exact q
 | cont=>exact q
def Inv.quiet{H:Hp}(I:Inv X γ σ H s):interactive X.env=false:=by simp[interactive,I.ok.kind]
def JZ(te:TE):TS:=λD σ H=>te σ H λ_ H1=>D.nx σ H1
def BD(he:PE X e te)(hs:swapsWith e none pos.line X.env=pure false:=by rfl):PS X (.Expr e pos) (JZ te):=by intro γ s σ H D I h;exact wpAny_Expr_any (ba (he γ s σ H _ I h) λv s1 ⟨x,H1,I1,r1,q1⟩=>⟨σ,H1,I1,q1⟩) I.quiet hs
def MM(te:TE):TS:=λD σ H=>te σ H D.rt
def FR(he:PE X e te):PS X (.Return (some e) pos) (MM te):=by intro γ s σ H D I h;exact wpAny_Return_some (ba (he γ s σ H _ I h) λv s1 ⟨x,H1,I1,r1,q1⟩=>⟨x,σ,H1,I1,r1,q1⟩)
def ME(c:TT)(t u:TS):TS:=λD σ H=>c σ H λb H1=>if b=true then t D σ H1 else u D σ H1
def IH{a b:List Stmt}{tc:TT}(hc:PT X c tc)(ha:yE X a t)(hb:yE X b u):PS X (.If c a b pos) (ME tc t u):=by
 intro γ s σ H D I h;refine wpAny_If (ba (hc γ s σ H _ I h) λd s1 xz=>?_);have⟨H1,I1,q1⟩:=xz;cases d with
 | true=>exact ha γ s1 σ H1 D I1 q1
 | false=>exact hb γ s1 σ H1 D I1 q1
end
abbrev TG:=V->St->Hp->(St->Hp->Prop)->Prop
abbrev Fh:=List V->St->Hp->(St->Hp->Prop)->Prop
def PG(X:Cx)(target:Expr)(t:TG):Prop:=
 ∀(γ:List (Addr×Obj)) (s:Shared) (σ:St) (H:Hp) (v:V) (u:Value) (Q:St->Hp->Prop),Inv X γ σ H s->Ψ v u->t v σ H Q->
  wpAny (model X.prog X.w) X.A (assign target X.env u) (λ_ s'=>∃σ' H',Inv X γ σ' H' s'/\Q σ' H') X.xe s
def Ku(X:Cx)(ts:List Expr)(t:Fh):Prop:=
 ∀(γ:List (Addr×Obj)) (s:Shared) (σ:St) (H:Hp) (vs:List V) (us:List Value) (Q:St->Hp->Prop),Inv X γ σ H s->Ν vs us->t vs σ H Q->
  wpAny (model X.prog X.w) X.A (assignInOrder ((assignEach ts X.env).map (·.2)) us) (λ_ s'=>∃σ' H',Inv X γ σ' H' s'/\Q σ' H') X.xe s
abbrev EH:=V->V->V->Hp->(Hp->Prop)->Prop
def JX(X:Cx)(t:EH):Prop:=
 ∀(γ:List (Addr×Obj)) (s:Shared) (σ:St) (H:Hp) (o i v:V) (ov iv u:Value) (Q:Hp->Prop),Inv X γ σ H s->Ψ o ov->Ψ i iv->Ψ v u->t o i v H Q->
  wpAny (model X.prog X.w) X.A (setItem ov iv u) (λ_ s'=>∃H',Inv X γ σ H' s'/\Q H') X.xe s
section
def eX(i:Nat):TG:=λv σ H Q=>Q (σ.set i (some v)) H
def cb(hN:X.N.Nodup)(hi:X.N[i]? =some x)(hx:Loc X.env.scope x)(hf:X.fn x=true\/X.env.scope.names.lookup x=some .local:=by first| exact .inl rfl| exact .inr rfl| assumption):PG X (.Name x pos) (eX i):=by intro γ s σ H v u Q I r h;exact wpAny_assign_Name (js I hN hi hx r (λs' I'=>⟨_,H,I',h⟩) hf)
def yX:Fh:=λvs σ H Q=>vs=[]/\Q σ H
def i6(t:TG)(u:Fh):Fh:=λvs σ H Q=>∃v r,vs=v::r/\t v σ H λσ' H'=>u r σ' H' Q
def k9:Ku X [] yX:=by intro γ s σ H vs us Q I r h;have⟨e,h⟩:=h;subst e;cases r;exact assignInOrder_nil ⟨σ,H,I,h⟩
def cK{t:TG}{u:Fh}(h1:PG X e t)(h2:Ku X es u)
  (hs:(assignEach (e::es) X.env).map (·.2)=assign e X.env::(assignEach es X.env).map (·.2):=by rfl):Ku X (e::es) (i6 t u):=by
 intro γ s σ H vs us Q I r h;have⟨v,vr,e1,h⟩:=h;subst e1;cases r with
 | cons r rr=>
  rw[hs];refine assignInOrder_cons (ba (h1 γ s σ H _ _ _ I r h) λ_ s1 xz=>?_);have⟨σ1,H1,I1,q1⟩:=xz;exact h2 γ s1 σ1 H1 _ _ Q I1 rr q1
def z5(K:fI)(n:Nat)(t:Fh):TG:=λv σ H Q=>∃a xs,v= .ref a/\iR K H a xs/\xs.length=n/\t xs σ H Q
def qM{k:Nat}{t:Fh}{n:Nat}(hc:X.calm=true)(h:Ku X es t)
  (hn:(assignEach es X.env).length=n:=by rfl) (Hr:(assignEach es X.env).findIdx? (·.1)=none:=by rfl):PG X (.Tuple es k pos) (z5 X.K n t):=by
 intro γ s σ H v u Q I r hw;have⟨a,xs,e1,hq,hl,hw⟩:=hw;subst e1;cases r;have⟨its,rv,ht,hz⟩:=I.tuple hq;refine assign_Tuple_tuple (I.ok.hd hc) ht (by simp[hn,<-hl,rv.length]) Hr λh' hx=>?_;have I1:Inv X γ σ H {s with heap:=h'}:=I.kept (t':=s.toks) λb o e=>hx b o (aaC (aah e)) e;exact h γ _ σ H xs _ Q I1 (by simpa using rv) hw
def LB(to ti:TE)(t:EH):TG:=λv σ H Q=>to σ H λo H1=>ti σ H1 λi H2=>t o i v H2 λH3=>Q σ H3
def Fv{o i:Expr}{to ti:TE}{t:EH}(ho:PE X o to)(hi:PE X i ti)(hs:JX X t)
  (ha:∀v,assign (.Subscript o i pos) X.env v=(do
   let ov<-holding [v] (eval o X.env)
   let iv<-holding [v,ov] (eval i X.env)
   standAt pos
   holding [v,ov,iv] (setItem ov iv v)
   release [v,ov,iv] []):=by intro _;rfl):PG X (.Subscript o i pos) (LB to ti t):=by
 intro γ s σ H v u Q I r h;rw[ha];refine aag (wpAny_holding (ba (ho γ s σ H _ I h) λov s1 xz=>?_));have⟨x,H1,I1,r1,q1⟩:=xz;refine aag (wpAny_holding (ba (hi γ s1 σ H1 _ I1 q1) λiv s2 xz=>?_));have⟨y,H2,I2,r2,q2⟩:=xz;refine aag (wpAny_standAt (aag (wpAny_holding (ba (hs γ s2 σ H2 x y v ov iv u _ I2 r1 r2 r q2) λ_ s3 xz=>?_))));have⟨H3,I3,q3⟩:=xz;exact wpAny_release ⟨σ,H3,I3,q3⟩
def Ig(te:TE)(g:TG):TS:=λD σ H=>te σ H λx H1=>g x σ H1 D.nx
def AU{g:TG}(he:PE X e te)(hg:PG X tg g)(hs:swapsWithSole [tg] e pos.line X.env=pure false:=by rfl)(hw:swappedStores [tg] e X.env=pure none:=by rfl)
  (h1:(assignEach [tg] X.env).map (·.2)=[assign tg X.env]:=by rfl):PS X (.Assign [tg] e pos) (Ig te g):=by
 intro γ s σ H D I h;refine wpAny_Assign_stores (ba (he γ s σ H _ I h) λv s1 xz=>?_) hs hw;have⟨x,H1,I1,r1,q1⟩:=xz;rw[h1];exact ba (hg γ s1 σ H1 x v _ I1 r1 q1) λ_ s2 q=>q
def Gd{pos':Pos}(hN:X.N.Nodup)(hi:X.N[i]? =some x)(hx:Loc X.env.scope x)(he:PE X e te)(hs:swapsWith e (some (.Name x pos')) pos.line X.env=pure false:=by rfl)(hf:X.fn x=true\/X.env.scope.names.lookup x=some .local:=by first| exact .inl rfl| exact .inr rfl| assumption):
  PS X (.Assign [.Name x pos'] e pos) (Ig te (eX i)):=by
 intro γ s σ H D I h;refine wpAny_Assign_Name (ba (he γ s σ H _ I h) λv s1 xz=>?_) hs;have⟨y,H1,I1,r1,q1⟩:=xz;exact js I1 hN hi hx r1 (λs2 I2=>⟨_,H1,I2,q1⟩) hf
def NO(i j:Nat)(ta:TA):TS:=λD σ H=>ta σ H λvs H1=>∃v w,vs=[v,w]/\D.nx ((σ.set i (some v)).set j (some w)) H1
def EG{j:Nat}{y:Str}{a b:Expr}{ta:TA}{px py pt:Pos}{kt k2 GR}(hc:X.calm=true)(hN:X.N.Nodup)(hi:X.N[i]? =some x)(hj:X.N[j]? =some y)(J0:i≠j)
  (hx:X.env.scope.names.lookup x=some .local) (hy:X.env.scope.names.lookup y=some .local) (ha:PA X [a,b] ta)
  (hw:swappedStores [.Tuple [.Name x px,.Name y py] kt pt] (.Tuple [a,b] k2 GR) X.env=pure (some [x,y]))
  (hs:swapsWithSole [.Tuple [.Name x px,.Name y py] kt pt] (.Tuple [a,b] k2 GR) pos.line X.env=pure false:=by rfl):
  PS X (.Assign [.Tuple [.Name x px,.Name y py] kt pt] (.Tuple [a,b] k2 GR) pos) (NO i j ta):=by
 intro γ s σ H D I h;rw[exec_Assign_arm];refine aag (wpAny_standAt ?_);rw[hs];refine aag (aaz ?_);rw[aaH @_];refine aag (Tuple_ (ba (ha _ γ s σ H _ I h) λus s1 xz=>?_));have⟨vs,H1,I1,r1,q1⟩:=xz;have⟨v,w,e1,q1⟩:=q1;subst e1;obtain⟨u1,u2,rfl,rv,zy⟩:∃u1 u2,us=[u1,u2]/\Ψ v u1/\Ψ w u2:=by
  cases r1 with
  | cons p q=>
   cases q with
   | cons p' q'=>
    cases q';exact⟨_,_,rfl,p,p'⟩
 refine wpAny_newObj_type ?_ gV;have I2:Inv X γ σ H1 {s1 with heap:=s1.heap.push {cls:=.type "tuple",data:=.seq [u1,u2].toArray}}:=I1.kept (t':=s1.toks) λb o e=>aaf _ e;rw[hw];refine aag (aaz ?_);show wpAny (model X.prog X.w) X.A (do rule "assign.swapped-stores";let items<-unpackItems (.ref s1.heap.objs.size) 2 none;assignInOrder [λv=>bindName X.env y v,λv=>bindName X.env x v] items.reverse;pure Flow.next) _ _ _;refine aag (wpAny_rule (aag (unpackItems_tuple (items:= #[u1,u2]) (I.ok.hd hc) (IsTup.new s1.heap _) λh' R7=>?_)));have I3:=I2.kept (h':=h') (t':=s1.toks) λb o e=>R7 b o (aaC (aah e)) e;show wpAny _ _ (assignInOrder [λv=>bindName X.env y v,λv=>bindName X.env x v] [u2,u1] >>= λ_=>pure Flow.next) _ _ _;refine aag (assignInOrder_cons (wpAny_bindName (js I3 hN hj (.inl hy) zy (λs2 I4=>?_) (.inr hy))));refine assignInOrder_cons (wpAny_bindName (js I4 hN hi (.inl hx) rv (λs3 I5=>assignInOrder_nil (aaz ?_)) (.inr hx)));rw[List.set_comm _ _ (Ne.symm J0)]at I5;exact⟨_,H1,I5,q1⟩
end
section
def E6(c:TT)(tb:TS):TS:=λD σ H=>∃W:Nat->St->Hp->Prop,(∃m,W m σ H)/\∀m σ H,W m σ H->
 c σ H λb H1=>if b=true then∃N:St->Hp->Prop,(∀σ' H',N σ' H'->∃m',m' < m/\W m' σ' H')/\tb {D with nx:=N,ct:=N,bk:=D.nx} σ H1 else D.nx σ H1
def A3{tc:TT}{tb:TS}(hp:PassesOwn (model X.prog X.w) X.A X.env X.xe)(hc:PT X c tc)(hb:yE X body tb):PS X (.While c body [] pos) (E6 tc tb):=by
 intro γ s σ H D I h;have⟨W,⟨m0,w0⟩,turn⟩:=h;refine wpAny_While (codeAny_whileLoop (λn s'=>∃σ' H',Inv X γ σ' H' s'/\W n σ' H') ?_ m0 ⟨σ,H,I,w0⟩);rintro n s1 ⟨σ1,H1,I1,w1⟩;refine wpAny_passesOwn hp (ba (hc γ s1 σ1 H1 _ I1 (turn n σ1 H1 w1)) λb s2 xz=>?_);have⟨H2,I2,q2⟩:=xz;cases b with
 | true=>
  have⟨N,hN,q2⟩:=q2;rw[aaN rfl];refine wpAny_passesOwn hp (ba (hb γ s2 σ1 H2 _ I2 q2) λf s3 q3=>?_);cases f with
  | next=>
   have⟨σ3,H3,I3,n3⟩:=q3;have⟨m',hm,w3⟩:=hN σ3 H3 n3;exact⟨m',hm,σ3,H3,I3,w3⟩
  | cont=>
   have⟨σ3,H3,I3,n3⟩:=q3;have⟨m',hm,w3⟩:=hN σ3 H3 n3;exact⟨m',hm,σ3,H3,I3,w3⟩
  | brk=>exact q3
  | ret v=>exact q3
 | false=>
  rw[aaH aal];exact wpAny_execs_nil ⟨σ1,H2,I2,q2⟩
end
structure It where
 go:Nat->Hp->Prop
 Ip:Nat->Hp->V->Hp->Prop
 stop:Nat->Hp->Prop
def mz(X:Cx)(γ:List (Addr×Obj))(H:Hp)(b:Addr):Prop:=
 H b=none/\b≠X.env.locals/\b∉X.fs/\(b∈X.ex\/X.s₀.heap.objs.size<=b)/\(∀x c,X.env.cells.lookup x=some c->c≠b)/\∀p∈X.pn++γ,p.1≠b
def Inv.xw{H H':Hp}(I:Inv X γ σ H s)(hb:s.heap.objs.size<=b)(hn:H' b=none):mz X γ H' b:=by
 refine⟨hn,abD (aak I.lt hb),I.Lx hb,.inr (aaq I.sz hb),λx c e z=>?_,λp hp z=>?_⟩
 ·have⟨v,q⟩:=I.cell x c e;exact aaE (aak q.lt (by rw[z];exact hb)) (abf _)
 ·exact aaE (aak (aah (I.pin p hp).1) (by rw[z];exact hb)) (abf _)
structure qW(P:Program)(w:World)(K:fI)(tg:Expr)(J:It)(fp:List Addr)(it:Addr)(tn:Nat->Heap->Prop):Prop where
 mem:it∈fp
 obj:∀i h,tn i h->∀b∈fp,∃o,h.get? b=some o/\∀v,o.data≠ .cell v
 keep:∀i h h',tn i h->(∀b∈fp,∀o,h.get? b=some o->h'.get? b=some o)->tn i h'
 item:∀(X:Cx),X.prog=P->X.w=w->X.K=K->X.calm=true->∀(i:Nat) (γ:List (Addr×Obj)) (s:Shared) (σ:St) (H:Hp) (E:Value->Shared->Prop),Inv X γ σ H s->(∀b∈fp,mz X γ H b)->tn i s.heap->J.go i H->
  wpAny (model P w) X.A (pyNext (.ref it)) (λr s1=>∃u,r=some u/\
   wpAny (model P w) X.A (letOwnedTupleGo tg (.ref it) u) (λ_ s2=>∃x H',Inv X γ σ H' s2/\Ψ x u/\J.Ip i H x H'/\tn (i+1) s2.heap/\∀b∈fp,H' b=none) E s1) E s
 done:∀(X:Cx),X.prog=P->X.w=w->X.K=K->X.calm=true->∀(i:Nat) (γ:List (Addr×Obj)) (s:Shared) (σ:St) (H:Hp) (E:Value->Shared->Prop),Inv X γ σ H s->(∀b∈fp,mz X γ H b)->tn i s.heap->J.stop i H->
  wpAny (model P w) X.A (pyNext (.ref it)) (λr s1=>r=none/\Inv X γ σ H s1) E s
 self:∀(A:Around) (i:Nat) (s:Shared) (Q:Value->Shared->Prop) (E:Value->Shared->Prop),tn i s.heap->Q (.ref it) s->wpAny (model P w) A (pyIter (.ref it)) Q E s
abbrev TI:=St->Hp->(It->Hp->Prop)->Prop
def CW(X:Cx)(γ:List (Addr×Obj))(σ:St)(tg:Expr)(R:It->Hp->Prop)(Kn:Value)(s2:Shared):Prop:=
 ∃(it:Addr) (fp:List Addr) (tn:Nat->Heap->Prop) (J:It) (H':Hp),Kn= .ref it/\Inv X γ σ H' s2/\qW X.prog X.w X.K tg J fp it tn/\tn 0 s2.heap/\(∀b∈fp,mz X γ H' b)/\R J H'
def PI(X:Cx)(tg iter:Expr)(wi:TI):Prop:=
 ∀(γ:List (Addr×Obj)) (s:Shared) (σ:St) (H:Hp) (R:It->Hp->Prop),Inv X γ σ H s->wi σ H R->
  wpAny (model X.prog X.w) X.A (eval iter X.env) (λv s1=>wpAny (model X.prog X.w) X.A (pyIter v) (CW X γ σ tg R) X.xe s1) X.xe s
def sA   {E : Value -> Shared -> Prop}   {it : Addr}  {o : Obj} {n : String} {vs : Array Value} {Q : Unit -> Shared -> Prop} (ho : s.heap.get? it = some o) (hc : o.cls = .type n) (hd : o.data = .fields vs)
    (hn : ["enumerate","zip","dict_itemiterator","dict_reverseitemiterator","odict_iterator","itertools.zip_longest","itertools.pairwise"].contains n = false) (hQ : Q Unit.unit s) : wpAny M A (letOwnedTupleGo tg (.ref it) u) Q E s :=by
  unfold letOwnedTupleGo
  cases tg <;> first
    | exact aaz hQ
    | (cases u <;> first
        | exact aaz hQ
        | (refine aag (wpAny_load ho ?_)
           rw[hc,hd];show wpAny M A (if (["enumerate","zip","dict_itemiterator","dict_reverseitemiterator","odict_iterator","itertools.zip_longest","itertools.pairwise"].contains n && vs[0]? == some (rawInt _)) = true then _ else _) Q E s;rw[aaH (by intro h;rw[hn,Bool.false_and]at h;cases h)]
           exact aaz hQ))
def Kv(K:fI)(a:Addr):It:=
 ⟨λi H=>∃xs x,d9 K H a xs/\xs[i]? =some x,λi H x H'=>H'=H/\∀xs,d9 K H a xs->xs[i]? =some x,λi H=>∃xs,d9 K H a xs/\xs.length<=i⟩
def Lf(K:fI)(a:Addr):It:=
 ⟨λi H=>∃xs x,iR K H a xs/\xs[i]? =some x,λi H x H'=>H'=H/\∀xs,iR K H a xs->xs[i]? =some x,λi H=>∃xs,iR K H a xs/\xs.length<=i⟩
def Ko(lo:Int)(n:Nat):It:=⟨λi _=>i < n,λi H x H'=>H'=H/\x= .int (lo+i),λi _=>n<=i⟩
def xY{K:fI}(a it:Addr):qW P w K tg (Kv K a) [it] it (λi h=>h.IsListIter it a i) where
 mem:=by simp
 obj:=λi h st b hb=>by
  have e:b=it:=by simpa using hb
  subst e;have⟨o,e,c,d⟩:=st;exact⟨o,e,λv z=>by rw[d]at z;cases z⟩
 keep:=λi h h' st k=>st.at λo e=>k it (by simp) o e
 item:=by intro X hP hw hK hc i γ s σ H E I hf st hg;subst hP hw hK;have⟨xs,x,hq,hx⟩:=hg;have⟨its,rv,p,hz⟩:=I.list hq;have⟨u,hu,ru⟩:=rv.get hx;have⟨f0,f1,f2,f3,f4,f5⟩:=hf it (by simp);refine wpAny_pyNext_list_item st p.isList (x:=u) (by simpa using hu) λh' wq sb=>?_;have I1:Inv X γ σ H {s with heap:=h'}:=I.turned (t':=s.toks) (λb o hb e=>(sb.2 b hb).trans e) f0 f1 f3 f4 f5;have⟨o,e,c,d⟩:=id wq;exact⟨u,rfl,sA (s:={s with heap:=h'}) e c d @_ ⟨x,H,I1,ru,⟨rfl,λys hy=>by rw[I.i7 hy hq];exact hx⟩,wq,λb hb=>(hf b hb).1⟩⟩
 done:=by intro X hP hw hK hc i γ s σ H E I hf st hg;subst hP hw hK;have⟨xs,hq,hx⟩:=hg;have⟨its,rv,p,hz⟩:=I.list hq;have⟨f0,f1,f2,f3,f4,f5⟩:=hf it (by simp);have hl:=rv.length;exact wpAny_pyNext_list_end (I.ok.hd hc) st p.isList (by simp;omega) λh' eb=>⟨rfl,I.turned (t':=s.toks) (λb o hb e=>eb b o hb e) f0 f1 f3 f4 f5⟩
 self:=λ_ _ _ _ _ st h=>wpAny_pyIter_listiter st h
def tM{K:fI}(a it:Addr):qW P w K tg (Lf K a) [it] it (λi h=>h.IsTupleIter it a i) where
 mem:=by simp
 obj:=λi h st b hb=>by
  have e:b=it:=by simpa using hb
  subst e;have⟨o,e,c,d⟩:=st;exact⟨o,e,λv z=>by rw[d]at z;cases z⟩
 keep:=λi h h' st k=>st.at λo e=>k it (by simp) o e
 item:=by intro X hP hw hK hc i γ s σ H E I hf st hg;subst hP hw hK;have⟨xs,x,hq,hx⟩:=hg;have⟨its,rv,p,hz⟩:=I.tuple hq;have⟨u,hu,ru⟩:=rv.get hx;have⟨f0,f1,f2,f3,f4,f5⟩:=hf it (by simp);refine wpAny_pyNext_tuple_item st (show s.heap.IsTuple a its.toArray from p) (x:=u) (by simpa using hu) λh' wq sb=>?_;have I1:Inv X γ σ H {s with heap:=h'}:=I.turned (t':=s.toks) (λb o hb e=>(sb.2 b hb).trans e) f0 f1 f3 f4 f5;have⟨o,e,c,d⟩:=id wq;exact⟨u,rfl,sA (s:={s with heap:=h'}) e c d @_ ⟨x,H,I1,ru,⟨rfl,λys hy=>by rw[I.wV hy hq];exact hx⟩,wq,λb hb=>(hf b hb).1⟩⟩
 done:=by intro X hP hw hK hc i γ s σ H E I hf st hg;subst hP hw hK;have⟨xs,hq,hx⟩:=hg;have⟨its,rv,p,hz⟩:=I.tuple hq;have⟨f0,f1,f2,f3,f4,f5⟩:=hf it (by simp);have hl:=rv.length;exact wpAny_pyNext_tuple_end (I.ok.hd hc) st (show s.heap.IsTuple a its.toArray from p) (by simp;omega) λh' eb=>⟨rfl,I.turned (t':=s.toks) (λb o hb e=>eb b o hb e) f0 f1 f3 f4 f5⟩
 self:=λ_ _ _ _ _ st h=>wpAny_pyIter_tupleiter st h
def tL{K:fI}(it:Addr)(lo:Int)(n:Nat):qW P w K tg (Ko lo n) [it] it (λi h=>IsRangeIter h it (lo+(i:Nat) * 1) ((n:Int) - (i:Nat)) 1) where
 mem:=by simp
 obj:=λi h st b hb=>by
  have e:b=it:=by simpa using hb
  subst e
  exact⟨_,st,λv z=>by
   have z':Data.fields _=Data.cell v:=z
   cases z'⟩
 keep:=λi h h' st k=>k it (by simp) _ st
 item:=by intro X hP hw hK hc i γ s σ H E I hf st hg;subst hP hw hK;have⟨f0,f1,f2,f3,f4,f5⟩:=hf it (by simp);have W:=Walks.range (prog:=X.prog) (w:=X.w) (I.ok.hd hc) it lo 1 n;refine W.item i s _ _ hg st λv h' tk hv wq kk=>?_;have⟨t,rfl⟩:=hv;have I1:Inv X γ σ H {s with heap:=h',toks:=tk}:=I.turned (λb o hb e=>kk b o (by simpa using hb) e) f0 f1 f3 f4 f5;refine⟨_,rfl,sA (s:={s with heap:=h',toks:=tk}) (n:="range_iterator") wq rfl rfl @_ ⟨.int (lo+i),H,I1,⟨t,?_⟩,⟨rfl,rfl⟩,wq,λb hb=>(hf b hb).1⟩⟩;rw[Int.mul_one]
 done:=by intro X hP hw hK hc i γ s σ H E I hf st hg;subst hP hw hK;have⟨f0,f1,f2,f3,f4,f5⟩:=hf it (by simp);exact wpAny_pyNext_range_end (I.ok.hd hc) st (by have:n<=i:=hg;omega) λh' eb=>⟨rfl,I.turned (t':=s.toks) (λb o hb e=>eb b o hb e) f0 f1 f3 f4 f5⟩
 self:=λ_ _ _ _ _ st h=>wpAny_pyIter_rangeiter st h
section
def zz{H:Hp}{R:It->Hp->Prop}{lo hi:Int}{t u v:Tok}{tk:Nat}(I:Inv X γ σ H s)(h1: -(2 ^ 62)<=lo)(h2:lo < 2 ^ 62)(h3: -(2 ^ 62)<=hi)(h4:hi < 2 ^ 62)
  (q:R (Ko lo (hi - lo).toNat) H):wpAny (model X.prog X.w) X.A (pyIter (.ref s.heap.objs.size)) (CW X γ σ tg R) E {s with heap:=s.heap.push {cls:=.type "range",data:=.fields #[.int lo t,.int hi u,.int 1 v]},toks:=tk}:=by
 refine wpAny_pyIter_range (IsRange.new ..) (small_one h1 h2 h3 h4) ?_;have I1:Inv X γ σ H {s with heap:=s.heap.push {cls:=.type "range",data:=.fields #[.int lo t,.int hi u,.int 1 v]},toks:=tk}:=I.kept λb o e=>aaf _ e
 refine⟨(s.heap.push {cls:=.type "range",data:=.fields #[.int lo t,.int hi u,.int 1 v]}).objs.size,[(s.heap.push {cls:=.type "range",data:=.fields #[.int lo t,.int hi u,.int 1 v]}).objs.size],_,_,H,rfl,
  I1.kept (t':=tk) λb o e=>aaf _ e,tL _ lo (hi - lo).toNat,?_,λb hb=>?_,q⟩
 ·have e1:lo+((0:Nat):Int) * 1=lo:=by simp
  have e2:(((hi - lo).toNat:Nat):Int) - ((0:Nat):Int)=Builtin.Range.rangeSize lo hi 1:=by rw[rangeSize_one];split <;> omega
  show IsRangeIter _ _ (lo+((0:Nat):Int) * 1) ((((hi - lo).toNat:Nat):Int) - ((0:Nat):Int)) 1;rw[e1,e2];exact aaG _ rfl
 ·have e:b=(s.heap.push {cls:=.type "range",data:=.fields #[.int lo t,.int hi u,.int 1 v]}).objs.size:=by simpa using hb
  subst e;exact I1.xw (aaj _) (I1.aE.fresh (aaj _))
def HX(ta:TA):TI:=λσ H R=>ta σ H λvs H1=>∃j:Int,vs=[.int j]/\ -(2 ^ 62)<=j/\j < 2 ^ 62/\R (Ko 0 j.toNat) H1
def x_{a:Expr}{ta:TA}{p:Pos}(hg:Gl X "range")(hm:X.mg "range"=none)(ha:PA X [a] ta)(hs:starEach [a] X.env=[(false,eval a X.env)]:=by rfl):PI X tg (.Call (.Name "range" p) [a] [] pos) (HX ta):=by
 intro γ s σ H R I h;refine Call_ (j9 I hg hm boot_range (PyProof.Rows.callWith_type1 (ba (ha pos γ s σ H _ I h) λus s1 xz=>?_) hs rfl));have⟨vs,H1,I1,r1,q1⟩:=xz;have⟨j,e,q1,q2,q⟩:=q1;subst e;cases r1 with
 | cons r rr=>
  cases rr;have⟨t,rfl⟩:=r;exact call_range_1 (zz I1 () () q1 q2 (by simpa using q))
def La(wi:TI)(g:TG)(tb:TS):TS:=λD σ H=>wi σ H λJ H1=>∃W:Nat->Nat->St->Hp->Prop,(∃m,W 0 m σ H1)/\∀i m σ H,W i m σ H->
 (J.stop i H/\D.nx σ H)\/(J.go i H/\∃N:St->Hp->Prop,(∀σ' H',N σ' H'->∃m',m' < m/\W (i+1) m' σ' H')/\∀x H',J.Ip i H x H'->g x σ H' λσ2 H2=>tb {D with nx:=N,ct:=N,bk:=D.nx} σ2 H2)
def pU(fp:List Addr)(h:Heap):List (Addr×Obj):=fp.filterMap λb=>(h.get? b).map λo=>(b,o)
def cx{o:Obj}(hb:b∈fp)(e:h.get? b=some o):(b,o)∈pU fp h:=abn.mpr ⟨b,hb,by rw[e];rfl⟩
def xa{p:Addr×Obj}(hp:p∈pU fp h):p.1∈fp/\h.get? p.1=some p.2:=by
 have⟨b,hb,e⟩:=abn.mp hp;cases q:h.get? b with
 | none=>rw[q]at e;cases e
 | some o=>
  rw[q]at e;have e':(b,o)=p:=aan e;subst e';exact⟨hb,q⟩
def Inv.pinned{H:Hp}(I:Inv X γ σ H s)(hf:∀b∈fp,mz X γ H b)(ho:∀b∈fp,∃o,s.heap.get? b=some o/\∀v,o.data≠ .cell v):Inv X (γ++pU fp s.heap) σ H s:=
 I.vJ λp hp=>(aaI.mp hp).elim (λz=>I.pin p (aas _ z)) λz=>by have⟨hb,e⟩:=xa z;have⟨f0,f1,f2,_⟩:=hf p.1 hb;have⟨o,e',d⟩:=ho p.1 hb;rw[e]at e';cases e';exact⟨e,f0,f1,f2,d⟩
def Inv.fZ{pl:List (Addr×Obj)}{H:Hp}(I:Inv X (γ++pl) σ H s):Inv X γ σ H s:=I.vJ λp hp=>I.pin p (aas _ (List.mem_append_left _ hp))
def Bd{iter:Expr}{wi:TI}{g:TG}{tb:TS}(hp:PassesOwn (model X.prog X.w) X.A X.env X.xe)(hc:X.calm=true)(hi:PI X tg iter wi)(hg:PG X tg g)(hb:yE X body tb)
  (hs:∀x,foldedSetIterable iter X.env x=pure x:=by intro _;rfl):PS X (.For tg iter body [] pos) (La wi g tb):=by
 intro γ s σ H D I h;refine wpAny_For (ba (hi γ s σ H _ I h) λv s1 h1=>ba h1 λKn s2 h2=>?_) hs;have⟨it,fp,tn,J,H2,e,I2,T,P8,f2,W,⟨m0,w0⟩,turn⟩:=h2;subst e;have FX:∀{H':Hp},(∀b∈fp,H' b=none)->∀b∈fp,mz X γ H' b:=λhn b hb=>⟨hn b hb,(f2 b hb).2⟩;refine codeAny_forLoop_any (λn s'=>∃i σ' H',Inv X γ σ' H' s'/\tn i s'.heap/\(∀b∈fp,H' b=none)/\W i n σ' H') ?_ m0 ⟨0,σ,H2,I2,P8,λb hb=>(f2 b hb).1,w0⟩;rintro n s3 ⟨i,σ3,H3,I3,OC,OQ,w3⟩;rcases turn i n σ3 H3 w3 with ⟨stop,qn⟩| ⟨go,N,hN,step⟩
 ·refine wpAny_passesOwn hp (ba (T.done X rfl rfl rfl hc i γ s3 σ3 H3 X.xe I3 (FX OQ) OC stop) λr s4 xz=>?_);have⟨hr,I4⟩:=xz;subst hr;exact wpAny_execs_nil ⟨σ3,H3,I4,qn⟩
 ·refine wpAny_passesOwn hp (ba (T.item X rfl rfl rfl hc i γ s3 σ3 H3 X.xe I3 (FX OQ) OC go) λr s4 xz=>?_);have⟨u,hr,h4⟩:=xz;subst hr;refine wpAny_passesOwn hp (ba h4 λ_ s5 xz=>?_);have⟨x,H5,I5,r5,y5,Lc,KJ⟩:=xz;have QX:=I5.pinned (FX KJ) (T.obj _ _ Lc);refine wpAny_passesOwn hp (ba (hg _ s5 σ3 H5 x u _ QX r5 (step x H5 y5)) λ_ s6 xz=>?_);have⟨σ6,H6,I6,q6⟩:=xz;refine wpAny_passesOwn hp (ba (hb _ s6 σ6 H6 _ I6 q6) λf s7 q7=>?_);have again:∀{σ7:St} {H7:Hp},Inv X (γ++pU fp s5.heap) σ7 H7 s7->N σ7 H7->∃m,m < n/\∃i σ' H',Inv X γ σ' H' s7/\tn i s7.heap/\(∀b∈fp,H' b=none)/\W i m σ' H':=λ{σ7 H7} I7 n7=>by have⟨m',hm,w7⟩:=hN σ7 H7 n7;refine⟨m',hm,i+1,σ7,H7,I7.fZ,T.keep _ _ _ Lc λb hb o e=>(I7.pin (b,o) (aas _ (aas _ (cx hb e)))).1,λb hb=>?_,w7⟩;have⟨o,e,d⟩:=T.obj _ _ Lc b hb;exact(I7.pin (b,o) (aas _ (aas _ (cx hb e)))).2.1
  cases f with
  | next=>have⟨σ7,H7,I7,n7⟩:=q7;exact again I7 n7
  | cont=>have⟨σ7,H7,I7,n7⟩:=q7;exact again I7 n7
  | brk=>have⟨σ7,H7,I7,q7⟩:=q7;exact⟨σ7,H7,I7.fZ,q7⟩
  | ret v=>have⟨x7,σ7,H7,I7,r7,q7⟩:=q7;exact⟨x7,σ7,H7,I7.fZ,r7,q7⟩
end
abbrev R2:=V->V->Hp->VK->Prop
def fm(X:Cx)(f:Value->Value->Sem Value)(r:R2):Prop:=
 ∀(γ:List (Addr×Obj)) (s:Shared) (σ:St) (H:Hp) (x y:V) (v u:Value) (Q:VK),Inv X γ σ H s->Ψ x v->Ψ y u->r x y H Q->
  wpAny (model X.prog X.w) X.A (f v u) (EP X γ σ Q) X.xe s
def KA(X:Cx)(f:Value->Sem Value)(r:V->Hp->VK->Prop):Prop:=
 ∀(γ:List (Addr×Obj)) (s:Shared) (σ:St) (H:Hp) (x:V) (v:Value) (Q:VK),Inv X γ σ H s->Ψ x v->r x H Q->
  wpAny (model X.prog X.w) X.A (f v) (EP X γ σ Q) X.xe s
def bM(X:Cx)(f:Value)(r:List V->Hp->VK->Prop):Prop:=
 ∀(γ:List (Addr×Obj)) (s:Shared) (σ:St) (H:Hp) (xs:List V) (us:List Value) (Q:VK),Inv X γ σ H s->Ν xs us->r xs H Q->
  wpAny (model X.prog X.w) X.A (call f us) (EP X γ σ Q) X.xe s
def HE(r:R2)(ta tb:TE):TE:=λσ H Q=>ta σ H λx H1=>tb σ H1 λy H2=>r x y H2 Q
def Oi(r:V->Hp->VK->Prop)(ta:TE):TE:=λσ H Q=>ta σ H λx H1=>r x H1 Q
def rI(C:Int->Int->Prop)(g:Int->Int->V):R2:=λx y H Q=>∃i j,x= .int i/\y= .int j/\C i j/\Q (g i j) H
def wU(g:Int->Int->V):R2:=λx y H Q=>∃i j,x= .int i/\y= .int j/\Q (g i j) H
def rU(g:Int->V):V->Hp->VK->Prop:=λx H Q=>∃i,x= .int i/\Q (g i) H
section
variable{a b:Expr}{tb tc:TE}
def E2(ha:PE X a ta)(hb:PE X b tb){H:Hp}{R:V->V->Hp->Prop}(I:Inv X γ σ H s)
  (h:ta σ H λx H1=>tb σ H1 λy H2=>R x y H2)
  (hf:∀v u s2 x y H2,Inv X γ σ H2 s2->Ψ x v->Ψ y u->R x y H2->wpAny (model X.prog X.w) X.A (f v u) Q X.xe s2):
  wpAny (model X.prog X.w) X.A (eval a X.env) (λv s₁=>wpAny (model X.prog X.w) X.A (eval b X.env) (λu s₂=>wpAny (model X.prog X.w) X.A (f v u) Q X.xe s₂) X.xe s₁) X.xe s:=by
 refine ba (ha γ s σ H _ I h) λv s1 xz=>?_;have⟨x,H1,I1,r1,q1⟩:=xz;refine ba (hb γ s1 σ H1 _ I1 q1) λu s2 xz=>?_;have⟨y,H2,I2,r2,q2⟩:=xz;exact hf v u s2 x y H2 I2 r1 r2 q2
def Il{op:Operator}{r:R2}(ho:fm X (binaryOp op) r)(ha:PE X a ta)(hb:PE X b tb):PE X (.BinOp a op b pos) (HE r ta tb):=by intro γ s σ H Q I h;exact wpAny_BinOp (E2 ha hb I h λv u s2 x y H2 I2 rx ry q=>ho γ s2 σ H2 x y v u Q I2 rx ry q)
def IQ{op:UnaryOp}{r:V->Hp->VK->Prop}(ho:KA X (unaryOp op) r)(ha:PE X a ta):PE X (.UnaryOp op a pos) (Oi r ta):=by intro γ s σ H Q I h;exact UnaryOp_ (ba (ha γ s σ H _ I h) λv s1 ⟨x,H1,I1,r1,q1⟩=>ho γ s1 σ H1 x v Q I1 r1 q1)
def Kz{C:Int->Int->Prop}{g:Int->Int->Int}
  (rule:∀(i j:Int) (t u:Tok) (s:Shared) (Q:Value->Shared->Prop) (E:Value->Shared->Prop),C i j->Q (.int (g i j) s.toks) {s with toks:=s.toks+1}->wpAny (model X.prog X.w) X.A (f (.int i t) (.int j u)) Q E s):
  fm X f (rI C λi j=>.int (g i j)):=by
 intro γ s σ H x y v u Q I rx ry h;have⟨i,j,rfl,rfl,hc,q⟩:=h;have⟨t,rfl⟩:=rx;have⟨t',rfl⟩:=ry;exact rule i j t t' s _ _ hc ⟨.int (g i j),H,I.tok _,⟨_,rfl⟩,q⟩
def I0{g:Int->Int->Int}
  (rule:∀(i j:Int) (t u:Tok) (s:Shared) (Q:Value->Shared->Prop) (E:Value->Shared->Prop),Q (.int (g i j) s.toks) {s with toks:=s.toks+1}->wpAny (model X.prog X.w) X.A (f (.int i t) (.int j u)) Q E s):
  fm X f (wU λi j=>.int (g i j)):=by
 intro γ s σ H x y v u Q I rx ry h;have⟨i,j,rfl,rfl,q⟩:=h;have⟨t,rfl⟩:=rx;have⟨t',rfl⟩:=ry;exact rule i j t t' s _ _ ⟨.int (g i j),H,I.tok _,⟨_,rfl⟩,q⟩
def B_{g:Int->Int->Bool}
  (rule:∀(i j:Int) (t u:Tok) (s:Shared) (Q:Value->Shared->Prop) (E:Value->Shared->Prop),Q (.bool (g i j)) s->wpAny (model X.prog X.w) X.A (f (.int i t) (.int j u)) Q E s):
  fm X f (wU λi j=>.bl (g i j)):=by
 intro γ s σ H x y v u Q I rx ry h;have⟨i,j,rfl,rfl,q⟩:=h;have⟨t,rfl⟩:=rx;have⟨t',rfl⟩:=ry;exact rule i j t t' s _ _ ⟨.bl (g i j),H,I,rfl,q⟩
def xW(i j:Int):Prop:=0<=j/\j<=1000000/\i.natAbs < 2 ^ 64
def EV:fm X (binaryOp .Add) (wU λi j=>.int (i+j)):=I0 λ_ _ _ _ _ _ _ q=>add_int q
def Er:fm X (binaryOp .Sub) (wU λi j=>.int (i - j)):=I0 λ_ _ _ _ _ _ _ q=>sub_int q
def Gi:fm X (binaryOp .Mod) (rI (λ_ j=>0 < j) λi j=>.int (i % j)):=Kz λi j _ _ _ _ _ hc q=>by have h1:(0:Int) < j:=hc;exact mod_int' () (by rw[aa8 i ()];exact q)
def FG:fm X (binaryOp .Pow) (rI xW λi j=>.int (i ^ j.toNat)):=Kz λ_ _ _ _ _ _ _ hc q=>pow_int_small hc.1 hc.2.1 hc.2.2 q
def Qt{f:Value->Sem Value}{g:Int->Int}
  (rule:∀(i:Int) (t:Tok) (s:Shared) (Q:Value->Shared->Prop) (E:Value->Shared->Prop),Q (.int (g i) s.toks) {s with toks:=s.toks+1}->wpAny (model X.prog X.w) X.A (f (.int i t)) Q E s):
  KA X f (rU λi=>.int (g i)):=by
 intro γ s σ H x v Q I rx h;have⟨i,rfl,q⟩:=h;have⟨t,rfl⟩:=rx;exact rule i t s _ _ ⟨.int (g i),H,I.tok _,⟨_,rfl⟩,q⟩
def FH:KA X (unaryOp .USub) (rU λi=>.int (-i)):=Qt λ_ _ _ _ _ q=>neg_int q
end
def IV:V->V->Bool
 | .aR,.aR=>true| .aR,.int _=>true| .int _,.aR=>true| .aR,.bl _=>true| .bl _,.aR=>true| .aR,.str _=>true| .str _,.aR=>true
 | .int _,.int _=>true| .bl _,.bl _=>true| .str _,.str _=>true| .yF _,.yF _=>true
 | .int _,.str _=>true| .str _,.int _=>true| .bl _,.str _=>true| .str _,.bl _=>true
 | _,_=>false
def OL:R2:=λx y H Q=>IV x y=true/\Q (.bl (decide (x=y))) H
def OG:R2:=λx y H Q=>IV x y=true/\Q (.bl (!decide (x=y))) H
def wC{i j:Int}:decide (V.int i=V.int j)=(i==j):=by rw[abd];simp
def yS{i j:Bool}:decide (V.bl i=V.bl j)=(i==j):=by rw[abd];simp
def wJ{i j:Str}:decide (V.str i=V.str j)=(i==j):=by rw[abd];simp
def we{i j:Array UInt8}:decide (V.yF i=V.yF j)=(i.toList==j.toList):=by rw[abd];cases i;cases j;simp
section
variable{a b:Expr}{tb tc:TE}
def Τ{H:Hp}{Q:VK}{k k':Bool}(I:Inv X γ σ H s)(q:Q (.bl k) H)(e:k=k'):EP X γ σ Q (.bool k') s:=by subst e;exact⟨.bl k,H,I,rfl,q⟩
def Ek:fm X (compareOp .Eq) OL:=by
 intro γ s σ H x y v u Q I rx ry h;have⟨hs,q⟩:=h;cases x with
 | aR=>
  cases rx;cases y with
  | aR=>cases ry;exact PySem.EqNone.eq_none_none (Τ I q (by simp))
  | bl j=>cases ry;exact PySem.EqNone.eq_none_bool (Τ I q (by simp))
  | int j=>have⟨t',rfl⟩:=ry;exact PySem.EqNone.eq_none_int (Τ I q (by simp))
  | str j=>have⟨t',rfl⟩:=ry;exact PySem.EqNone.eq_none_str (Τ I q (by simp))
  | _=>exact aaE (show false=true from hs) aal
 | bl i=>
  cases rx;cases y with
  | aR=>cases ry;exact PySem.EqNone.eq_bool_none (Τ I q (by simp))
  | bl j=>cases ry;exact eq_bool (Τ I q yS)
  | str j=>have⟨t',rfl⟩:=ry;exact PySem.EqMixed.eq_bool_str (Τ I q (by simp))
  | _=>exact aaE (show false=true from hs) aal
 | int i=>
  have⟨t,rfl⟩:=rx;cases y with
  | aR=>cases ry;exact PySem.EqNone.eq_int_none (Τ I q (by simp))
  | int j=>have⟨t',rfl⟩:=ry;exact eq_int (Τ I q wC)
  | str j=>have⟨t',rfl⟩:=ry;exact PySem.EqMixed.eq_int_str (Τ I q (by simp))
  | _=>exact aaE (show false=true from hs) aal
 | str i=>
  have⟨t,rfl⟩:=rx;cases y with
  | aR=>cases ry;exact PySem.EqNone.eq_str_none (Τ I q (by simp))
  | bl j=>cases ry;exact PySem.EqMixed.eq_str_bool (Τ I q (by simp))
  | int j=>have⟨t',rfl⟩:=ry;exact PySem.EqMixed.eq_str_int (Τ I q (by simp))
  | str j=>have⟨t',rfl⟩:=ry;exact eq_str (Τ I q wJ)
  | _=>exact aaE (show false=true from hs) aal
 | yF i=>
  have⟨t,rfl⟩:=rx;cases y with
  | yF j=>have⟨t',rfl⟩:=ry;exact PySem.W.eq_bytes (Τ I q we)
  | _=>exact aaE (show false=true from hs) aal
 | _=>cases y <;> exact aaE (show false=true from hs) aal
def Iq:fm X (compareOp .NotEq) OG:=by
 intro γ s σ H x y v u Q I rx ry h;have⟨hs,q⟩:=h;cases x with
 | aR=>
  cases rx;cases y with
  | aR=>cases ry;exact PySem.EqNone.ne_none_none (Τ I q (by simp))
  | bl j=>cases ry;exact PySem.EqNone.ne_none_bool (Τ I q (by simp))
  | int j=>have⟨t',rfl⟩:=ry;exact PySem.EqNone.ne_none_int (Τ I q (by simp))
  | str j=>have⟨t',rfl⟩:=ry;exact PySem.EqNone.ne_none_str (Τ I q (by simp))
  | _=>exact aaE (show false=true from hs) aal
 | bl i=>
  cases rx;cases y with
  | aR=>cases ry;exact PySem.EqNone.ne_bool_none (Τ I q (by simp))
  | bl j=>cases ry;exact ne_bool (Τ I q (aaX not yS))
  | str j=>have⟨t',rfl⟩:=ry;exact PySem.EqMixed.ne_bool_str (Τ I q (by simp))
  | _=>exact aaE (show false=true from hs) aal
 | int i=>
  have⟨t,rfl⟩:=rx;cases y with
  | aR=>cases ry;exact PySem.EqNone.ne_int_none (Τ I q (by simp))
  | int j=>have⟨t',rfl⟩:=ry;exact ne_int (Τ I q (aaX not wC))
  | str j=>have⟨t',rfl⟩:=ry;exact PySem.EqMixed.ne_int_str (Τ I q (by simp))
  | _=>exact aaE (show false=true from hs) aal
 | str i=>
  have⟨t,rfl⟩:=rx;cases y with
  | aR=>cases ry;exact PySem.EqNone.ne_str_none (Τ I q (by simp))
  | bl j=>cases ry;exact PySem.EqMixed.ne_str_bool (Τ I q (by simp))
  | int j=>have⟨t',rfl⟩:=ry;exact PySem.EqMixed.ne_str_int (Τ I q (by simp))
  | str j=>have⟨t',rfl⟩:=ry;exact ne_str (Τ I q (aaX not wJ))
  | _=>exact aaE (show false=true from hs) aal
 | yF i=>
  have⟨t,rfl⟩:=rx;cases y with
  | yF j=>have⟨t',rfl⟩:=ry;exact PySem.W.ne_bytes (Τ I q (aaX not we))
  | _=>exact aaE (show false=true from hs) aal
 | _=>cases y <;> exact aaE (show false=true from hs) aal
def DN:fm X (compareOp .Lt) (wU λi j=>.bl (decide (i < j))):=B_ λ_ _ _ _ _ _ _ q=>lt_int q
def Hv:fm X (compareOp .LtE) (wU λi j=>.bl (decide (i<=j))):=B_ λ_ _ _ _ _ _ _ q=>le_int q
def Jl:fm X (compareOp .Gt) (wU λi j=>.bl (decide (j < i))):=B_ λ_ _ _ _ _ _ _ q=>gt_int q
def HJ:fm X (compareOp .GtE) (wU λi j=>.bl (decide (j<=i))):=B_ λ_ _ _ _ _ _ _ q=>ge_int q
def w6:fm X (compareOp .In) (λx y H Q=>∃i j,x= .str i/\y= .str j/\Q (.bl (!(Builtin.Str.occurrences j i 0 j.length 1).isEmpty)) H):=by intro γ s σ H x y v u Q I rx ry h;have⟨i,j,rfl,rfl,q⟩:=h;have⟨t,rfl⟩:=rx;have⟨t',rfl⟩:=ry;exact in_str (Τ I q rfl)
def AD:fm X (compareOp .Is) (λx y H Q=>y= .aR/\Q (.bl (decide (x= .aR))) H):=by
 intro γ s σ H x y v u Q I rx ry h;have⟨rfl,q⟩:=h;cases ry;refine is_none_gen (Τ I q ?_)
 cases x <;> first
  | (cases rx;rfl)
  | (have⟨t,rfl⟩:=rx;rfl)
def o8:fm X (compareOp .NotIn) (λx y H Q=>∃i j,x= .str i/\y= .str j/\Q (.bl (!(!(Builtin.Str.occurrences j i 0 j.length 1).isEmpty))) H):=by intro γ s σ H x y v u Q I rx ry h;have⟨i,j,rfl,rfl,q⟩:=h;have⟨t,rfl⟩:=rx;have⟨t',rfl⟩:=ry;exact notIn_str (Τ I q rfl)
def fm.or{r r':R2}(h:fm X f r)(h':fm X f r'):fm X f (λx y H Q=>r x y H Q\/r' x y H Q):=by
 intro γ s σ H x y v u Q I rx ry q;rcases q with q| q
 ·exact h γ s σ H x y v u Q I rx ry q
 ·exact h' γ s σ H x y v u Q I rx ry q
def eJ(b:Expr)(h:op≠ .In:=by decide)(h2:op≠ .NotIn:=by decide):behindInMarks op b=false:=by
 have e1:(op==CmpOp.In)=false:=by cases op <;> first| rfl| exact aaE rfl h
 have e2:(op==CmpOp.NotIn)=false:=by cases op <;> first| rfl| exact aaE rfl h2
 cases b <;> simp[behindInMarks,e1,e2]
def Co{r:R2}(ho:fm X (compareOp op) r)(ha:PE X a ta)(hb:PE X b tb)(hm:behindInMarks op b=false):PE X (.Compare a [op] [b] pos) (HE r ta tb):=by intro γ s σ H Q I h;exact wpAny_Compare1 (E2 ha hb I h λv u s2 x y H2 I2 rx ry q=>ho γ s2 σ H2 x y v u Q I2 rx ry q) hm
def IA(t:TE):TT:=λσ H Q=>t σ H λx H'=>∃k,x= .bl k/\Q k H'
def BS{r:R2}(ho:fm X (compareOp op) r)(ha:PE X a ta)(hb:PE X b tb)(hm:behindInMarks op b=false):PT X (.Compare a [op] [b] pos) (IA (HE r ta tb)):=by
 intro γ s σ H Q I h
 refine wpAny_isTrue_Compare1 (ba (ha γ s σ H _ I h) fun v s1 ⟨x,H1,I1,r1,q1⟩=>ba (hb γ s1 σ H1 _ I1 q1) fun u s2 ⟨y,H2,I2,r2,q2⟩=>
  ba (ho γ s2 σ H2 x y v u _ I2 r1 r2 q2) fun c s3 ⟨z,H3,I3,r3,k,e,q3⟩=>?_) hm
 subst e;cases r3;exact wpAny_truthy_bool ⟨H3,I3,q3⟩
def jM:(sizeLine:Nat) < 2 ^ 63:=by rw[sizeLine_eq];decide
def ua:fm X (binaryOp .Add) (λx y H Q=>∃i j,x= .str i/\y= .str j/\i.length+j.length<=sizeLine/\Q (.str (i++j)) H):=by intro γ s σ H x y v u Q I rx ry h;have⟨i,j,rfl,rfl,hz,q⟩:=h;have⟨t,rfl⟩:=rx;have⟨t',rfl⟩:=ry;exact add_str (λt' tk=>⟨.str (i++j),H,I.tok _,⟨_,rfl⟩,q⟩) hz
def dY{x:V}(r:Ν [x] us):∃u,us=[u]/\Ψ x u:=by
 cases r with
 | cons r1 r2=>cases r2;exact⟨_,rfl,r1⟩
def Bq{x y:V}(r:Ν [x,y] us):∃u w',us=[u,w']/\Ψ x u/\Ψ y w':=by
 cases r with
 | cons r1 r2=>
  cases r2 with
  | cons r3 r4=>cases r4;exact⟨_,_,rfl,r1,r3⟩
def zj:bM X (.builtin "abs") (λxs H Q=>∃i,xs=[.int i]/\Q (.int (if i < 0 then -i else i)) H):=by intro γ s σ H xs us Q I r h;have⟨i,rfl,q⟩:=h;have⟨u,rfl,t,rfl⟩:=dY r;exact call_abs_int λu tk=>⟨.int (if i < 0 then -i else i),H,I.tok _,⟨_,rfl⟩,q⟩
def x9(hc:X.calm=true):bM X (.builtin "min") (λxs H Q=>∃i j,xs=[.int i,.int j]/\Q (.int (if j < i then j else i)) H):=by
 intro γ s σ H xs us Q I r h;have⟨i,j,rfl,q⟩:=h;have⟨u,w',rfl,⟨t,rfl⟩,⟨t',rfl⟩⟩:=Bq r;refine min_two_ints (I.ok.hd hc) λh' tk k=>⟨_,H,I.kept k,?_,q⟩;by_cases hj:j < i
 ·rw[aaN hj,aaN hj];exact⟨_,rfl⟩
 ·rw[aaH hj,aaH hj];exact⟨_,rfl⟩
def xX:bM X (.type "int") (λxs H Q=>(∃i,xs=[.int i]/\Q (.int i) H)\/∃k,xs=[.bl k]/\Q (.int (if k then 1 else 0)) H):=by
 intro γ s σ H xs us Q I r h;rcases h with ⟨i,rfl,q⟩| ⟨k,rfl,q⟩
 ·have⟨u,rfl,t,rfl⟩:=dY r;exact call_int_int ⟨.int i,H,I,⟨_,rfl⟩,q⟩
 ·have⟨u,rfl,r1⟩:=dY r;cases r1;exact call_int_bool ⟨.int (if k then 1 else 0),H,I.tok _,⟨_,rfl⟩,q⟩
def pK:bM X (.type "str") (λxs H Q=>∃i,xs=[.int i]/\i.natAbs.log2 < 1920/\Q (.str (toString i)) H):=by intro γ s σ H xs us Q I r h;have⟨i,rfl,hz,q⟩:=h;have⟨u,rfl,t,rfl⟩:=dY r;exact PySem.P.str_of_int hz ⟨.str _,H,I.tok _,⟨_,rfl⟩,q⟩
end
structure vg(h:Heap)(x dx C:Addr)(mA:Str->Option Value):Prop where
 obj:h.get? x=some (PySem.W.instObj C dx)
 ns:h.Ns1 dx mA
 ne:dx≠x
def xl(n:h.Ns1 dx mA):∃od,h.get? dx=some od/\∀name,PySem.W.lookIn name od=some (mA name):=by
 have⟨o,es,ep,ho,hd,hk,_,hm⟩:=n;refine⟨o,ho,λname=>?_⟩;have e:=hm name;unfold nsFind findBy at e;rw[<-Array.find?_toList]at e;unfold PySem.W.lookIn;rw[hd];dsimp only;split
 ·rename_i y q;rw[q]at e;exact aaX some e
 ·rename_i q;rw[q]at e;have a:es.toList.any (·.refKey)=false:=by rw[List.any_eq_false];intro y hy;have⟨z,t,NQ⟩:=hk y (Array.mem_toList_iff.mp hy);simp[DictEntry.refKey,NQ]
  have a':¬es.toList.any (·.refKey)=true:=by rw[a];exact aal
  rw[aaH a'];exact aaX some e
def vg.look{x:Addr}(I:vg h x dx C mA):∃od,PySem.W.InstAt h x (PySem.W.instObj C dx) C (some od)/\∀name,PySem.W.lookIn name od=some (mA name):=
 let ⟨od,ho,hl⟩:=xl I.ns
 ⟨od,⟨I.obj,rfl,rfl,ho⟩,hl⟩
section
variable{K:fI}{x f:Addr}{name:Str}{v:Value}
def Dq{expr:Bool}(X:K.In s.heap)(I:vg s.heap x dx C mA)(hg:PySem.W.plainGet K C name=true)(hh:PySem.W.hasDictIn K C=true)
  (ha:PySem.W.findIn K (.ref C) name=some none) (hv:mA name=some v) (Q9:PySem.W.handedIn v=true) (h:Q v {s with toks:=s.toks+1}):
  wpAny (model prog w) A (getAttr (.ref x) name expr) Q E s:=by
 have⟨od,J,hl⟩:=I.look;exact PySem.W.get_value X J (PySem.W.plainGet_of hg).1 (PySem.W.findObj_own hh ha rfl (by rw[hl,hv])) Q9 h
def AV{pl:Sem Bool}{Q:Value×List Value->Shared->Prop}(X:K.In s.heap)(I:vg s.heap x dx C mA)(hg:PySem.W.plainGet K C name=true)
  (hf:PySem.W.findIn K (.ref C) name=some (some (.ref f))) (ht:PySem.W.isFn K (.ref f)=true) (hv:mA name=none) (h:Q (.ref f,[.ref x]) s):
  wpAny (model prog w) A (getMethod (.ref x) name pl) Q E s:=by
 have⟨od,J,hl⟩:=I.look;exact PySem.W.method_fn X J (PySem.W.plainGet_of hg).1 (PySem.W.plainGet_of hg).2 hf (abv.mp ht) (by show(PySem.W.lookIn name od).map (·.isSome)=some false;rw[hl,hv];rfl) h
def BL{ns:List Str}{Q:Unit->Shared->Prop}(X:K.In s.heap)(I:vg s.heap x dx C mA)
  (hs:PySem.W.findIn K (.ref C) "__setattr__"=some (some (.builtin "object.__setattr__"))) (hp:PySem.W.plainOver K C=true) (ht:PySem.W.takerIn K C name=some none) (hh:PySem.W.hasDictIn K C=true)
  (hw:PySem.Within mA ns) (hsz:ns.length<=sizeLine)
  (h:∀h',vg h' x dx C (λy=>if y=name then some v else mA y)->Heap.SameBut dx s.heap h'->Q Unit.unit {s with heap:=h',toks:=s.toks+2}):
  wpAny (model prog w) A (setAttr (.ref x) name v) Q E s:=by
 have⟨od,J,hl⟩:=I.look;refine PySem.W.set_plain X J hs (PySem.W.osa_open (s:={s with toks:=s.toks+1}) (r:=none) X J hp ht λb=>?_);have⟨cd,hc,L7⟩:=PySem.W.any_some hh;have hx:s.heap.get? x=some ⟨.ref C,some dx,.plain,#[]⟩:=I.obj;refine aag (aaz (aag (aag (wpAny_loadPart hx (aag (PySem.W.Looks.here (s:={s with toks:=s.toks+1}) (PySem.W.looks_clsIn X hc) ?_))))));rw[L7];refine aaz (a:=some dx) (aag (aaz (aag ?_)));refine wpAny_nsSet1 (s:={s with toks:=s.toks+1}) I.ns λh' Kt KS=>?_;have⟨oD,TQ,TK,Sj,Tg,Qh⟩:=Kt.count (PySem.Within.cons name v hw);refine aag (wpAny_lookBehind Sj (by rw[Tg];exact pastItsLine_dict (aaq Qh (by rw[aaA];omega))) ?_);exact aaz (h _ ⟨(KS.2 _ (Ne.symm I.ne)).trans I.obj,Kt,I.ne⟩ KS)
def AI{R:Result->Shared->Prop}{vs:List Value}(X:K.In s.heap)(hm:PySem.W.makesIn K C=true)
  (hi:PySem.W.findIn K (.ref C) "__init__"=some (some (.ref f))) (hf:PySem.W.typeIn K (.ref f)=some (.type "function"))
  (h:codeAny (model prog w) (A.under (.builtin "type.__call__" ⟨.ref C::vs,kw⟩)) (.call (.ref f) ⟨.ref (s.heap.objs.size+1)::vs,kw⟩) (PySem.W.InitBack (s.heap.objs.size+1) R)
   {s with heap:=(s.heap.push PySem.W.emptyDict).push (PySem.W.instObj C s.heap.objs.size)}):
  codeAny (model prog w) A (.call (.ref C) ⟨vs,kw⟩) R s:=by
 have⟨hh,g,d,t,os⟩:=s;exact PySem.W.make_core (PySem.W.makes_of X hm) (PySem.W.looks_findIn X hi) (λself=>PySem.W.bind_fn X self hf) (.inl rfl) h
end
def fL(f:Str)(v:V):List (Str×V)->List (Str×V)
 | []=>[(f,v)]
 | (g,x)::r=>if g=f then (g,v)::r else (g,x)::fL f v r
def kD(f g:Str)(v:V):∀fs:List (Str×V),(fL f v fs).lookup g=if g=f then some v else fs.lookup g
 | []=>by
  show List.lookup g [(f,v)]=_;by_cases h:g=f
  ·have hb:(g==f)=true:=abv.mpr h;simp only[List.lookup,hb,if_pos h]
  ·have hb:(g==f)=false:=beq_eq_false_iff_ne.mpr h;simp only[List.lookup,hb,if_neg h]
 | (k,x)::r=>by
  have ih:=kD f g v r;rw[show fL f v ((k,x)::r)=(if k=f then (k,v)::r else (k,x)::fL f v r) from rfl];by_cases hk:k=f
  ·rw[aaN hk];by_cases h:g=k
   ·have hb:(g==k)=true:=abv.mpr h;simp only[List.lookup,hb,if_pos (h.trans hk)]
   ·have hb:(g==k)=false:=beq_eq_false_iff_ne.mpr h;simp only[List.lookup,hb,if_neg (λe:g=f=>h (e.trans hk.symm))]
  ·rw[aaH hk];by_cases h:g=k
   ·have hb:(g==k)=true:=abv.mpr h;simp only[List.lookup,hb,if_neg (λe:g=f=>hk (h.symm.trans e))]
   ·have hb:(g==k)=false:=beq_eq_false_iff_ne.mpr h;simp only[List.lookup,hb];exact ih
def ka(f:Str)(v:V):∀fs:List (Str×V),f∈(fL f v fs).map (·.1)/\∀g,g∈fs.map (·.1)->g∈(fL f v fs).map (·.1)
 | []=>⟨by simp[fL],λg h=>by simp at h⟩
 | (k,x)::r=>by
  have⟨i1,i2⟩:=ka f v r;rw[show fL f v ((k,x)::r)=(if k=f then (k,v)::r else (k,x)::fL f v r) from rfl];by_cases hk:k=f
  ·rw[aaN hk];subst hk;exact⟨by simp,λg h=>by simpa using h⟩
  ·rw[aaH hk];refine⟨?_,λg h=>?_⟩
   ·rw[aaL];exact aae _ i1
   ·rw[aaL]at h⊢;rcases aay.mp h with e| e
    ·exact aay.mpr (.inl e)
    ·exact aae _ (i2 g e)
def kL(f:Str)(v:V):∀fs:List (Str×V),(fL f v fs).length<=fs.length+1
 | []=>by simp[fL]
 | (k,x)::r=>by
  have ih:=kL f v r;rw[show fL f v ((k,x)::r)=(if k=f then (k,v)::r else (k,x)::fL f v r) from rfl];by_cases hk:k=f
  ·rw[aaN hk,aaA,aaA];omega
  ·rw[aaH hk,aaA,aaA];omega
def gS.some_of{o:Option Value}(r:gS (some v) o):∃u,o=some u/\Ψ v u:=by
 cases o with
 | none=>exact(show False from r).elim
 | some u=>exact⟨u,rfl,r⟩
def gS.none_of{o:Option Value}(r:gS none o):o=none:=by
 cases o with
 | none=>rfl
 | some u=>exact(show False from r).elim
def xA(r:Ψ v u):PySem.W.handedIn u=true:=by
 cases v with
 | aR=>cases(show u=Value.none from r);rfl
 | bl b=>cases(show u=Value.bool b from r);rfl
 | int i=>have⟨t,e⟩:=(show∃t,u=Value.int i t from r);cases e;rfl
 | str x=>have⟨t,e⟩:=(show∃t,u=Value.str x t from r);cases e;rfl
 | yF b=>have⟨t,e⟩:=(show∃t,u=Value.bytes b t from r);cases e;rfl
 | FE b=>have⟨t,e⟩:=(show∃t,u=Value.float b t from r);cases e;rfl
 | ref a=>cases(show u=Value.ref a from r);rfl
 | ty n=>cases(show u=Value.type n from r);rfl
section
variable{H H':Hp}{fs NX:List (Str×V)}
def lx(aE:g9 P w H h)(e:H a=some (.ins C dx fs)):∃mA,vg h a dx C mA/\(∀f,gS (fs.lookup f) (mA f))/\PySem.Within mA (fs.map (·.1))/\fs.length<=1000/\H dx=some (.own a):=by have⟨d,z,ne,ob,mA,n,r,q⟩:=(show aI P w H h a (.ins C dx fs) from aE a _ e);exact⟨mA,⟨ob,n,ne⟩,r,q,z,d⟩
end
structure yi(K:fI)(C:Addr):Prop where
 pg:PySem.W.plainGet K C Str.empty=true
 hd:PySem.W.hasDictIn K C=true
 po:PySem.W.plainOver K C=true
 sa:PySem.W.findIn K (.ref C) "__setattr__"=some (some (.builtin "object.__setattr__"))
def yi.get{K:fI}{C:Addr}(c:yi K C)(f:Str):PySem.W.plainGet K C f=true:=c.pg
def eK(K:fI)(C:Addr)(f:Str):Prop:=PySem.W.findIn K (.ref C) f=some none
def eK.Hy{K:fI}{f:Str}(n:eK K C f):PySem.W.takerIn K C f=some none:=by unfold PySem.W.takerIn;rw[show PySem.W.findIn K (.ref C) f=some none from n];rfl
structure G6(K:fI)(C:Addr)(m:Str)(f:Addr):Prop where
 at_:PySem.W.findIn K (.ref C) m=some (some (.ref f))
 fn:PySem.W.isFn K (.ref f)=true
 kp:PySem.W.keepIn K (.ref f)=true
section
variable{H:Hp}{fs:List (Str×V)}{f:Str}
def ud{b:Bool}(I:Inv X γ σ H s)(e:H a=some (.ins C dx fs))(c:yi X.K C)(n:eK X.K C f)(l:fs.lookup f=some v)
  (h:∀u s',Inv X γ σ H s'->Ψ v u->Q u s'):wpAny (model X.prog X.w) A (getAttr (.ref a) f b) Q E s:=by
 have⟨mA,O,r,_,_,_⟩:=lx I.aE e;have⟨u,hu,ru⟩:=gS.some_of (v:=v) (o:=mA f) (by rw[<-l];exact r f);exact Dq I.jF O (c.get f) c.hd n hu (xA ru) (h u _ (I.tok _) ru)
def tQ{m:Str}{g:Addr}{pl:Sem Bool}{Q:Value×List Value->Shared->Prop}(I:Inv X γ σ H s)(e:H a=some (.ins C dx fs))(c:yi X.K C)(k:G6 X.K C m g)(l:fs.lookup m=none)
  (h:Q (.ref g,[.ref a]) s):wpAny (model X.prog X.w) A (getMethod (.ref a) m pl) Q E s:=by
 have⟨mA,O,r,_,_,_⟩:=lx I.aE e;have hn:mA m=none:=gS.none_of (by rw[<-l];exact r m);exact AV I.jF O (c.get m) k.at_ k.fn hn h
def um{y:V}{Q:Unit->Shared->Prop}(I:Inv X γ σ H s)(e:H a=some (.ins C dx fs))(c:yi X.K C)(n:eK X.K C f)(hl:fs.length < 1000)(ry:Ψ y u)
  (h:∀s',Inv X γ σ (upd H a (.ins C dx (fL f y fs))) s'->Q Unit.unit s'):wpAny (model X.prog X.w) A (setAttr (.ref a) f u) Q E s:=by
 have⟨mA,O,r,wi,_,ho⟩:=lx I.aE e;have hz:(fs.map (·.1)).length<=sizeLine:=by rw[aac,sizeLine_eq];omega
 refine BL I.jF O c.sa c.po n.Hy c.hd wi hz λh' O' sb=>h _ ?_;have hd:∃o,h'.get? dx=some o:=let ⟨o,_,_,e',_⟩:=O'.ns;⟨o,e'⟩
 refine I.write (x:=a) (e:=dx) (by rw[e];exact True.intro) (.inr ho) (λb q hb z=>(sb.2 b hb).trans z) hd ?_;refine⟨by rw[ω O.ne];exact ho,?_,O.ne,O'.obj,_,O'.ns,λg=>?_,λg hg=>?_⟩
 ·have:=kL f y fs;omega
 ·show gS ((fL f y fs).lookup g) (if g=f then some u else mA g);rw[kD];by_cases q:g=f
  ·rw[aaN q,aaN q];exact ry
  ·rw[aaH q,aaH q];exact r g
 ·by_cases q:g=f
  ·rw[q];exact(ka f y fs).1
  ·refine(ka f y fs).2 g (wi g λz=>hg ?_);show(if g=f then some u else mA g)=none;rw[aaH q];exact z
def Inv.made(I:Inv X γ σ H s):Inv X γ σ (upd (upd H s.heap.objs.size (.own (s.heap.objs.size+1))) (s.heap.objs.size+1) (.ins C s.heap.objs.size []))
  {s with heap:=(s.heap.push PySem.W.emptyDict).push (PySem.W.instObj C s.heap.objs.size)}:=by
 have e1:(s.heap.push PySem.W.emptyDict).get? s.heap.objs.size=some PySem.W.emptyDict:=aaG s.heap rfl;have e2:((s.heap.push PySem.W.emptyDict).push (PySem.W.instObj C s.heap.objs.size)).get? (s.heap.objs.size+1)=some (PySem.W.instObj C s.heap.objs.size):=by have:=aaG (s.heap.push PySem.W.emptyDict) (o:=PySem.W.instObj C s.heap.objs.size) rfl;rwa[Heap.size_push]at this
 have e3:(s.heap.push PySem.W.emptyDict).Ns s.heap.objs.size (λ_=>none):=⟨PySem.W.emptyDict,#[],_,e1,rfl,(λe he=>absurd he (by simp)),λ_=>rfl⟩;have I1:=I.laid (a:=s.heap.objs.size) (o:=.own (s.heap.objs.size+1)) (h':=s.heap.push PySem.W.emptyDict) (t':=s.toks) (λb u q=>aaf _ q) (aaj _) ⟨_,e1⟩;refine I1.laid (a:=s.heap.objs.size+1) (o:=.ins C s.heap.objs.size []) (t':=s.toks) (λb u q=>aaf _ q) (Nat.le_of_eq (Heap.size_push _ _)) ?_;have ne:s.heap.objs.size≠s.heap.objs.size+1:=aaC (Nat.lt_succ_self _);refine⟨by rw[ω ne,Ω],aaV _,ne,e2,λ_=>none,(Heap.Ns1.of_empty e3).at λo q=>aaf _ q,λ_=>True.intro,λy hy=>aaE rfl hy⟩
def Dd{env:Env}{f:Str}(hb:attributeBase e f env (eval e env)=eval e env)
  (h:wpAny (model prog w) A (eval e env) (λo s₁=>wpAny (model prog w) A (getAttr o f true) Q E s₁) E s):wpAny (model prog w) A (eval (.Attribute e f pos) env) Q E s:=
 Attribute_any_ h (by rw[arm_eval_Attribute,hb])
end
def MA(K:fI)(ta:TE)(f:Str):TE:=λσ H Q=>ta σ H λx H1=>∃a C dx fs v,x= .ref a/\H1 a=some (.ins C dx fs)/\yi K C/\eK K C f/\fs.lookup f=some v/\Q v H1
def Mt(K:fI)(ta tv:TE)(f:Str):TS:=λD σ H=>tv σ H λy H1=>ta σ H1 λx H2=>∃a C dx fs,x= .ref a/\H2 a=some (.ins C dx fs)/\yi K C/\eK K C f/\fs.length < 1000/\
 D.nx σ (upd H2 a (.ins C dx (fL f y fs)))
section
variable{o value:Expr}{f:Str}{pos' nC:Pos}{tv:TE}
def FK(he:PE X e ta)(hb:attributeBase e f X.env (eval e X.env)=eval e X.env):PE X (.Attribute e f pos) (MA X.K ta f):=by intro γ s σ H Q I h;refine Dd hb (ba (he γ s σ H _ I h) λu s1 xz=>?_);have⟨x,H1,I1,rx,a,C,dx,fs,v,ex,ea,c,n,l,q⟩:=xz;subst ex;obtain rfl:u=Value.ref a:=rx;exact ud I1 ea c n l λu' s2 I2 ru=>⟨v,H1,I2,ru,q⟩
def GK(ha:PE X o ta)(hv:PE X value tv)(hs:swapsWith value (some (.Attribute o f pos')) pos.line X.env=pure false):PS X (.Assign [.Attribute o f pos'] value pos) (Mt X.K ta tv f):=by intro γ s σ H D I h;refine plainObj_wpAny_Assign_Attribute (ba (hv γ s σ H _ I h) fun u s1 ⟨y,H1,I1,ry,q⟩=>ba (ha γ s1 σ H1 _ I1 q) λov s2 xz=>?_) hs;have⟨x,H2,I2,rx,a,C,dx,fs,ex,ea,c,n,l,q2⟩:=xz;subst ex;obtain rfl:ov=Value.ref a:=rx;exact um I2 ea c n l ry λs3 I3=>⟨σ,_,I3,q2⟩
end
section
variable{H:Hp}{c:Value}{b:Bool}
inductive gR(K:fI)(H:Hp):V->Value->Prop where
 | aR:gR K H .aR (.type "NoneType")
 | bl (x:Bool):gR K H (.bl x) (.type "bool")
 | int (i:Int):gR K H (.int i) (.type "int")
 | str (x:Str):gR K H (.str x) (.type "str")
 | FE (x:UInt64):gR K H (.FE x) (.type "float")
 | lst {a:Addr} {xs:List V} (e:H a=some (.lst xs)):gR K H (.ref a) (.type "list")
 | qO {a:Addr} {o:Obj} {xs:List V} (e:H a=some (.qO o (.lst xs))):gR K H (.ref a) (.type "list")
 | tup {a:Addr} {xs:List V} (e:H a=some (.tup xs)):gR K H (.ref a) (.type "tuple")
 | dK {a:Addr} {Χ:List (Key×V)} (e:H a=some (.dK Χ)):gR K H (.ref a) (.type "dict")
 | dT {a:Addr} {Χ:List (List Key×V)} (e:H a=some (.dT Χ)):gR K H (.ref a) (.type "dict")
 | ins {a C dx:Addr} {fs:List (Str×V)} (e:H a=some (.ins C dx fs)) (cl:yi K C) (ha:PySem.W.findIn K (.ref C) "__class__"=some (some (.builtin "object.__class__")))
   (hn:PySem.W.specialIn K (.builtin "object.__class__") "__get__"=some (some (.builtin "getset_descriptor.__get__"))) (O4:PySem.W.takesIn K (.builtin "object.__class__")=some true)
   (hm:PySem.W.mroIn K C (.type "object")=some true):gR K H (.ref a) (.ref C)
def xo{x:V}{t:Value}(I:Inv X γ σ H s)(rx:Ψ x u)(ty:gR X.K H x t)(e:PySem.W.kitOne X.K t c=some b)(h:∀tk,Q (.bool b) {s with toks:=tk}):
  wpAny (model X.prog X.w) A (call (.builtin "isinstance") [u,c]) Q E s:=by
 cases ty with
 | aR=>cases(show u=Value.none from rx);exact PySem.W.kia_one PySem.W.kitx_none I.jF True.intro e nofun h
 | bl y=>cases(show u=Value.bool y from rx);exact PySem.W.kia_one PySem.W.kitx_bool I.jF True.intro e nofun h
 | int i=>have⟨t,q⟩:=(show∃t,u=Value.int i t from rx);cases q;exact PySem.W.kia_one PySem.W.kitx_int I.jF True.intro e nofun h
 | str y=>have⟨t,q⟩:=(show∃t,u=Value.str y t from rx);cases q;exact PySem.W.kia_one PySem.W.kitx_str I.jF True.intro e nofun h
 | FE y=>have⟨t,q⟩:=(show∃t,u=Value.float y t from rx);cases q;exact PySem.W.kia_one PySem.W.kitx_float I.jF True.intro e nofun h
 | @lst a xs ea=>
  cases(show u=Value.ref a from rx);have⟨_,_,n,_,h1⟩:=(show aI X.prog X.w H s.heap a (.lst xs) from I.aE a _ ea);exact PySem.W.kia_one PySem.W.kitx_list I.jF ⟨_,h1,rfl⟩ e nofun h
 | @qO a ob xs ea=>
  cases(show u=Value.ref a from rx);have⟨_,_,_,n,_,h1⟩:=(show aI X.prog X.w H s.heap a (.qO ob (.lst xs)) from I.aE a _ ea);exact PySem.W.kia_one PySem.W.kitx_list I.jF ⟨_,h1,rfl⟩ e nofun h
 | @tup a xs ea=>
  cases(show u=Value.ref a from rx);have⟨_,_,_,p⟩:=(show aI X.prog X.w H s.heap a (.tup xs) from I.aE a _ ea);have⟨o,h1,h2,_⟩:=p;exact PySem.W.kia_one PySem.W.kitx_tuple I.jF ⟨o,h1,h2⟩ e nofun h
 | @dK a Χ ea=>
  cases(show u=Value.ref a from rx);have⟨_,_,vs,_,p⟩:=(show aI X.prog X.w H s.heap a (.dK Χ) from I.aE a _ ea);have⟨o,es,ep,h1,h2,_⟩:=p;exact PySem.W.kia_one PySem.W.kitx_dict I.jF ⟨o,h1,h2.1⟩ e nofun h
 | @dT a Χ ea=>
  cases(show u=Value.ref a from rx);have⟨_,_,xs,_,o,es,ep,h1,h2,_⟩:=(show aI X.prog X.w H s.heap a (.dT Χ) from I.aE a _ ea);exact PySem.W.kia_one PySem.W.kitx_dict I.jF ⟨o,h1,h2.1⟩ e nofun h
 | @ins a C dx fs ea cl ha hn O4 hm=>
  cases(show u=Value.ref a from rx);have⟨mA,O,_⟩:=lx I.aE ea;have⟨od,J,_⟩:=O.look;exact PySem.W.kia_one (PySem.W.kitx_own (cl.get _) cl.hd ha hn O4 hm) I.jF J e nofun h
end
structure bj(k:Nat)(A:Around):Prop where
 hd:A.handled=none
 dp:A.depth+3 * k+5 < recursionLimit
 un:A.units+16 * k+200 < cLine
def bj.mono{j k:Nat}(r:bj k A)(h:j<=k):bj j A:=⟨r.hd,by have:=r.dp;omega,by have:=r.un;omega⟩
def bj.deeper{k:Nat}(r:bj (k+1) A)(env:Env):bj k (A.deeper env):=
 ⟨r.hd,by have:=r.dp;show A.depth+1+3 * k+5 < _;omega,by have:=r.un;show A.units+3+16 * k+200 < _;omega⟩
def uP:(A.under (.builtin "type.__call__" ⟨.ref C::us,kw⟩)).depth=A.depth+1:=by
 first| rfl| simp[Around.under,Code.weight,Code.isCreation,Code.isGuard,Code.isCaller,Code.frames,Code.isFrame,guardIds]
def u0:(A.under (.builtin "type.__call__" ⟨.ref C::us,kw⟩)).units=A.units+1:=by
 first| rfl| simp[Around.under,Code.cUnits,Code.frames,Code.isFrame]
def bj.make{k:Nat}(r:bj (k+1) A)(C:Addr)(us:List Value)(kw:List (Str×Value)):bj k (A.under (.builtin "type.__call__" ⟨.ref C::us,kw⟩)):=
 ⟨r.hd,by have:=r.dp;rw[uP];omega,by have:=r.un;rw[u0];omega⟩
def bj.depth{k:Nat}(r:bj k A):A.depth < recursionLimit:=by have:=r.dp;omega
def bj.units{k:Nat}(r:bj k A):A.units+64 < cLine:=by have:=r.un;omega
def bj.uO{k:Nat}(r:bj k A):A.units < cLine:=by have:=r.un;omega
def HY:TA:=λ_ H Q=>Q [] H
def IC(ta:TE)(tr:TA):TA:=λσ H Q=>ta σ H λx H1=>tr σ H1 λxs H2=>Q (x::xs) H2
section
variable{t:TA}
def FY:PA X [] HY:=λ_ _ _ _ H Q I h=>Calls.spliced_nil ⟨[],H,I,.nil,h⟩
def BN(ha:PE X e te)(hr:PA X es t)(hs:starEach (e::es) X.env=(false,eval e X.env)::starEach es X.env:=by rfl):PA X (e::es) (IC te t):=by intro pos γ s σ H Q I h;rw[hs];show wpAny _ _ (spliced ((false,eval e X.env)::backTo pos (starEach es X.env))) _ _ s;refine Calls.spliced_cons (ba (ha γ s σ H _ I h) λu s1 xz=>?_);have⟨x,H1,I1,r1,q1⟩:=xz;exact ba (hr pos γ s1 σ H1 _ I1 q1) λus s2 ⟨xs,H2,I2,r2,q2⟩=>⟨x::xs,H2,I2,.cons r1 r2,q2⟩
def Mj(t:TA):TE:=λσ H Q=>t σ H λxs H1=>xs.length<=sizeLine/\∀p,H1 p=none->Q (.ref p) (upd H1 p (.tup xs))
def K7(t:TA):TE:=λσ H Q=>t σ H λxs H1=>xs.length<=sizeLine/\∀p,H1 p=none->Q (.ref p) (upd H1 p (.lst xs))
def GZ{x1}(h:PA X es t):PE X (.Tuple es x1 pos) (Mj t):=by intro γ s σ H Q I hq;refine wpAny_Tuple_spliced (ba (h pos γ s σ H _ I hq) fun us s1 ⟨xs,H1,I1,r,z,q⟩=>⟨by rw[<-r.length];exact z,?_⟩);have hf:H1 s1.heap.objs.size=none:=I1.aE.fresh (aaj _);refine⟨.ref s1.heap.objs.size,upd H1 s1.heap.objs.size (.tup xs),I1.laid (t':=s1.toks) (λb u e=>aaf _ e) (aaj _) ?_,rfl,q _ hf⟩;exact⟨z,us,r,⟨_,aaG _ rfl,rfl,_,rfl⟩⟩
def AL(h:PA X es t):PE X (.List es pos) (K7 t):=by intro γ s σ H Q I hq;refine wpAny_List_spliced (ba (h pos γ s σ H _ I hq) fun us s1 ⟨xs,H1,I1,r,z,q⟩=>⟨by rw[<-r.length];exact z,?_⟩);have hf:H1 s1.heap.objs.size=none:=I1.aE.fresh (aaj _);refine⟨.ref s1.heap.objs.size,upd H1 s1.heap.objs.size (.lst xs),I1.laid (t':=s1.toks) (λb u e=>aaf _ e) (aaj _) ?_,rfl,q _ hf⟩;exact⟨z,us,0,r,aaG _ rfl⟩
end
abbrev Sp:=List V->Hp->VK->XK->Prop
abbrev tJ:=List Env->Hp->Shared->XK->Value->Shared->Prop
structure ux(P:Program)(w:World)(K:fI)(mg:Str->Option Value)(base:Heap)(A:Around)(outer:List Env)(s:Shared)(H:Hp):Prop where
 frames:A.frames=some outer
 mod:Mod K mg base
 bs:∀b o,base.get? b=some o->s.heap.get? b=some o/\H b=none
 G7:base.objs.size<=s.heap.objs.size
 nQ:s.heap.FunFrames base outer
 Hw:∀b∈jm outer,H b=none
 aE:g9 P w H s.heap
 bare:AllBare s.gens
def CE(outer:List Env)(P:Program)(w:World)(H:Hp)(s:Shared)(Q:VK)(u:Value)(s':Shared):Prop:=
 ∃v H',s'.os=s.os/\AllBare s'.gens/\Un (jm outer) [] H H' s.heap s'.heap/\g9 P w H' s'.heap/\Ψ v u/\Q v H'
def CR(CX:tJ)(outer:List Env)(P:Program)(w:World)(H:Hp)(s:Shared)(Q:VK)(E:XK)(r:Result)(s':Shared):Prop:=
 match r with
 | .ok (.ret u)=>CE outer P w H s Q u s'
 | .ok _=>False
 | .error e=>CX outer H s E e s'
structure Φ(P:Program)(w:World)(K:fI)(mg:Str->Option Value)(base:Heap)(CX:tJ)(k:Nat)(f:Addr)(fd:FuncData)(ps:List Str)(sp:Sp):Prop where
 len:∀vs H Q E,sp vs H Q E->vs.length=ps.length
 run:∀(A:Around) (outer:List Env) (s:Shared) (H:Hp) (args:Args) (us:List Value) (vs:List V) (Q:VK) (E:XK),bj k A->ux P w K mg base A outer s H->BindsTo s fd args (ps.zip us)->Ν vs us->sp vs H Q E->
  codeAny (model P w) A (.call (.ref f) args) (CR CX outer P w H s Q E) s
def ux.make{K:fI}{H:Hp}(e:ux P w K mg base A outer s H)(C:Addr)(us:List Value)(kw:List (Str×Value)):
  ux P w K mg base (A.under (.builtin "type.__call__" ⟨.ref C::us,kw⟩)) outer s H:=⟨by first| exact e.frames| (simpa [Around.under,Code.envs,Code.isFrame,pushEnvs] using e.frames),e.mod,e.bs,e.G7,e.nQ,e.Hw,e.aE,e.bare⟩
section
variable{H:Hp}{s':Shared}
def Inv.Hn(I:Inv X γ σ H s):ux X.prog X.w X.K X.mg X.base X.A X.stack s H:=
 ⟨I.ok.frames,I.ok.mod,I.bs,aaq I.ok.G7 I.sz,I.stack,I.k8,I.aE,I.bare⟩
def Inv.after{Q:VK}(I:Inv X γ σ H s)(h:CE X.stack X.prog X.w H s Q u s'):EP X γ σ Q u s':=by have⟨v,H',os,bare,un,aE,r,q⟩:=h;have⟨hh,g,d,t,Kq⟩:=s';obtain rfl:Kq=s.os:=os;exact⟨v,H',I.call (h':=hh) (g':=g) (d':=d) (t':=t) (ch:=[]) un aE bare (λb z=>absurd z (by simp)),r,q⟩
end
def fJ(K:fI)(fd:FuncData)(ps:List Str)(ds:List Value):Prop:=
 ∀(s:Shared) (us:List Value),K.In s.heap->(us++ds).length=ps.length->BindsTo s fd ⟨us,[]⟩ (ps.zip (us++ds))
def fJ.all{K:fI}{fd:FuncData}(h:∀us:List Value,us.length=ps.length->bindArgs fd ⟨us,[]⟩=pure (ps.zip us)):fJ K fd ps []:=λs us _ hl=>by rw[aa2]at hl⊢;exact .of_eq (h us hl)
section
variable{CX:tJ}{k:Nat}{f:Addr}{fd:FuncData}{sp:Sp}{nj:List V}{ds:List Value}{E:XK}{m:Str}{p apos:Pos}{o:Expr}{t:TA}
structure Mk(K:fI)(C f:Addr):Prop where
 makes:PySem.W.makesIn K C=true
 init:PySem.W.findIn K (.ref C) "__init__"=some (some (.ref f))
 fn:PySem.W.isFn K (.ref f)=true
 kp:PySem.W.keepIn K (.ref C)=true
end
structure χ(N P:List Str)(sc:Scope):Prop where
 kind:sc.kind= .function
 co:sc.isCoroutine=false
 gen:sc.isGenerator=false
 nd:N.Nodup
 pre:N.take P.length=P
 par:∀x∈P,sc.names.lookup x=some .local\/sc.names.lookup x=some .cell
 Fu:∀y∈sc.names,y.2≠ .free
def oC{kindOf:Str->Option NameKind}{x:Str}:∀{binds:List (Str×Value)} {m:Str->Option Value},(∀v,(x,v)∉binds)->bindL kindOf binds m x=m x
 | [],_,_=>rfl
 | (n,v)::r,m,h=>by
  unfold bindL;rw[oC λw hw=>h w (aae _ hw)];split
  ·have:x≠n:=by rintro rfl;exact h v aad
   simp[this]
  ·rfl
def o4{kindOf:Str->Option NameKind}{x:Str}:∀{binds:List (Str×Value)} {m:Str->Option Value},(∀v,(x,v)∉binds)->bindC kindOf binds m x=m x
 | [],_,_=>rfl
 | (n,v)::r,m,h=>by
  unfold bindC;rw[o4 λw hw=>h w (aae _ hw)];split
  ·rfl
  ·have:x≠n:=by rintro rfl;exact h v aad
   simp[this]
def oP{kindOf:Str->Option NameKind}{x:Str}{v:Value}:∀{P:List Str} {vs:List Value} {i:Nat} {m:Str->Option Value},P.Nodup->P[i]? =some x->vs[i]? =some v->kindOf x=some .local->
  bindL kindOf (P.zip vs) m x=some v
 | [],_,_,_,_,h,_,_=>by simp at h
 | _::_,[],_,_,_,_,h,_=>by simp at h
 | p::P,w::vs,0,m,nd,h1,h2,hk=>by simp at h1 h2;subst h1;subst h2;show bindL kindOf ((p,w)::P.zip vs) m p=_;unfold bindL;rw[oC λv hv=>(abe.mp nd).1 (aaY hv).1,aaN hk];simp
 | p::P,w::vs,i+1,m,nd,h1,h2,hk=>by show bindL kindOf ((p,w)::P.zip vs) m x=_;unfold bindL;exact oP (i:=i) (List.nodup_cons.mp nd).2 (by simpa using h1) (by simpa using h2) hk
def nZ{kindOf:Str->Option NameKind}{x:Str}{v:Value}:∀{P:List Str} {vs:List Value} {i:Nat} {m:Str->Option Value},P.Nodup->P[i]? =some x->vs[i]? =some v->kindOf x≠some .local->
  bindC kindOf (P.zip vs) m x=some v
 | [],_,_,_,_,h,_,_=>by simp at h
 | _::_,[],_,_,_,_,h,_=>by simp at h
 | p::P,w::vs,0,m,nd,h1,h2,hk=>by simp at h1 h2;subst h1;subst h2;show bindC kindOf ((p,w)::P.zip vs) m p=_;unfold bindC;rw[o4 λv hv=>(abe.mp nd).1 (aaY hv).1,aaH hk];simp
 | p::P,w::vs,i+1,m,nd,h1,h2,hk=>by show bindC kindOf ((p,w)::P.zip vs) m x=_;unfold bindC;exact nZ (i:=i) (List.nodup_cons.mp nd).2 (by simpa using h1) (by simpa using h2) hk
def gA(N:List Str)(vs:List V):St:=vs.map some++List.replicate (N.length - vs.length) none
def iO(CX:tJ)(P:Program)(w:World)(K:fI)(mg:Str->Option Value)(base:Heap)(N:List Str)(qual:Str)(scope:Scope)(f:Addr)(cd:Value)(A:Around)(outer:List Env)(s:Shared)(H:Hp)(E:XK):Cx where
 prog:=P
 w:=w
 K:=K
 mg:=mg
 base:=base
 A:=A.deeper (envOfC qual scope s.heap.objs.size f cd)
 N:=N
 s₀:=s
 H₀:=H
 env:=envOfC qual scope s.heap.objs.size f cd
 outer:=outer
 stack:=envOfC qual scope s.heap.objs.size f cd::outer
 ex:=[]
 calm:=true
 fn:=λ_=>true
 pn:=[]
 xe:=λe s'=>wpAny (model P w) (A.deeper (envOfC qual scope s.heap.objs.size f cd)) (leaving (envOfC qual scope s.heap.objs.size f cd) e) (λ_ M_=>CX outer H s E e M_) (λe' M_=>CX outer H s E e' M_) s'
def rk{sc:Scope}{n:Nat}(h:sc.names.lookup x=some .cell):∃c,(cellsFrom n sc.names []).lookup x=some c:=by have q:=PySem.W.cellsFrom_some sc.names n [] (.inl h);exact abw.mp q
def wY{CX:tJ}{K:fI}{N:List Str}{qual:Str}{scope:Scope}{f:Addr}{cd:Value}{s1:Shared}{H:Hp}{E:XK}{vs:List V}
  (S:χ N ps scope) (hd:A.handled=none) (e0:ux P w K mg base A outer s H) (hl:vs.length=ps.length) (r:Ν vs us)
  (x:InCallC s s.heap.objs.size (bindL (envOfC qual scope s.heap.objs.size f cd).kindOf (ps.zip us) λ_=>none) (cellsFrom (s.heap.objs.size+1) scope.names []) (bindC (envOfC qual scope s.heap.objs.size f cd).kindOf (ps.zip us) λ_=>none) s1):
  Inv (iO CX P w K mg base N qual scope f cd A outer s H E) [] (gA N vs) H s1:=by
 have dI:ps.length<=N.length:=by have:=aaX List.length S.pre;rw[abi]at this;omega
 have⟨h1,tk,rfl,hk⟩:=x.done;have Jt:∀b:Addr,b∉(iO CX P w K mg base N qual scope f cd A outer s H E).ex:=λb z=>absurd (show b∈([]:List Addr) from z) (by simp)
 refine⟨⟨e0.mod,S.kind,rfl,rfl,aaj _,λy z c h1 h2=>?_,λy hy=>?_,λy c _ h=>?_,λ_=>hd,Around.frames_deeper e0.frames,.inr ⟨rfl,rfl⟩,λb z=>aaE z (Jt b),e0.bs,e0.G7,λb _ _=>Jt b,λb z=>aaE z (Jt b),e0.nQ,e0.Hw⟩,
  rfl,e0.bare,Un.kept hk,⟨_,x.toInCall.ns,λi y v h1 h2 h3=>?_⟩,λy c h=>⟨_,x.cell y c h⟩,e0.aE.fresh (Nat.le_refl _),λy c h=>?_,λp hp=>absurd (show p∈([]:List (Addr×Obj)) from hp) (by simp),e0.aE.kept hk,?_⟩
 ·exact name_of_addr x.apart (PySem.mem_of_lookup h1) (PySem.mem_of_lookup h2)
 ·have hy:scope.names.lookup y=some .cell\/scope.names.lookup y=some .free:=hy;rcases hy with hy| hy
  ·exact rk hy
  ·exact aaE rfl (S.Fu _ (PySem.mem_of_lookup hy))
 ·exact Nat.le_of_lt (x.above y c (PySem.mem_of_lookup h))
 ·have hi:i < vs.length:=by
   unfold gA at h2;by_cases hi:i < vs.length
   ·exact hi
   ·rw[List.getElem?_append_right (by simpa using hi)]at h2;rw[List.getElem?_replicate]at h2;split at h2 <;> cases h2
  have ha:vs[i]? =some v:=by
   unfold gA at h2;rw[List.getElem?_append_left (by simpa using hi),List.getElem?_map]at h2;cases e:vs[i]? with
   | none=>rw[e]at h2;cases h2
   | some a=>rw[e]at h2;cases h2;rfl
  have⟨u,hu,rv⟩:=r.get ha;have hp:ps[i]? =some y:=by rw[<-S.pre,List.getElem?_take_of_lt ()];exact h1
  have Pb:ps.Nodup:=by rw[<-S.pre];exact S.nd.sublist (List.take_sublist _ _)
  refine⟨u,rv,?_⟩;rcases S.par y (aaJ hp) with k| k
  ·exact .inl ⟨k,oP Pb hp hu k⟩
  ·have⟨c,e⟩:=rk (n:=s.heap.objs.size+1) k;refine .inr ⟨.inl k,c,e,?_⟩;have q:=x.cell y c e;rw[nZ Pb hp hu (by show scope.names.lookup y≠_;rw[k];decide)]at q;exact q
 ·exact e0.aE.fresh (Nat.le_of_lt (x.above y c (PySem.mem_of_lookup h)))
 ·unfold gA;show _=N.length;rw[aab,aac,aao];omega
def Jf{CX:tJ}{K:fI}{k:Nat}{f:Addr}{name qual:Str}{params:Arguments}{scope:Scope}{dV kV doc pm aW ct oc:Value}{an od:Option Addr}
  {zP:Array (Option Value)} {N:List Str} {sp:Sp} (lk:K.lookup f=some ⟨oc,od,.func (PySem.W.fnOf name qual params body scope dV kV doc pm an aW ct),zP⟩) (yK:PySem.W.codeIn K aW qual=true) (S:χ N ps scope)
  (len:∀vs H Q E,sp vs H Q E->vs.length=ps.length)
  (tm:∀(A:Around) (outer:List Env) (s:Shared) (H:Hp) (vs:List V) (Q:VK) (E:XK),bj k (A.deeper (envOfC qual scope s.heap.objs.size f aW))->sp vs H Q E->
   ∃t,yE (iO CX P w K mg base N qual scope f aW A outer s H E) body t/\t {nx:=λ_ H'=>Q .aR H',rt:=Q} (gA N vs) H):
  Φ P w K mg base CX (k+1) f (PySem.W.fnOf name qual params body scope dV kV doc pm an aW ct) ps sp:=by
 refine⟨len,λA outer s H args us vs Q E hr e0 hb r DH=>?_⟩;have hl:=len _ _ _ _ DH;have KX:K.In s.heap:=e0.mod.Kl.keeps λb o e=>(e0.bs b o e).1;have lim:s.heap.NoLimit:=e0.mod.nolimit.keeps λb o e=>(e0.bs b o e).1;have IT:∀y∈ps.zip us,scope.names.lookup y.1=some .local\/(scope.names.lookup y.1=some .cell/\((cellsFrom (s.heap.objs.size+1) scope.names []).lookup y.1).isSome=true):=λ⟨n,v⟩ hy=>by
  rcases S.par n (aaY hy).1 with q| q
  ·exact .inl q
  ·exact .inr ⟨q,PySem.W.cellsFrom_some _ _ _ (.inl q)⟩
 refine codeAny_call_function hr.depth (KX _ _ lk) rfl S.co S.gen rfl (PySem.W.codeRec_of KX yK) (hb _ _ _ _ ?_);refine wpAny_newFunctionEnv_cells S.kind IT λenv he s1 x=>?_;subst he;refine⟨lim.keeps x.toInCall.keep,codeAny_func ?_⟩;have⟨t,ht,hq⟩:=tm A outer s H vs Q E (hr.deeper _) DH;have I:Inv (iO CX P w K mg base N qual scope f aW A outer s H E) [] (gA N vs) H s1:=wY S hr.hd e0 hl r x;refine abk (ht [] s1 (gA N vs) H _ I hq) (λfl s' hs=>?_) λe s' hs=>hs
 have fin:∀{σ':St} {H':Hp} {v:V} {u:Value},Inv (iO CX P w K mg base N qual scope f aW A outer s H E) [] σ' H' s'->Ψ v u->Q v H'->CE outer P w H s Q u s':=
  λ{σ' H' v u} J rv q=>⟨v,H',J.os,J.bare,J.base,J.aE,rv,q⟩
 cases fl with
 | ret u=>
  have⟨v,σ',H',J,rv,q⟩:=hs;exact fin J rv q
 | next=>
  have⟨σ',H',J,q⟩:=hs;exact fin (v:=V.aR) (u:=Value.none) J rfl q
 | brk=>
  have⟨_,_,_,q⟩:=hs;exact False.elim q
 | cont=>
  have⟨_,_,_,q⟩:=hs;exact False.elim q
section
variable{p:Pos}{t:TA}{id T:String}{r:List V->Hp->VK->Prop}
def MQ(r:List V->Hp->VK->Prop)(t:TA):TE:=λσ H Q=>t σ H λvs H1=>r vs H1 Q
def Az(hc:bM X (.builtin id) r)(hg:Gl X x)(hm:X.mg x=none)(hv:bootBuiltins x=some (.builtin id))(ha:PA X (e::es) t)(hn:x≠"__name__":=by decide)(qL:(x==("__debug__":Str))=false:=by decide)
  (he:starEach (e::es) X.env=(false,eval e X.env)::starEach es X.env:=by rfl) (dI:(backTo pos (starEach es X.env)).any (·.1)=false:=by rfl):PE X (.Call (.Name x p) (e::es) [] pos) (MQ r t):=by
 intro γ s σ H Q I h;refine wpAny_Call_Name_kw (j9 I hg hm hv ?_ hn qL);exact PyProof.Rows.callWith_builtin1 (ba (ha pos γ s σ H _ I h) λus s1 ⟨vs,H1,I1,r1,q1⟩=>hc γ s1 σ H1 vs us Q I1 r1 q1) he dI
def yq(hc:bM X (.type T) r)(hg:Gl X x)(hm:X.mg x=none)(hv:bootBuiltins x=some (.type T))(ha:PA X (e::es) t)(hn:x≠"__name__":=by decide)(qL:(x==("__debug__":Str))=false:=by decide)
  (he:starEach (e::es) X.env=(false,eval e X.env)::starEach es X.env:=by rfl) (dI:(backTo pos (starEach es X.env)).any (·.1)=false:=by rfl):PE X (.Call (.Name x p) (e::es) [] pos) (MQ r t):=by
 intro γ s σ H Q I h;refine wpAny_Call_Name_kw (j9 I hg hm hv ?_ hn qL);exact PyProof.Rows.callWith_type1 (ba (ha pos γ s σ H _ I h) λus s1 ⟨vs,H1,I1,r1,q1⟩=>hc γ s1 σ H1 vs us Q I1 r1 q1) he dI
end
end L2
namespace HT
open PySem PyProof.Rows
section
variable{prog:Program}{w:World}{A:Around}{E:Value->Shared->Prop}{s:Shared}
def Cu{t b:Addr}{vs ws:List Value}{Q:Value->Shared->Prop}(ht:IsTup s.heap t vs.toArray)(hb:IsTup s.heap b ws.toArray)(hv:vs≠[])
  (h1:ws=[]->Q (.ref t) s) (h2:ws≠[]->Q (.ref s.heap.objs.size) {s with heap:=s.heap.push {cls:=.type "tuple",data:=.seq (vs++ws).toArray}})
  (hsz:vs.length+ws.length<=sizeLine):wpAny (model prog w) A (binaryOp .Add (.ref t) (.ref b)) Q E s:=by
 have⟨⟨cls,dd,data,sl⟩,ho,hc,n,hd⟩:=id ht;have⟨⟨P7,O_,data2,J'⟩,KY,OA,n2,hd2⟩:=id hb;simp only at hc hd OA hd2;subst hc hd OA hd2;have e:vs.toArray++ws.toArray=(vs++ws).toArray:=by simp
 by_cases hw:ws=[]
 ·exact concat_meets ⟨_,ho,rfl⟩ ⟨_,KY,rfl⟩ noFill_tuple_add seq_tuple_add PySem.F.slot_tuple_add PySem.F.entry_tuple_add (PySem.F.args_tuple_add_2 _ _)
   (tuple_addW1 t b vs.toArray ws.toArray n n2 dd O_ sl J' (by simpa using hv) (by simp[hw])) ⟨ho,KY,h1 hw⟩
 ·refine concat_meets ⟨_,ho,rfl⟩ ⟨_,KY,rfl⟩ noFill_tuple_add seq_tuple_add PySem.F.slot_tuple_add PySem.F.entry_tuple_add (PySem.F.args_tuple_add_2 _ _)
   (tuple_addW2 t b vs.toArray ws.toArray n n2 dd O_ sl J' (by simpa using hv) (by simpa using hw) (by rw[List.size_toArray,List.size_toArray];exact hsz)) ⟨ho,KY,?_⟩
  rw[e];exact h2 hw
def cG(n d:Nat):Option Int->Nat
 | none=>d
 | some v=>if v < 0 then (v+(n:Int)).toNat else min v.toNat n
def zJ(n d:Nat):cG n d none=d:=rfl
def vk(n d k:Nat):cG n d (some (k:Int))=min k n:=by show(if (k:Int) < 0 then ((k:Int)+(n:Int)).toNat else min (k:Int).toNat n)=min k n;rw[aaH (),abB]
def Fp(n d:Nat)(hd:d<=n)(o:Option Int):cG n d o<=n:=by
 cases o with
 | none=>exact hd
 | some v=>
  show(if v < 0 then (v+(n:Int)).toNat else min v.toNat n)<=n;by_cases hv:v < 0
  ·rw[aaN hv];omega
  ·rw[aaH hv];exact Nat.min_le_right _ _
def wN(v:Int)(n d:Nat):(if v < 0 then max (v+(n:Int)) 0 else min v (n:Int))=((cG n d (some v):Nat):Int):=by
 show(if v < 0 then max (v+(n:Int)) 0 else min v (n:Int))=(((if v < 0 then (v+(n:Int)).toNat else min v.toNat n):Nat):Int);by_cases hv:v < 0
 ·simp only[if_pos hv];omega
 ·simp only[if_neg hv];omega
def uB(lo hi:Option Int)(n:Nat):Builtin.Slice.sliceAdjust lo hi 1 (n:Int)=(((cG n 0 lo:Nat):Int),((cG n n hi:Nat):Int)):=by
 have h1:¬((1:Int) < 0):=()
 unfold Builtin.Slice.sliceAdjust;simp only[h1,if_false];refine Prod.ext ?_ ?_
 ·cases lo with
  | none=>rfl
  | some v=>exact wN v n 0
 ·cases hi with
  | none=>rfl
  | some v=>exact wN v n n
def tN(i j:Nat):Builtin.Slice.slicePlaces (i:Int) (j:Int) 1=j - i:=by
 unfold Builtin.Slice.slicePlaces;have h1:(1:Int) > 0:=()
 simp only[h1,if_true,Int.ediv_one];split <;> omega
def mf{v:Value}{o:Option Int}{Q:Option Int->Shared->Prop}(p:IsPart v o)(h:Q o s):wpAny (model prog w) A (Builtin.Slice.slicePartIndex v) Q E s:=by
 cases p with
 | none=>exact slicePart_none h
 | int i t=>exact slicePart_int h
def j3{sl:Addr}{vl vu:Value}{lo hi:Option Int}{n:Nat}{Q:Int×Int×Nat->Shared->Prop}(hs:s.heap.IsSliceOf sl vl vu .none)(pl:IsPart vl lo)(pu:IsPart vu hi)
  (h:Q (((cG n 0 lo:Nat):Int),1,cG n n hi - cG n 0 lo) s):wpAny (model prog w) A (Builtin.Slice.sliceApplied (.ref sl) (pure (n:Int))) Q E s:=by
 have⟨os,FL,OE,KZ⟩:=id hs;unfold Builtin.Slice.sliceApplied Builtin.Slice.sliceFields;refine aag (aag (wpAny_field FL KZ (x:=vl) rfl (aag (wpAny_field FL KZ (x:=vu) rfl (aag (wpAny_field FL KZ (x:=.none) rfl (aaz ?_)))))));refine aag (slicePart_none ?_);show wpAny _ _ (if ((1:Int)==0)=true then _ else _) _ _ s;rw[aaH @_];refine aag (mf pl (aag (mf pu (aag (aaz ?_)))));show wpAny _ _ (match Builtin.Slice.sliceAdjust lo hi 1 (n:Int) with| (lo,hi)=>pure (lo,(1:Int),Builtin.Slice.slicePlaces lo hi 1)) _ _ s;rw[uB lo hi n];show wpAny _ _ (pure (((cG n 0 lo:Nat):Int),(1:Int),Builtin.Slice.slicePlaces ((cG n 0 lo:Nat):Int) ((cG n n hi:Nat):Int) 1)) _ _ s;rw[tN];exact aaz h
def A5(xs:Array Value)(i k:Nat):((List.range k).filterMap λ(m:Nat)=>xs[((i:Int)+(m:Int) * 1).toNat]?).toArray=((xs.toList.drop i).take k).toArray:=by
 have e:(λ(m:Nat)=>xs[((i:Int)+(m:Int) * 1).toNat]?)=λm=>xs[i+m]? :=by
  funext m
  have:((i:Int)+(m:Int) * 1).toNat=i+m:=()
  rw[this]
 rw[e];have:=pick_run xs i k;rw[List.filterMap_map]at this;have e2:((λx=>xs[x]?) ∘ λx=>i+x)=λm=>xs[i+m]? :=rfl;rw[e2]at this;rw[this]
def jh{t sl:Addr}{items:Array Value}{vl vu:Value}{lo hi:Option Int}{Q:Value->Shared->Prop}(ht:IsTup s.heap t items)(hs:s.heap.IsSliceOf sl vl vu .none)(pl:IsPart vl lo)(pu:IsPart vu hi)
  (hw:¬(cG items.size 0 lo=0/\cG items.size items.size hi=items.size))
  (h:Q (.ref s.heap.objs.size) {s with heap:=s.heap.push {cls:=.type "tuple",data:=.seq ((items.toList.drop (cG items.size 0 lo)).take (cG items.size items.size hi - cG items.size 0 lo)).toArray}})
  (hsz:items.size<=sizeLine):wpAny (model prog w) A (getItem (.ref t) (.ref sl)) Q E s:=by
 have wG:sizeOk (.seq ((items.toList.drop (cG items.size 0 lo)).take (cG items.size items.size hi - cG items.size 0 lo)).toArray):=by show((items.toList.drop (cG items.size 0 lo)).take (cG items.size items.size hi - cG items.size 0 lo)).toArray.size<=sizeLine;rw[aaP,abi,aba,aaT];omega
 have hj:cG items.size items.size hi<=items.size:=Fp _ _ (aaj _) hi;have⟨os,FL,OE,KZ⟩:=id hs;have PK:s.TypeIs (.ref sl) "slice":=⟨os,FL,OE⟩;unfold getItem
 try with_reducible refine wpAny_holding ?_
 first| refine aag (aaz ?_)| skip
 refine aag (wpAny_sequenceKey ht.typeIs @_ ?_)
 refine aag (wpAny_callSpecial?_slot (name:=Str.ofString "__getitem__") ht.typeIs PyProof.Rows.slot_tuple_getitem
  (wpAny_call_entry PyProof.Rows.slot_tuple_getitem ht.typeIs entry_tuple_getitem ?_ (args_tuple_getitem _ _)))
 show wpAny _ _ (Builtin.Tuple.tupleItemsOf (.ref t) >>= _) _ _ s;refine aag (tupleItemsOf_ ht ?_);refine aag (wpAny_typeOf PK ?_);rw[aaN @_];refine aag (j3 hs pl pu ?_);have Rz:¬((((cG items.size 0 lo:Nat):Int)==0&&(1:Int)==1&&(cG items.size items.size hi - cG items.size 0 lo)==items.size)=true):=by intro q;rw[aax,aax]at q;have q1:((cG items.size 0 lo:Nat):Int)=0:=eq_of_beq q.1.1;have q2:cG items.size items.size hi - cG items.size 0 lo=items.size:=eq_of_beq q.2;exact hw ⟨(),()⟩
 show wpAny _ _ (if (((cG items.size 0 lo:Nat):Int)==0&&(1:Int)==1&&(cG items.size items.size hi - cG items.size 0 lo)==items.size)=true then _ else _) _ _ s;rw[aaH Rz,A5]
 first
  | exact aag (m:=Builtin.Tuple.tupleExact _) (wpAny_newObj_type (aaz ⟨_,rfl,aaz h⟩) wG)
  | exact aag (m:=Builtin.Tuple.tupleExact _) (wpAny_newObj_type (aag (aaz (aaz ⟨_,rfl,aaz h⟩))) wG)
  | exact aag (aag (m:=Builtin.Tuple.tupleExact _) (wpAny_newObj_type (aaz (aaz ⟨_,rfl,aaz h⟩)) wG))
  | exact aag (aag (m:=Builtin.Tuple.tupleExact _) (wpAny_newObj_type (aaz ⟨_,rfl,aaz h⟩) wG))
end
end HT
namespace L2
open PySem PySem.Spec PyProof.Rows
variable{X:Cx}{n:Nat}{γ:List (Addr×Obj)}{s:Shared}{its:List Value}
abbrev TO:=St->Hp->(Option Int->Hp->Prop)->Prop
def PO(X:Cx)(e:Option Expr)(t:TO):Prop:=
 ∀(γ:List (Addr×Obj)) (s:Shared) (σ:St) (H:Hp) (Q:Option Int->Hp->Prop),Inv X γ σ H s->t σ H Q->
  wpAny (model X.prog X.w) X.A (evalPart e X.env) (λu s'=>∃o H',Inv X γ σ H' s'/\IsPart u o/\Q o H') X.xe s
def C1:TO:=λ_ H Q=>Q none H
def IK(t:TE):TO:=λσ H Q=>t σ H λx H1=>∃i,x= .int i/\Q (some i) H1
section
variable{e:Expr}{te:TE}{lo hi:Option Expr}{tl th:TO}{pos p2:Pos}
def lB:PO X none C1:=by intro γ s σ H Q I h;rw[evalPart_none];exact aaz ⟨none,H,I,.none,h⟩
def ly(h:PE X e te):PO X (some e) (IK te):=by intro γ s σ H Q I hw;rw[evalPart_some];refine ba (h γ s σ H _ I hw) λu s1 xz=>?_;have⟨x,H1,I1,r1,q1⟩:=xz;have⟨i,rfl,q⟩:=q1;have⟨t,rfl⟩:=r1;exact⟨some i,H1,I1,.int i t,q⟩
def Kw(X:Cx)(r:V->Option Int->Option Int->Hp->VK->Prop):Prop:=
 ∀(γ:List (Addr×Obj)) (s:Shared) (σ:St) (H:Hp) (x:V) (v vl vu:Value) (lo hi:Option Int) (sl:Addr) (Q:VK),Inv X γ σ H s->Ψ x v->s.heap.IsSliceOf sl vl vu .none->IsPart vl lo->IsPart vu hi->r x lo hi H Q->
  ∃T id,typeLookup (.type T) "__getitem__"=pure (some (.builtin id))/\s.TypeIs v T/\wpAny (model X.prog X.w) X.A (getItem v (.ref sl)) (EP X γ σ Q) X.xe s
def Sf(r:V->Option Int->Option Int->Hp->VK->Prop)(te:TE)(tl th:TO):TE:=λσ H Q=>te σ H λx H1=>tl σ H1 λl H2=>th σ H2 λu H3=>r x l u H3 Q
def iW{r:V->Option Int->Option Int->Hp->VK->Prop}(hr:Kw X r)(he:PE X e te)(hl:PO X lo tl)(hu:PO X hi th):PE X (.Subscript e (.Slice lo hi none p2) pos) (Sf r te tl th):=by intro γ s σ H Q I h;refine Subscript_ (ba (he γ s σ H _ I h) λv s1 xz=>?_);have⟨x,H1,I1,r1,q1⟩:=xz;refine wpAny_Slice (ba (hl γ s1 σ H1 _ I1 q1) fun vl s2 ⟨l,H2,I2,pl,q2⟩=>ba (hu γ s2 σ H2 _ I2 q2) λvu s3 xz=>?_);have⟨u,H3,I3,pu,q3⟩:=xz;rw[evalPart_none];refine aaz ?_;have I4:Inv X γ σ H3 {s3 with heap:=s3.heap.push {cls:=.type "slice",data:=.fields #[vl,vu,.none]}}:=I3.kept (t':=s3.toks) λb ob q=>aaf _ q;have⟨T,id,hT,ht,hg⟩:=hr γ {s3 with heap:=s3.heap.push {cls:=.type "slice",data:=.fields #[vl,vu,.none]}} σ H3 x v vl vu l u s3.heap.objs.size Q I4 r1 (Heap.IsSliceOf.new ..) pl pu q3;show wpAny (model X.prog X.w) X.A (subscriptTail e (.Slice lo hi none p2) v (.ref s3.heap.objs.size)) (EP X γ σ Q) X.xe {s3 with heap:=s3.heap.push {cls:=.type "slice",data:=.fields #[vl,vu,.none]}};exact tail_any (ops:=[.ref s3.heap.objs.size,v]) ht hT hg (by with_unfolding_all rfl)
def rp(xs:List V)(lo hi:Option Int):List V:=(xs.drop (HT.cG xs.length 0 lo)).take (HT.cG xs.length xs.length hi - HT.cG xs.length 0 lo)
def kP(xs:List V)(lo hi:Option Int):(rp xs lo hi).length<=xs.length:=by unfold rp;rw[abi,aba];omega
def Na(K:fI):V->Option Int->Option Int->Hp->VK->Prop:=λx lo hi H Q=>∃a xs,x= .ref a/\iR K H a xs/\
 ¬(HT.cG xs.length 0 lo=0/\HT.cG xs.length xs.length hi=xs.length)/\∀p,H p=none->Q (.ref p) (upd H p (.tup (rp xs lo hi)))
def Ep:Kw X (Na X.K):=by
 intro γ s σ H x v vl vu lo hi sl Q I rx hs pl pu h;have⟨a,xs,rfl,hx,hw,q⟩:=h;cases rx;have⟨its,r,ht,hz⟩:=I.tuple hx;have hlen:its.toArray.size=xs.length:=by rw[aaP];exact r.length.symm
 refine⟨"tuple",_,PyProof.Rows.slot_tuple_getitem.lookup,ht.typeIs,?_⟩;refine HT.jh ht hs pl pu (by rw[hlen];exact hw) ?_ (by rw[hlen];exact hz);rw[hlen];refine⟨.ref s.heap.objs.size,_,I.laid (t':=s.toks) (o:=.tup (rp xs lo hi)) (λb ob q=>aaf _ q) (aaj _) ?_,rfl,q _ (I.aE.fresh (aaj _))⟩;exact⟨aaq (kP xs lo hi) hz,_,(r.drop (HT.cG xs.length 0 lo)).take (HT.cG xs.length xs.length hi - HT.cG xs.length 0 lo),IsTup.new _ _⟩
def DM(K:fI):R2:=λx y H Q=>∃a b xs ys,x= .ref a/\y= .ref b/\iR K H a xs/\iR K H b ys/\xs≠[]/\xs.length+ys.length<=sizeLine/\
 (ys=[]->Q (.ref a) H)/\(ys≠[]->∀p,H p=none->Q (.ref p) (upd H p (.tup (xs++ys))))
def Ν.pJ{xs:List V}{us:List Value}(r:Ν xs us):us=[]↔xs=[]:=by
 cases r with
 | nil=>simp
 | cons _ _=>simp
def BY:fm X (binaryOp .Add) (DM X.K):=by intro γ s σ H x y v u Q I rx ry h;have⟨a,b,xs,ys,rfl,rfl,ha,hb,hx,hz,q1,q2⟩:=h;cases rx;cases ry;have⟨its,r1,p1,_⟩:=I.tuple ha;have⟨zk,r2,p2,_⟩:=I.tuple hb;refine HT.Cu p1 p2 (λz=>hx (r1.pJ.mp z)) (λz=>⟨.ref a,H,I,rfl,q1 (r2.pJ.mp z)⟩) (λz=>?_) (by rw[<-r1.length,<-r2.length];exact hz);refine⟨.ref s.heap.objs.size,_,I.laid (t':=s.toks) (o:=.tup (xs++ys)) (λb ob q=>aaf _ q) (aaj _) ?_,rfl,q2 (λw=>z (r2.pJ.mpr w)) _ (I.aE.fresh (aaj _))⟩;exact⟨by rw[aab];exact hz,_,r1.append r2,IsTup.new _ _⟩
end
def Bw(n:Nat)(i:Int):Option Nat:=if 0<=i then (if i < n then some i.toNat else none) else if -(n:Int)<=i then some (i+n).toNat else none
def ik{α:Type}(xs:List α)(i:Int):Option α:=(Bw xs.length i).bind λj=>xs[j]?
def v3{i:Int}{j:Nat}(h:Bw n i=some j):seqIndex? i n=some j/\j < n/\ -(n:Int)<=i/\i < n:=by
 unfold Bw at h;by_cases h0:0<=i
 ·rw[aaN h0]at h;by_cases h1:i < n
  ·rw[aaN h1]at h;have e:i.toNat=j:=aan h;exact⟨by rw[seqIndex_of h0 h1,e],(),(),h1⟩
  ·rw[aaH h1]at h;cases h
 ·rw[aaH h0]at h;by_cases h1: -(n:Int)<=i
  ·rw[aaN h1]at h;have e:(i+n).toNat=j:=aan h;exact⟨by rw[seqIndex_neg () h1,e],(),h1,()⟩
  ·rw[aaH h1]at h;cases h
def pG{α:Type}{xs:List α}{i:Int}{v:α}(h:ik xs i=some v):∃j,seqIndex? i xs.length=some j/\xs[j]? =some v/\j < xs.length/\ -(xs.length:Int)<=i/\i < xs.length:=by
 unfold ik at h;cases e:Bw xs.length i with
 | none=>rw[e]at h;cases h
 | some j=>
  rw[e]at h;have⟨h1,h2,h3,h4⟩:=v3 e;exact⟨j,h1,h,h2,h3,h4⟩
def az{α:Type}{xs:List α}{j:Nat}{v:α}(h:xs[j]? =some v):ik xs (j:Int)=some v:=by
 have hj:j < xs.length:=(aai.mp h).1;have e:Bw xs.length (j:Int)=some j:=by unfold Bw;rw[if_pos (),if_pos ()];simp
 unfold ik;rw[e];exact h
def qq(b:Expr):Prop:=∀o i,subscripted b false o i=operate [o,i] (getItem o i)
def Bt(X:Cx)(r:R2):Prop:=
 ∀(value slice:Expr) (γ:List (Addr×Obj)) (s:Shared) (σ:St) (H:Hp) (x y:V) (v u:Value) (Q:VK),Inv X γ σ H s->Ψ x v->Ψ y u->r x y H Q->
  subscripted slice false v u=operate [v,u] (getItem v u)->wpAny (model X.prog X.w) X.A (subscriptTail value slice v u) (EP X γ σ Q) X.xe s
def Ew(X:Cx)(id:String)(r:V->List V->Hp->VK->Prop):Prop:=
 ∀(γ:List (Addr×Obj)) (s:Shared) (σ:St) (H:Hp) (x:V) (xs:List V) (v:Value) (us:List Value) (Q:VK),Inv X γ σ H s->Ψ x v->Ν xs us->r x xs H Q->
  wpAny (model X.prog X.w) X.A (call (.builtin id) (v::us)) (EP X γ σ Q) X.xe s
section
variable{a b:Expr}{ta tb:TE}{pos:Pos}
def Bt.or{r r':R2}(h:Bt X r)(h':Bt X r'):Bt X (λx y H Q=>r x y H Q\/r' x y H Q):=by
 intro value slice γ s σ H x y v u Q I rx ry q hs;rcases q with q| q
 ·exact h value slice γ s σ H x y v u Q I rx ry q hs
 ·exact h' value slice γ s σ H x y v u Q I rx ry q hs
def J6{r:R2}(hr:Bt X r)(ha:PE X a ta)(hb:PE X b tb)(hs:qq b):PE X (.Subscript a b pos) (HE r ta tb):=by intro γ s σ H Q I h;exact Subscript_ (E2 ha hb I h λv u s2 x y H2 I2 rx ry q=>hr a b γ s2 σ H2 x y v u Q I2 rx ry q (hs _ _))
def Iy(K:fI):R2:=λx y H Q=>∃p xs i v,x= .ref p/\y= .int i/\d9 K H p xs/\ik xs i=some v/\Q v H
def HC(K:fI):R2:=λx y H Q=>∃p xs i v,x= .ref p/\y= .int i/\iR K H p xs/\ik xs i=some v/\Q v H
def Jn:R2:=λx y H Q=>∃z i c,x= .str z/\y= .int i/\z.length<=sizeLine/\ik z.cps.toList i=some c/\Q (.str ⟨#[c]⟩) H
def BC:Bt X (Iy X.K):=by
 intro value slice γ s σ H x y v u Q I rx ry h hs;have⟨p,xs,i,z,rfl,rfl,hq,he,q⟩:=h;cases rx;have⟨t,rfl⟩:=ry;have⟨its,r,pl,hz⟩:=I.list hq;have⟨j,h1,h2,h3,h4,h5⟩:=pG he;have⟨w,ew,zy⟩:=r.get h2;have hl:=r.length;have hn:=jM;have fin:EP X γ σ Q w s:=⟨z,H,I,zy,q⟩;by_cases h0:0<=i
 ·have hj:i.toNat=j:=by rw[seqIndex_of h0 h5]at h1;exact aan h1
  exact item_listR pl.isList h0 () (by rw[hj];simpa using ew) fin hs
 ·have hj:(i+(its.toArray.size:Int)).toNat=j:=by rw[seqIndex_neg () h4]at h1;rw[aaP,<-hl];exact aan h1
  exact subscriptTail_builtinR (x:=w) pl.isList.typeIs slot_list_getitem.lookup
   (wpAny_getItem_list_neg (Q:=λr s'=>r=w/\EP X γ σ Q r s') pl.isList () (by rw[List.size_toArray] <;> omega) () (by rw[hj];simpa using ew) ⟨rfl,fin⟩) hs
def Gs:Bt X (HC X.K):=by
 intro value slice γ s σ H x y v u Q I rx ry h hs;have⟨p,xs,i,z,rfl,rfl,hq,he,q⟩:=h;cases rx;have⟨t,rfl⟩:=ry;have⟨its,r,pl,hz⟩:=I.tuple hq;have⟨j,h1,h2,h3,h4,h5⟩:=pG he;have⟨w,ew,zy⟩:=r.get h2;have hl:=r.length;have hn:=jM;have fin:EP X γ σ Q w s:=⟨z,H,I,zy,q⟩
 exact subscriptTail_builtinR (x:=w) pl.typeIs slot_tuple_getitem.lookup
  (getItem_tuple (j:=j) (Q:=λr s'=>r=w/\EP X γ σ Q r s') pl () () (by rw[List.size_toArray,<-hl];exact h1) (by simpa using ew) ⟨rfl,fin⟩) hs
def FZ:Bt X Jn:=by
 intro value slice γ s σ H x y v u Q I rx ry h hs;have⟨z,i,c,rfl,rfl,hz,he,q⟩:=h;have⟨t,rfl⟩:=rx;have⟨t',rfl⟩:=ry;have⟨j,h1,h2,h3,h4,h5⟩:=pG he;have hl:z.cps.toList.length=z.length:=by simp[Str.length]
 rw[hl]at h1 h4 h5;have hn:=jM
 exact tail_any (typeIs_str s z t) slot_str_getitem.lookup (getItem_str (c:=c) (by
  have e1:decide (i < -(2 ^ 63:Int))=false:=aau ();have e2:decide (i ≥ 2 ^ 63)=false:=aau ()
  rw[e1,e2,Bool.or_false]) (by rw[h1];simpa using h2) ⟨.str ⟨#[c]⟩,H,I.tok _,⟨_,rfl⟩,q⟩) hs
def Of(K:fI):R2:=λx y H Q=>Iy K x y H Q\/HC K x y H Q\/Jn x y H Q
def Fl:Bt X (Of X.K):=BC.or (Gs.or FZ)
def tW(its:List Value)(n j:Nat)(u:Value):Obj.mapSeq (·.setIfInBounds j u) {cls:=.type "list",data:=.seq its.toArray n}={cls:=.type "list",data:=.seq (its.set j u).toArray n}:=by simp[Obj.mapSeq]
def Inv.lst{γ:List (Addr×Obj)}{σ:St}{H:Hp}{s:Shared}{p:Addr}{xs:List V}(I:Inv X γ σ H s)(h:H p=some (.lst xs)):
  ∃(its:List Value) (n:Nat),Ν xs its/\s.heap.get? p=some {cls:=.type "list",data:=.seq its.toArray n}/\xs.length<=sizeLine:=by
 have⟨z,its,n,r,e⟩:=I.aE p _ h;exact⟨its,n,r,e,z⟩
def Inv.GP{σ:St}{H:Hp}{p:Addr}{xs ys:List V}{its':List Value}{n':Nat}{f:Obj->Obj}(I:Inv X γ σ H s)(h:H p=some (.lst xs))
  (ho:s.heap.get? p=some {cls:=.type "list",data:=.seq its.toArray n}) (hf:f {cls:=.type "list",data:=.seq its.toArray n}={cls:=.type "list",data:=.seq its'.toArray n'}) (r:Ν ys its') (hz:ys.length<=sizeLine) (t:Nat):
  Inv X γ σ (upd H p (.lst ys)) {s with heap:=s.heap.update p f,toks:=t}:=by
 have e:(s.heap.update p f).get? p=some {cls:=.type "list",data:=.seq its'.toArray n'}:=by rw[Heap.get?_update_self f ho (by rw[hf] <;> rfl),hf]
 refine I.write (x:=p) (e:=p) (by rw[h];trivial) (.inl rfl) (λb u hb q=>(Heap.get?_update_other _ _ (Ne.symm hb)).trans q) ⟨_,e⟩ ?_;exact⟨hz,its',n',r,e⟩
def D_:V->V->V->Hp->(Hp->Prop)->Prop:=λo i v H Q=>∃p xs k j,o= .ref p/\i= .int k/\H p=some (.lst xs)/\Bw xs.length k=some j/\Q (upd H p (.lst (xs.set j v)))
def Br:JX X D_:=by
 intro γ s σ H o i v ov iv u Q I ro ri rv h;have⟨p,xs,k,j,rfl,rfl,hp,hj,q⟩:=h;cases ro;have⟨t,rfl⟩:=ri;have⟨its,n,r,ho,hz⟩:=I.lst hp;have⟨h1,h2,h3,h4⟩:=v3 hj;have hl:=r.length;have hn:=jM
 have I':Inv X γ σ (upd H p (.lst (xs.set j v))) {s with heap:=s.heap.update p (Obj.mapSeq (·.setIfInBounds j u))}:=
  I.GP hp ho (tW its n j u) (r.set rv j) (by rw[aa6];exact hz) s.toks
 by_cases h0:0<=k
 ·have hk:k.toNat=j:=by rw[seqIndex_of h0 h4]at h1;exact aan h1
  exact PySem.W.ki_setAt ho h0 () (by rw[aaP,<-hl];exact h4) (by rw[hk];exact⟨_,I',q⟩)
 ·have hk:(k+(its.toArray.size:Int)).toNat=j:=by rw[seqIndex_neg () h3]at h1;rw[aaP,<-hl];exact aan h1
  exact PySem.W.ki_setBack ho () (by rw[aaP,<-hl];exact h3) () (by rw[hk];exact⟨_,I',q⟩)
def qi(lo hi:Option Int)(n:Nat):(sliceBounds lo hi none n).1=((HT.cG n 0 lo:Nat):Int)/\(sliceBounds lo hi none n).2.1=((HT.cG n n hi:Nat):Int)/\(sliceBounds lo hi none n).2.2=1:=by
 refine⟨?_,?_,rfl⟩
 ·cases lo with
  | none=>simp[sliceBounds,HT.cG]
  | some i=>
   simp only[sliceBounds,HT.cG,Option.getD_none,show(1:Int) > 0 by decide,if_true];by_cases h:i < 0
   ·simp only[h,if_true] <;> omega
   ·simp only[h,if_false] <;> omega
 ·cases hi with
  | none=>simp[sliceBounds,HT.cG]
  | some i=>
   simp only[sliceBounds,HT.cG,Option.getD_none,show(1:Int) > 0 by decide,if_true];by_cases h:i < 0
   ·simp only[h,if_true] <;> omega
   ·simp only[h,if_false] <;> omega
def nV(its:List Value)(lo hi:Option Int):slicePick its.toArray lo hi none=((its.drop (HT.cG its.length 0 lo)).take (HT.cG its.length its.length hi - HT.cG its.length 0 lo)).toArray:=by have⟨h1,h2,h3⟩:=qi lo hi its.toArray.size;unfold slicePick;rw[h1,h2,h3];simp only[sliceRange_one,pick_run,List.size_toArray] <;> rfl
def MX(K:fI):V->Option Int->Option Int->Hp->VK->Prop:=λx lo hi H Q=>∃a xs,x= .ref a/\d9 K H a xs/\∀p,H p=none->Q (.ref p) (upd H p (.lst (rp xs lo hi)))
def BF:Kw X (MX X.K):=by intro γ s σ H x v vl vu lo hi sl Q I rx hs pl pu h;have⟨a,xs,rfl,hx,q⟩:=h;cases rx;have⟨its,r,ht,hz⟩:=I.list hx;have hlen:=r.length;refine⟨"list",_,slot_list_getitem.lookup,ht.isList.typeIs,?_⟩;refine wpAny_getItem_list_slice ht.isList hs pl pu .none (by simp) ?_ (by rw[List.size_toArray] <;> omega);rw[nV,<-hlen];refine⟨.ref s.heap.objs.size,_,I.laid (t':=s.toks) (o:=.lst (rp xs lo hi)) (λb ob q=>aaf _ q) (aaj _) ?_,rfl,q _ (I.aE.fresh (aaj _))⟩;exact⟨aaq (kP xs lo hi) hz,_,0,(r.drop (HT.cG xs.length 0 lo)).take (HT.cG xs.length xs.length hi - HT.cG xs.length 0 lo),aaG _ rfl⟩
def cU:V->Bool
 | .aR=>true
 | .bl _=>true
 | .int _=>true
 | .str _=>true
 | _=>false
def vw:V->V->Bool
 | .aR,.aR=>true
 | .bl a,.bl b=>a==b
 | .bl a,.int b=>(if a then 1 else 0)==b
 | .int a,.bl b=>a==(if b then 1 else 0)
 | .int a,.int b=>a==b
 | .str a,.str b=>a==b
 | _,_=>false
def uJ{A:Around}{y x:V}{u v:Value}(ry:Ψ y u)(rx:Ψ x v)(fy:cU y=true)(fx:cU x=true):SeqAt.EqAt A s u v (vw y x):=by
 cases y with
 | aR=>
  cases ry;cases x with
  | aR=>cases rx;exact SeqAt.EqAt.same _
  | bl b=>cases rx;exact SeqAt.EqAt.none_bool b
  | int b=>have⟨t,rfl⟩:=rx;exact SeqAt.EqAt.none_int b t
  | str b=>have⟨t,rfl⟩:=rx;exact SeqAt.EqAt.none_str b t
  | _=>exact aaE (show false=true from fx) aal
 | bl a=>
  cases ry;cases x with
  | aR=>cases rx;exact SeqAt.EqAt.bool_none a
  | bl b=>cases rx;exact SeqAt.EqAt.bool_bool a b
  | int b=>have⟨t,rfl⟩:=rx;exact SeqAt.EqAt.bool_int a b t
  | str b=>have⟨t,rfl⟩:=rx;exact SeqAt.EqAt.bool_str a b t
  | _=>exact aaE (show false=true from fx) aal
 | int a=>
  have⟨t',rfl⟩:=ry;cases x with
  | aR=>cases rx;exact SeqAt.EqAt.int_none a t'
  | bl b=>cases rx;exact SeqAt.EqAt.int_bool a t' b
  | int b=>have⟨t,rfl⟩:=rx;exact SeqAt.EqAt.int_int a t' b t
  | str b=>have⟨t,rfl⟩:=rx;exact SeqAt.EqAt.int_str a t' b t
  | _=>exact aaE (show false=true from fx) aal
 | str a=>
  have⟨t',rfl⟩:=ry;cases x with
  | aR=>cases rx;exact SeqAt.EqAt.str_none a t'
  | bl b=>cases rx;exact SeqAt.EqAt.str_bool a t' b
  | int b=>have⟨t,rfl⟩:=rx;exact SeqAt.EqAt.str_int a t' b t
  | str b=>have⟨t,rfl⟩:=rx;exact SeqAt.EqAt.str_str a t' b t
  | _=>exact aaE (show false=true from fx) aal
 | _=>exact aaE (show false=true from fy) aal
def tP(x:V)(u:Value):Bool:=match u with
 | .none=>vw .aR x
 | .bool b=>vw (.bl b) x
 | .int i _=>vw (.int i) x
 | .str z _=>vw (.str z) x
 | _=>false
def yY{x y:V}{u:Value}(r:Ψ y u)(f:cU y=true):tP x u=vw y x:=by
 cases y with
 | aR=>cases r;rfl
 | bl b=>cases r;rfl
 | int i=>have⟨t,rfl⟩:=r;rfl
 | str z=>have⟨t,rfl⟩:=r;rfl
 | _=>exact aaE (show false=true from f) aal
def i'{x:V}:∀{xs:List V} {us:List Value},Ν xs us->xs.all cU=true->us.any (tP x)=xs.any λy=>vw y x
 | _,_,.nil,_=>rfl
 | y::xs,u::us,.cons r t,f=>by rw[abg,aax]at f;rw[abh,abh,yY r f.1,i' t f.2]
def fV{A:Around}{s:Shared}{x:V}{v:Value}(rx:Ψ x v)(fx:cU x=true):∀{xs:List V} {us:List Value},Ν xs us->xs.all cU=true->∀u∈us,SeqAt.EqAt A s u v (tP x u)
 | _,_,.nil,_=>λu hu=>by cases hu
 | y::xs,u::us,.cons r t,f=>λu' hu=>by
  rw[abg,aax]at f;rcases aay.mp hu with rfl| hu
  ·rw[yY r f.1];exact uJ r rx f.1 fx
  ·exact fV rx fx t f.2 u' hu
def Fj(x:V)(xs:List V):Bool:=xs.any λy=>vw y x
def Kk(K:fI)(neg:Bool):R2:=λx y H Q=>∃p xs,y= .ref p/\(d9 K H p xs\/iR K H p xs)/\cU x=true/\xs.all cU=true/\Q (.bl (if neg then !Fj x xs else Fj x xs)) H
def xk:fm X (compareOp .In) (Kk X.K false):=by
 intro γ s σ H x y v u Q I rx ry h;have⟨p,xs,rfl,hq,fx,fs,q⟩:=h;cases ry;rcases hq with hq| hq
 ·have⟨its,r,pl,hz⟩:=I.list hq;refine SeqAt.in_listAt (tP x) pl.isList (λw hw=>fV rx fx r fs w (by simpa using hw)) ⟨.bl _,H,I,rfl,?_⟩;rw[show its.toArray.any (tP x)=its.any (tP x) by simp,i' r fs];exact q
 ·have⟨its,r,pl,hz⟩:=I.tuple hq;refine SeqAt.in_tupleAt (tP x) pl (λw hw=>fV rx fx r fs w (by simpa using hw)) ⟨.bl _,H,I,rfl,?_⟩;rw[show its.toArray.any (tP x)=its.any (tP x) by simp,i' r fs];exact q
def pq:fm X (compareOp .NotIn) (Kk X.K true):=by
 intro γ s σ H x y v u Q I rx ry h;have⟨p,xs,rfl,hq,fx,fs,q⟩:=h;cases ry;rcases hq with hq| hq
 ·have⟨its,r,pl,hz⟩:=I.list hq;refine SeqAt.notIn_listAt (tP x) pl.isList (λw hw=>fV rx fx r fs w (by simpa using hw)) ⟨.bl _,H,I,rfl,?_⟩;rw[show its.toArray.any (tP x)=its.any (tP x) by simp,i' r fs];exact q
 ·have⟨its,r,pl,hz⟩:=I.tuple hq;refine SeqAt.notIn_tupleAt (tP x) pl (λw hw=>fV rx fx r fs w (by simpa using hw)) ⟨.bl _,H,I,rfl,?_⟩;rw[show its.toArray.any (tP x)=its.any (tP x) by simp,i' r fs];exact q
def pe:bM X (.builtin "len") (λxs H Q=>∃p ys,xs=[.ref p]/\(d9 X.K H p ys\/iR X.K H p ys)/\Q (.int ys.length) H):=by
 intro γ s σ H xs us Q I r h;have⟨p,ys,rfl,hq,q⟩:=h;have⟨u,rfl,rx⟩:=dY r;cases rx;have hn:=jM;rcases hq with hq| hq
 ·have⟨its,r',pl,hz⟩:=I.list hq;have hlen:=r'.length;exact Calls.call_len_list pl.isList (by simp only[List.size_toArray] <;> omega) ⟨.int ys.length,H,I.tok _,⟨s.toks+1,by rw[List.size_toArray,hlen]⟩,q⟩
 ·have⟨its,r',pl,hz⟩:=I.tuple hq;have hlen:=r'.length;exact len_tuple pl (by simp only[List.size_toArray] <;> omega) ⟨.int ys.length,H,I.tok _,⟨s.toks+1,by rw[List.size_toArray,hlen]⟩,q⟩
def pj:bM X (.builtin "len") (λxs H Q=>∃z,xs=[.str z]/\z.length<=sizeLine/\Q (.int z.length) H):=by intro γ s σ H xs us Q I r h;have⟨z,rfl,hz,q⟩:=h;have⟨u,rfl,t,rfl⟩:=dY r;have hn:=jM;exact len_str () ⟨.int z.length,H,I.tok _,⟨_,rfl⟩,q⟩
def bM.or{f:Value}{r r':List V->Hp->VK->Prop}(h:bM X f r)(h':bM X f r'):bM X f (λxs H Q=>r xs H Q\/r' xs H Q):=by
 intro γ s σ H xs us Q I rs q;rcases q with q| q
 ·exact h γ s σ H xs us Q I rs q
 ·exact h' γ s σ H xs us Q I rs q
def pL:bM X (.type "list") (λxs H Q=>∃p ys,xs=[.ref p]/\(d9 X.K H p ys\/iR X.K H p ys)/\∀l,H l=none->Q (.ref l) (upd H l (.lst ys))):=by
 intro γ s σ H xs us Q I r h;have⟨p,ys,rfl,hq,q⟩:=h;have⟨u,rfl,rx⟩:=dY r;cases rx
 have fin:∀(its:List Value),Ν ys its->ys.length<=sizeLine->∀(h':Heap) (c':Nat),(∀b o',s.heap.get? b=some o'->h'.get? b=some o')->
   h'.get? s.heap.objs.size=some {cls:=.type "list",dict:=none,data:=.seq its.toArray c',slots:= #[]}->EP X γ σ Q (.ref s.heap.objs.size) {s with heap:=h'}:=λits r' hz h' c' kp e=>
  ⟨.ref s.heap.objs.size,_,I.laid (t':=s.toks) kp (aaj _) (show aI X.prog X.w _ h' _ (.lst ys) from⟨hz,its,c',r',e⟩),rfl,q _ (I.aE.fresh (aaj _))⟩
 rcases hq with hq| hq
 ·have⟨its,r',pl,hz⟩:=I.list hq;have hlen:=r'.length;have⟨o,ho,hc,n,hd⟩:=pl.isList;exact call_list_seq p (.inl rfl) ho hc hd (λh' c' kp e=>fin its r' hz h' c' kp e) (by simp only[List.size_toArray] <;> omega)
 ·have⟨its,r',pl,hz⟩:=I.tuple hq;have hlen:=r'.length;have⟨o,ho,hc,n,hd⟩:=pl;exact call_list_seq p (.inr rfl) ho hc hd (λh' c' kp e=>fin its r' hz h' c' kp e) (by simp only[List.size_toArray] <;> omega)
def nr:bM X (.type "tuple") (λxs H Q=>∃p ys,xs=[.ref p]/\((d9 X.K H p ys/\∀l,H l=none->Q (.ref l) (upd H l (.tup ys)))\/(iR X.K H p ys/\Q (.ref p) H))):=by
 intro γ s σ H xs us Q I r h;have⟨p,ys,rfl,h⟩:=h;have⟨u,rfl,rx⟩:=dY r;cases rx;rcases h with ⟨hq,q⟩| ⟨hq,q⟩
 ·have⟨its,r',pl,hz⟩:=I.list hq;have hlen:=r'.length;refine call_tuple_list pl.isList (λh' kp=>?_) (by simp only[List.size_toArray] <;> omega);have I1:Inv X γ σ H {s with heap:=h'}:=I.kept (t':=s.toks) kp
  have I2:Inv X γ σ (upd H h'.objs.size (.tup ys)) {s with heap:=h'.push {cls:=.type "tuple",data:=.seq its.toArray}}:=
   I1.laid (t':=s.toks) (λb o e=>aaf _ e) (aaj _) (show aI X.prog X.w _ _ _ (.tup ys) from⟨hz,its,r',IsTup.new _ _⟩)
  exact⟨.ref h'.objs.size,_,I2,rfl,q _ (I1.aE.fresh (aaj _))⟩
 ·have⟨its,r',pl,hz⟩:=I.tuple hq;exact call_tuple_same pl ⟨.ref p,H,I,rfl,q⟩
def Ox(K:fI)(T:String)(x:V)(H:Hp):Prop:=match x with
 | .str _=>T="str"
 | .int _=>T="int"
 | .ref p=>(T="list"/\∃xs,d9 K H p xs)\/(T="tuple"/\∃o,K.lookup p=some o/\o.cls= .type "tuple"/\o.dict=none)\/
   (T="dict"/\((∃Χ,H p=some (.dK Χ))\/∃Χ,H p=some (.dT Χ)))\/(T="set"/\∃S n,H p=some (.set S n))
 | _=>False
def FQ{σ:St}{H:Hp}{T:String}{x:V}{v:Value}(I:Inv X γ σ H s)(r:Ψ x v)(ty:Ox X.K T x H):
  s.TypeIs v T/\∀a,v= .ref a->∃ob,s.heap.get? a=some ob/\ob.dict=none:=by
 cases x with
 | str z=>
  have⟨t,rfl⟩:=r;cases(show T="str" from ty);exact⟨typeIs_str s z t,λ_ e=>nomatch e⟩
 | int i=>
  have⟨t,rfl⟩:=r;cases(show T="int" from ty);exact⟨typeIs_int s i t,λ_ e=>nomatch e⟩
 | ref p=>
  cases r;rcases ty with ⟨rfl,xs,hq⟩| ⟨rfl,o,hk,hc,hd⟩| ⟨rfl,hk⟩| ⟨rfl,S,n,hk⟩
  ·have⟨its,_,pl,_⟩:=I.list hq;refine⟨pl.isList.typeIs,λa e=>?_⟩;cases e;have⟨o,n,e,c,hd,_⟩:=pl;exact⟨o,e,hd⟩
  ·refine⟨⟨o,I.jF p o hk,hc⟩,λa e=>?_⟩;cases e;exact⟨o,I.jF _ o hk,hd⟩
  ·have z:∃o,s.heap.get? p=some o/\o.ExactDict:=by
    rcases hk with ⟨Χ,hk⟩| ⟨Χ,hk⟩
    ·have⟨_,_,_,_,o,_,_,e,ex,_⟩:=I.aE p _ hk;exact⟨o,e,ex⟩
    ·have⟨_,_,_,_,o,_,_,e,ex,_⟩:=I.aE p _ hk;exact⟨o,e,ex⟩
   have⟨o,e,ex⟩:=z;refine⟨⟨o,e,ex.1⟩,λa e2=>?_⟩;cases e2;exact⟨o,e,ex.2.1⟩
  ·have⟨o,_,_,_,e,ex,_⟩:=I.aE p _ hk;refine⟨⟨o,e,ex.1⟩,λa e2=>?_⟩;cases e2;exact⟨o,e,ex.2.1⟩
 | _=>exact False.elim ty
def RN(K:fI)(T:String)(r:V->List V->Hp->VK->Prop)(to:TE)(t:TA):TE:=λσ H Q=>to σ H λx H1=>Ox K T x H1/\t σ H1 λxs H2=>r x xs H2 Q
variable{o e:Expr}{es:List Expr}{to:TE}{t:TA}{name:Str}{apos af:Pos}{T id:String}{r:V->List V->Hp->VK->Prop}
def DO(pa:PlainAttrs T)(slot:Slot T name id)(Lb:typeOf (.builtin id)=pure (.type "method_descriptor"))(hm:Ew X id r)(ho:PE X o to)(ha:PA X (e::es) t)
  (eP:attributeBase o name X.env (eval o X.env)=eval o X.env:=by rfl)
  (ke:((backTo af (starEach (e::es) X.env)).all (λx=> !x.1)&&(backToKw af (keywordEach [] X.env)).all (λx=>x.1.isSome)
   &&decide ((e::es).length+([]:List Keyword).length+(if ([]:List Keyword).isEmpty then 0 else 1) < 30))=true:=by rfl)
  (e6:(apos.endLine==af.line)=true:=by rfl) (hs:starEach (e::es) X.env=(false,eval e X.env)::starEach es X.env:=by rfl) (cu:(backTo af (starEach es X.env)).any (·.1)=false:=by rfl):
  PE X (.Call (.Attribute o name apos) (e::es) [] af) (RN X.K T r to t):=by
 intro γ s σ H Q I h;refine wpAny_Call_method_late eP ke e6 rfl (ba (ho γ s σ H _ I h) λv s1 xz=>?_);have⟨x,H1,I1,r1,ty,q1⟩:=xz;have⟨h1,h2⟩:=FQ I1 r1 ty;refine⟨T,id,pa,slot,Lb,h1,h2,?_⟩;have hA:=ha af γ s1 σ H1 _ I1 q1;rw[hs]at hA⊢;refine Calls.callWith_builtin (by show(false|| (backTo af (starEach es X.env)).any (·.1))=false;rw[cu] <;> rfl) (Calls.evalArgs_plain ?_);exact ba hA λus s2 ⟨vs,H2,I2,r2,q2⟩=>hm γ s2 σ H2 x vs v us Q I2 r1 r2 q2
end
def Qg(X:Cx)(id:String)(r:V->List V->Hp->VK->Prop):Prop:=
 ∀(γ:List (Addr×Obj)) (s:Shared) (σ:St) (H:Hp) (x:V) (xs:List V) (v:Value) (us:List Value) (Q:VK),Inv X γ σ H s->Ψ x v->Ν xs us->r x xs H Q->
  wpAny (model X.prog X.w) X.A (call (.builtin id) (v::us)) (EP X γ σ Q) X.xe s
def Ν.one:∀{x:V} {us:List Value},Ν [x] us->∃u,us=[u]/\Ψ x u
 | _,_,.cons r .nil=>⟨_,rfl,r⟩
def Ν.rep{xs:List V}{us:List Value}(h:Ν xs us):∀k:Nat,Ν (List.replicate k xs).flatten (List.replicate k us).flatten
 | 0=>.nil
 | k+1=>by rw[aaU,aaU,aa5,aa5];exact Ν.append h (Ν.rep h k)
def o6(its:List Value):∀(k:Nat) (Μ:List Value),
  List.foldl (λx1 x2=>x1++x2) Μ.toArray (List.replicate k its.toArray)=(Μ++(List.replicate k its).flatten).toArray
 | 0,Μ=>by simp
 | k+1,Μ=>by
  have e:Μ.toArray++its.toArray=(Μ++its).toArray:=by simp
  have e2:(Μ++its)++(List.replicate k its).flatten=Μ++(List.replicate (k+1) its).flatten:=by rw[aaU,aa5,aaW]
  rw[<-e2,<-o6 its k (Μ++its),<-e,aaU,abz]
section
variable{σ:St}{H:Hp}{l b:Addr}{xs ys zs:List V}
def Inv.Nx{its':List Value}{f:Array Value->Array Value}{t':Nat}(I:Inv X γ σ H s)(hH:H l=some (.lst xs))
  (e:s.heap.get? l=some {cls:=.type "list",data:=.seq its.toArray n}) (hf:f its.toArray=its'.toArray) (hv:Ν ys its') (hz:ys.length<=sizeLine):
  Inv X γ σ (upd H l (.lst ys)) {s with heap:=s.heap.update l (Obj.mapSeq f),toks:=t'}:=by
 have q:=PySem.IsL.update e f;rw[hf]at q;refine I.write (x:=l) (e:=l) (by rw[hH];exact trivial) (.inl rfl) (λb' u hb hu=>(Heap.get?_update_other s.heap (Obj.mapSeq f) (Ne.symm hb)).trans hu) ⟨_,q⟩ ?_;exact⟨hz,its',_,hv,q⟩
def Inv.A0{t':Nat}(I:Inv X γ σ H s)(hv:Ν ys its)(hz:ys.length<=sizeLine):
  Inv X γ σ (upd H s.heap.objs.size (.lst ys)) {s with heap:=s.heap.push {cls:=.type "list",data:=.seq its.toArray},toks:=t'}:=
 I.laid (λ_ _ q=>aaf _ q) (aaj _) ⟨hz,its,0,hv,aaG _ rfl⟩
def Inv.fresh(I:Inv X γ σ H s):H s.heap.objs.size=none:=I.aE.fresh (aaj _)
def Inv.Ci(I:Inv X γ σ H s)(hH:H l=some (.lst xs)):xs.length<=sizeLine/\∃(its:List Value) (n:Nat),Ν xs its/\xs.length=its.length/\s.heap.get? l=some {cls:=.type "list",data:=.seq its.toArray n}:=by have⟨z,its,n,r,e⟩:=I.aE l _ hH;exact⟨z,its,n,r,r.length,e⟩
def Bc(h:n<=sizeLine):Builtin.List.listTooLong n=false:=by unfold Builtin.List.listTooLong;exact aau ()
end
section
def vP:V->List V->Hp->VK->Prop:=λx vs H Q=>∃l xs y,x= .ref l/\vs=[y]/\H l=some (.lst xs)/\xs.length < sizeLine/\Q .aR (upd H l (.lst (xs++[y])))
def oK:Qg X "list.append" vP:=by intro γ s σ H x vs v us Q I rx rv h;have⟨l,xs,y,rfl,rfl,hH,hz,q⟩:=h;cases rx;have⟨u,rfl,ru⟩:=rv.one;have⟨z,its,n,r,hl,e⟩:=I.Ci hH;refine call_meets F.slot_list_append ⟨_,e,rfl⟩ F.entry_list_append (F.args_list_append_2 _ _) (PySem.list_append l its.toArray n u (by rw[aaP];omega)) ⟨e,?_⟩;refine⟨.aR,_,I.Nx (its':=its++[u]) hH e (by simp) (r.append (.cons ru .nil)) ?_,rfl,q⟩;rw[aab,List.length_singleton];omega
def Es:R2:=λx y H Q=>∃l b xs zs,x= .ref l/\y= .ref b/\H l=some (.lst xs)/\H b=some (.lst zs)/\xs.length+zs.length<=sizeLine/\∀p,H p=none->Q (.ref p) (upd H p (.lst (xs++zs)))
def yN:fm X (binaryOp .Add) Es:=by
 intro γ s σ H x y v u Q I rx ry h;have⟨l,b,xs,zs,rfl,rfl,hH,hB,hz,q⟩:=h;cases rx;cases ry;have⟨z,its,n,r,hl,e⟩:=I.Ci hH;have⟨z2,zk,n2,r2,GQ,e2⟩:=I.Ci hB;refine PySem.P.add_list e e2 ?_ (by rw[aaP,aaP];omega);have ea:its.toArray++zk.toArray=(its++zk).toArray:=by simp
 rw[ea];exact⟨.ref _,_,I.A0 (t':=s.toks) (r.append r2) (by rw[aab];omega),rfl,q _ I.fresh⟩
def J4:R2:=λx y H Q=>∃l k xs,x= .ref l/\y= .int k/\H l=some (.lst xs)/\ -(2 ^ 63)<=k/\k < 2 ^ 63/\xs.length * k.toNat<=sizeLine/\
 ∀p,H p=none->Q (.ref p) (upd H p (.lst (List.replicate k.toNat xs).flatten))
def Dr{α:Type}(xs:List α)(k:Nat):(List.replicate k xs).flatten.length=k * xs.length:=by
 induction k with
 | zero=>simp
 | succ k ih=>rw[aaU,aa5,aab,ih,Nat.succ_mul,Nat.add_comm]
def FF:fm X (binaryOp .Mult) J4:=by
 intro γ s σ H x y v u Q I rx ry h;have⟨l,k,xs,rfl,rfl,hH,h1,h2,hz,q⟩:=h;cases rx;have⟨t,rfl⟩:=ry;have⟨z,its,n,r,hl,e⟩:=I.Ci hH;have hlen:its.toArray.size * k.toNat<=sizeLine:=by rw[aaP,<-hl];exact hz
 have NW:¬its.toArray.size * k.toNat > (2 ^ 63 - 1) / 8:=by
  have:(sizeLine:Nat)<=(2 ^ 63 - 1) / 8:=@_
  omega
 have Mo:¬(!Builtin.List.listFitsIndex k)=true:=by rw[fitsIndex_both h1 h2];exact aal
 have Ir:¬Builtin.List.listTooLong (its.toArray.size * k.toNat)=true:=by rw[Bc hlen];exact aal
 have Ny:List.foldl (λx1 x2=>x1++x2) #[] (List.replicate (if its.toArray.isEmpty=true then 0 else k.toNat) its.toArray)=(List.replicate k.toNat its).flatten.toArray:=by
  have f0:∀m:Nat,List.foldl (λx1 x2=>x1++x2) #[] (List.replicate m its.toArray)=(List.replicate m its).flatten.toArray:=λm=>by have:=o6 its m [];rw[aap]at this;exact this
  rw[f0];cases its with
  | nil=>simp
  | cons a r'=>rw[if_neg (by simp)]
 refine wpAny_binaryOp_repeat_ref (T:="list") (U:="int") @_ ⟨_,e,rfl⟩ (λs'=>typeIs_int s' k t) noFill_list_mul F.fills_int_mul F.slot_int_rmul repeat_list F.slot_int_index.lookup
  (call_meets F.slot_int_rmul (typeIs_int s k t) F.entry_int_rmul (F.args_int_rmul_2 _ _) (int___rmul___int_list k t l its.toArray n)
   ⟨e,rfl,⟨_,e,rfl⟩,call_meets F.slot_list_mul ⟨_,e,rfl⟩ F.entry_list_mul (F.args_list_mul_2 _ _) (AutoListH.list___mul___list_int_3 l its.toArray n k t Mo NW Ir) ⟨e,?_⟩⟩)
 rw[Ny];exact⟨.ref _,_,I.A0 (t':=s.toks) (r.rep k.toNat) (by rw[Dr,Nat.mul_comm];exact hz),rfl,q _ I.fresh⟩
end
end L2
namespace Att
open PySem PySem.W PySem.Calls PyProof.Rows
def k4{P:Params}{h:Heap}:∀(ns:List Int) (vs:List Value),WellAll P h vs (ns.map WData.int)->IntsAre vs ns:=by
 intro ns
 induction ns with
 | nil=>
  intro vs w;rw[List.map_nil]at w;cases w;exact .nil
 | cons n ns ih=>
  intro vs w;rw[aaL]at w;cases w with
  | cons a b=>
   cases a;exact .cons _ _ (ih _ b)
def ym{l:OpenLaw}{n:Nat}(hn:l.most=some n){P:Params}{h:Heap}{args:List WData}{vals:List Value}
  (Ct:l.row.toRowW.claim.pre args=true) (K8:WellAll P h vals args):
  ∃a vs ns,vals=[Value.ref a]/\args=[WData.list (ns.map WData.int)]/\h.get? a=some {cls:=.type "list",data:=.seq vs.toArray}/\IntsAre vs ns/\ns.length<=n:=by
 have Sw:WShape.hasAll [] args [.list .int]=true:=(pre_splitW Ct).1;have hc:l.pre.holds [] {args:=args}=true:=(pre_splitW Ct).2;have⟨d,r,rfl,h1,h2⟩:=hasAllW_cons Sw;obtain rfl:=hasAllW_nil h2;have⟨xs,rfl,h3⟩:=hasW_list h1;have⟨ns,rfl⟩:=items_int h3;have hlen:ns.length<=n:=by
  unfold OpenLaw.pre at hc;have h4:(WTm.not (.lt (.lit (.int (n:Int))) (.len (.arg 0)))).holds [] {args:=[.list (ns.map .int)]}=true:=by have h4:=(holds_andW hc).1;rw[hn]at h4;exact h4
  have h5:=condW_of h4 (w_not (w_lt w_lit (w_len_list (w_arg rfl))));rw[aac]at h5;refine Nat.le_of_not_lt λq=>?_;have q':(n:Int) < ((ns.length:Nat):Int):=()
  first
   | (rw[aar q']at h5;exact aaE h5 @_)
   | (simp at h5;omega)
 cases K8 with
 | cons w1 w2=>
  cases w2;cases w1 with
  | list ho Lz=>exact⟨_,_,ns,rfl,rfl,ho,k4 ns _ Lz,hlen⟩
def x'(l:OpenLaw)(args:List WData):l.row.toRowW.claim.post args (.bool true) args=true:=
 postW_of (r:=l.row.toRowW) (X:=(true==true))
  (show WShape.has [] (.bool true) .bool=true by first| rfl| decide| simp[WShape.has,WShape.arms,WShape.armsAll])
  (show(WTm.eq .res (.lit (.bool true))).value [] {args:=args,res:=some (.bool true),after:=args}=some (.bool (true==true)) from w_eq_bool (w_res rfl) w_lit) rfl
def sP{l:OpenLaw}{n:Nat}{q:Program}{loose:List Str}{XP:(Str->Option Value)->Heap->Prop}{YP:World->Heap->Prop}{d:DefRec}
  (hn:l.most=some n) (JC:d.params.defaults=[])
  (call:∀(w:World) (s₀ s₁:Shared) (mg mb:Str->Option Value) (fa:Addr) (o:Obj) (pm cd doc:Value) (a:Addr) (vs:List Value) (ns:List Int),
   Ground q loose [] XP w s₀ mg mb s₁.heap->YP w s₁.heap->
   s₁.heap.get? fa=some o->o.data= .func (docDef d.name d.params d.body d.scope pm cd doc)->s₁.heap.CodeRec cd d.name->mg d.name=some (.ref fa)->
   s₁.heap.get? a=some {cls:=.type "list",data:=.seq vs.toArray}->IntsAre vs ns->ns.length<=n->s₁.gens= #[]->
   codeAny (model l.prog w) callerA (.call (.ref fa) ⟨[.ref a],[]⟩) (λr s'=>r= .ok (.ret (.bool true))/\OldK s₁.heap s'.heap/\s'.os=s₁.os/\AllBare s'.gens) s₁):
  WalkO q loose XP YP l.row.toRowW d [] (λf vs=>PySem.call f vs):=by
 intro w s₀ s₁ mg mb G Y fa o pm cd doc dV kV ho hd yK hD C9 hg args vals as Ct R6 TH K8 Ob;obtain rfl:dV= .none:=Dflts.none hD JC;obtain rfl:kV= .none:=Dflts.noKw hD;have⟨a,vs,ns,rfl,rfl,Gb,hints,hlen⟩:=ym hn Ct K8;refine enter_call (codeAny_mono (call w s₀ s₁ mg mb fa o pm cd doc a vs ns G Y ho (fd_plain hd) yK C9 Gb hints hlen hg) λr s' hq=>?_);have⟨rfl,h2,h3,h4⟩:=hq;exact⟨.inl ⟨.bool true,.bool true,[],rfl,λ_=>rfl,.bool true,x' l _,λ_=>⟨List.Pairwise.nil,λ_ hm=>(nomatch hm)⟩⟩,h2,h3,h4⟩
end Att
namespace L2
open PySem PySem.Spec PyProof.Rows
def oS:∀{vs:List Value} {ns:List Int},IntsAre vs ns->Ν (ns.map V.int) vs
 | _,_,.nil=>.nil
 | _,_,.cons n t h=>.cons ⟨t,rfl⟩ (oS h)
def Fe(H:Hp):Prop:=∀b,H b=none\/∃o xs,H b=some (.qO o (.lst xs))
def zv{P:Program}{w:World}{K:fI}{mg mb:Str->Option Value}{CX:tJ}{k:Nat}{fa a:Addr}{fd:FuncData}{x:Str}{sp:Sp}{s₁:Shared}{vs:List Value}{ns:List Int}
  (KX:K.In s₁.heap) (OR:s₁.heap.Ns mainGlobals mg) (hb:s₁.heap.Ns builtinsNs mb) (P2:∀x:Str,x≠"__name__"->mb x=bootBuiltins x) (NH:s₁.heap.NoLimit) (hg:s₁.gens= #[])
  (ha:s₁.heap.get? a=some {cls:=.type "list",data:=.seq vs.toArray}) (hi:IntsAre vs ns) (hl:ns.length<=sizeLine) (hr:bj k callerA)
  (F:∀base:Heap,K.In base->base.Ns mainGlobals mg->Φ P w K mg base CX k fa fd [x] sp) (Jh:∀(s:Shared) (u:Value),BindsTo s fd ⟨[u],[]⟩ [(x,u)])
  (DH:∀H:Hp,Fe H->d9 K H a (ns.map V.int)->sp [.ref a] H (λv _=>v= .bl true) λ_ _ _=>False)
  (Me:∀H e s',CX [] H s₁ (λ_ _ _=>False) e s'->False):
  codeAny (model P w) callerA (.call (.ref fa) ⟨[.ref a],[]⟩) (λr s'=>r= .ok (.ret (.bool true))/\OldK s₁.heap s'.heap/\s'.os=s₁.os/\AllBare s'.gens) s₁:=by
 have rv:=oS hi;have MP:=hi.length
 have core:∀H:Hp,Fe H->d9 K H a (ns.map V.int)->g9 P w H s₁.heap->(∀b,H b≠none->b=a)->(H a≠none->K.lookup a=none)->
   codeAny (model P w) callerA (.call (.ref fa) ⟨[.ref a],[]⟩) (λr s'=>r= .ok (.ret (.bool true))/\OldK s₁.heap s'.heap/\s'.os=s₁.os/\AllBare s'.gens) s₁:=by
  intro H hO hS aE hA hK;have vL:∀{b:Addr} {o:Obj},s₁.heap.get? b=some o->H b=none->(pH s₁.heap H).get? b=some o:=λe n=>AY e n;have Jt:∀{b:Addr} {o:Obj} {es:Array DictEntry} {ep:Nat},s₁.heap.get? b=some o->o.data= .dict es ep->H b=none:=λ{b o es ep} e d=>by
   cases q:H b with
   | none=>rfl
   | some u=>
    have e':b=a:=hA b (by rw[q];simp);subst e';rw[ha]at e;cases e;have d':Data.seq vs.toArray _=Data.dict es ep:=d;cases d'
  have Ka:∀{b:Addr} {m:Str->Option Value},s₁.heap.Ns b m->(pH s₁.heap H).Ns b m:=λ{b m} ⟨o,es,ep,e,d,r⟩=>⟨o,es,ep,vL e (Jt e d),d,r⟩
  have Og:K.In (pH s₁.heap H):=λb o e=>vL (KX b o e) (by
   cases q:H b with
   | none=>rfl
   | some u=>
    have e':b=a:=hA b (by rw[q];simp);subst e'
    rw[hK (by rw[q];simp)]at e;cases e)
  have hM:Mod K mg (pH s₁.heap H):=⟨Og,Ka OR,⟨mb,Ka hb,P2⟩,let ⟨mc,h1,h2⟩:=NH;⟨mc,Ka h1,h2⟩⟩;have e0:ux P w K mg (pH s₁.heap H) callerA [] s₁ H:=⟨rfl,hM,λb o e=>Cb e,Nat.le_of_eq (xT _ _),trivial,λb hb=>absurd (show b∈([]:List Addr) from hb) (by simp),aE,.of_eq hg⟩;refine codeAny_mono ((F _ Og (Ka OR)).run callerA [] s₁ H ⟨[.ref a],[]⟩ [.ref a] [.ref a] _ _ hr e0 (Jh s₁ (.ref a)) (.cons rfl .nil) (DH H hO hS)) λr s' h=>?_;cases r with
  | error e=>exact(Me H e s' h).elim
  | ok fl=>
   cases fl with
   | next=>exact False.elim h
   | brk=>exact False.elim h
   | cont=>exact False.elim h
   | ret u=>
    have⟨v,H',os,bare,un,ND,r',q⟩:=h;have q':v= .bl true:=q;subst q';obtain rfl:u=Value.bool true:=r';refine⟨rfl,OldK.of_keep λb o e=>?_,os,bare⟩;cases q:H b with
    | none=>exact un.keep b o e q (by intro z;exact absurd (show b∈([]:List Addr) from z) (by simp)) (by simp)
    | some u=>
     rcases hO b with z| ⟨ob,xs,z⟩
     ·rw[q]at z;cases z
     ·have z2:=un.jJ b ob _ z;have⟨e1,_⟩:=aE b _ z;have⟨e2,_⟩:=ND b _ z2;rw[e]at e1;cases e1;exact e2
 cases hk:K.lookup a with
 | some o=>
  have e:=KX a o hk;rw[ha]at e;cases e;refine core (λ_=>none) (λ_=>.inl rfl) (.inr ⟨_,vs.toArray,_,hk,rfl,rfl,rfl,by rw[List.size_toArray,MP];exact hl,by simpa using rv⟩) (λb u z=>by have z':(none:Option HO)=some u:=z;cases z') (λb z=>absurd rfl z) λz=>absurd rfl z
 | none=>
  refine core (λb=>if b=a then some (.qO {cls:=.type "list",data:=.seq vs.toArray} (.lst (ns.map V.int))) else none) (λb=>?_) (.inl (.inr ⟨{cls:=.type "list",data:=.seq vs.toArray},aaN rfl⟩)) (λb u z=>?_) (λb z=>?_) λ_=>hk
  ·by_cases hb:b=a
   ·exact .inr ⟨_,_,aaN hb⟩
   ·exact .inl (aaH hb)
  ·by_cases hb:b=a
   ·have z':=(aaN hb).symm.trans z;cases z';subst hb;exact⟨ha,by rw[aac];exact hl,vs,_,rv,ha⟩
   ·have z':=(aaH hb).symm.trans z;cases z'
  ·by_cases hb:b=a
   ·exact hb
   ·exact aaE (aaH hb) z
def qo{l:PySem.W.OpenLaw}{n k:Nat}{q:Program}{loose:List Str}{XP:(Str->Option Value)->Heap->Prop}{YP:World->Heap->Prop}{d:DefRec}{K:Params->fI}{CX:World->tJ}{sp:World->Sp}{x:Str}
  (hn:l.most=some n) (Kt:n<=sizeLine) (JC:d.params.defaults=[]) (hr:bj k callerA)
  (hY:∀(w:World) (h:Heap),YP w h->(K w.params).In h)
  (F:∀(w:World) (mg:Str->Option Value) (fa:Addr) (h:Heap),(K w.params).In h->h.Ns mainGlobals mg->mg d.name=some (.ref fa)->
   ∃fd:FuncData,(∀(s:Shared) (u:Value),BindsTo s fd ⟨[u],[]⟩ [(x,u)])/\
    ∀base:Heap,(K w.params).In base->base.Ns mainGlobals mg->Φ l.prog w (K w.params) mg base (CX w) k fa fd [x] (sp w))
  (DH:∀(w:World) (H:Hp) (a:Addr) (ns:List Int),ns.length<=n->Fe H->d9 (K w.params) H a (ns.map V.int)->sp w [.ref a] H (λv _=>v= .bl true) λ_ _ _=>False)
  (Me:∀(w:World) (H:Hp) (s:Shared) (e:Value) (s':Shared),CX w [] H s (λ_ _ _=>False) e s'->False):
  PySem.W.WalkO q loose XP YP l.row.toRowW d [] (λf vs=>PySem.call f vs):=by
 refine Att.sP hn JC λw s₀ s₁ mg mb fa o pm cd doc a vs ns G Y ho hd yK C9 Gb hints hlen hg=>?_;have KX:=hY w _ Y;have⟨fd,hb,hF⟩:=F w mg fa _ KX G.T.g C9;exact zv KX G.T.g G.T.b G.T.builtins G.T.nolimit hg Gb hints (aaq hlen Kt) hr hF hb (λH hO hS=>DH w H a ns hlen hO hS) λH e s'=>Me w H s₁ e s'
end L2
/- Pq Ld CI (shape;SO,My.* are IM):
  My.Pt:a structure of CK addresses Mz MS Jo names (classes,xI);My.Txt K t:a structure (Prop) of CK equations k7 K;
  My.vd:{K} {implicit addresses ..} (e1:nsIn K mainGlobals "law"=some (some (.ref f))) (e2:K.lookup f=some ⟨oc,od,.func (fnOf "law" "law" params body scope dV kV doc pm an aW ct),sl⟩) (e3:codeIn K aW "law"=true) .. :∃t,My.Txt K t
set_option maxRecDepth 100000 in
set_option maxHeartbeats 0 in
def PySem.Challenge.cw_LID_holds : PySem.Challenge.rw_LID.Holds := by
 w_on;o_law;k_head;(case hw=>w_witness2)
 k_fill
 refine L2.qo (l:=PySem.Challenge.rw_LID) (n:=63) (k:=40) (x:="script") (CX:=fun w=>..) (sp:=fun _=>My.EE) rfl @_ rfl ⟨rfl,@_,@_⟩ (fun w h Y=>PySem.W.kIn_of Y) ?F ?S ?C
 case F=>
  intro w mg fa h KX G C9;have T:∃t,My.Txt (L2.Ma KX) t:=by
   dsimp only[L2.Ma]
   refine' My.vd ?e1 ?e2 ?e3 ..
   (case e1=>PySem.W.k_is)
   (case e2=>PySem.W.k_is)
   ..
  have⟨t,T⟩:=T;have e0:=C9.symm.trans (PySem.W.mg_of KX G T.Sr);cases e0;exact⟨_,λs u=>.of_eq rfl,λbase kb nb=>My.uy T kb nb⟩
 case S=>exactλw H a ns hl hO hS=>..
 case C=>exact ..
(CK tactic k_is has no namespace:write k_is) -/
namespace L2
open PySem PySem.Spec PyProof.Rows
variable{P:Program}{w:World}{mg:Str->Option Value}{base h:Heap}{x qual:Str}{st:Stmt}{f:Addr}{fd:FuncData}{ps N xs ys:List Str}{A:Around}{s:Shared}{env:Env}{outer:List Env}{X:Cx}{γ:List (Addr×Obj)}{scope:Scope}{es:List Expr}{tH:List Value}{Α:List Nat}
def gK(s:Stmt):Arguments:=match s with
 | .FunctionDef _ a _ _ _ _ _ _ _ _=>a
 | _=>{posonlyargs:=[],args:=[],vararg:=none,kwonlyargs:=[],kw_defaults:=[],kwarg:=none,defaults:=[]}
def d_(s:Stmt):List Stmt:=match s with
 | .FunctionDef _ _ b _ _ _ _ _ _ _=>b
 | _=>[]
def ν(s:Stmt):Scope:=match s with
 | .FunctionDef _ _ _ _ _ _ sc _ _ _=>sc
 | _=>{kind:=.function,names:=[],isGenerator:=false,isCoroutine:=false}
abbrev Kp:tJ:=λ_ _ _ _ _ _=>False
abbrev E0:XK:=λ_ _ _=>False
structure cj(K:fI)(x qual:Str)(st:Stmt)(f:Addr)(fd:FuncData):Prop where
 ex:∃(oc:Value) (od:Option Addr) (kV doc pm:Value) (an:Option Addr) (aW ct:Value) (zP:Array (Option Value)),
  fd=PySem.W.fnOf x qual (gK st) (d_ st) (ν st) .none kV doc pm an aW ct/\K.lookup f=some ⟨oc,od,.func fd,zP⟩/\PySem.W.codeIn K aW qual=true
 kp:PySem.W.keepIn K (.ref f)=true
section
variable{K:fI}
def cj.binds(F:cj K x qual st f fd)
  (h:∀(kV doc pm:Value) (an:Option Addr) (aW ct:Value) (us:List Value),us.length=ps.length->bindArgs (PySem.W.fnOf x qual (gK st) (d_ st) (ν st) .none kV doc pm an aW ct) ⟨us,[]⟩=pure (ps.zip us)):fJ K fd ps []:=by
 have⟨oc,od,kV,doc,pm,an,aW,ct,zP,rfl,lk,yK⟩:=F.ex;exact .all (h kV doc pm an aW ct)
def zS{oc:Value}{od an:Option Addr}{zP:Array (Option Value)}{kV doc pm aW ct:Value}(l:K.lookup f=some ⟨oc,od,.func (PySem.W.fnOf x qual (gK st) (d_ st) (ν st) .none kV doc pm an aW ct),zP⟩)
  (c:PySem.W.codeIn K aW qual=true) (k:PySem.W.keepIn K (.ref f)=true):cj K x qual st f (PySem.W.fnOf x qual (gK st) (d_ st) (ν st) .none kV doc pm an aW ct):=⟨⟨oc,od,kV,doc,pm,an,aW,ct,zP,rfl,l,c⟩,k⟩
end
def vD{k:Nat}(hr:bj k A):A.units+1 < cLine:=aa3 (Nat.add_le_add_left (by decide:1<=64) _) hr.units
def wX{A B:Prop}(h:B):if false=true then A else B:=by rw[aaH aal];exact h
def yr{A B:Prop}(h:A):if true=true then A else B:=by rw[aaN rfl];exact h
def bS(H H':Hp):Prop:=∀b o,H b=some o->H' b=some o
def bS.refl(H:Hp):bS H H:=λ_ _ h=>h
def bS.trans{H H1 H2:Hp}(a:bS H H1)(b:bS H1 H2):bS H H2:=λc o h=>b c o (a c o h)
def bS.free{H H':Hp}(e:bS H H'){l:Addr}(h:H' l=Option.none):H l=Option.none:=by
 cases q:H l with
 | none=>rfl
 | some o=>
  rw[e l o q]at h;cases h
def bS.seq{K:fI}{H H':Hp}{a:Addr}{xs:List V}(e:bS H H')(h:d9 K H a xs):d9 K H' a xs:=by
 rcases h with (h| ⟨o,h⟩)| h
 ·exact .inl (.inl (e _ _ h))
 ·exact .inl (.inr ⟨o,e _ _ h⟩)
 ·exact .inr h
section
def aI.here{H:Hp}{a:Addr}{o:HO}(x:aI P w H h a o):∃ob,h.get? a=some ob:=by
 cases o with
 | lst xs=>have⟨_,_,_,_,e⟩:=x;exact⟨_,e⟩
 | tup xs=>have⟨_,_,_,ob,e,_⟩:=x;exact⟨ob,e⟩
 | dK Χ=>have⟨_,_,_,_,ob,_,_,e,_⟩:=x;exact⟨ob,e⟩
 | dT Χ=>have⟨_,_,_,_,ob,_,_,e,_⟩:=x;exact⟨ob,e⟩
 | set S n=>have⟨ob,_,_,_,e,_⟩:=x;exact⟨ob,e⟩
 | ins C dx fs=>have⟨_,_,_,e,_⟩:=x;exact⟨_,e⟩
 | own y=>exact x
 | xd fs=>have⟨_,⟨ob,_,_,e,_⟩,_⟩:=x;exact⟨ob,e⟩
 | Ki lo hi=>have⟨_,_,_,e⟩:=x;exact⟨_,e⟩
 | qO ob u=>have⟨e,_⟩:=x;exact⟨_,e⟩
 | Bu ps=>exact⟨_,show h.get? a=some _ from x⟩
 | met f y=>exact⟨_,show h.get? a=some _ from x⟩
 | ext φ=>have⟨_,z,_⟩:=x;exact z
def Bv(B:Heap)(l:List Env)(x:Addr)(o:Obj)(fl:Value)(h:Heap):Prop:=
 B.StaysIn h/\B.get? x=none/\h.FunFrames B l/\∃(vs:Array Value) (T:Addr) (oT:Obj) (ts:Array Value),h.get? x=some {o with data:=.fields vs}/\vs[2]? =some .none/\vs[1]? =some (.ref T)/\
  B.get? T=none/\T≠x/\h.get? T=some oT/\oT.data= .fields ts/\ts[3]? =some fl
section
variable{M:Model}{E:Value->Shared->Prop}{B:Heap}{l:List Env}{L x:Addr}{o:Obj}{vs:Array Value}{Q:Unit->Shared->Prop}
def mJ{h':Heap}{T:Addr}{oT:Obj}{ts:Array Value}(hT:h.get? T=some oT)(hd:oT.data= .fields ts)(k:∀b,b≠T->h'.get? b=h.get? b):h.UpToSlots h':=λb ob e hn=>
 ⟨ob.slots,(k b λz=>by rw[z,hT]at e;cases e;exact hn _ hd).trans e⟩
def oY{h':Heap}(hl:h.FunFrames B l)(u:h.UpToSlots h'):h'.FunFrames B l:=hl.of_keeps λb ob e hn=>by have⟨sl,q⟩:=u b ob e hn;exact⟨_,q,rfl⟩
def rC{head:Value}{S2:Bool}(I_:A.frames=some (env::outer))(hf:env.frame=some L)(hB:B.StaysIn s.heap)(hn:B.get? x=none)(hl:s.heap.FunFrames B (env::outer))(hx:s.heap.get? x=some {o with data:=.fields vs})(h1:1 < vs.size)(h2:vs[2]? =some .none)
  (h:∀h',Bv B (env::outer) x o (rawInt L) h'->s.heap.UpToSlots h'->Q Unit.unit {s with heap:=h'}):
  wpAny M A (do let a<-frameOf env;let pl<-entryPlaceOf L S2;let n<-EntryCells.newEntry head a .none (rawInt L) .none pl;setField (.ref x) 1 n) Q E s:=by
 refine aag (wpAny_frameOf_fun I_ hl hf λg1 S1=>aag (wpAny_entryPlaceOf λpl dI=>?_));have nx:x∉(env::outer).filterMap (·.frame):=λz=>by have⟨_,ob,e,d⟩:=hl.mem z;rw[hx]at e;cases e;exact d _ rfl
 have O9:g1.get? x=some {o with data:=.fields vs}:=(S1.2.1 x nx).trans hx;unfold EntryCells.newEntry newFields;refine aag (wpAny_newObj_type ?_ (dI.sizeOk5 _ _ _ _ _));have Oa:=aaf (h:=g1) {cls:=.type "traceback",dict:=none,data:=.fields ([head,.ref L,.none,rawInt L,.none]++(if pl.isEmpty then List.replicate 6 Value.none else pl)).toArray} O9;refine wpAny_setField Oa rfl h1 (h _ ?_ ?_)
 ·have up1:∀b ob,b≠x->g1.get? b=some ob->((g1.push {cls:=.type "traceback",dict:=none,data:=.fields ([head,.ref L,.none,rawInt L,.none]++(if pl.isEmpty then List.replicate 6 Value.none else pl)).toArray}).update x (Obj.mapFields (·.setIfInBounds 1 (Value.ref g1.objs.size)))).get? b=some ob:=λb ob nb e=>
   (Heap.get?_update_other _ _ (Ne.symm nb)).trans (aaf _ e)
  have neT:g1.objs.size≠x:=abD (aah O9)
  refine⟨λb ob e=>up1 b ob (λz=>by rw[z,hn]at e;cases e) ((S1.2.1 b λz=>by rw[(hl.mem z).1]at e;cases e).trans (hB b ob e)),hn,hl.of_keeps λb ob e d=>?_,vs.setIfInBounds 1 (.ref g1.objs.size),g1.objs.size,_,_,Heap.get?_update_self _ Oa rfl,by rw[Array.getElem?_setIfInBounds_ne @_];exact h2,by simp[h1],?_,neT,
   (Heap.get?_update_other _ _ (Ne.symm neT)).trans (aaG g1 rfl),rfl,?_⟩
  ·have⟨sl,q⟩:=S1.2.2 b ob e;exact⟨_,up1 b _ (λz=>by rw[z,hx]at e;cases e;exact d _ rfl) q,rfl⟩
  ·cases q:B.get? g1.objs.size with
   | none=>rfl
   | some ob=>
    have:=aah (hB _ _ q);rw[<-S1.1]at this;exact aaE this (abf _)
  ·first
    | (simp;done)
    | (rcases dI with rfl| ⟨_,_,_,_,_,_,_,rfl⟩ <;> simp)
 ·intro b ob e d;have⟨sl,q⟩:=S1.2.2 b ob e;refine⟨sl,?_⟩;rw[Heap.get?_update_other _ _ (λz:x=b=>by rw[<-z,hx]at e;cases e;exact d _ rfl)];exact aaf _ q
def zT(I_:A.frames=some (env::outer))(hf:env.frame=some L)(hB:B.StaysIn s.heap)(hn:B.get? x=none)(hl:s.heap.FunFrames B (env::outer))(hx:s.heap.get? x=some {o with data:=.fields vs})(h1:vs[1]? =some .none)(h2:vs[2]? =some .none)
  (h:∀h',Bv B (env::outer) x o (rawInt L) h'->s.heap.UpToSlots h'->Q Unit.unit {s with heap:=h'}):wpAny M A (noteFrame (.ref x) env) Q E s:=by
 unfold noteFrame;simp only[hf];refine aag (wpAny_field hx rfl h1 ?_);rw[aaH @_];exact rC I_ hf hB hn hl hx (aa9.mp h1).1 h2 h
def Iw(I_:A.frames=some (env::outer))(hf:env.frame=some L)(R:Bv B (env::outer) x o .none s.heap)
  (h:∀h',Bv B (env::outer) x o (rawInt L) h'->s.heap.UpToSlots h'->Q Unit.unit {s with heap:=h'}):wpAny M A (noteFrame (.ref x) env) Q E s:=by
 have⟨hB,hn,hl,vs,T,oT,ts,hx,h2,h1,nT,KG,hT,dT,h3⟩:=R;unfold noteFrame;simp only[hf];refine aag (wpAny_field hx rfl h1 ?_);rw[if_pos (show(Value.ref T != Value.none)=true by simp)];refine aag (wpAny_field hT dT h3 ?_);rw[if_neg (show¬((Value.none==rawInt L)=true) by simp[rawInt])];refine aag (wpAny_setField hT dT (aa9.mp h3).1 ?_);have Ft:∀b,b≠T->(s.heap.update T (Obj.mapFields (·.setIfInBounds 3 Value.none))).get? b=s.heap.get? b:=λb nb=>Heap.get?_update_other _ _ (Ne.symm nb);have u:=mJ hT dT Ft;exact rC I_ hf (λb ob e=>(Ft b λz=>by rw[z,nT]at e;cases e).trans (hB b ob e)) hn (oY hl u) ((Ft x (Ne.symm KG)).trans hx) (aa9.mp h1).1 h2 λh' F' u'=>h h' F' (u.trans u')
def vU{fl:Value}(R:Bv B l x o fl s.heap)(h:∀h',Bv B l x o .none h'->s.heap.UpToSlots h'->Q Unit.unit {s with heap:=h'}):wpAny M A (setFlight (.ref x) none) Q E s:=by have⟨hB,hn,hl,vs,T,oT,ts,hx,h2,h1,nT,KG,hT,dT,h3⟩:=R;unfold setFlight;refine aag (wpAny_field hx rfl h1 ?_);rw[if_pos (show(Value.ref T != Value.none)=true by simp)];have z3:=(aa9.mp h3).1;have Ft:∀b,b≠T->(s.heap.update T (Obj.mapFields (·.setIfInBounds 3 ((none:Option Addr).elim Value.none λf=>rawInt f)))).get? b=s.heap.get? b:=λb nb=>Heap.get?_update_other _ _ (Ne.symm nb);have u:=mJ hT dT Ft;refine wpAny_setField hT dT z3 (h _ ⟨λb ob e=>(Ft b λz=>by rw[z,nT]at e;cases e).trans (hB b ob e),hn,oY hl u,vs,T,_,_,(Ft x (Ne.symm KG)).trans hx,h2,h1,nT,KG,Heap.get?_update_self _ hT (Obj.isFreed_of_fields (Obj.data_mapFields dT _)),Obj.data_mapFields dT _,by simp[z3]⟩ u)
def zo{fl:Value}(R:Bv B (env::outer) x o fl h):Bv B outer x o fl h:=by have⟨hB,hn,⟨_,_,hl⟩,r⟩:=R;exact⟨hB,hn,hl,r⟩
end
structure Ik(P:Program)(w:World)(l:List Env)(H H':Hp)(h h' B:Heap)(x:Addr)(o:Obj):Prop where
 un:Un (jm l) [] H H' h h'
 ok:g9 P w H' B
 Jr:Bv B l x o .none h'
 KN:∀b u,h.get? b=some u->H b=none->b∉jm l->B.get? b=some u
 Jv:∀b u,h.get? b=some u->b∉jm l->∃u',B.get? b=some u'
variable{l:List Env}{H H':Hp}{h' Kx B:Heap}{x:Addr}{o:Obj}
end
def bE(P:Program)(w:World):tJ:=λouter H s E e s'=>
 ∃x o H' B,e= .ref x/\s'.os=s.os/\AllBare s'.gens/\Ik P w outer H H' s.heap s'.heap B x o/\E o.cls o.dict H'
section
variable{σ:St}{H H':Hp}{Kx B:Heap}{x:Addr}{ox:Obj}
def Ik.leave(I:Inv X γ σ H s)(hex:X.ex=[])(Hr:∀b∈jm X.outer,b∈jm X.stack)(ok:g9 X.prog X.w H' B)(f:Bv B X.outer x ox .none Kx)(LO:X.s₀.heap.get? x=none)
  (KN:∀b o,b≠x->s.heap.get? b=some o->H b=none->b∉jm X.stack->B.get? b=some o)
  (Jv:∀b o,b≠x->s.heap.get? b=some o->b∉jm X.stack->∃o',B.get? b=some o')
  (sl:∀b o,s.heap.get? b=some o->b∈jm X.stack->∃sl,Kx.get? b=some {o with slots:=sl})
  (free:∀b o,s.heap.get? b=some o->H b=none->H' b=none)
  (kW:∀b xs,H b=some (.tup xs)->H' b=some (.tup xs)) (jJ:∀b o u,H b=some (.qO o u)->H' b=some (.qO o u))
  (kT:∀b ps,H b=some (.Bu ps)->∃more,H' b=some (.Bu (ps++more))):Ik X.prog X.w X.outer X.H₀ H' X.s₀.heap Kx B x ox:=by
 have nX:∀b o,X.s₀.heap.get? b=some o->b≠x:=λb o e z=>by rw[z,LO]at e;cases e
 have gP:∀b:Addr,b∉X.ex:=λb z=>by rw[hex]at z;cases z
 have nS:∀b o,X.s₀.heap.get? b=some o->b∉jm X.outer->b∉jm X.stack:=λb o e hb z=>
  (aay.mp (I.pF b z)).elim (λq=>aaC (aak (aah e) I.ok.above) q) hb
 refine⟨⟨λb o e n hb _=>?_,λb o e n hb _=>?_,λb o e n _=>?_,λb o e _=>?_,λb xs e=>kW b xs (I.base.kW b xs e),λb o u e=>jJ b o u (I.base.jJ b o u e),λb ps e=>?_⟩,ok,f,λb o e n hb=>?_,λb o e hb=>?_⟩
 ·exact f.1 b o (KN b o (nX b o e) (I.base.keep b o e n hb (gP b)) (I.base.free b o e n (gP b)) (nS b o e hb))
 ·have⟨s1,e1⟩:=I.base.slot b o e n hb (gP b);have⟨s2,e2⟩:=sl b _ e1 (Hr b hb);exact⟨s2,e2⟩
 ·have⟨o',e1⟩:=I.base.there b o e (gP b);exact free b o' e1 (I.base.free b o e n (gP b))
 ·have⟨o',e1⟩:=I.base.there b o e (gP b);by_cases hb:b∈jm X.stack
  ·have⟨s2,e2⟩:=sl b _ e1 hb;exact⟨_,e2⟩
  ·have⟨o2,q⟩:=Jv b o' (nX b o e) e1 hb;exact⟨o2,f.1 _ _ q⟩
 ·have⟨m1,e1⟩:=I.base.kT b ps e;have⟨m2,e2⟩:=kT b _ e1;exact⟨m1++m2,by rw[e2,Array.append_assoc]⟩
 ·exact KN b o (nX b o e) (I.base.keep b o e n hb (gP b)) (I.base.free b o e n (gP b)) (nS b o e hb)
 ·have⟨o',e1⟩:=I.base.there b o e (gP b);exact Jv b o' (nX b o e) e1 (nS b o e hb)
end
def cE(CX:tJ)(X:Cx)(R:St->XK):Prop:=∀(γ:List (Addr×Obj)) (σ:St) (H:Hp) (s:Shared) (e:Value) (s':Shared),Inv X γ σ H s->CX X.stack H s (R σ) e s'->X.xe e s'
def vh(X:Cx)(R:St->XK):Prop:=∀(γ:List (Addr×Obj)) (σ:St) (H:Hp) (s:Shared) (x:Addr) (o:Obj) (vs:Array Value),Inv X γ σ H s->s.heap.get? x=some {o with data:=.fields vs}->vs[1]? =some .none->vs[2]? =some .none->X.s₀.heap.get? x=none->H x=none->
 R σ o.cls o.dict H->X.xe (.ref x) s
section
variable{K:fI}{cd:Value}{s₀:Shared}{H₀:Hp}{E:XK}
def wK:∀b∈jm outer,b∈jm (env::outer):=λb hb=>by have⟨en,he,hf⟩:=abn.mp hb;exact abn.mpr ⟨en,aae _ he,hf⟩
def π:cE (bE P w) (iO (bE P w) P w K mg base N qual scope f cd A outer s₀ H₀ E) (λ_=>E):=by
 intro γ σ H s e s' I hx;have⟨x,o,H',B,rfl,os,bare,F,hE⟩:=hx;show wpAny _ _ (do noteFrame (.ref x) _;setFlight (.ref x) none) _ _ s';refine aag (Iw (B:=B) I.ok.frames rfl F.Jr λh4 f4 u4=>vU f4 λh5 f5 u5=>?_);refine⟨x,o,H',B,rfl,os.trans I.os,bare,Ik.leave I rfl wK F.ok (zo f5) ?_ (λb o _=>F.KN b o) (λb o _=>F.Jv b o) (λb o q hb=>?_) (λb o q n=>F.un.free b o q n (by simp)) F.un.kW F.un.jJ F.un.kT,hE⟩
 ·show s₀.heap.get? x=none;cases q:s₀.heap.get? x with
  | none=>rfl
  | some u=>
   have⟨u',e1⟩:=I.base.there x u q nofun;by_cases hb:x∈jm (iO (bE P w) P w K mg base N qual scope f cd A outer s₀ H₀ E).stack
   ·have⟨vs,_,_,_,Rf,_⟩:=F.Jr.2.2.2;have⟨_,o',tK,hd⟩:=F.Jr.2.2.1.mem hb;rw[Rf]at tK;cases tK;exact aaE rfl (hd _)
   ·have⟨u2,e2⟩:=F.Jv x u' e1 hb;rw[F.Jr.2.1]at e2;cases e2
 ·have⟨sl,e1⟩:=F.un.slot b o q (I.k8 b hb) hb (by simp);have⟨_,o',tK,hd⟩:=F.Jr.2.2.1.mem hb;rw[e1]at tK;cases tK;have⟨J',e2⟩:=(u4.trans u5) b _ e1 hd;exact⟨J',e2⟩
def bR:vh (iO (bE P w) P w K mg base N qual scope f cd A outer s₀ H₀ E) (λ_=>E):=by
 intro γ σ H s x o vs I hx h1 h2 LO nH hE;show wpAny _ _ (do noteFrame (.ref x) _;setFlight (.ref x) none) _ _ s
 have Hc:∀env∈(iO (bE P w) P w K mg base N qual scope f cd A outer s₀ H₀ E).stack,∀b,env.frame=some b->b∈x::jm (iO (bE P w) P w K mg base N qual scope f cd A outer s₀ H₀ E).stack:=
  λenv he b hb=>aae _ (abn.mpr ⟨env,he,hb⟩)
 refine aag (zT (B:=PySem.W.hideAll s.heap (x::jm (iO (bE P w) P w K mg base N qual scope f cd A outer s₀ H₀ E).stack)) I.ok.frames rfl (λb o q=>PySem.W.of_hideAll _ q) (PySem.W.hideAll_none _ aad)
  (PySem.W.funFrames_hide I.stack Hc) hx h1 h2 λh4 f4 u4=>vU f4 λh5 f5 u5=>?_)
 have Ng:∀b u,b≠x->s.heap.get? b=some u->b∉jm (iO (bE P w) P w K mg base N qual scope f cd A outer s₀ H₀ E).stack->(PySem.W.hideAll s.heap (x::jm (iO (bE P w) P w K mg base N qual scope f cd A outer s₀ H₀ E).stack)).get? b=some u:=
  λb u nb q hb=>PySem.W.hideAll_get _ q λz=>(aay.mp z).elim nb hb
 refine⟨x,o,H,_,rfl,I.os,I.bare,Ik.leave I rfl wK (λa o e=>(I.aE a o e).sh (λb v hb q=>?_) (λ_ q=>q) λ_ _ q=>q) (zo f5) LO
  (λb o nb q _ hb=>Ng b o nb q hb) (λb o nb q hb=>⟨o,Ng b o nb q hb⟩) (λb o q hb=>?_) (λ_ _ _ n=>n) (λ_ _ q=>q) (λ_ _ _ q=>q) (λb ps q=>⟨#[],by rw[q];simp⟩),hE⟩
 ·have tr:H b≠none:=λn=>by
   rcases hb with hb| hb
   ·rw[hb,e]at n;cases n
   ·rw[hb]at n;cases n
  exact Ng b v (λz=>tr (by rw[z];exact nH)) q λz=>tr (I.k8 b z)
 ·have⟨_,o',tK,hd⟩:=I.stack.mem hb;rw[q]at tK;cases tK;exact(u4.trans u5) b o q hd
end
def Gh(sp:Sp)(nj:List V)(R:St->XK)(t:TA):TE:=λσ H Q=>t σ H λvs H1=>sp (vs++nj) H1 Q (R σ)
section
variable{CX:tJ}{k:Nat}{sp:Sp}{nj:List V}{ds:List Value}{R:St->XK}{p pos:Pos}{e:Expr}{t:TA}
def vF{σ:St}{H:Hp}{Q:VK}{us:List Value}{vs:List V}(F:Φ X.prog X.w X.K X.mg X.base CX k f fd ps sp)(hr:bj k X.A)(hb:fJ X.K fd ps ds)(hd:Ν nj ds)(hx:cE CX X R)
  (I:Inv X γ σ H s) (r:Ν vs us) (h:sp (vs++nj) H Q (R σ)):wpAny (model X.prog X.w) X.A (call (.ref f) us) (EP X γ σ Q) X.xe s:=by
 have r2:Ν (vs++nj) (us++ds):=r.append hd;have hl:(us++ds).length=ps.length:=by rw[<-r2.length];exact F.len _ _ _ _ h
 refine wpAny_call (codeAny_mono (F.run X.A X.stack s H ⟨us,[]⟩ (us++ds) (vs++nj) Q (R σ) hr I.Hn (hb s us I.jF hl) r2 h) λr s' hq=>?_);cases r with
 | error e=>exact hx γ σ H s e s' I hq
 | ok fl=>
  cases fl with
  | ret u=>exact I.after hq
  | next=>exact False.elim hq
  | brk=>exact False.elim hq
  | cont=>exact False.elim hq
def As(F:Φ X.prog X.w X.K X.mg X.base CX k f fd ps sp)(hr:bj k X.A)(hg:Gl X x)(hm:X.mg x=some (.ref f))(hk:PySem.W.keepIn X.K (.ref f)=true)(hb:fJ X.K fd ps ds)(hd:Ν nj ds)(hx:cE CX X R)
  (ha:PA X (e::es) t) (qL:(x==("__debug__":Str))=false:=by decide) (he:starEach (e::es) X.env=(false,eval e X.env)::starEach es X.env:=by rfl) (dI:(backTo pos (starEach es X.env)).any (·.1)=false:=by rfl):
  PE X (.Call (.Name x p) (e::es) [] pos) (Gh sp nj R t):=by
 intro γ s σ H Q I h;refine wpAny_Call_Name_kw (lr I hg hm ?_ qL);refine PySem.W.callWith_K (h₀:=X.base) I.ok.mod.Kl hk (ba (ha pos γ s σ H _ I h) fun us s1 ⟨vs,H1,I1,r,q⟩=>⟨I1.jF,?_⟩) he dI;exact vF F hr hb hd hx I1 r q
end
structure jE(K:fI)(C:Addr)(tH:List Value)(newId:String):Prop where
 ok:PySem.W.excIn K C tH newId=true
def BV{K:fI}{N:Addr}{h0:Heap}{m:Str->Option Value}(q:PySem.W.nsOkIn K N=true)(X0:K.In h0)(X:K.In h)(n:h0.Ns N m):h.Ns N m:=by
 have⟨o,es,ep,e,r⟩:=n;cases z:K.lookup N with
 | none=>unfold PySem.W.nsOkIn at q;rw[z]at q;cases q
 | some ob=>
  have e0:=X0 _ _ z;rw[e]at e0;cases e0;exact⟨o,es,ep,X _ _ z,r⟩
def jE.obj{K:fI}{C:Addr}{newId:String}{h0:Heap}(c:jE K C tH newId)(X0:K.In h0):
  ∃bm N nm q bs hdct sn sub ab col dd k0 k1 k2 k3 k5 mN,mN ("__init__":Str)=none/\
   ∀h:Heap,K.In h->h.get? C=some (excClassObj nm q C N bs bm hdct sn sub ab col dd k0 k1 k2 k3 k5 newId)/\h.Ns N mN/\OwnTail h tH bm:=by
 have q:=c.ok;unfold PySem.W.excIn at q;split at q
 ·rename_i dd cd sl ho;split at q
  ·rename_i C' bm k0 k1 k2 k3 n k5 hm hs;rw[aax,aax,aax,aax,aax]at q;have⟨⟨⟨⟨⟨q1,q2⟩,q3⟩,q4⟩,q5⟩,q6⟩:=q;cases abv.mp q1;cases abv.mp q2;have q3:cd.hasDel=false:=by simpa using q3
   have P6:sl= #[k0,k1,k2,k3,some (.builtin newId),k5]:=by cases sl with| mk l=>exact aaX Array.mk hs
   have⟨c1,c2,c3,c4,c5,c6,c7,c8,c9,SW,Sa⟩:=cd;cases(show c3=_ from hm);cases(show Sa=_ from q3);subst P6;refine⟨bm,c4,c1,c5,c2,c6,c7,c8,c9,SW,dd,k0,k1,k2,k3,k5,h0.nsMap c4,PySem.W.nsMap_none_of_in X0 q5 (abv.mp q6),λh X=>⟨X _ _ ho,?_,PySem.W.tail_of_in X q4⟩⟩;exact BV q5 X0 X (.of_isNs (PySem.W.isNs_of_in X0 q5))
  ·cases q
 ·cases q
def Eu(C:Addr)(R:St->XK)(t:TA):TS:=λ_ σ H=>t σ H λvs H1=>vs.length<=sizeLine/\R σ (.ref C) none H1
section
variable{C:Addr}{R:St->XK}{t:TA}{Bn newId fj:String}{np af pos:Pos}{e:Expr}
def yW(hR:vh X R)(hc:X.calm=true)(hex:X.ex=[])(F:ExcBaseFacts Bn newId fj tH)(c:jE X.K C tH newId)(hg:Gl X x)(hm:X.mg x=some (.ref C))(ha:PA X (e::es) t)
  (qL:(x==("__debug__":Str))=false:=by decide) (he:starEach (e::es) X.env=(false,eval e X.env)::starEach es X.env:=by rfl) (dI:(backTo af (starEach es X.env)).any (·.1)=false:=by rfl):
  PS X (.Raise (some (.Call (.Name x np) (e::es) [] af)) none pos) (Eu C R t):=by
 intro γ s σ H D I h;have⟨bm,N,nm,q,bs,hdct,sn,sub,ab,col,dd,k0,k1,k2,k3,k5,mN,P1,OV⟩:=c.obj I.jF;refine wpAny_Raise_call_subT (nm:=nm) (q:=q) (C:=C) (N:=N) (bs:=bs) (bm:=bm) (hdct:=hdct) (sn:=sn) (sub:=sub) (ab:=ab) (col:=col) (dd:=dd) (k0:=k0) (k1:=k1) (k2:=k2) (k3:=k3) (k5:=k5) F ((OV _ I.jF).2.2.hasType F.hasBase) (I.ok.hd hc) (by rw[he];show(false|| (backTo af (starEach es X.env)).any (·.1))=false;rw[dI];rfl) P1 (lr I hg hm ⟨rfl,?_⟩ qL);have h2:=ha af γ s σ H _ I h;rw[he]at h2⊢;refine Calls.evalArgs_plain (abk h2 (λus s2 z=>?_) λ_ _ y=>y);have⟨vs,H1,I1,r,hz,hq⟩:=z;have⟨g1,g2,g3⟩:=OV _ I1.jF;refine⟨rfl,by rw[<-r.length];exact hz,g1,g2,g3,λh' x M=>?_⟩;have⟨t,hx,_,_⟩:=M.there;refine hR γ σ H1 {s2 with heap:=h'} x {cls:=.ref C,data:=.fields #[]} _ (I1.kept (t':=s2.toks) M.keeps) hx rfl rfl ?_ ?_ hq
 ·cases q:X.s₀.heap.get? x with
  | none=>rfl
  | some u=>
   have⟨u',e1⟩:=I1.base.there x u q (by rw[hex];simp);rw[M.new]at e1;cases e1
 ·cases q:H1 x with
  | none=>rfl
  | some u=>
   have⟨ob,e1⟩:=aI.here (I1.aE x u q);rw[M.new]at e1;cases e1
end
def ix(env:Env):List (Str×NameKind)->List (Str×Addr)->List (Str×Addr)
 | [],Μ=>Μ
 | p::r,Μ=>ix env r (if p.2== .free then (p.1,(env.cells.lookup p.1).getD 0)::Μ else Μ)
def mM(h:∀p∈scope.names,p.2= .free->(env.cells.lookup p.1).isSome=true):closureFor scope env=pure (ix env scope.names []):=by
 have key:∀(l:List (Str×NameKind)) (Μ:List (Str×Addr)),(∀p∈l,p.2= .free->(env.cells.lookup p.1).isSome=true)->
   (forIn l Μ (λ(p:Str×NameKind) (r:List (Str×Addr))=>(if p.2== .free then (do let c<-cellOf env p.1;pure (ForInStep.yield ((p.1,c)::r))) else pure (ForInStep.yield r):Sem (ForInStep (List (Str×Addr))))))=(pure (ix env l Μ):Sem (List (Str×Addr))):=by
  intro l
  induction l with
  | nil=>intro Μ _;rfl
  | cons p r ih=>
   intro Μ hp;rw[List.forIn_cons];have OK:=λa=>ih a λq hq=>hp q (aae _ hq);have⟨n,k⟩:=p;by_cases hk:k= .free
   ·subst hk;have hs:=hp (n,.free) aad rfl;cases hl:env.cells.lookup n with
    | none=>rw[show env.cells.lookup (n,NameKind.free).1=none from hl]at hs;cases hs
    | some c=>
     have e1:ix env ((n,.free)::r) Μ=ix env r ((n,c)::Μ):=by show ix env r (if (NameKind.free==NameKind.free)=true then (n,(env.cells.lookup n).getD 0)::Μ else Μ)=_;rw[aaN @_,hl];rfl
     have e2:cellOf env n=pure c:=by unfold cellOf;rw[hl]
     rw[e1];have e3:(NameKind.free==NameKind.free)=true:=@_
     simp only[e3,if_true,e2,pure_bind];exact OK _
   ·have hb:(k==NameKind.free)=false:=by simpa using hk
    have e1:ix env ((n,k)::r) Μ=ix env r Μ:=by show ix env r (if (k==NameKind.free)=true then (n,(env.cells.lookup n).getD 0)::Μ else Μ)=_;rw[hb,aaH @_]
    rw[e1];simp only[hb,Bool.false_eq_true,if_false,pure_bind];exact OK _
 have:=key scope.names [] h;unfold closureFor
 first
  | exact this
  | (simp only[bind_pure];exact this)
  | (rw[bind_pure];exact this)
def ow{env:Env}{y:Str}{c:Addr}:∀(l:List (Str×NameKind)) (Μ:List (Str×Addr)),(∀p∈l,p.2= .free->(env.cells.lookup p.1).isSome=true)->
  (Μ.lookup y=some c->env.cells.lookup y=some c)->(ix env l Μ).lookup y=some c->env.cells.lookup y=some c
 | [],Μ,_,ha,h=>ha h
 | (n,k)::r,Μ,hp,ha,h=>by
  refine ow r _ (λq hq=>hp q (aae _ hq)) (λe=>?_) h;split at e
  ·rename_i hk;rw[abb]at e;cases q:(y==n) with
   | true=>
    rw[q]at e;have e':(env.cells.lookup n).getD 0=c:=aan e;have hn:y=n:=by simpa using q
    subst hn;have hs:=hp (y,k) List.mem_cons_self (by simpa using hk);cases z:env.cells.lookup y with
    | none=>rw[show env.cells.lookup (y,k).1=none from z]at hs;cases hs
    | some d=>rw[z]at e';rw[<-e'];rfl
   | false=>rw[q]at e;exact ha e
  ·exact ha e
def mZ{env:Env}{y:Str}:∀(l:List (Str×NameKind)) (Μ:List (Str×Addr)),((y,NameKind.free)∈l\/(Μ.lookup y).isSome=true)->((ix env l Μ).lookup y).isSome=true
 | [],Μ,h=>by
  rcases h with h| h
  ·cases h
  ·exact h
 | (n,k)::r,Μ,h=>by
  refine mZ r _ ?_;by_cases hy:y=n
  ·subst hy;by_cases hk:k= .free
   ·subst hk;right;show(List.lookup y (if (NameKind.free==NameKind.free)=true then (y,(env.cells.lookup y).getD 0)::Μ else Μ)).isSome=true;rw[aaN @_,abb,beq_self_eq_true];rfl
   ·rcases h with h| h
    ·rcases aay.mp h with z| z
     ·exact aaE (Prod.mk.inj z).2.symm hk
     ·exact .inl z
    ·right;rw[if_neg (by simpa using hk)];exact h
  ·rcases h with h| h
   ·rcases aay.mp h with z| z
    ·exact aaE (Prod.mk.inj z).1 hy
    ·exact .inl z
   ·right;split
    ·rw[List.lookup_cons,show(y==n)=false by simpa using hy];exact h
    ·exact h
def Cx.comp(X:Cx)(Nc:List Str)(scope:Scope)(C:Addr)(s:Shared)(H:Hp)(fp:List Addr):Cx:={X with
 N:=Nc
 s₀:=s
 H₀:=H
 env:=compEnvC scope (ix X.env scope.names []) C X.env
 outer:=X.stack
 ex:=fp
 fn:=λ_=>false
 pn:=[]
 xe:=λ_ _=>False}
def χ.of{P:List Str}{sc:Scope}(h:(sc.kind,sc.isCoroutine,sc.isGenerator)=(.function,false,false))(h2:N.Nodup/\N.take P.length=P/\(∀x∈P,sc.names.lookup x=some .local\/sc.names.lookup x=some .cell)/\(∀y∈sc.names,y.2≠ .free):=by decide+kernel):χ N P sc:=by have⟨a,b,c,d⟩:=h2;exact⟨aaX (·.1) h,aaX (·.2.1) h,aaX (·.2.2) h,a,b,c,d⟩
structure Θ(X:Cx)(scope:Scope)(xs ys:List Str)(Α:List Nat):Prop where
 kind:scope.kind= .function
 zc:∀p∈scope.names,p.2≠ .cell
 names:∀p∈scope.names,p.2= .local->scope.names.lookup p.1=some .local
 own:∀x∈xs,scope.names.lookup x=some .local
 free:∀p∈scope.names,p.2= .free->X.env.scope.names.lookup p.1=some .cell
 nd:(xs++ys).Nodup
 Qz:∀q∈ys.zip Α,X.N[q.2]? =some q.1/\X.env.scope.names.lookup q.1=some .cell/\scope.names.lookup q.1=some .free
 len:ys.length=Α.length
def Θ.of{sc:Scope}(_:χ N ps sc)(hN:X.N=N)(hs:X.env.scope=sc)(k:scope.kind= .function)(h:(∀p∈scope.names,p.2≠ .cell)/\(∀p∈scope.names,p.2= .local->scope.names.lookup p.1=some .local)/\(∀x∈xs,scope.names.lookup x=some .local)/\(∀p∈scope.names,p.2= .free->sc.names.lookup p.1=some .cell)/\(xs++ys).Nodup/\(∀q∈ys.zip Α,N[q.2]? =some q.1/\sc.names.lookup q.1=some .cell/\scope.names.lookup q.1=some .free)/\ys.length=Α.length:=by decide+kernel):Θ X scope xs ys Α:=by subst hN hs;have⟨a,b,c,d,e,f,g⟩:=h;exact⟨k,a,b,c,d,e,f,g⟩
def Al{env:Env}{y:Str}:∀{l:List (Str×NameKind)},(∀p∈l,p.2≠ .cell)->
  ((l.map λ(n,k)=>if (k==NameKind.free&&env.scope.kind== .function&&env.kindOf n==some .cell) then (n,NameKind.cell) else (n,k)).lookup y=some .cell\/
   (l.map λ(n,k)=>if (k==NameKind.free&&env.scope.kind== .function&&env.kindOf n==some .cell) then (n,NameKind.cell) else (n,k)).lookup y=some .free)->(y,NameKind.free)∈l
 | [],_,h=>by rcases h with h| h <;> cases h
 | (n,k)::r,hc,h=>by
  have ih:=@Al env y r (λp hp=>hc p (aae _ hp));rw[aaL]at h;by_cases q:(k==NameKind.free&&env.scope.kind== .function&&env.kindOf n==some .cell)=true
  ·have hk:k= .free:=by rw[aax,aax]at q;simpa using q.1.1
   subst hk;by_cases hy:y=n
   ·subst hy;exact aad
   ·refine aae _ (ih ?_);have hb:(y==n)=false:=by simpa using hy
    simp only[q,if_true,List.lookup_cons,hb]at h;exact h
  ·by_cases hy:y=n
   ·subst hy;have hb:(y==y)=true:=by simp
    simp only[q,Bool.false_eq_true,if_false,List.lookup_cons,hb]at h;rcases h with h| h
    ·exact aaE (aan h) (hc (y,k) aad)
    ·rw[<-aan h];exact aad
   ·refine aae _ (ih ?_);have hb:(y==n)=false:=by simpa using hy
    simp only[q,Bool.false_eq_true,if_false,List.lookup_cons,hb]at h;exact h
def sN{env:Env}{y:Str}(hk:env.scope.kind= .function)(hy:env.kindOf y=some .cell):∀{l:List (Str×NameKind)},l.lookup y=some .free->
  (l.map λ(n,k)=>if (k==NameKind.free&&env.scope.kind== .function&&env.kindOf n==some .cell) then (n,NameKind.cell) else (n,k)).lookup y=some .cell
 | [],h=>by cases h
 | (n,k)::r,h=>by
  have ih:=@sN env y hk hy r;rw[aaL];rw[abb]at h;by_cases e:y=n
  ·subst e;have hb:(y==y)=true:=by simp
   rw[hb]at h;have:k= .free:=aan h;subst this;have q:(NameKind.free==NameKind.free&&env.scope.kind== .function&&env.kindOf y==some .cell)=true:=by rw[hk,hy];rfl
   simp only[q,if_true,List.lookup_cons,hb]
  ·have hb:(y==n)=false:=by simpa using e
   rw[hb]at h;by_cases q:(k==NameKind.free&&env.scope.kind== .function&&env.kindOf n==some .cell)=true
   ·simp only[q,if_true,List.lookup_cons,hb];exact ih h
   ·simp only[q,Bool.false_eq_true,if_false,List.lookup_cons,hb];exact ih h
def Θ.has(S:Θ X scope xs ys Α)(ok:X.Ok):∀p∈scope.names,p.2= .free->(X.env.cells.lookup p.1).isSome=true:=λp hp hf=>by have⟨c,e⟩:=ok.has p.1 (.inl (S.free p hp hf));rw[e];rfl
def Ba{α β:Type}:∀{xs:List α} {ys:List β} {j:Nat} {x:α} {y:β},xs[j]? =some x->ys[j]? =some y->(x,y)∈xs.zip ys
 | x::xs,y::ys,0,_,_,h1,h2=>by cases h1;cases h2;exact aad
 | x::xs,y::ys,j+1,_,_,h1,h2=>aae _ (Ba (xs:=xs) (ys:=ys) (j:=j) h1 h2)
 | [],_,_,_,_,h1,_=>by simp at h1
 | _::_,[],_,_,_,_,h2=>by simp at h2
def jL(Α:List Nat)(σ:St):St:=Α.map λi=>(σ[i]?).join
def o7(n:Nat)(gg:TG):Prop:=∀v (os cs:St) H (Q:St->Hp->Prop),os.length=n->gg v (os++cs) H Q->gg v (os++cs) H λσ' H'=>(∃Kq:St,Kq.length=n/\σ'=Kq++cs)/\Q σ' H'
def uh(J:It)(n:Nat)(gg:TG)(tc:TT)(te:TE)(cs:St)(Q:VK)(H1:Hp)(D:Addr):Prop:=
 ∃W:Nat->Nat->List V->Hp->Prop,(∃m,W 0 m [] (upd H1 D (.lst [])))/\∀i m ys H2,W i m ys H2->H2 D=some (.lst ys)/\
  ((J.stop i H2/\Q (.ref D) H2)\/(J.go i H2/\∀x H3,J.Ip i H2 x H3->∀os:St,os.length=n->gg x (os++cs) H3 λσ' Rn=>tc σ' Rn λb H4=>match b with
   | true=>te σ' H4 λy H5=>H5 D=some (.lst ys)/\ys.length < sizeLine/\∃m',m' < m/\W (i+1) m' (ys++[y]) (upd H5 D (.lst (ys++[y])))
   | false=>∃m',m' < m/\W (i+1) m' ys H4))
def A2(wi:TI)(n:Nat)(gg:TG)(tc:TT)(te:TE)(Α:List Nat):TE:=λσ H Q=>wi σ H λJ H1=>∀D,H1 D=none->uh J n gg tc te (jL Α σ) Q H1 D
def Nq(cs:List Expr)(env:Env):Sem Bool:=match cs with
 | []=>pure true
 | c::_=>isTrue c env (eval c env)
def Kc(X:Cx)(cs:List Expr)(t:TT):Prop:=
 (cs=[]\/∃c,cs=[c])/\∀(γ:List (Addr×Obj)) (s:Shared) (σ:St) (H:Hp) (Q:Bool->Hp->Prop),Inv X γ σ H s->t σ H Q->wpAny (model X.prog X.w) X.A (Nq cs X.env) (TP X γ σ Q) X.xe s
def nY{elt target iter:Expr}{cs:List Expr}{scope:Scope}{pos:Pos}{it Μ:Value}{env:Env}(h:cs=[]\/∃c,cs=[c]):
  compTurn (.ListComp elt [⟨target,iter,cs,0⟩] scope pos) 0 it Μ env=(standAt iter.pos >>= λ_=>pyNext it >>= λr=>match r with
   | none=>pure (.done .next)
   | some v=>letOwnedTupleGo target it v >>= λ_=>assign target env v >>= λ_=>Nq cs env >>= λok=>
    (if ok=true then (eval elt env >>= λx=>call (.builtin "list.append") [Μ,x] >>= λ_=>pure Unit.unit) >>= λ_=>again (.compLoop (.ListComp elt [⟨target,iter,cs,0⟩] scope pos) 0 it Μ env)
     else again (.compLoop (.ListComp elt [⟨target,iter,cs,0⟩] scope pos) 0 it Μ env))):=by
 rcases h with rfl| ⟨c,rfl⟩ <;> (unfold compTurn Nq;dsimp only[List.getElem?_cons_zero,List.getElem?_cons_succ,List.getElem?_nil];simp only[List.forIn_cons,List.forIn_nil,bind_assoc,pure_bind,if_true];rfl)
section
variable{elt iter tg:Expr}{cs:List Expr}{pos:Pos}{wi:TI}{gg:TG}{tc:TT}{te:TE}
def oZ(S:Θ X scope xs ys Α)(hc:X.calm=true)(hg:∀C s H fp,PG (Cx.comp X (xs++ys) scope C s H fp) tg gg)(hk:o7 xs.length gg)(ht:∀C s H fp,Kc (Cx.comp X (xs++ys) scope C s H fp) cs tc)(he:∀C s H fp,PE (Cx.comp X (xs++ys) scope C s H fp) elt te)
   {σ:St} {H2:Hp} {s2:Shared} {it:Addr} {fp:List Addr} {tn:Nat->Heap->Prop} {J:It} {Q:V->Hp->Prop} {PQ:Value->Addr->Result->Shared->Prop} (I:Inv X γ σ H2 s2) (T:qW X.prog X.w X.K tg J fp it tn) (t0:tn 0 s2.heap) (f2:∀b∈fp,mz X γ H2 b)
  (h:∀D,H2 D=none->uh J xs.length gg tc te (jL Α σ) Q H2 D)
  (Sn:∀D C s' H',Inv X γ σ H' s'->Q (.ref D) H'->(∃m,s'.heap.Ns C m)->H' C=none->X.s₀.heap.objs.size<=C->C≠X.env.locals->(∀z c,X.env.cells.lookup z=some c->c≠C)->(∀p∈X.pn++γ,p.1≠C)->PQ (.ref D) C (.ok .next) s'):
  wpAny (model X.prog X.w) X.A (newList []) (λΜ s3=>wpAny (model X.prog X.w) X.A (newFunctionEnv scope X.env.globals (ix X.env scope.names []) [] X.env.qual none .none (some X.env)) (λIS s4=>
   codeAny (model X.prog X.w) X.A (.compStart (.ListComp elt [⟨tg,iter,cs,0⟩] scope pos) 0 (.ref it) Μ {IS with scope:=relabel scope X.env}) (PQ Μ IS.locals) s4) X.xe s3) X.xe s2:=by
 have hD:H2 s2.heap.objs.size=none:=I.fresh;have⟨W,⟨m0,w0⟩,step⟩:=h _ hD;refine wpAny_newObj_type ?_;have I3:Inv X γ σ (upd H2 s2.heap.objs.size (.lst [])) {s2 with heap:=s2.heap.push {cls:=.type "list",data:=.seq ([]:List Value).toArray}}:=Inv.A0 (t':=s2.toks) I (ys:=[]) (its:=[]) .nil (aaV _);generalize Pm:upd H2 s2.heap.objs.size (.lst [])=H3 at I3 w0;generalize N9:({s2 with heap:=s2.heap.push {cls:=.type "list",data:=.seq ([]:List Value).toArray}}:Shared)=s3 at I3;have NN:∀b∈fp,H3 b=none:=λb hb=>by have⟨o,e,_⟩:=T.obj _ _ t0 b hb;rw[<-Pm,ω (aaC (aah e))];exact(f2 b hb).1
 have t3:tn 0 s3.heap:=T.keep _ _ _ t0 λb hb o e=>by rw[<-N9];exact aaf _ e
 refine wpAny_newFunctionEnv S.zc (λy hy=>nomatch hy) (λh4 P9 QO=>?_) S.kind;have hC:H3 s3.heap.objs.size=none:=I3.fresh
 have kp:∀b o,s3.heap.get? b=some o->h4.get? b=some o:=λb o e=>
  (QO.2 b (aaC (aah e))).trans (aaf _ e)
 generalize NB:({s3 with heap:=h4,toks:=s3.toks+([]:List (Str×Value)).length}:Shared)=s4;have e4:s4.heap=h4:=by rw[<-NB]
 have Dg:∀z c,X.env.cells.lookup z=some c->c≠s3.heap.objs.size:=λz c e q=>by have⟨v,w⟩:=I3.cell z c e;exact abf _ (q▸w.lt)
 have oX:∀z c,(ix X.env scope.names []).lookup z=some c->X.env.cells.lookup z=some c:=λz c e=>ow scope.names [] (S.has I.ok) nofun e;have Sd:s3.heap.objs.size≠X.env.locals:=abD I3.lt;have ok:(Cx.comp X (xs++ys) scope s3.heap.objs.size s3 H3 fp).Ok:=by
  refine⟨I3.ok.mod,S.kind,I3.ok.glob,I3.ok.blt,aaj _,λz z' c e1 e2=>I3.ok.inj z z' c (oX z c e1) (oX z' c e2),λz hz=>?_,λz c hz=>(by cases hz),I3.ok.hd,I3.ok.frames,.inl rfl,λb hb=>⟨?_,λz c e=>?_⟩,I3.bs,?_,λb o e hb=>?_,λb hb hf=>?_,I3.stack,I3.k8⟩
  ·have:=mZ (env:=X.env) scope.names [] (.inl (Al S.zc hz));exact abw.mp this
  ·have⟨o,e,_⟩:=T.obj _ _ t3 b hb;exact aaC (aah e)
  ·exact(f2 b hb).2.2.2.2.1 z c (oX z c e)
  ·exact aaq I3.ok.G7 I3.sz
  ·have⟨_,_,_,hy,_⟩:=f2 b hb;have e0:=(I3.ok.bs b o e).1;rcases hy with hy| hy
   ·exact I3.ok.EX b o e hy
   ·exact aaE (aak (aah e0) hy) (abf _)
  ·have⟨_,hl,SS,_⟩:=f2 b hb;exact(aay.mp (I3.pF b hf)).elim hl SS
 have hlen:((List.replicate xs.length (none:Option V))++jL Α σ).length=(xs++ys).length:=by rw[aab,aab,aao,S.len];unfold jL;rw[aac]
 have I4:Inv X γ σ H3 s4:=by rw[<-NB];exact I3.kept kp
 have Ic:Inv (Cx.comp X (xs++ys) scope s3.heap.objs.size s3 H3 fp) [] ((List.replicate xs.length (none:Option V))++jL Α σ) H3 s4:=by
  refine⟨ok,by rw[<-NB];rfl,I4.bare,Un.kept (by rw[e4];exact kp),⟨_,by rw[e4];exact P9,λi z v e1 e2 e3=>?_⟩,λz c e=>I4.cell z c (oX z c e),hC,λz c e=>I4.kC z c (oX z c e),(λp hp=>nomatch hp),I4.aE,hlen⟩;have e1:(xs++ys)[i]? =some z:=e1;by_cases hi:i < xs.length
  ·rw[aav (by rw[aao];exact hi),List.getElem?_replicate,aaN hi]at e2;cases e2
  ·obtain⟨j,rfl⟩:∃j,i=xs.length+j:=⟨i - xs.length,()⟩;have e1:ys[j]? =some z:=by rw[aaD (),Nat.add_sub_cancel_left]at e1;exact e1
   have e2:(jL Α σ)[j]? =some (some v):=by rw[aaD (by rw[aao];omega),aao,Nat.add_sub_cancel_left]at e2;exact e2
   unfold jL at e2;rw[aaB]at e2;cases hi:Α[j]? with
   | none=>rw[hi]at e2;cases e2
   | some i=>
    rw[hi]at e2;have e2:(σ[i]?).join=some v:=aan e2;have e2:σ[i]? =some (some v):=by
     cases q:σ[i]? with
     | none=>rw[q]at e2;cases e2
     | some o=>rw[q]at e2;exact aaX some e2
    have⟨c1,c2,c3⟩:=S.Qz (z,i) (Ba e1 hi);have c4:=sN (env:=X.env) I.ok.kind c2 c3;have c3:(z,NameKind.free)∈scope.names:=PySem.mem_of_lookup c3;have⟨m,hn,hl⟩:=I4.loc;have⟨u,r,lk⟩:=hl i z v c1 e2 (.inr (.inl c2));refine⟨u,r,.inr ⟨.inl c4,?_⟩⟩;rcases lk with ⟨k,_⟩| ⟨_,c,Ke,z'⟩
    ·exact aaE ((show X.env.scope.names.lookup z=some .local from k).symm.trans c2) @_
    ·have⟨d,hd⟩:=abw.mp (mZ (env:=X.env) scope.names [] (.inl c3));have:=oX z d hd;rw[Ke]at this;cases this;exact⟨c,hd,z'⟩
 have loop:codeAny (model X.prog X.w) X.A (.compLoop (.ListComp elt [⟨tg,iter,cs,0⟩] scope pos) 0 (.ref it) (.ref s2.heap.objs.size) (compEnvC scope (ix X.env scope.names []) s3.heap.objs.size X.env)) (PQ (.ref s2.heap.objs.size) s3.heap.objs.size) s4:=by
  have NV:∀{H':Hp},(∀b∈fp,H' b=none)->∀b∈fp,mz (Cx.comp X (xs++ys) scope s3.heap.objs.size s3 H3 fp) [] H' b:=λhn b hb=>
   ⟨hn b hb,(ok.Oe b hb).1,ok.FI b hb,.inl hb,(ok.Oe b hb).2,(λp hp=>nomatch hp)⟩
  refine codeAny_loop rfl (λn s'=>∃(i:Nat) (zs:List V) (os:St) (H':Hp),os.length=xs.length/\Inv (Cx.comp X (xs++ys) scope s3.heap.objs.size s3 H3 fp) [] (os++jL Α σ) H' s'/\tn i s'.heap/\(∀b∈fp,H' b=none)/\W i n zs H') (λn s5 z=>?_) m0 ⟨0,[],List.replicate xs.length none,H3,by rw[aao],Ic,T.keep _ _ _ t3 (λb hb o e=>by rw[e4];exact kp b o e),NN,w0⟩;have⟨i,zs,os,H5,l5,I5,t5,KJ,w5⟩:=z;show wpAny _ _ ((compTurn _ 0 (.ref it) _ _).onRaise _) _ _ s5;refine wpAny_noted ?_;rw[nY (ht s3.heap.objs.size s3 H3 fp).1];refine aag (wpAny_standAt (aag ?_));obtain⟨Ag,stop| go⟩:=step i n zs H5 w5
  ·have⟨stop,q⟩:=stop;refine ba (T.done (Cx.comp X (xs++ys) scope s3.heap.objs.size s3 H3 fp) rfl rfl rfl hc i [] s5 _ H5 _ I5 (NV KJ) t5 stop) λr s6 xz=>?_;have⟨hr,I6⟩:=xz;subst hr;refine aaz (Sn _ _ s6 H5 ?_ q ?_ I6.free ?_ Sd Dg λp hp z=>?_)
   ·refine I3.Hl I6.os I6.base I6.aE I6.bare λb hb=>?_;have⟨_,g1,_,g3,g4,g5⟩:=f2 b hb;exact⟨g3,g1,g4,g5⟩
   ·have⟨m,hn,_⟩:=I6.loc;exact⟨m,hn⟩
   ·exact I3.sz
   ·exact aaC (aah (I3.pin p hp).1) z
  ·have⟨go,turn⟩:=go;refine ba (T.item (Cx.comp X (xs++ys) scope s3.heap.objs.size s3 H3 fp) rfl rfl rfl hc i [] s5 _ H5 _ I5 (NV KJ) t5 go) λr s6 xz=>?_;have⟨u,hr,h6⟩:=xz;subst hr;refine aag (ba h6 λ_ s7 xz=>?_);have⟨y,H7,I7,r7,y7,t7,R5⟩:=xz;have Sb:=I7.pinned (NV R5) (T.obj _ _ t7);refine aag (abk (hg _ _ _ _ _ s7 _ H7 y u _ Sb r7 (hk y os _ H7 _ l5 (turn y _ y7 os l5))) (λ_ s8 z8=>?_) λ_ _ f=>f.elim);have⟨σ8,H8,I8,⟨Pd,l8,e8⟩,q8⟩:=z8;subst e8;refine aag (abk ((ht _ _ _ _).2 _ s8 _ _ _ I8 q8) (λb s9 z9=>?_) λ_ _ f=>f.elim);have⟨H9,I9,q9⟩:=z9;cases b with
   | false=>
    have⟨m9,P_,w9⟩:=q9;refine aaz ⟨rfl,m9,P_,i+1,zs,Pd,_,l8,I9.fZ,T.keep _ _ _ t7 λb hb o e=>(I9.pin (b,o) (aas _ (aas _ (cx hb e)))).1,λb hb=>?_,w9⟩;have⟨o,e,_⟩:=T.obj _ _ t7 b hb;exact(I9.pin (b,o) (aas _ (aas _ (cx hb e)))).2.1
   | true=>
    refine aag (aag (abk (he _ _ _ _ _ s9 _ _ _ I9 q9) (λRA Td SK=>?_) λ_ _ f=>f.elim));have⟨v10,O5,QZ,R_,Kf,S6,Rm,NP,QC⟩:=SK;refine aag (abk (oK (X:=Cx.comp X (xs++ys) scope s3.heap.objs.size s3 H3 fp) _ Td _ O5 (.ref s2.heap.objs.size) [v10] _ [RA] (λ_ H'=>H'=upd O5 s2.heap.objs.size (.lst (zs++[v10]))) QZ rfl (.cons R_ .nil) ⟨_,zs,v10,rfl,rfl,Kf,S6,rfl⟩) (λ_ TR QQ=>?_) λ_ _ f=>f.elim);have⟨_,TF,LM,_,Sz⟩:=QQ;subst Sz;refine aaz (aaz ⟨rfl,Rm,NP,i+1,zs++[v10],Pd,_,l8,LM.fZ,T.keep _ _ _ t7 λb hb o e=>(LM.pin (b,o) (aas _ (aas _ (cx hb e)))).1,λb hb=>?_,QC⟩);have⟨o,e,_⟩:=T.obj _ _ t7 b hb;exact(LM.pin (b,o) (aas _ (aas _ (cx hb e)))).2.1
 exact codeAny_compStart_list loop (T.self X.A 0 _ _ _ (T.keep _ _ _ t3 (λb hb o e=>by rw[e4];exact kp b o e)) loop)
def Ar(S:Θ X scope xs ys Α)(hc:X.calm=true)(hi:PI X tg iter wi)(hg:∀C s H fp,PG (Cx.comp X (xs++ys) scope C s H fp) tg gg)(hk:o7 xs.length gg)(ht:∀C s H fp,Kc (Cx.comp X (xs++ys) scope C s H fp) cs tc)(he:∀C s H fp,PE (Cx.comp X (xs++ys) scope C s H fp) elt te)(hs:∀x,foldedSetIterable iter X.env x=pure x:=by intro _;rfl):
  PE X (.ListComp elt [⟨tg,iter,cs,0⟩] scope pos) (A2 wi xs.length gg tc te Α):=by
 intro γ s σ H Q I h;rw[eval_ListComp];refine wpAny_comprehension_free (use:=none) rfl hs (mM (S.has I.ok)) S.kind S.names (ba (hi γ s σ H _ I h) λv s1 h1=>ba h1 λKn s2 h2=>?_);have⟨it,fp,tn,J,H2,rfl,I2,T,t0,f2,q⟩:=h2;refine oZ S hc hg hk ht he (Q:=Q) I2 T t0 f2 q λD C s' H' I' q' n' hC hz hL ER hp=>?_;have⟨m,n'⟩:=n';exact⟨m,n',λh' sb=>⟨.ref D,H',I'.turned (it:=C) (t':=s'.toks) (λb o hb e=>(sb.2 b hb).trans e) hC hL (.inr hz) ER hp,rfl,q'⟩⟩
def sW{i:Nat}{y:Str}{py je:Pos}(hN:X.N.Nodup)(Cv:X.N[i]? =some y)(hy:Loc X.env.scope y)(S:Θ X scope xs ys Α)(hc:X.calm=true)(hi:PI X tg iter wi)(hg:∀C s H fp,PG (Cx.comp X (xs++ys) scope C s H fp) tg gg)(hk:o7 xs.length gg)(ht:∀C s H fp,Kc (Cx.comp X (xs++ys) scope C s H fp) cs tc)(he:∀C s H fp,PE (Cx.comp X (xs++ys) scope C s H fp) elt te)
  (Dm:swapsWith (.ListComp elt [⟨tg,iter,cs,0⟩] scope pos) (some (.Name y py)) je.line X.env=pure true) (hs:∀x,foldedSetIterable iter X.env x=pure x)
  (hf:X.fn y=true\/X.env.scope.names.lookup y=some .local):
  PS X (.Assign [.Name y py] (.ListComp elt [⟨tg,iter,cs,0⟩] scope pos) je) (λD σ H=>A2 wi xs.length gg tc te Α σ H λv H1=>D.nx (σ.set i (some v)) H1):=by
 intro γ s σ H D I h;rw[exec_Assign_Name_used _ _ _ _ Dm];refine aag (wpAny_standAt (aag ?_));show wpAny _ _ (do let _<-comprehension (.ListComp elt [⟨tg,iter,cs,0⟩] scope pos) scope X.env _ (newList []) false (eval iter X.env) (some (assign (.Name y py) X.env))) _ _ s;refine aag (abk (wpAny_comprehension_free (use:=some (assign (.Name y py) X.env)) (Q:=λ_ s'=>SP X γ D .next s') rfl hs (mM (S.has I.ok)) S.kind S.names (ba (hi γ s σ H _ I h) λv s1 h1=>ba h1 λKn s2 h2=>?_)) (λ_ s' hq=>aaz (aaz hq)) λ_ _ e=>e);have⟨it,fp,tn,J,H2,rfl,I2,T,t0,f2,q⟩:=h2;refine oZ S hc hg hk ht he (Q:=λv H1=>D.nx (σ.set i (some v)) H1) I2 T t0 f2 q λDl C s' H' I' q' n' hC hz hL ER hp=>?_;have⟨m,n'⟩:=n';show wpAny _ _ (assign (.Name y py) X.env (.ref Dl)) _ _ s';refine wpAny_assign_Name (oV I' hN Cv hy (v:=.ref Dl) rfl (λs3 I3 NJ=>?_) hf);have⟨a,NJ,ha⟩:=NJ;have Rv:C≠a:=by
  rcases ha with rfl| ha
  ·exact hL
  ·exact(ER _ _ ha).symm
 exact⟨m,n'.sameBut NJ Rv,λh' sb=>⟨_,H',I3.turned (it:=C) (t':=s3.toks) (λb o hb e=>(sb.2 b hb).trans e) hC hL (.inr hz) ER hp,q'⟩⟩
end
section
variable{K:fI}
def cj.Sh{k:Nat}{sp:Sp}(F:cj K x qual st f fd)(S:χ N ps (ν st))(len:∀vs H Q E,sp vs H Q E->vs.length=ps.length)
  (tm:∀(aW:Value) (A:Around) (outer:List Env) (s:Shared) (H:Hp) (vs:List V) (Q:VK) (E:XK),bj k (A.deeper (envOfC qual (ν st) s.heap.objs.size f aW))->sp vs H Q E->
   ∃t,yE (iO (bE P w) P w K mg base N qual (ν st) f aW A outer s H E) (d_ st) t/\t {nx:=λ_ H'=>Q .aR H',rt:=Q} (gA N vs) H):Φ P w K mg base (bE P w) (k+1) f fd ps sp:=by
 have⟨oc,od,kV,doc,pm,an,aW,ct,zP,rfl,lk,yK⟩:=F.ex;exact Jf lk yK S len λA outer s H vs Q E hr DH=>tm aW A outer s H vs Q E hr DH
end
def aK:cE (bE P w) X (λ_=>E0):=by intro γ σ H s e s' _ hx;have⟨_,_,_,_,_,_,_,_,hE⟩:=hx;exact hE.elim
def log2_lt{n:Nat}{k:Nat}(h:n < 2 ^ k)(hk:0 < k):n.log2 < k:=by
 by_cases h0:n=0
 ·rw[h0,show Nat.log2 0=0 from rfl];exact hk
 ·exact(Nat.log2_lt h0).mpr h
def g8(i:Int):Prop:=i.natAbs < 2 ^ 8000
def yb{i j:Int}(hi:g8 i)(hj:g8 j):IntMulOk i j:=by
 have b:∀{i:Int},g8 i->Builtin.Int.intBits i<=8000:=λ{i} h=>by
  unfold Builtin.Int.intBits;split
  ·exact aaV _
  ·have:=log2_lt (k:=8000) h @_;omega
 have b1:=b hi;have b2:=b hj;have h3:Builtin.Int.intTooBig (Builtin.Int.intBits i+Builtin.Int.intBits j)=false:=by
  unfold Builtin.Int.intTooBig;refine aau ?_;have:(bitsLine:Int)=134217728:=@_
  omega
 unfold IntMulOk;rw[h3,Bool.and_false];exact aal
section
def BU:fm X (binaryOp .Mult) (rI (λi j=>g8 i/\g8 j) λi j=>.int (i * j)):=Kz λ_ _ _ _ _ _ _ hc q=>mul_int q (yb hc.1 hc.2)
def sG:fm X (binaryOp .FloorDiv) (rI (λ_ j=>j≠0/\g8 j) λi j=>.int (i.fdiv j)):=Kz λ_ _ _ _ _ _ _ hc q=>
 floordiv_int hc.1 q (.inl (PyProof.noPylong_of_log2 (aak (log2_lt (k:=8000) hc.2 @_) @_)))
end
def BX:V->Option Value
 | .ty T=>some (.type T)
 | .ref C=>some (.ref C)
 | _=>none
def BR{c:V}{u t:Value}(r:Ψ c u)(h:BX c=some t):u=t:=by
 cases c with
 | ty T=>cases r;exact aan h
 | ref C=>cases r;exact aan h
 | _=>cases h
section
def tq:bM X (.builtin "isinstance") (λxs H Q=>∃x c t t' b,xs=[x,c]/\gR X.K H x t/\BX c=some t'/\PySem.W.kitOne X.K t t'=some b/\Q (.bl b) H):=by intro γ s σ H xs us Q I r h;have⟨x,c,t,t',b,rfl,ty,hc,hk,q⟩:=h;have⟨u,u',rfl,r1,r2⟩:=Bq r;cases BR r2 hc;exact xo I r1 ty hk λtk=>⟨.bl b,H,I.tok tk,rfl,q⟩
end
def l6:List V->List V->Bool
 | [],[]=>true
 | x::xs,y::ys=>vw x y&&l6 xs ys
 | _,_=>false
def iu:∀(xs ys:List V) (e:Nat->Bool),(∀j x y,xs[j]? =some x->ys[j]? =some y->e j=vw x y)->((List.range (min xs.length ys.length)).all e&&xs.length==ys.length)=l6 xs ys
 | [],[],e,_=>rfl
 | [],_::_,e,_=>by simp[l6]
 | _::_,[],e,_=>by simp[l6]
 | x::xs,y::ys,e,h=>by
  have ih:=iu xs ys (λj=>e (j+1)) λj x y h1 h2=>h (j+1) x y h1 h2;have h0:e 0=vw x y:=h 0 x y rfl rfl;show _=(vw x y&&l6 xs ys);rw[<-ih,<-h0];have e1:min (x::xs).length (y::ys).length=min xs.length ys.length+1:=by simp only[List.length_cons];omega
  rw[e1,abl,abg,List.all_map];have e2:((x::xs).length==(y::ys).length)=(xs.length==ys.length):=by simp only[List.length_cons];rw[Bool.eq_iff_iff];simp
  rw[e2,Bool.and_assoc];rfl
def HG(K:fI):R2:=λx y H Q=>∃a b xs ys,x= .ref a/\y= .ref b/\iR K H a xs/\iR K H b ys/\xs.all cU=true/\ys.all cU=true/\Q (.bl (l6 xs ys)) H
def IY(K:fI):R2:=λx y H Q=>∃a b xs ys,x= .ref a/\y= .ref b/\iR K H a xs/\iR K H b ys/\xs.all cU=true/\ys.all cU=true/\Q (.bl (!l6 xs ys)) H
def jw:∀{xs:List V} {j:Nat} {x:V},xs.all cU=true->xs[j]? =some x->cU x=true
 | _::_,0,_,h,e=>by rw[abg,aax]at h;cases e;exact h.1
 | _::_,j+1,_,h,e=>by rw[abg,aax]at h;exact jw h.2 e
section
def E_(hu:X.A.units < cLine):fm X (compareOp .NotEq) (IY X.K):=by
 intro γ s σ H x y v u Q I rx ry h;have⟨a,b,xs,ys,rfl,rfl,h1,h2,f1,f2,q⟩:=h;cases rx;cases ry;have⟨i1,v1,t1,_⟩:=I.tuple h1;have⟨i2,v2,t2,_⟩:=I.tuple h2;have l1:=v1.length;have l2:=v2.length;refine SeqAt.RcNeAt.tuples (e:=λj=>match xs[j]?,ys[j]? with| some x,some y=>vw x y| _,_=>true) (show s.heap.IsTuple a i1.toArray from t1) (show s.heap.IsTuple b i2.toArray from t2) hu (λj h1 h2=>?_) _ _ _ _ ?_
 ·have b1:j < i1.length:=by simpa using h1
  have b2:j < i2.length:=by simpa using h2
  have e1:xs[j]? =some (xs[j]'()):=aaa _;have e2:ys[j]? =some (ys[j]'()):=aaa _;have⟨u1,g1,r1⟩:=v1.get e1;have⟨u2,g2,r2⟩:=v2.get e2;rw[aaa b1]at g1;rw[aaa b2]at g2;have w1:i1.toArray[j]=u1:=by simpa using Option.some.inj g1
  have w2:i2.toArray[j]=u2:=by simpa using Option.some.inj g2
  rw[w1,w2];simp only[e1,e2];exact uJ r1 r2 (jw f1 e1) (jw f2 e2)
 ·rw[List.size_toArray,List.size_toArray,<-l1,<-l2,iu xs ys _ (λj x y h1 h2=>by simp only[h1,h2])];exact⟨.bl (!l6 xs ys),H,I,rfl,q⟩
def AE(hu:X.A.units < cLine):fm X (compareOp .Eq) (HG X.K):=by
 intro γ s σ H x y v u Q I rx ry h;have⟨a,b,xs,ys,rfl,rfl,h1,h2,f1,f2,q⟩:=h;cases rx;cases ry;have⟨i1,v1,t1,_⟩:=I.tuple h1;have⟨i2,v2,t2,_⟩:=I.tuple h2;have l1:=v1.length;have l2:=v2.length;refine SeqAt.eq_tupleAt (e:=λj=>match xs[j]?,ys[j]? with| some x,some y=>vw x y| _,_=>true) (show s.heap.IsTuple a i1.toArray from t1) (show s.heap.IsTuple b i2.toArray from t2) hu (λj h1 h2=>?_) ?_
 ·have b1:j < i1.length:=by simpa using h1
  have b2:j < i2.length:=by simpa using h2
  have e1:xs[j]? =some (xs[j]'()):=aaa _;have e2:ys[j]? =some (ys[j]'()):=aaa _;have⟨u1,g1,r1⟩:=v1.get e1;have⟨u2,g2,r2⟩:=v2.get e2;rw[aaa b1]at g1;rw[aaa b2]at g2;have w1:i1.toArray[j]=u1:=by simpa using Option.some.inj g1
  have w2:i2.toArray[j]=u2:=by simpa using Option.some.inj g2
  rw[w1,w2];simp only[e1,e2];exact uJ r1 r2 (jw f1 e1) (jw f2 e2)
 ·rw[List.size_toArray,List.size_toArray,<-l1,<-l2,iu xs ys _ (λj x y h1 h2=>by simp only[h1,h2])];exact⟨.bl (l6 xs ys),H,I,rfl,q⟩
end
def yv(bs:List Bool):(List.range bs.length).any (λi=>bs.getD i false)=bs.any id:=by
 induction bs with
 | nil=>rfl
 | cons b bs ih=>
  rw[aaA,abl,abh,List.any_map,abh,<-ih];rfl
def pw:∀{bs:List Bool} {us:List Value},Ν (bs.map V.bl) us->us=bs.map Value.bool
 | [],_,r=>by cases r;rfl
 | b::bs,_,r=>by
  cases r with
  | cons h t=>
   cases h;rw[pw t];rfl
def rX{prog:Program}{bs:List Bool}:TruthOf prog w A (λi v=>(bs.map Value.bool).toArray[i]? =some v) (λi=>bs.getD i false):=by
 intro i v s Q E h q;have h':(bs.map Value.bool)[i]? =some v:=by simpa using h
 rw[aaB]at h';cases e:bs[i]? with
 | none=>rw[e]at h';cases h'
 | some b=>
  rw[e]at h';cases h';have q':Q b s:=by
   have eb:bs.getD i false=b:=by rw[aaO,e];rfl
   exact eb▸q
  exact wpAny_truthy_bool q'
def Hz(K:fI):List V->Hp->VK->Prop:=λxs H Q=>∃(p:Addr) (bs:List Bool),xs=[.ref p]/\d9 K H p (bs.map V.bl)/\Q (.bl (bs.any id)) H
section
def zh (hc : X.calm = true) : bM X (.builtin "any") (Hz X.K) :=by
  intro γ s σ H xs us Q I r h;obtain⟨p,bs,rfl,hq,q⟩ :=h;obtain⟨u,rfl,r1⟩ :=dY r;cases r1;obtain⟨its,rv,pl,hz⟩ :=I.list hq;have Fy :=pw rv;subst Fy;refine call_any_walk (wpAny_pyIter_list pl.isList ?_);have lp : p < s.heap.objs.size :=by obtain⟨o,e,_⟩ :=pl.isList;exact aah e
  refine⟨s.heap.objs.size,_,_,_,_,_,λi =>bs.getD i false,rfl,Walks.list (show X.A.in1.handled = none from I.ok.hd hc) s.heap.objs.size p (aaC lp) (bs.map Value.bool).toArray,⟨⟨_,aaG _ rfl,rfl,rfl⟩,pl.isList.at λo e =>aaf _ e⟩,rX,λh' tk hk =>?_⟩;refine⟨.bl (bs.any id),H,I.kept λb o e =>hk b o (λz =>by have : b = s.heap.objs.size :=(by simpa using z);exact Nat.lt_irrefl _ (this ▸ Heap.lt_size e)) (Heap.get?_push_of_some _ e),?_,q⟩;rw[aaP,aac,yv];rfl
end
end L2
namespace PySem
open Sem (wp)
end PySem
namespace PySem.W
open PySem PySem.Builtin PySem.Builtin.ObjectAttr
end PySem.W
namespace PySem
open Sem (wp)
end PySem
namespace L2
open PySem PySem.Spec PyProof.Rows
def xO(a C:Addr)(od:Option Addr):HO:=.ext λh=>∃ob vs,h.get? a=some ob/\ob.cls= .ref C/\ob.dict=od/\ob.data= .fields vs
inductive Dt where
 | aR
 | bl (b:Bool)
 | int (i:Int)
 | str (x:Str)
 | tup (xs:List Dt)
 | lst (xs:List Dt)
 | obj (C:Addr) (ns:List Str) (xs:List Dt)
 | loc (k:Nat)
 | ref (a:Addr)
 | ty (n:String)
 | mh (ns:List Int)
 | kt (xs:List Dt)
 | exc (C:Addr) (ns:List Str) (xs:List Dt)
 | Ij (x C:Addr) (od:Option Addr) (ns:List Str) (xs:List Dt)
inductive MO where
 | lst (xs:List Dt)
 | ins (C:Addr) (ns:List Str) (xs:List Dt)
 | tI (ks:List Key) (xs:List Dt)
 | raw (u:Addr->HO)
abbrev Ms:=List MO
abbrev En:=List (Option Dt)
mutual
def Den(K:fI)(G:Hp)(L:List Addr):Dt->V->Prop
 | .aR,v=>v= .aR
 | .bl b,v=>v= .bl b
 | .int i,v=>v= .int i
 | .str x,v=>v= .str x
 | .tup ds,v=>∃a vs,v= .ref a/\G a=some (.tup vs)/\Ζ K G L ds vs
 | .lst ds,v=>∃a vs,v= .ref a/\G a=some (.lst vs)/\Ζ K G L ds vs
 | .obj C ns ds,v=>∃a dx vs,v= .ref a/\G a=some (.ins C dx (ns.zip vs))/\ns.length=ds.length/\Ζ K G L ds vs
 | .loc k,v=>∃a,v= .ref a/\L[k]? =some a
 | .ref a,v=>v= .ref a
 | .ty n,v=>v= .ty n
 | .mh ns,v=>∃a,v= .ref a/\d9 K G a (ns.map V.int)
 | .kt ds,v=>∃a vs,v= .ref a/\iR K G a vs/\Ζ K G L ds vs
 | .exc C ns ds,v=>∃a od vs,v= .ref a/\G a=some (xO a C od)/\((ns=[]/\od=none)\/∃dx,od=some dx/\G dx=some (.xd (ns.zip vs)))/\ns.length=ds.length/\Ζ K G L ds vs
 | .Ij x _ od ns ds,v=>∃vs,v= .ref x/\((ns=[]/\od=none)\/∃dx,od=some dx/\G dx=some (.xd (ns.zip vs)))/\ns.length=ds.length/\Ζ K G L ds vs
def Ζ(K:fI)(G:Hp)(L:List Addr):List Dt->List V->Prop
 | [],vs=>vs=[]
 | d::ds,vs=>∃v r,vs=v::r/\Den K G L d v/\Ζ K G L ds r
end
def Pre(L L':List Addr):Prop:=∃t,L'=L++t
def Pre.refl(L:List Addr):Pre L L:=⟨[],by simp⟩
def Pre.trans{a b c:List Addr}(h:Pre a b)(h':Pre b c):Pre a c:=by have⟨t,rfl⟩:=h;have⟨u,rfl⟩:=h';exact⟨t++u,by simp⟩
def Pre.get{a b:List Addr}(h:Pre a b){k:Nat}{x:Addr}(e:a[k]? =some x):b[k]? =some x:=by have⟨t,rfl⟩:=h;have hk:k < a.length:=(aai.mp e).1;rw[aav hk];exact e
def bS.rd{H H':Hp}{a:Addr}{u:HO}(e:bS H H')(h:Rd H a u):Rd H' a u:=by
 rcases h with h| ⟨o,h⟩
 ·exact .inl (e _ _ h)
 ·exact .inr ⟨o,e _ _ h⟩
def bS.EZ{K:fI}{H H':Hp}{a:Addr}{xs:List V}(e:bS H H')(h:iR K H a xs):iR K H' a xs:=by
 rcases h with h| h
 ·exact .inl (e.rd h)
 ·exact .inr h
section
variable{K:fI}{G G':Hp}{L L':List Addr}
mutual
def Den.mono(g:bS G G')(l:Pre L L'):∀(d:Dt) (v:V),Den K G L d v->Den K G' L' d v
 | .aR,_,h=>h
 | .bl _,_,h=>h
 | .int _,_,h=>h
 | .str _,_,h=>h
 | .tup ds,_,⟨a,vs,e,h1,h2⟩=>⟨a,vs,e,g _ _ h1,Ζ.mono g l ds vs h2⟩
 | .lst ds,_,⟨a,vs,e,h1,h2⟩=>⟨a,vs,e,g _ _ h1,Ζ.mono g l ds vs h2⟩
 | .obj C ns ds,_,⟨a,dx,vs,e,h1,hn,h2⟩=>⟨a,dx,vs,e,g _ _ h1,hn,Ζ.mono g l ds vs h2⟩
 | .loc k,_,⟨a,e,h1⟩=>⟨a,e,l.get h1⟩
 | .ref _,_,h=>h
 | .ty _,_,h=>h
 | .mh _,_,⟨a,e,h1⟩=>⟨a,e,g.seq h1⟩
 | .kt ds,_,⟨a,vs,e,h1,h2⟩=>⟨a,vs,e,g.EZ h1,Ζ.mono g l ds vs h2⟩
 | .exc _ _ ds,_,⟨a,od,vs,e,h1,h2,h3,h4⟩=>⟨a,od,vs,e,g _ _ h1,h2.imp (λz=>z) (λ⟨dx,z1,z2⟩=>⟨dx,z1,g _ _ z2⟩),h3,Ζ.mono g l ds vs h4⟩
 | .Ij _ _ _ _ ds,_,⟨vs,e,h2,h3,h4⟩=>⟨vs,e,h2.imp (λz=>z) (λ⟨dx,z1,z2⟩=>⟨dx,z1,g _ _ z2⟩),h3,Ζ.mono g l ds vs h4⟩
def Ζ.mono(g:bS G G')(l:Pre L L'):∀(ds:List Dt) (vs:List V),Ζ K G L ds vs->Ζ K G' L' ds vs
 | [],_,h=>h
 | d::ds,_,⟨v,r,e,h1,h2⟩=>⟨v,r,e,Den.mono g l d v h1,Ζ.mono g l ds r h2⟩
end
def Ζ.pair:∀{ds:List Dt} {vs:List V},Ζ K G L ds vs->Paired (Den K G L) ds vs
 | [],_,h=>by have h:_=_:=h;subst h;exact .nil
 | d::ds,_,⟨v,r,e,h1,h2⟩=>by subst e;exact .cons h1 (Ζ.pair h2)
def Ζ.of:∀{ds:List Dt} {vs:List V},Paired (Den K G L) ds vs->Ζ K G L ds vs
 | _,_,.nil=>rfl
 | _,_,.cons h t=>⟨_,_,rfl,h,Ζ.of t⟩
end
section
variable{α β:Type}{F:α->β->Prop}
def wt:∀{xs:List α} {us:List β} {i:Nat} {x:α},Paired F xs us->xs[i]? =some x->∃u,us[i]? =some u/\F x u
 | _,_,_,_,.nil,e=>by simp at e
 | _,_,0,_,.cons r _,e=>by simp at e;subst e;exact⟨_,rfl,r⟩
 | _,_,i+1,x,.cons _ t,e=>by have⟨u,h1,h2⟩:=wt (i:=i) (x:=x) t (by simpa using e);exact⟨u,by simpa using h1,h2⟩
def wA{x:α}{u:β}(r:F x u):∀{xs:List α} {us:List β} (i:Nat),Paired F xs us->Paired F (xs.set i x) (us.set i u)
 | _,_,_,.nil=>.nil
 | _,_,0,.cons _ t=>.cons r t
 | _,_,i+1,.cons q t=>.cons q (wA r i t)
def qu:∀{xs ys:List α} {us ws:List β},Paired F xs us->Paired F ys ws->Paired F (xs++ys) (us++ws)
 | _,_,_,_,.nil,s=>s
 | _,_,_,_,.cons r t,s=>.cons r (qu t s)
def mS:∀{xs:List α} {us:List β} (n:Nat),Paired F xs us->Paired F (xs.drop n) (us.drop n)
 | _,_,0,r=>r
 | _,_,_+1,.nil=>.nil
 | _,_,n+1,.cons _ t=>mS n t
def vH{xs:List α}{us:List β}(h:Paired F xs us):∀k:Nat,Paired F (List.replicate k xs).flatten (List.replicate k us).flatten
 | 0=>.nil
 | k+1=>by rw[aaU,aaU,aa5,aa5];exact qu h (vH h k)
end
section
variable{K:fI}{G:Hp}{L:List Addr}
def Ζ.length{ds:List Dt}{vs:List V}(h:Ζ K G L ds vs):ds.length=vs.length:=Paired.length h.pair
def Ζ.get{ds:List Dt}{vs:List V}{i:Nat}{d:Dt}(h:Ζ K G L ds vs)(e:ds[i]? =some d):∃v,vs[i]? =some v/\Den K G L d v:=wt h.pair e
def Ζ.app{ds es:List Dt}{vs us:List V}(h:Ζ K G L ds vs)(h':Ζ K G L es us):Ζ K G L (ds++es) (vs++us):=.of (qu h.pair h'.pair)
def dc:∀{ns:List Int},Ζ K G L (ns.map Dt.int) (ns.map V.int)
 | []=>rfl
 | n::ns=>⟨_,_,rfl,rfl,dc⟩
def ai{d:Dt}{vs:List V}(h:Ζ K G L [d] vs):∃v,vs=[v]/\Den K G L d v:=by have⟨v,r,rfl,h1,h2⟩:=h;have h2:r=[]:=h2;subst h2;exact⟨v,rfl,h1⟩
def dD{d e:Dt}{vs:List V}(h:Ζ K G L [d,e] vs):∃v u,vs=[v,u]/\Den K G L d v/\Den K G L e u:=by have⟨v,r,rfl,h1,h2⟩:=h;have⟨u,rfl,h3⟩:=ai h2;exact⟨v,u,rfl,h1,h3⟩
end
def yy(K:fI)(G:Hp)(L:List Addr)(H:Hp)(a:Addr):MO->Prop
 | .lst ds=>∃vs,H a=some (.lst vs)/\Ζ K G L ds vs
 | .ins C ns ds=>∃dx vs,H a=some (.ins C dx (ns.zip vs))/\ns.length=ds.length/\Ζ K G L ds vs
 | .tI ks ds=>∃vs,H a=some (.dK (ks.zip vs))/\ks.length=ds.length/\Ζ K G L ds vs
 | .raw u=>H a=some (u a)
structure Rl(K:fI)(G:Hp)(L:List Addr)(M:Ms)(H:Hp):Prop where
 sub:bS G H
 len:L.length=M.length
 nd:L.Nodup
 gv:∀(k:Nat) (a:Addr) (m:MO),L[k]? =some a->M[k]? =some m->G a=none/\yy K G L H a m
structure Ex(G:Hp)(L:List Addr)(H:Hp)(G':Hp)(L':List Addr)(H':Hp):Prop where
 g:bS G G'
 l:Pre L L'
 fr:∀b,G b=none->H b≠none->G' b=none
 out:∀b o,H b=some o->b∉L->H' b=some o
 new:∀b∈L',b∈L\/H b=none
 yA:∀b,H b≠none->H' b≠none
def Ex.refl(G:Hp)(L:List Addr)(H:Hp):Ex G L H G L H:=⟨.refl _,.refl _,λ_ h _=>h,λ_ _ h _=>h,λ_ h=>.inl h,λ_ h=>h⟩
def Ex.trans{G:Hp}{L:List Addr}{H G1:Hp}{L1:List Addr}{H1 G2:Hp}{L2:List Addr}{H2:Hp}(a:Ex G L H G1 L1 H1)(b:Ex G1 L1 H1 G2 L2 H2):Ex G L H G2 L2 H2 where
 g:=a.g.trans b.g
 l:=a.l.trans b.l
 fr:=λx h1 h2=>b.fr x (a.fr x h1 h2) (a.yA x h2)
 out:=λx o h1 h2=>b.out x o (a.out x o h1 h2) λz=>(a.new x z).elim h2 λq=>by rw[h1]at q;cases q
 new:=λx h=>by
  rcases b.new x h with z| z
  ·exact a.new x z
  ·right;cases q:H x with
   | none=>rfl
   | some o=>exact absurd z (a.yA x (by rw[q];simp))
 yA:=λx h=>b.yA x (a.yA x h)
def yy.there{K:fI}{G:Hp}{L:List Addr}{H:Hp}{a:Addr}{m:MO}(h:yy K G L H a m):H a≠none:=by
 cases m with
 | lst ds=>have⟨vs,e,_⟩:=h;rw[e];simp
 | ins C ns ds=>have⟨dx,vs,e,_⟩:=h;rw[e];simp
 | tI ks ds=>have⟨vs,e,_⟩:=h;rw[e];simp
 | raw u=>have h:H a=some (u a):=h;rw[h];simp
def yy.mono{K:fI}{G G':Hp}{L L':List Addr}{H H':Hp}{a:Addr}{m:MO}(g:bS G G')(l:Pre L L')(e:H' a=H a)(h:yy K G L H a m):yy K G' L' H' a m:=by
 cases m with
 | lst ds=>have⟨vs,e1,h⟩:=h;exact⟨vs,e.trans e1,Ζ.mono g l _ _ h⟩
 | ins C ns ds=>have⟨dx,vs,e1,h0,h⟩:=h;exact⟨dx,vs,e.trans e1,h0,Ζ.mono g l _ _ h⟩
 | tI ks ds=>have⟨vs,e1,h0,h⟩:=h;exact⟨vs,e.trans e1,h0,Ζ.mono g l _ _ h⟩
 | raw u=>exact e.trans h
section
variable{K:fI}{G:Hp}{L:List Addr}{M:Ms}{H:Hp}{p:Addr}{o:HO}
def Rl.qT(r:Rl K G L M H){a:Addr}(h:a∈L):∃(k:Nat) (m:MO),L[k]? =some a/\M[k]? =some m/\G a=none/\yy K G L H a m:=by
 have⟨k,hk,e⟩:=List.getElem_of_mem h;have e1:L[k]? =some a:=by rw[aaa hk,e]
 have e2:M[k]? =some (M[k]'(by rw[<-r.len];exact hk)):=aaa _;exact⟨k,_,e1,e2,r.gv k a _ e1 e2⟩
def Rl.Jy(r:Rl K G L M H)(hp:H p=none):p∉L:=λz=>by have⟨k,m,_,_,_,h⟩:=r.qT z;exact h.there hp
def Rl.Df(r:Rl K G L M H)(hp:H p=none):Rl K (upd G p o) L M (upd H p o) where
 sub:=λb u e=>by
  by_cases hb:b=p
  ·subst hb;rw[Ω]at e⊢;exact e
  ·rw[ω hb]at e⊢;exact r.sub b u e
 len:=r.len
 nd:=r.nd
 gv:=λk a m h1 h2=>by have⟨q1,q2⟩:=r.gv k a m h1 h2;have hb:a≠p:=λz=>q2.there (by rw[z];exact hp);exact⟨by rw[ω hb];exact q1,q2.mono (λb u e=>by rw[ω (λz=>by rw[z,r.sub.free hp]at e;cases e)];exact e) (.refl _) (ω hb)⟩
def Rl.Hg(r:Rl K G L M H)(hp:H p=none):Ex G L H (upd G p o) L (upd H p o) where
 g:=λb u e=>by rw[ω (λz=>by rw[z,r.sub.free hp]at e;cases e)];exact e
 l:=.refl _
 fr:=λb h1 h2=>by rw[ω (λz=>h2 (by rw[z];exact hp))];exact h1
 out:=λb u h1 _=>by rw[ω (λz=>by rw[z,hp]at h1;cases h1)];exact h1
 new:=λb h=>.inl h
 yA:=λb h=>by rw[ω (λz=>h (by rw[z];exact hp))];exact h
def Rl.GG{m:MO}(r:Rl K G L M H)(hp:H p=none)(hm:yy K G (L++[p]) (upd H p o) p m):Rl K G (L++[p]) (M++[m]) (upd H p o) where
 sub:=λb u e=>by rw[ω (λz=>by rw[z,r.sub.free hp]at e;cases e)];exact r.sub b u e
 len:=by rw[aab,aab,r.len];rfl
 nd:=List.nodup_append.mpr ⟨r.nd,by simp,λa ha b hb=>by
  have e:b=p:=by simpa using hb
  rw[e];exactλz=>r.Jy hp (z▸ha)⟩
 gv:=λk a m' h1 h2=>by
  by_cases hk:k < L.length
  ·rw[aav hk]at h1;rw[aav (by rw[<-r.len];exact hk)]at h2;have⟨q1,q2⟩:=r.gv k a m' h1 h2;exact⟨q1,q2.mono (.refl _) ⟨[p],rfl⟩ (ω λz=>q2.there (by rw[z];exact hp))⟩
  ·have e:k=L.length:=by have:=(aai.mp h1).1;rw[aab]at this;simp at this;omega
   rw[e,aaD (aaj _)]at h1;rw[e,r.len,aaD (aaj _)]at h2;simp at h1 h2;subst h1 h2;exact⟨r.sub.free hp,hm⟩
def Rl.Mf(r:Rl K G L M H)(hp:H p=none):Ex G L H G (L++[p]) (upd H p o) where
 g:=.refl _
 l:=⟨[p],rfl⟩
 fr:=λb h1 _=>h1
 out:=λb u h1 _=>by rw[ω (λz=>by rw[z,hp]at h1;cases h1)];exact h1
 new:=λb h=>by
  rcases aaI.mp h with z| z
  ·exact .inl z
  ·have e:b=p:=by simpa using z
   right;rw[e];exact hp
 yA:=λb h=>by rw[ω (λz=>h (by rw[z];exact hp))];exact h
def Rl.setM{k:Nat}{a:Addr}{m:MO}(r:Rl K G L M H)(hk:L[k]? =some a)(hm:yy K G L (upd H a o) a m):Rl K G L (M.set k m) (upd H a o) where
 sub:=λb u e=>by have⟨k',m',e1,e2,q1,_⟩:=r.qT (aaJ hk);rw[ω (λz=>by rw[z,q1]at e;cases e)];exact r.sub b u e
 len:=by rw[aa6];exact r.len
 nd:=r.nd
 gv:=λk' a' m' h1 h2=>by
  by_cases e:k'=k
  ·subst e;rw[hk]at h1;cases h1;have hl:k' < M.length:=by rw[<-r.len];exact(aai.mp hk).1
   rw[aa1 hl]at h2;cases h2;have⟨_,_,_,_,q1,_⟩:=r.qT (aaJ hk);exact⟨q1,hm⟩
  ·rw[aa4 (λz=>e z.symm)]at h2;have⟨q1,q2⟩:=r.gv k' a' m' h1 h2;have ne:a'≠a:=λz=>by subst z;exact e ((List.getElem?_inj (aai.mp h1).1 r.nd).mp (h1.trans hk.symm))
   exact⟨q1,q2.mono (.refl _) (.refl _) (ω ne)⟩
def Rl.Ge{k:Nat}{a:Addr}(r:Rl K G L M H)(hk:L[k]? =some a):Ex G L H G L (upd H a o) where
 g:=.refl _
 l:=.refl _
 fr:=λb h1 _=>h1
 out:=λb u h1 h2=>by rw[ω (λz=>h2 (by rw[z];exact aaJ hk))];exact h1
 new:=λb h=>.inl h
 yA:=λb h=>by
  by_cases e:b=a
  ·rw[e,Ω];simp
  ·rw[ω e];exact h
end
structure gZ(K:fI)(G:Hp)(L:List Addr)(ρ:En)(σ:St):Prop where
 len:ρ.length=σ.length
 gv:∀(i:Nat) (d:Dt),ρ[i]? =some (some d)->∃v,σ[i]? =some (some v)/\Den K G L d v
section
variable{K:fI}{G G':Hp}{L L':List Addr}{H H':Hp}{ρ:En}{σ:St}
def gZ.mono(h:gZ K G L ρ σ)(e:Ex G L H G' L' H'):gZ K G' L' ρ σ:=⟨h.len,λi d q=>let ⟨v,a,b⟩:=h.gv i d q;⟨v,a,Den.mono e.g e.l d v b⟩⟩
def gZ.set(h:gZ K G L ρ σ)(i:Nat){d:Dt}{v:V}(q:Den K G L d v):gZ K G L (ρ.set i (some d)) (σ.set i (some v)):=by
 refine⟨by rw[aa6,aa6];exact h.len,λj d' e=>?_⟩;by_cases hj:i=j
 ·subst hj;have hl:i < ρ.length:=by have:=(aai.mp e).1;rwa[aa6]at this
  rw[aa1 hl]at e;cases e;exact⟨v,aa1 (by rw[<-h.len];exact hl),q⟩
 ·rw[aa4 hj]at e;have⟨u,a,b⟩:=h.gv j d' e;exact⟨u,by rw[aa4 hj];exact a,b⟩
end
abbrev DQ:=Dt->Ms->Prop
abbrev DX:=En->Addr->List (Str×Dt)->Ms->Prop
def Jw(K:fI)(G:Hp)(L:List Addr)(H:Hp)(fs:List (Str×Dt))(od:Option Addr):Prop:=
 (fs=[]/\od=none)\/fs≠[]/\∃dx vs,od=some dx/\G dx=some (.xd ((fs.map (·.1)).zip vs))/\Ζ K G L (fs.map (·.2)) vs
def ni(K:fI)(G:Hp)(L:List Addr)(H:Hp)(R:St->XK)(x:DX):Prop:=
 ∀σ ρ C fs M' G' L' H' od,x ρ C fs M'->Ex G L H G' L' H'->Rl K G' L' M' H'->gZ K G' L' ρ σ->Jw K G' L' H' fs od->R σ (.ref C) od H'
def ni.on{K:fI}{G:Hp}{L:List Addr}{H G1:Hp}{L1:List Addr}{H1:Hp}{R:St->XK}{x:DX}(h:ni K G L H R x)(e:Ex G L H G1 L1 H1):ni K G1 L1 H1 R x:=
 λσ ρ C fs M' G' L' H' od q e' r n y=>h σ ρ C fs M' G' L' H' od q (e.trans e') r n y
def gP:DX:=λ_ _ _ _=>False
def A7{K:fI}{G:Hp}{L:List Addr}{H:Hp}{R:St->XK}:ni K G L H R gP:=λ_ _ _ _ _ _ _ _ _ q=>q.elim
abbrev DE:=En->Ms->DQ->DX->Prop
abbrev DT:=En->Ms->(Bool->Ms->Prop)->DX->Prop
abbrev DA:=En->Ms->(List Dt->Ms->Prop)->DX->Prop
structure kO where
 nx:En->Ms->Prop
 rt:DQ
 bk:En->Ms->Prop:=λ_ _=>False
 ct:En->Ms->Prop:=λ_ _=>False
 x:DX:=gP
abbrev DS:=kO->En->Ms->Prop
inductive Fin(K:fI)(G0:Hp)(L0:List Addr)(H0:Hp)(q:DQ)(v:V)(H:Hp):Prop
 | mk (d:Dt) (G:Hp) (L:List Addr) (M:Ms) (e:Ex G0 L0 H0 G L H) (r:Rl K G L M H) (n:Den K G L d v) (h:q d M)
inductive nB(K:fI)(G0:Hp)(L0:List Addr)(H0:Hp)(q:Bool->Ms->Prop)(b:Bool)(H:Hp):Prop
 | mk (G:Hp) (L:List Addr) (M:Ms) (e:Ex G0 L0 H0 G L H) (r:Rl K G L M H) (h:q b M)
inductive Ds(K:fI)(G0:Hp)(L0:List Addr)(H0:Hp)(q:List Dt->Ms->Prop)(vs:List V)(H:Hp):Prop
 | mk (ds:List Dt) (G:Hp) (L:List Addr) (M:Ms) (e:Ex G0 L0 H0 G L H) (r:Rl K G L M H) (n:Ζ K G L ds vs) (h:q ds M)
inductive cX(K:fI)(G0:Hp)(L0:List Addr)(H0:Hp)(q:En->Ms->Prop)(σ:St)(H:Hp):Prop
 | mk (ρ:En) (G:Hp) (L:List Addr) (M:Ms) (e:Ex G0 L0 H0 G L H) (r:Rl K G L M H) (n:gZ K G L ρ σ) (h:q ρ M)
def qI(K:fI)(G0:Hp)(L0:List Addr)(H0:Hp)(Dn:kO):tG:=⟨cX K G0 L0 H0 Dn.nx,Fin K G0 L0 H0 Dn.rt,cX K G0 L0 H0 Dn.bk,cX K G0 L0 H0 Dn.ct⟩
inductive nu(K:fI)(R:St->XK)(t:DE)(σ:St)(H:Hp)(Q:VK):Prop
 | mk (G:Hp) (L:List Addr) (ρ:En) (M:Ms) (q:DQ) (x:DX) (r:Rl K G L M H) (n:gZ K G L ρ σ) (h:t ρ M q x) (hx:ni K G L H R x) (hQ:∀v H1,Fin K G L H q v H1->Q v H1)
inductive xJ(K:fI)(R:St->XK)(t:DT)(σ:St)(H:Hp)(Q:Bool->Hp->Prop):Prop
 | mk (G:Hp) (L:List Addr) (ρ:En) (M:Ms) (q:Bool->Ms->Prop) (x:DX) (r:Rl K G L M H) (n:gZ K G L ρ σ) (h:t ρ M q x) (hx:ni K G L H R x) (hQ:∀b H1,nB K G L H q b H1->Q b H1)
inductive Ji(K:fI)(R:St->XK)(t:DA)(σ:St)(H:Hp)(Q:List V->Hp->Prop):Prop
 | mk (G:Hp) (L:List Addr) (ρ:En) (M:Ms) (q:List Dt->Ms->Prop) (x:DX) (r:Rl K G L M H) (n:gZ K G L ρ σ) (h:t ρ M q x) (hx:ni K G L H R x) (hQ:∀vs H1,Ds K G L H q vs H1->Q vs H1)
structure E7(A B:tG):Prop where
 nx:∀σ H,A.nx σ H->B.nx σ H
 rt:∀v H,A.rt v H->B.rt v H
 bk:∀σ H,A.bk σ H->B.bk σ H
 ct:∀σ H,A.ct σ H->B.ct σ H
inductive IX(K:fI)(R:St->XK)(t:DS)(De:tG)(σ:St)(H:Hp):Prop
 | mk (G:Hp) (L:List Addr) (ρ:En) (M:Ms) (Dn:kO) (r:Rl K G L M H) (n:gZ K G L ρ σ) (h:t Dn ρ M) (hx:ni K G L H R Dn.x) (hQ:E7 (qI K G L H Dn) De)
def JE(X:Cx)(R:St->XK)(e:Expr)(t:DE):Prop:=PE X e (nu X.K R t)
def JT(X:Cx)(R:St->XK)(e:Expr)(t:DT):Prop:=PT X e (xJ X.K R t)
def JW(X:Cx)(R:St->XK)(e:Expr)(t:DT):Prop:=PW X e (xJ X.K R t)
def JA(X:Cx)(R:St->XK)(es:List Expr)(t:DA):Prop:=PA X es (Ji X.K R t)
def JS(X:Cx)(R:St->XK)(st:Stmt)(t:DS):Prop:=PS X st (IX X.K R t)
def xE(X:Cx)(R:St->XK)(st:List Stmt)(t:DS):Prop:=yE X st (IX X.K R t)
section
variable{K:fI}{G0:Hp}{L0:List Addr}{H0 G1:Hp}{L1:List Addr}{H1:Hp}
def Fin.back{q:DQ}(e:Ex G0 L0 H0 G1 L1 H1){v:V}{H:Hp}(h:Fin K G1 L1 H1 q v H):Fin K G0 L0 H0 q v H:=let ⟨d,G,L,M,a,b,c,f⟩:=h;⟨d,G,L,M,e.trans a,b,c,f⟩
def cX.back{q:En->Ms->Prop}(e:Ex G0 L0 H0 G1 L1 H1){v:St}{H:Hp}(h:cX K G1 L1 H1 q v H):cX K G0 L0 H0 q v H:=let ⟨d,G,L,M,a,b,c,f⟩:=h;⟨d,G,L,M,e.trans a,b,c,f⟩
def nB.back{q:Bool->Ms->Prop}(e:Ex G0 L0 H0 G1 L1 H1){v:Bool}{H:Hp}(h:nB K G1 L1 H1 q v H):nB K G0 L0 H0 q v H:=let ⟨G,L,M,a,b,f⟩:=h;⟨G,L,M,e.trans a,b,f⟩
def qI.back{Dn:kO}(e:Ex G0 L0 H0 G1 L1 H1):E7 (qI K G1 L1 H1 Dn) (qI K G0 L0 H0 Dn):=⟨λ_ _ h=>cX.back e h,λ_ _ h=>Fin.back e h,λ_ _ h=>cX.back e h,λ_ _ h=>cX.back e h⟩
def SP.imp{X:Cx}{γ:List (Addr×Obj)}{A B:tG}(e:E7 A B){f:Flow}{s:Shared}(h:SP X γ A f s):SP X γ B f s:=by
 cases f with
 | next=>have⟨a,b,I,q⟩:=h;exact⟨a,b,I,e.nx _ _ q⟩
 | brk=>have⟨a,b,I,q⟩:=h;exact⟨a,b,I,e.bk _ _ q⟩
 | cont=>have⟨a,b,I,q⟩:=h;exact⟨a,b,I,e.ct _ _ q⟩
 | ret u=>have⟨v,a,b,I,r,q⟩:=h;exact⟨v,a,b,I,r,e.rt _ _ q⟩
end
section
variable{X:Cx}{R:St->XK}{e:Expr}
def JE.of{te:TE}{t:DE}(h:PE X e te)(hw:∀σ H G L ρ M q x,Rl X.K G L M H->gZ X.K G L ρ σ->t ρ M q x->ni X.K G L H R x->te σ H (Fin X.K G L H q)):JE X R e t:=by intro γ s σ H Q I ⟨G,L,ρ,M,q,x,r,n,ht,hx,hQ⟩;refine ba (h γ s σ H _ I (hw σ H G L ρ M q x r n ht hx)) λu s1 ⟨v,H1,I1,rv,f⟩=>⟨v,H1,I1,rv,hQ v H1 f⟩
def JT.of{te:TT}{t:DT}(h:PT X e te)(hw:∀σ H G L ρ M q x,Rl X.K G L M H->gZ X.K G L ρ σ->t ρ M q x->ni X.K G L H R x->te σ H (nB X.K G L H q)):JT X R e t:=by intro γ s σ H Q I ⟨G,L,ρ,M,q,x,r,n,ht,hx,hQ⟩;refine ba (h γ s σ H _ I (hw σ H G L ρ M q x r n ht hx)) λu s1 ⟨H1,I1,f⟩=>⟨H1,I1,hQ u H1 f⟩
def JW.of{te:TT}{t:DT}(h:PW X e te)(hw:∀σ H G L ρ M q x,Rl X.K G L M H->gZ X.K G L ρ σ->t ρ M q x->ni X.K G L H R x->te σ H (nB X.K G L H q)):JW X R e t:=by intro wh γ s σ H Q I ⟨G,L,ρ,M,q,x,r,n,ht,hx,hQ⟩;refine ba (h wh γ s σ H _ I (hw σ H G L ρ M q x r n ht hx)) λu s1 ⟨H1,I1,f⟩=>⟨H1,I1,hQ u H1 f⟩
def JA.of{es:List Expr}{te:TA}{t:DA}(h:PA X es te)(hw:∀σ H G L ρ M q x,Rl X.K G L M H->gZ X.K G L ρ σ->t ρ M q x->ni X.K G L H R x->te σ H (Ds X.K G L H q)):JA X R es t:=by intro pos γ s σ H Q I ⟨G,L,ρ,M,q,x,r,n,ht,hx,hQ⟩;refine ba (h pos γ s σ H _ I (hw σ H G L ρ M q x r n ht hx)) λu s1 ⟨v,H1,I1,rv,f⟩=>⟨v,H1,I1,rv,hQ v H1 f⟩
def JS.of{st:Stmt}{te:TS}{t:DS}(h:PS X st te)(hw:∀σ H G L ρ M Dn,Rl X.K G L M H->gZ X.K G L ρ σ->t Dn ρ M->ni X.K G L H R Dn.x->te (qI X.K G L H Dn) σ H):JS X R st t:=by intro γ s σ H De I ⟨G,L,ρ,M,Dn,r,n,ht,hx,hQ⟩;exact ba (h γ s σ H _ I (hw σ H G L ρ M Dn r n ht hx)) λu s1 f=>SP.imp hQ f
def xE.of{st:List Stmt}{te:TS}{t:DS}(h:yE X st te)(hw:∀σ H G L ρ M Dn,Rl X.K G L M H->gZ X.K G L ρ σ->t Dn ρ M->ni X.K G L H R Dn.x->te (qI X.K G L H Dn) σ H):xE X R st t:=by intro γ s σ H De I ⟨G,L,ρ,M,Dn,r,n,ht,hx,hQ⟩;exact ba (h γ s σ H _ I (hw σ H G L ρ M Dn r n ht hx)) λu s1 f=>SP.imp hQ f
end
def a_(i:Nat):DE:=λρ M q _=>match ρ[i]? with
 | some (some d)=>q d M
 | _=>False
def dC(d:Dt):DE:=λ_ M q _=>q d M
def cQ(f:Dt->Dt->Ms->DQ->Prop)(a b:DE):DE:=λρ M q x=>a ρ M (λd1 M1=>b ρ M1 (λd2 M2=>f d1 d2 M2 q) x) x
def HV(f:Dt->Ms->DQ->Prop)(a:DE):DE:=λρ M q x=>a ρ M (λd1 M1=>f d1 M1 q) x
def ff:DA:=λ_ M q _=>q [] M
def bW(a:DE)(r:DA):DA:=λρ M q x=>a ρ M (λd M1=>r ρ M1 (λds M2=>q (d::ds) M2) x) x
def tw(f:List Dt->Ms->DQ->Prop)(a:DA):DE:=λρ M q x=>a ρ M (λds M1=>f ds M1 q) x
def jD(K:fI)(r:R2)(f:Dt->Dt->Ms->DQ->Prop):Prop:=
 ∀G0 L0 H0 G L M H v1 v2 d1 d2 q,Ex G0 L0 H0 G L H->Rl K G L M H->Den K G L d1 v1->Den K G L d2 v2->f d1 d2 M q->r v1 v2 H (Fin K G0 L0 H0 q)
def NA(K:fI)(r:V->Hp->VK->Prop)(f:Dt->Ms->DQ->Prop):Prop:=
 ∀G0 L0 H0 G L M H v1 d1 q,Ex G0 L0 H0 G L H->Rl K G L M H->Den K G L d1 v1->f d1 M q->r v1 H (Fin K G0 L0 H0 q)
def vy(K:fI)(r:List V->Hp->VK->Prop)(f:List Dt->Ms->DQ->Prop):Prop:=
 ∀G0 L0 H0 G L M H vs ds q,Ex G0 L0 H0 G L H->Rl K G L M H->Ζ K G L ds vs->f ds M q->r vs H (Fin K G0 L0 H0 q)
def JG(K:fI)(T:String)(r:V->List V->Hp->VK->Prop)(f:Dt->List Dt->Ms->DQ->Prop):Prop:=
 ∀G0 L0 H0 G L M H v d vs ds q,Ex G0 L0 H0 G L H->Rl K G L M H->Den K G L d v->Ζ K G L ds vs->f d ds M q->r v vs H (Fin K G0 L0 H0 q)
section
variable{K:fI}{R:St->XK}{ta tb:DE}{tc:DA}{σ:St}{H G:Hp}{L:List Addr}{ρ:En}{M:Ms}{q:DQ}{x:DX}
def uo{r:R2}{f:Dt->Dt->Ms->DQ->Prop}(od:jD K r f)(rl:Rl K G L M H)(n:gZ K G L ρ σ)(h:cQ f ta tb ρ M q x)(hx:ni K G L H R x):HE r (nu K R ta) (nu K R tb) σ H (Fin K G L H q):=by refine⟨G,L,ρ,M,_,x,rl,n,h,hx,λv H1 xz=>?_⟩;have⟨d1,G1,L1,M1,e1,r1,n1,h1⟩:=xz;refine⟨G1,L1,ρ,M1,_,x,r1,n.mono e1,h1,hx.on e1,λv2 H2 xz=>?_⟩;have⟨d2,G2,L2,M2,e2,r2,n2,h2⟩:=xz;exact od G L H G2 L2 M2 H2 v v2 d1 d2 q (e1.trans e2) r2 (Den.mono e2.g e2.l _ _ n1) n2 h2
def HD{r:V->Hp->VK->Prop}{f:Dt->Ms->DQ->Prop}(od:NA K r f)(rl:Rl K G L M H)(n:gZ K G L ρ σ)(h:HV f ta ρ M q x)(hx:ni K G L H R x):Oi r (nu K R ta) σ H (Fin K G L H q):=by refine⟨G,L,ρ,M,_,x,rl,n,h,hx,λv H1 xz=>?_⟩;have⟨d1,G1,L1,M1,e1,r1,n1,h1⟩:=xz;exact od G L H G1 L1 M1 H1 v d1 q e1 r1 n1 h1
def D8{r:List V->Hp->VK->Prop}{f:List Dt->Ms->DQ->Prop}(od:vy K r f)(rl:Rl K G L M H)(n:gZ K G L ρ σ)(h:tw f tc ρ M q x)(hx:ni K G L H R x):MQ r (Ji K R tc) σ H (Fin K G L H q):=by refine⟨G,L,ρ,M,_,x,rl,n,h,hx,λv H1 xz=>?_⟩;have⟨d1,G1,L1,M1,e1,r1,n1,h1⟩:=xz;exact od G L H G1 L1 M1 H1 v d1 q e1 r1 n1 h1
end
section
variable{X:Cx}{R:St->XK}{a b c:Expr}{ta tb:DE}{pos:Pos}
def jv(i:Nat){x:Str}{pos:Pos}(hN:X.N[i]? =some x:=by rfl)(hv:LQ X.env.scope x:=by first| exact Or.inl rfl| exact Or.inr (Or.inl rfl)| exact Or.inr (Or.inr rfl))(hd:(x==("__debug__":Str))=false:=by decide)
  (yK:(x==("__classdict__":Str))=false:=by decide):JE X R (.Name x pos) (a_ i):=.of (Gq hN hv hd yK) λσ H G L ρ M q x r n h hx=>by
 unfold a_ at h;split at h
 ·rename_i d e;have⟨v,e1,h1⟩:=n.gv i d e;exact⟨v,e1,d,G,L,M,.refl _ _ _,r,h1,h⟩
 ·exact h.elim
def DP{d:Dt}{v:V}{e:Expr}(h:PE X e (tC v))(hd:∀G L,Den X.K G L d v):JE X R e (dC d):=.of h λσ H G L ρ M q x r n h hx=>⟨d,G,L,M,.refl _ _ _,r,hd G L,h⟩
def ι{i j pos}:JE X R (.Constant (.int i) j pos) (dC (.int i)):=DP FU λ_ _=>rfl
def yG{b j pos}:JE X R (.Constant (.bool b) j pos) (dC (.bl b)):=DP HN λ_ _=>rfl
def BK{j pos}:JE X R (.Constant .none j pos) (dC .aR):=DP GS λ_ _=>rfl
def av{x j pos}:JE X R (.Constant (.str x) j pos) (dC (.str x)):=DP GC λ_ _=>rfl
def qd{op:Operator}{r:R2}{f:Dt->Dt->Ms->DQ->Prop}(ho:fm X (binaryOp op) r)(od:jD X.K r f)(ja:JE X R a ta)(jb:JE X R b tb):JE X R (.BinOp a op b pos) (cQ f ta tb):=
 .of (Il ho ja jb) λσ H G L ρ M q x r n h hx=>uo od r n h hx
def Lr{op:UnaryOp}{r:V->Hp->VK->Prop}{f:Dt->Ms->DQ->Prop}(ho:KA X (unaryOp op) r)(od:NA X.K r f)(ja:JE X R a ta):JE X R (.UnaryOp op a pos) (HV f ta):=
 .of (IQ ho ja) λσ H G L ρ M q x r n h hx=>HD od r n h hx
def ot{op:CmpOp}{r:R2}{f:Dt->Dt->Ms->DQ->Prop}(ho:fm X (compareOp op) r)(od:jD X.K r f)(ja:JE X R a ta)(jb:JE X R b tb)(hm:behindInMarks op b=false):JE X R (.Compare a [op] [b] pos) (cQ f ta tb):=
 .of (Co ho ja jb hm) λσ H G L ρ M q x r n h hx=>uo od r n h hx
def Im{r:R2}{f:Dt->Dt->Ms->DQ->Prop}(hr:Bt X r)(od:jD X.K r f)(ja:JE X R a ta)(jb:JE X R b tb)(hs:qq b):JE X R (.Subscript a b pos) (cQ f ta tb):=
 .of (J6 hr ja jb hs) λσ H G L ρ M q x r n h hx=>uo od r n h hx
def aG{env:Env}{es:List Expr}{c j p}:starEach (.Constant c j p::es) env=(false,eval (.Constant c j p) env)::starEach es env:=rfl
def Ei{env:Env}{es:List Expr}{c p}:starEach (.Name c p::es) env=(false,eval (.Name c p) env)::starEach es env:=rfl
def aN{env:Env}{es:List Expr}{a o b p}:starEach (.BinOp a o b p::es) env=(false,eval (.BinOp a o b p) env)::starEach es env:=rfl
def bZ{env:Env}{es:List Expr}{a b c p}:starEach (.Call a b c p::es) env=(false,eval (.Call a b c p) env)::starEach es env:=rfl
def ak{env:Env}{es:List Expr}{a b p}:starEach (.Subscript a b p::es) env=(false,eval (.Subscript a b p) env)::starEach es env:=rfl
def δ:JA X R [] ff:=.of FY λσ H G L ρ M q x r n h hx=>⟨[],G,L,M,.refl _ _ _,r,rfl,h⟩
def ζ{e:Expr}{es:List Expr}{te:DE}{t:DA}(ha:JE X R e te)(hr:JA X R es t)(hs:starEach (e::es) X.env=(false,eval e X.env)::starEach es X.env:=by first| exact aG| exact Ei| exact aN| exact bZ| exact ak| exact Ot| exact OJ| exact O0| rfl):JA X R (e::es) (bW te t):=
 .of (BN ha hr hs) λσ H G L ρ M q x rl n h hx=>by refine⟨G,L,ρ,M,_,x,rl,n,h,hx,λv H1 xz=>?_⟩;have⟨d1,G1,L1,M1,e1,r1,n1,h1⟩:=xz;refine⟨G1,L1,ρ,M1,_,x,r1,n.mono e1,h1,hx.on e1,λv2 H2 xz=>?_⟩;have⟨d2,G2,L2,M2,e2,r2,n2,h2⟩:=xz;exact⟨d1::d2,G2,L2,M2,e1.trans e2,r2,⟨_,_,rfl,Den.mono e2.g e2.l _ _ n1,n2⟩,h2⟩
def Ι{c:Str}{p:Pos}{es:List Expr}{te:DE}{t:DA}(ha:JE X R (.Name c p) te)(hr:JA X R es t):JA X R (.Name c p::es) (bW te t):=ζ ha hr Ei
def Js(t:DA):DE:=λρ M q x=>t ρ M (λds M1=>ds.length<=sizeLine/\q (.tup ds) M1) x
def JU(t:DA):DE:=λρ M q x=>t ρ M (λds M1=>ds.length<=sizeLine/\q (.lst ds) M1) x
def Eb(t:DA):DE:=λρ M q x=>t ρ M (λds M1=>ds.length<=sizeLine/\q (.loc M1.length) (M1++[.lst ds])) x
def cF{K:fI}{G0:Hp}{L0:List Addr}{H0 G:Hp}{L:List Addr}{M:Ms}{H:Hp}{p:Addr}{o:HO}{d:Dt}{q:DQ}(e:Ex G0 L0 H0 G L H)(r:Rl K G L M H)(hp:H p=none)(hd:Den K (upd G p o) L d (.ref p))(h:q d M):Fin K G0 L0 H0 q (.ref p) (upd H p o):=
 ⟨d,upd G p o,L,M,e.trans (r.Hg hp),r.Df hp,hd,h⟩
def gJ{K:fI}{G:Hp}{L:List Addr}{M:Ms}{H:Hp}{p:Addr}{ds:List Dt}{vs:List V}(r:Rl K G L M H)(hp:H p=none)(h:Ζ K G L ds vs):Den K (upd G p (.tup vs)) L (.tup ds) (.ref p):=
 ⟨p,vs,rfl,Ω,Ζ.mono (r.Hg hp).g (.refl _) _ _ h⟩
def gF{K:fI}{G:Hp}{L:List Addr}{M:Ms}{H:Hp}{p:Addr}{ds:List Dt}{vs:List V}(r:Rl K G L M H)(hp:H p=none)(h:Ζ K G L ds vs):Den K (upd G p (.lst vs)) L (.lst ds) (.ref p):=
 ⟨p,vs,rfl,Ω,Ζ.mono (r.Hg hp).g (.refl _) _ _ h⟩
def qa{K:fI}{G0:Hp}{L0:List Addr}{H0 G:Hp}{L:List Addr}{M:Ms}{H:Hp}{p:Addr}{q:DQ}{ds:List Dt}{vs:List V}(e:Ex G0 L0 H0 G L H)(r:Rl K G L M H)(hp:H p=none)(hd:Ζ K G L ds vs)(h:q (.loc M.length) (M++[.lst ds])):Fin K G0 L0 H0 q (.ref p) (upd H p (.lst vs)):=
 ⟨.loc M.length,G,L++[p],M++[.lst ds],e.trans (r.Mf hp),r.GG (m:=.lst ds) hp ⟨vs,Ω,Ζ.mono (.refl _) ⟨[p],rfl⟩ _ _ hd⟩,⟨p,rfl,by rw[<-r.len,List.getElem?_append_right (Nat.le_refl _)];simp⟩,h⟩
variable{es:List Expr}{t:DA}
def cn{x1}(h:JA X R es t):JE X R (.Tuple es x1 pos) (Js t):=.of (GZ h) λσ H G L ρ M q x rl n h hx=>by refine⟨G,L,ρ,M,_,x,rl,n,h,hx,fun v H1 ⟨d1,G1,L1,M1,e1,r1,n1,h1⟩=>⟨by rw[<-n1.length];exact h1.1,λp hp=>?_⟩⟩;exact cF e1 r1 hp (gJ r1 hp n1) h1.2
def vR(h:JA X R es t):JE X R (.List es pos) (JU t):=.of (AL h) λσ H G L ρ M q x rl n h hx=>by refine⟨G,L,ρ,M,_,x,rl,n,h,hx,fun v H1 ⟨d1,G1,L1,M1,e1,r1,n1,h1⟩=>⟨by rw[<-n1.length];exact h1.1,λp hp=>?_⟩⟩;exact cF e1 r1 hp (gF r1 hp n1) h1.2
def AX(h:JA X R es t):JE X R (.List es pos) (Eb t):=.of (AL h) λσ H G L ρ M q x rl n h hx=>by refine⟨G,L,ρ,M,_,x,rl,n,h,hx,fun v H1 ⟨d1,G1,L1,M1,e1,r1,n1,h1⟩=>⟨by rw[<-n1.length];exact h1.1,λp hp=>?_⟩⟩;exact qa e1 r1 hp n1 h1.2
def jA(t:DE):DT:=λρ M q x=>t ρ M (λd M1=>match d with
 | .bl b=>q b M1
 | _=>False) x
def HF(t u:DT):DT:=λρ M q x=>t ρ M (λc M1=>(c=true->u ρ M1 q x)/\(c=false->q false M1)) x
def O7(t u:DT):DT:=λρ M q x=>t ρ M (λc M1=>(c=true->q true M1)/\(c=false->u ρ M1 q x)) x
def JJ(t:DT):DT:=λρ M q x=>t ρ M (λc M1=>q (!c) M1) x
def EF{K:fI}{t:DE}{σ:St}{H G:Hp}{L:List Addr}{ρ:En}{M:Ms}{q:Bool->Ms->Prop}{x:DX}(rl:Rl K G L M H)(n:gZ K G L ρ σ)(h:jA t ρ M q x)(hx:ni K G L H R x):tB (nu K R t) σ H (nB K G L H q):=by
 refine⟨G,L,ρ,M,_,x,rl,n,h,hx,λv H1 xz=>?_⟩;have⟨d1,G1,L1,M1,e1,r1,n1,h1⟩:=xz
 (try dsimp only at h1)
 split at h1
 ·rename_i b;exact⟨b,n1,G1,L1,M1,e1,r1,h1⟩
 ·exact h1.elim
def bu{e:Expr}{t:DE}(h:JE X R e t)(he:∀whole,isTrue e X.env whole=(do let v<-whole;standAt e.pos;holding [v] (truthy v)):=by intro _;rfl):JT X R e (jA t):=
 .of (Gu h he) λσ H G L ρ M q x rl n h hx=>EF rl n h hx
def eC{op:CmpOp}{r:R2}{f:Dt->Dt->Ms->DQ->Prop}(ho:fm X (compareOp op) r)(od:jD X.K r f)(ja:JE X R a ta)(jb:JE X R b tb)(hm:behindInMarks op b=false):JT X R (.Compare a [op] [b] pos) (jA (cQ f ta tb)):=
 .of (BS ho ja jb hm) λσ H G L ρ M q x rl n h hx=>by
  have h:cQ f ta tb ρ M (λd M1=>match d with| .bl b=>q b M1| _=>False) x:=h;refine⟨G,L,ρ,M,_,x,rl,n,h,hx,λv H1 xz=>?_⟩;have⟨d1,G1,L1,M1,e1,r1,n1,h1⟩:=xz;refine⟨G1,L1,ρ,M1,_,x,r1,n.mono e1,h1,hx.on e1,λv2 H2 xz=>?_⟩;have⟨d2,G2,L2,M2,e2,r2,n2,h2⟩:=xz;have:=od G L H G2 L2 M2 H2 v v2 d1 d2 _ (e1.trans e2) r2 (Den.mono e2.g e2.l _ _ n1) n2 h2;have e:(λx H'=>∃k,x=V.bl k/\nB X.K G L H q k H')=Fin X.K G L H (λd M1=>match d with| .bl b=>q b M1| _=>False):=by
   funext y H'
   apply propext;constructor
   ·rintro⟨k,rfl,G3,L3,M3,e3,r3,h3⟩;exact⟨.bl k,G3,L3,M3,e3,r3,rfl,h3⟩
   ·rintro⟨d,G3,L3,M3,e3,r3,n3,h3⟩;split at h3
    ·rename_i k;exact⟨k,n3,G3,L3,M3,e3,r3,h3⟩
    ·exact h3.elim
  rw[e];exact this
def JW.jt{e:Expr}{t:DT}(h:JW X R e t):JT X R e t:=h _
variable{t1 t2:DT}{aC:List Expr}
def BI(ha:JT X R a t1):JW X R (.BoolOp .And [a] pos) t1:=pw_and1 ha
def eD(ha:JT X R a t1):JW X R (.BoolOp .Or [a] pos) t1:=pw_or1 ha
def Gn(ha:JT X R a t1)(hb:JW X R (.BoolOp .And (b::aC) pos) t2):JW X R (.BoolOp .And (a::b::aC) pos) (HF t1 t2):=.of (pw_and ha hb) λσ H G L ρ M q x rl n h hx=>by
 refine⟨G,L,ρ,M,_,x,rl,n,h,hx,λc H1 xz=>?_⟩;have⟨G1,L1,M1,e1,r1,h1⟩:=xz;cases c with
 | true=>exact yr ⟨G1,L1,ρ,M1,_,x,r1,n.mono e1,h1.1 rfl,hx.on e1,λb H2 f=>nB.back e1 f⟩
 | false=>exact wX ⟨G1,L1,M1,e1,r1,h1.2 rfl⟩
def gr(ha:JT X R a t1)(hb:JW X R (.BoolOp .Or (b::aC) pos) t2):JW X R (.BoolOp .Or (a::b::aC) pos) (O7 t1 t2):=.of (pw_or ha hb) λσ H G L ρ M q x rl n h hx=>by
 refine⟨G,L,ρ,M,_,x,rl,n,h,hx,λc H1 xz=>?_⟩;have⟨G1,L1,M1,e1,r1,h1⟩:=xz;cases c with
 | true=>exact yr ⟨G1,L1,M1,e1,r1,h1.1 rfl⟩
 | false=>exact wX ⟨G1,L1,ρ,M1,_,x,r1,n.mono e1,h1.2 rfl,hx.on e1,λb H2 f=>nB.back e1 f⟩
def dM(ha:JT X R a t1):JT X R (.UnaryOp .Not a pos) (JJ t1):=.of (GO ha) λσ H G L ρ M q x rl n h hx=>
 ⟨G,L,ρ,M,_,x,rl,n,h,hx,λ_ _ ⟨G,L,M,e,r,h⟩=>⟨G,L,M,e,r,h⟩⟩
def Ja(t u:DE):DE:=λρ M q x=>t ρ M (λd M1=>match d with
 | .bl c=>(c=true->u ρ M1 q x)/\(c=false->q (.bl false) M1)
 | _=>False) x
def JF(t:DE):DE:=λρ M q x=>t ρ M (λd M1=>match d with
 | .bl c=>q (.bl (!c)) M1
 | _=>False) x
def OX(t:DT)(u v:DE):DE:=λρ M q x=>t ρ M (λc M1=>(c=true->u ρ M1 q x)/\(c=false->v ρ M1 q x)) x
def dP{op}{t:DE}(h:JE X R a t):JE X R (.BoolOp op [a] pos) t:=GI h
def bG(ha:JE X R a ta)(hb:JE X R (.BoolOp .And (b::aC) pos) tb):JE X R (.BoolOp .And (a::b::aC) pos) (Ja ta tb):=.of (EJ ha hb) λσ H G L ρ M q x rl n h hx=>by
 refine⟨G,L,ρ,M,_,x,rl,n,h,hx,λv H1 xz=>?_⟩;have⟨d1,G1,L1,M1,e1,r1,n1,h1⟩:=xz
 (try dsimp only at h1)
 split at h1
 ·rename_i c;refine⟨c,n1,?_⟩;cases c with
  | true=>exact yr ⟨G1,L1,ρ,M1,_,x,r1,n.mono e1,h1.1 rfl,hx.on e1,λb H2 f=>Fin.back e1 f⟩
  | false=>exact wX ⟨.bl false,G1,L1,M1,e1,r1,rfl,h1.2 rfl⟩
 ·exact h1.elim
def zu(ha:JE X R a ta):JE X R (.UnaryOp .Not a pos) (JF ta):=.of (GU ha) λσ H G L ρ M q x rl n h hx=>by
 refine⟨G,L,ρ,M,_,x,rl,n,h,hx,λv H1 xz=>?_⟩;have⟨d1,G1,L1,M1,e1,r1,n1,h1⟩:=xz
 (try dsimp only at h1)
 split at h1
 ·rename_i c;exact⟨c,n1,.bl (!c),G1,L1,M1,e1,r1,rfl,h1⟩
 ·exact h1.elim
def D4{c:Expr}(hc:JT X R c t1)(ha:JE X R a ta)(hb:JE X R b tb):JE X R (.IfExp c a b pos) (OX t1 ta tb):=.of (Ap hc ha hb) λσ H G L ρ M q x rl n h hx=>by
 refine⟨G,L,ρ,M,_,x,rl,n,h,hx,λc H1 xz=>?_⟩;have⟨G1,L1,M1,e1,r1,h1⟩:=xz;cases c with
 | true=>exact yr ⟨G1,L1,ρ,M1,_,x,r1,n.mono e1,h1.1 rfl,hx.on e1,λb H2 f=>Fin.back e1 f⟩
 | false=>exact wX ⟨G1,L1,ρ,M1,_,x,r1,n.mono e1,h1.2 rfl,hx.on e1,λb H2 f=>Fin.back e1 f⟩
end
def Ea:DS:=λDn ρ M=>Dn.nx ρ M
def Jk(t u:DS):DS:=λDn ρ M=>t {Dn with nx:=u Dn} ρ M
def OB(c:DT)(t u:DS):DS:=λDn ρ M=>c ρ M (λb M1=>(b=true->t Dn ρ M1)/\(b=false->u Dn ρ M1)) Dn.x
def IU(t:DE):DS:=λDn ρ M=>t ρ M Dn.rt Dn.x
def xx(i:Nat)(t:DE):DS:=λDn ρ M=>t ρ M (λd M1=>Dn.nx (ρ.set i (some d)) M1) Dn.x
def DR(t:DE):DS:=λDn ρ M=>t ρ M (λ_ M1=>Dn.nx ρ M1) Dn.x
def NZ(t:DS):DS:=λDn ρ M=>∃J:En->Ms->Prop,t {Dn with nx:=J} ρ M/\∀ρ' M',J ρ' M'->Dn.nx ρ' M'
section
variable{X:Cx}{R:St->XK}{st:Stmt}{aC:List Stmt}{t u:DS}{e:Expr}{te:DE}{pos:Pos}
def τ:xE X R [] Ea:=.of BP λσ H G L ρ M Dn rl n h hx=>⟨ρ,G,L,M,.refl _ _ _,rl,n,h⟩
def η(h1:JS X R st t):xE X R [st] t:=CH h1
def ε(h1:JS X R st t)(h2:xE X R aC u):xE X R (st::aC) (Jk t u):=.of (z_ h1 h2) λσ H G L ρ M Dn rl n h hx=>by refine⟨G,L,ρ,M,_,rl,n,h,hx,⟨λσ1 H1 xz=>?_,λ_ _ f=>f,λ_ _ f=>f,λ_ _ f=>f⟩⟩;have⟨ρ1,G1,L1,M1,e1,r1,n1,h1⟩:=xz;exact⟨G1,L1,ρ1,M1,Dn,r1,n1,h1,hx.on e1,qI.back e1⟩
def ο(he:JE X R e te):JS X R (.Return (some e) pos) (IU te):=.of (FR he) λσ H G L ρ M Dn rl n h hx=>⟨G,L,ρ,M,_,_,rl,n,h,hx,λ_ _ f=>f⟩
def iU(he:JE X R e te)(hs:swapsWith e none pos.line X.env=pure false:=by rfl):JS X R (.Expr e pos) (DR te):=.of (BD he hs) λσ H G L ρ M Dn rl n h hx=>by refine⟨G,L,ρ,M,_,_,rl,n,h,hx,λv H1 ⟨d1,G1,L1,M1,e1,r1,n1,h1⟩=>⟨ρ,G1,L1,M1,e1,r1,n.mono e1,h1⟩⟩
def Ε{c:Expr}{a b:List Stmt}{tc:DT}(hc:JT X R c tc)(ha:xE X R a t)(hb:xE X R b u):JS X R (.If c a b pos) (OB tc t u):=.of (IH hc ha hb) λσ H G L ρ M Dn rl n h hx=>by
 refine⟨G,L,ρ,M,_,_,rl,n,h,hx,λc H1 xz=>?_⟩;have⟨G1,L1,M1,e1,r1,h1⟩:=xz;cases c with
 | true=>exact yr ⟨G1,L1,ρ,M1,Dn,r1,n.mono e1,h1.1 rfl,hx.on e1,qI.back e1⟩
 | false=>exact wX ⟨G1,L1,ρ,M1,Dn,r1,n.mono e1,h1.2 rfl,hx.on e1,qI.back e1⟩
def υ(i:Nat){x:Str}{pos':Pos}(hN:X.N.Nodup)(he:JE X R e te)(hi:X.N[i]? =some x:=by rfl)(hx:Loc X.env.scope x:=by first| exact .inl rfl| exact .inr rfl)(hs:swapsWith e (some (.Name x pos')) pos.line X.env=pure false:=by rfl)(hf:X.fn x=true\/X.env.scope.names.lookup x=some .local:=by first| exact .inl rfl| exact .inr rfl| assumption):
  JS X R (.Assign [.Name x pos'] e pos) (xx i te):=.of (Gd hN hi hx he hs hf) λσ H G L ρ M Dn rl n h hx=>by
 refine⟨G,L,ρ,M,_,_,rl,n,h,hx,λv H1 ⟨d1,G1,L1,M1,e1,r1,n1,h1⟩=>⟨_,G1,L1,M1,e1,r1,(n.mono e1).set i n1,h1⟩⟩
def l0(h:JS X R st t):JS X R st (NZ t):=.of h λσ H G L ρ M Dn rl n h hx=>by have⟨J,h1,h2⟩:=h;refine⟨G,L,ρ,M,_,rl,n,h1,hx,⟨λσ1 H1 ⟨ρ1,G1,L1,M1,e1,r1,n1,h1⟩=>⟨ρ1,G1,L1,M1,e1,r1,n1,h2 _ _ h1⟩,λ_ _ f=>f,λ_ _ f=>f,λ_ _ f=>f⟩⟩
end
abbrev LX:=Addr->List (Str×Dt)->Ms->Prop
abbrev DF:=List Dt->Ms->DQ->LX->Prop
inductive cm(K:fI)(T:DF)(vs:List V)(H:Hp)(Q:VK)(E:XK):Prop
 | mk (G:Hp) (L:List Addr) (ds:List Dt) (M:Ms) (q:DQ) (x:LX) (r:Rl K G L M H) (n:Ζ K G L ds vs) (h:T ds M q x) (hQ:∀v H1,Fin K G L H q v H1->Q v H1) (hE:∀C fs M1 G1 L1 H1 od,x C fs M1->Ex G L H G1 L1 H1->Rl K G1 L1 M1 H1->Jw K G1 L1 H1 fs od->E (.ref C) od H1)
def jU(N:List Str)(ds:List Dt):En:=ds.map some++List.replicate (N.length - ds.length) none
def AG{K:fI}{G:Hp}{L:List Addr}{N:List Str}{ds:List Dt}{vs:List V}(h:Ζ K G L ds vs):gZ K G L (jU N ds) (gA N vs):=by
 have hl:=h.length;refine⟨by unfold jU gA;simp[hl],λi d e=>?_⟩;unfold jU at e;unfold gA;by_cases hi:i < ds.length
 ·rw[List.getElem?_append_left (by simpa using hi),List.getElem?_map]at e;rw[List.getElem?_append_left (by simpa [<-hl] using hi),List.getElem?_map];cases q:ds[i]? with
  | none=>rw[q]at e;cases e
  | some d'=>
   rw[q]at e;cases e;have⟨v,e1,h1⟩:=h.get q;exact⟨v,by rw[e1];rfl,h1⟩
 ·rw[List.getElem?_append_right (by simpa using Nat.le_of_not_lt hi),List.getElem?_replicate]at e;split at e <;> cases e
section
variable{P:Program}{w:World}{K:fI}{mg:Str->Option Value}{base:Heap}
def cj.dZ{x qual:Str}{st:Stmt}{f:Addr}{fd:FuncData}{N ps:List Str}{k:Nat}{T:DF}(F:cj K x qual st f fd)(S:χ N ps (ν st))(len:∀ds M q x,T ds M q x->ds.length=ps.length)
  (tm:∀(aW:Value) (A:Around) (outer:List Env) (s:Shared) (H:Hp) (E:XK),bj k (A.deeper (envOfC qual (ν st) s.heap.objs.size f aW))->
   ∃t,xE (iO (bE P w) P w K mg base N qual (ν st) f aW A outer s H E) (λ_=>E) (d_ st) t/\∀ds M q x,T ds M q x->t {nx:=λ_ M'=>q .aR M',rt:=q,x:=λ_=>x} (jU N ds) M):
  Φ P w K mg base (bE P w) (k+1) f fd ps (cm K T):=by
 refine F.Sh S (λvs H Q E h=>?_) (λaW A outer s H vs Q E hr h=>?_)
 ·have⟨G,L,ds,M,q,x,rl,n,hT,_⟩:=h;rw[<-n.length];exact len _ _ _ _ hT
 ·have⟨t,j,ht⟩:=tm aW A outer s H E hr;have⟨G,L,ds,M,q,x,rl,n,hT,hQ,hE⟩:=h;refine⟨_,j,G,L,jU N ds,M,_,rl,AG n,ht ds M q x hT,λσ ρ C fs M' G' L' H' od hx e r _ y=>hE C fs M' G' L' H' od hx e r y,⟨λσ' H' ⟨ρ',G',L',M',e,r,_,h⟩=>hQ _ _ ⟨.aR,G',L',M',e,r,rfl,h⟩,λv H' f=>hQ v H' f,λ_ _ ⟨_,_,_,_,_,_,_,h⟩=>h.elim,λ_ _ ⟨_,_,_,_,_,_,_,h⟩=>h.elim⟩⟩
structure aq(P:Program)(w:World)(K:fI)(mg:Str->Option Value)(base:Heap)(k:Nat)(x:Str)(ps:List Str)(T:DF)(f:Addr)(fd:FuncData):Prop where
 ok:Φ P w K mg base (bE P w) k f fd ps (cm K T)
 b:fJ K fd ps []
 m:mg x=some (.ref f)
 kp:PySem.W.keepIn K (.ref f)=true
end
def lX(T:DF)(t:DA):DE:=λρ M q x=>t ρ M (λds M1=>T ds M1 q (λC fs M'=>x ρ C fs M')) x
section
variable{X:Cx}{R:St->XK}{T:DF}{k k':Nat}{f:Addr}{fd:FuncData}{ps:List Str}{x:Str}{p pos:Pos}{e:Expr}{es:List Expr}{t:DA}
def Ρ(C:aq X.prog X.w X.K X.mg X.base k x ps T f fd)(hr:bj k' X.A)(hx:cE (bE X.prog X.w) X R)(ha:JA X R (e::es) t)(hk:k<=k':=by decide)(hg:Gl X x:=by rfl)(qL:(x==("__debug__":Str))=false:=by decide)
  (he:starEach (e::es) X.env=(false,eval e X.env)::starEach es X.env:=by rfl) (dI:(backTo pos (starEach es X.env)).any (·.1)=false:=by rfl):JE X R (.Call (.Name x p) (e::es) [] pos) (lX T t):=
 .of (As C.ok (hr.mono hk) hg C.m C.kp C.b .nil hx ha qL he dI) λσ H G L ρ M q x rl n h hx=>by refine⟨G,L,ρ,M,_,x,rl,n,h,hx,λvs H1 xz=>?_⟩;have⟨ds,G1,L1,M1,e1,r1,n1,h1⟩:=xz;show cm X.K T (vs++[]) H1 _ _;rw[aa2];exact⟨G1,L1,ds,M1,q,_,r1,n1,h1,λv H' f=>Fin.back e1 f,λC fs M' G' L' H' od hq e' r' y=>hx σ ρ C fs M' G' L' H' od hq (e1.trans e') r' (n.mono (e1.trans e')) y⟩
end
def zU(C:Addr)(t:DA):DS:=λDn ρ M=>t ρ M (λds M1=>ds.length<=sizeLine/\Dn.x ρ C [] M1) Dn.x
section
variable{X:Cx}{R:St->XK}{C:Addr}{t:DA}{Bn newId fj:String}{tH:List Value}{x:Str}{np af pos:Pos}{e:Expr}{es:List Expr}
def bh(hR:vh X R)(F:ExcBaseFacts Bn newId fj tH)(c:jE X.K C tH newId)(hm:X.mg x=some (.ref C))(ha:JA X R (e::es) t)(hc:X.calm=true:=by rfl)(hex:X.ex=[]:=by rfl)(hg:Gl X x:=by rfl)
  (qL:(x==("__debug__":Str))=false:=by decide) (he:starEach (e::es) X.env=(false,eval e X.env)::starEach es X.env:=by rfl) (dI:(backTo af (starEach es X.env)).any (·.1)=false:=by rfl):
  JS X R (.Raise (some (.Call (.Name x np) (e::es) [] af)) none pos) (zU C t):=.of (yW hR hc hex F c hg hm ha qL he dI) λσ H G L ρ M Dn rl n h hx=>by
 refine⟨G,L,ρ,M,_,_,rl,n,h,hx,fun vs H1 ⟨ds,G1,L1,M1,e1,r1,n1,h1⟩=>⟨by rw[<-n1.length];exact h1.1,?_⟩⟩;exact hx σ ρ C [] M1 G1 L1 H1 none h1.2 e1 r1 (n.mono e1) (.inl ⟨rfl,rfl⟩)
end
structure Yl(K:fI)(J:It)(xs:List Dt)(G0:Hp)(L0:List Addr):Prop where
 go:∀(i:Nat) G L M H (d:Dt),bS G0 G->Pre L0 L->Rl K G L M H->xs[i]? =some d->J.go i H/\∀v H',J.Ip i H v H'->∃G',Ex G L H G' L H'/\Rl K G' L M H'/\Den K G' L d v
 stop:∀(i:Nat) G L M H,bS G0 G->Pre L0 L->Rl K G L M H->xs.length<=i->J.stop i H
inductive JB(K:fI)(G0:Hp)(L0:List Addr)(H0:Hp)(q:List Dt->Ms->Prop)(J:It)(H:Hp):Prop
 | mk (xs:List Dt) (G:Hp) (L:List Addr) (M:Ms) (e:Ex G0 L0 H0 G L H) (r:Rl K G L M H) (y:Yl K J xs G L) (h:q xs M)
inductive Mu(K:fI)(R:St->XK)(t:DA)(σ:St)(H:Hp)(Q:It->Hp->Prop):Prop
 | mk (G:Hp) (L:List Addr) (ρ:En) (M:Ms) (q:List Dt->Ms->Prop) (x:DX) (r:Rl K G L M H) (n:gZ K G L ρ σ) (h:t ρ M q x) (hx:ni K G L H R x) (hQ:∀J H1,JB K G L H q J H1->Q J H1)
def JI(X:Cx)(R:St->XK)(tg iter:Expr)(t:DA):Prop:=PI X tg iter (Mu X.K R t)
def CW.imp{X:Cx}{γ:List (Addr×Obj)}{σ:St}{tg:Expr}{R R':It->Hp->Prop}(hR:∀J H,R J H->R' J H){v:Value}{s:Shared}(h:CW X γ σ tg R v s):CW X γ σ tg R' v s:=by have⟨it,fp,tn,J,H',a,b,c,d,e,f⟩:=h;exact⟨it,fp,tn,J,H',a,b,c,d,e,hR J H' f⟩
def lD{K:fI}{G:Hp}{L:List Addr}{a:Addr}{ds:List Dt}{vs:List V}(h:∀G':Hp,bS G G'->d9 K G' a vs)(n:Ζ K G L ds vs):Yl K (Kv K a) ds G L where
 go:=λi G1 L1 M1 H1 d g l r e=>by
  have⟨v,e1,n1⟩:=n.get e;have hs:=h H1 (g.trans r.sub)
  exact⟨⟨vs,v,hs,e1⟩,fun v' H' ⟨eH,y⟩=>by
   subst eH;have e2:=y vs hs;rw[e1]at e2;cases e2
   exact⟨G1,.refl _ _ _,r,Den.mono g l _ _ n1⟩⟩
 stop:=λi G1 L1 M1 H1 g l r e=>⟨vs,h H1 (g.trans r.sub),by rw[<-n.length];exact e⟩
def pM{K:fI}{G:Hp}{L:List Addr}{a:Addr}{ds:List Dt}{vs:List V}(h:∀G':Hp,bS G G'->iR K G' a vs)(n:Ζ K G L ds vs):Yl K (Lf K a) ds G L where
 go:=λi G1 L1 M1 H1 d g l r e=>by
  have⟨v,e1,n1⟩:=n.get e;have hs:=h H1 (g.trans r.sub)
  exact⟨⟨vs,v,hs,e1⟩,fun v' H' ⟨eH,y⟩=>by
   subst eH;have e2:=y vs hs;rw[e1]at e2;cases e2
   exact⟨G1,.refl _ _ _,r,Den.mono g l _ _ n1⟩⟩
 stop:=λi G1 L1 M1 H1 g l r e=>⟨vs,h H1 (g.trans r.sub),by rw[<-n.length];exact e⟩
def d4(lo:Int)(n:Nat):List Dt:=(List.range n).map λk:Nat=>Dt.int (lo+(k:Int))
def EW{K:fI}{G:Hp}{L:List Addr}{lo:Int}{n:Nat}:Yl K (Ko lo n) (d4 lo n) G L where
 go :=λi G1 L1 M1 H1 d g l r e=>by
  unfold d4 at e;rw[aaB]at e;have hi:i < n:=by
   cases q:(List.range n)[i]? with
   | none=>rw[q]at e;cases e
   | some j=>
    have:=(aai.mp q).1;rwa[List.length_range]at this
  rw[List.getElem?_range hi]at e;cases e;exact⟨hi,λv' H' ⟨eH,y⟩=>by subst eH y;exact⟨G1,.refl _ _ _,r,rfl⟩⟩
 stop:=λi G1 L1 M1 H1 g l r e=>by show n<=i;unfold d4 at e;simpa using e
section
variable{X:Cx}{R:St->XK}{tg iter:Expr}
def JI.of{wi:TI}{t:DA}(h:PI X tg iter wi)(hw:∀σ H G L ρ M q x,Rl X.K G L M H->gZ X.K G L ρ σ->t ρ M q x->ni X.K G L H R x->wi σ H (JB X.K G L H q)):JI X R tg iter t:=by intro γ s σ H Q I ⟨G,L,ρ,M,q,x,r,n,ht,hx,hQ⟩;exact ba (h γ s σ H _ I (hw σ H G L ρ M q x r n ht hx)) λu s1 f=>ba f λu2 s2 f2=>CW.imp hQ f2
def A1(t:DA):DA:=λρ M q x=>t ρ M (λds M1=>match ds with
 | [.int j]=>(-(2 ^ 62)<=j/\j < 2 ^ 62)/\q (d4 0 j.toNat) M1
 | _=>False) x
def bz{a:Expr}{t:DA}{p pos:Pos}(hm:X.mg "range"=none)(ha:JA X R [a] t)(hg:Gl X "range":=by rfl)(hs:starEach [a] X.env=[(false,eval a X.env)]:=by rfl):JI X R tg (.Call (.Name "range" p) [a] [] pos) (A1 t):=
 .of (x_ hg hm ha hs) λσ H G L ρ M q x rl n h hx=>by
  refine⟨G,L,ρ,M,_,x,rl,n,h,hx,λvs H1 xz=>?_⟩;have⟨ds,G1,L1,M1,e1,r1,n1,h1⟩:=xz
  (try dsimp only at h1)
  split at h1
  ·rename_i j;have⟨v,rfl,n2⟩:=ai n1;have n2:v= .int j:=n2;subst n2;exact⟨j,rfl,h1.1.1,h1.1.2,_,G1,L1,M1,e1,r1,EW,h1.2⟩
  ·exact h1.elim
end
def GD(K:fI)(gg:TG)(g:Dt->En->(En->Prop)->Prop):Prop:=
 ∀G L M H d v ρ σ (k:En->Prop) (Q:St->Hp->Prop),Rl K G L M H->Den K G L d v->gZ K G L ρ σ->g d ρ k->(∀ρ' σ',gZ K G L ρ' σ'->k ρ'->Q σ' H)->gg v σ H Q
def gN(i:Nat):Dt->En->(En->Prop)->Prop:=λd ρ k=>k (ρ.set i (some d))
def cD{K:fI}{i:Nat}:GD K (eX i) (gN i):=λG L M H d v ρ σ k Q rl n en h hQ=>hQ _ _ (en.set i n) h
def g2(i j:Nat):Dt->En->(En->Prop)->Prop:=λd ρ k=>match d with
 | .tup [a,b]=>k ((ρ.set i (some a)).set j (some b))
 | _=>False
def ve{K:fI}{i j:Nat}:GD K (z5 K 2 (i6 (eX i) (i6 (eX j) yX))) (g2 i j):=λG L M H d v ρ σ k Q rl n en h hQ=>by
 unfold g2 at h;split at h
 ·rename_i a b;have⟨p,vs,rfl,e,n⟩:=n;have⟨v1,v2,rfl,n1,n2⟩:=dD n;exact⟨p,_,rfl,.inl (.inl (rl.sub _ _ e)),rfl,v1,_,rfl,v2,_,rfl,rfl,hQ _ _ ((en.set i n1).set j n2) h⟩
 ·exact h.elim
def nG(g:Dt->En->(En->Prop)->Prop)(tb:DS)(Dn:kO):List Dt->En->Ms->Prop
 | [],ρ,M=>Dn.nx ρ M
 | x::xs,ρ,M=>g x ρ λρ'=>tb {Dn with nx:=nG g tb Dn xs,ct:=nG g tb Dn xs,bk:=Dn.nx} ρ' M
def HL(ti:DA)(g:Dt->En->(En->Prop)->Prop)(tb:DS):DS:=λDn ρ M=>ti ρ M (λxs M1=>nG g tb Dn xs ρ M1) Dn.x
section
variable{X:Cx}{R:St->XK}{tg iter:Expr}{body:List Stmt}{ti:DA}{gg:TG}{g:Dt->En->(En->Prop)->Prop}{tb:DS}{pos:Pos}
def uW(hi:JI X R tg iter ti)(hg:PG X tg gg)(gd:GD X.K gg g)(hb:xE X R body tb)(hp:PassesOwn (model X.prog X.w) X.A X.env X.xe:=by first| exact PassesOwn.never| exact PassesOwn.leaving)(hc:X.calm=true:=by rfl)(hs:∀x,foldedSetIterable iter X.env x=pure x:=by intro _;rfl):
  JS X R (.For tg iter body [] pos) (HL ti g tb):=.of (Bd hp hc hi hg hb hs) λσ H G L ρ M Dn rl n h hx=>by
 refine⟨G,L,ρ,M,_,_,rl,n,h,hx,λJ H1 xz=>?_⟩;have⟨xs,G1,L1,M1,e1,r1,y,h1⟩:=xz;refine⟨λi m σ' H'=>m+i=xs.length/\cX X.K G1 L1 H1 (λρ' M'=>nG g tb Dn (xs.drop i) ρ' M') σ' H',⟨xs.length,rfl,ρ,G1,L1,M1,.refl _ _ _,r1,n.mono e1,by rw[List.drop_zero];exact h1⟩,?_⟩;rintro i m σ' H' ⟨hm,ρ',G',L',M',e',r',n',h'⟩;by_cases hi:i < xs.length
 ·right;have hd:xs[i]? =some xs[i]:=aaa hi;have⟨go,yl⟩:=y.go i G' L' M' H' _ e'.g e'.l r' hd;rw[abt hi]at h';refine⟨go,cX X.K G1 L1 H1 (λρ' M'=>nG g tb Dn (xs.drop (i+1)) ρ' M'),λσ2 H2 f=>⟨m - 1,(),(),f⟩,λv H2 hy=>?_⟩;have⟨G2,e2,r2,n2⟩:=yl v H2 hy;refine gd G2 L' M' H2 _ v ρ' σ' _ _ r2 n2 (n'.mono e2) h' λρ3 σ3 n3 h3=>?_;refine⟨G2,L',ρ3,M',_,r2,n3,h3,hx.on (e1.trans (e'.trans e2)),⟨λ_ _ f=>cX.back (e'.trans e2) f,λ_ _ f=>Fin.back (e1.trans (e'.trans e2)) f,λ_ _ f=>cX.back (e1.trans (e'.trans e2)) f,λ_ _ f=>cX.back (e'.trans e2) f⟩⟩
 ·left;refine⟨y.stop i G' L' M' H' e'.g e'.l r' (),ρ',G',L',M',e1.trans e',r',n',?_⟩;rw[List.drop_eq_nil_of_le ()]at h';exact h'
end
abbrev DK:=En->Ms->(List Dt->(Ms->Prop)->Ms->Prop)->DX->Prop
structure FN(K:fI)(J:It)(xs:List Dt)(ok:Ms->Prop)(G0:Hp)(L0:List Addr):Prop where
 go:∀(i:Nat) G L M H (d:Dt),bS G0 G->Pre L0 L->Rl K G L M H->ok M->xs[i]? =some d->J.go i H/\∀v H',J.Ip i H v H'->∃G',Ex G L H G' L H'/\Rl K G' L M H'/\Den K G' L d v
 stop:∀(i:Nat) G L M H,bS G0 G->Pre L0 L->Rl K G L M H->ok M->xs.length<=i->J.stop i H
inductive Lo(K:fI)(G0:Hp)(L0:List Addr)(H0:Hp)(q:List Dt->(Ms->Prop)->Ms->Prop)(J:It)(H:Hp):Prop
 | mk (xs:List Dt) (ok:Ms->Prop) (G:Hp) (L:List Addr) (M:Ms) (e:Ex G0 L0 H0 G L H) (r:Rl K G L M H) (y:FN K J xs ok G L) (h:q xs ok M)
inductive LD(K:fI)(R:St->XK)(t:DK)(σ:St)(H:Hp)(Q:It->Hp->Prop):Prop
 | mk (G:Hp) (L:List Addr) (ρ:En) (M:Ms) (q:List Dt->(Ms->Prop)->Ms->Prop) (x:DX) (r:Rl K G L M H) (n:gZ K G L ρ σ) (h:t ρ M q x) (hx:ni K G L H R x) (hQ:∀J H1,Lo K G L H q J H1->Q J H1)
def JK(X:Cx)(R:St->XK)(tg iter:Expr)(t:DK):Prop:=PI X tg iter (LD X.K R t)
def OU(t:DA):DK:=λρ M q x=>t ρ M (λxs M1=>q xs (λ_=>True) M1) x
def Ae{X:Cx}{R:St->XK}{tg iter:Expr}{t:DA}(h:JI X R tg iter t):JK X R tg iter (OU t):=by intro γ s σ H Q I ⟨G,L,ρ,M,q,x,r,n,ht,hx,hQ⟩;refine h γ s σ H Q I ⟨G,L,ρ,M,_,x,r,n,ht,hx,λJ H1 ⟨xs,G1,L1,M1,e1,r1,y,hq⟩=>hQ J H1 ⟨xs,_,G1,L1,M1,e1,r1,⟨λi G L M H d g l r _ e=>y.go i G L M H d g l r e,λi G L M H g l r _ e=>y.stop i G L M H g l r e⟩,hq⟩⟩
def kg(Α:List Nat)(ρ:En):En:=Α.map λi=>(ρ[i]?).join
def fU(g:Dt->En->(En->Prop)->Prop)(tc:DT)(te:DE)(ρ0:En)(ok:Ms->Prop):List Dt->List Dt->Ms->(List Dt->Ms->Prop)->Prop
 | [],Μ,M,k=>ok M/\k Μ M
 | x::xs,Μ,M,k=>ok M/\g x ρ0 λρ'=>tc ρ' M (λb M1=>match b with
  | true=>te ρ' M1 (λd M2=>fU g tc te ρ0 ok xs (Μ++[d]) M2 k) gP
  | false=>fU g tc te ρ0 ok xs Μ M1 k) gP
def B8{K:fI}{G:Hp}{L:List Addr}{ρ:En}{σ os:St}{n:Nat}(h:gZ K G L ρ σ)(Α:List Nat)(hl:os.length=n):gZ K G L (List.replicate n none++kg Α ρ) (os++jL Α σ):=by
 have lc:(kg Α ρ).length=(jL Α σ).length:=by unfold kg jL;simp
 refine⟨by rw[aab,aab,aao,hl,lc],λi d' e=>?_⟩;by_cases hi:i < n
 ·rw[aav (by rw[aao];exact hi),List.getElem?_replicate,aaN hi]at e;cases e
 ·rw[aaD (by rw[aao];omega),aao]at e;rw[aaD (),hl];unfold kg at e;unfold jL;rw[aaB]at e⊢;cases q:Α[i - n]? with
  | none=>rw[q]at e;cases e
  | some j=>
   rw[q]at e;have e:(ρ[j]?).join=some d':=aan e;have e:ρ[j]? =some (some d'):=by
    cases z:ρ[j]? with
    | none=>rw[z]at e;cases e
    | some o=>rw[z]at e;exact aaX some e
   have⟨v,hv,dn⟩:=h.gv j d' e;exact⟨v,by show some ((σ[j]?).join)=_;rw[hv];rfl,dn⟩
def rM{K:fI}{J:It}{gg:TG}{g:Dt->En->(En->Prop)->Prop}{tc:DT}{te:DE}{Α:List Nat}{nn:Nat}{ρ:En}{σ:St}{G1:Hp}{L1:List Addr}{M1:Ms}{H1:Hp}{xs:List Dt}{ok:Ms->Prop}{Dl:Addr}{Q:VK}{k:List Dt->Ms->Prop}(gd:GD K gg g)(r1:Rl K G1 L1 M1 H1)(n:gZ K G1 L1 ρ σ)(y:FN K J xs ok G1 L1)(hD:H1 Dl=none)(hz:xs.length<=sizeLine)
  (h:fU g tc te (List.replicate nn none++kg Α ρ) ok xs [] M1 k)
  (fin:∀G2 L2 M2 H2 ds vs,Ex G1 L1 H1 G2 L2 H2->Rl K G2 L2 M2 H2->G2 Dl=none->Dl∉L2->H2 Dl=some (.lst vs)->Ζ K G2 L2 ds vs->k ds M2->Q (.ref Dl) H2):
  uh J nn gg (xJ K (λ_=>E0) tc) (nu K (λ_=>E0) te) (jL Α σ) Q H1 Dl:=by
 refine⟨λi m ys H2=>m+i=xs.length/\H2 Dl=some (.lst ys)/\∃Μ G2 L2 M2,Ex G1 L1 H1 G2 L2 H2/\Rl K G2 L2 M2 H2/\G2 Dl=none/\Dl∉L2/\Ζ K G2 L2 Μ ys/\Μ.length<=i/\fU g tc te (List.replicate nn none++kg Α ρ) ok (xs.drop i) Μ M2 k,⟨xs.length,rfl,Ω,[],G1,L1,M1,?_⟩,?_⟩
 ·have gn:G1 Dl=none:=r1.sub.free hD;refine⟨⟨.refl _,.refl _,λ_ h _=>h,λb u h1 _=>by rw[ω (λz=>by rw[z,hD]at h1;cases h1)];exact h1,λ_ h=>.inl h,λb h=>by rw[ω (λz=>h (by rw[z];exact hD))];exact h⟩,⟨λb u e=>by rw[ω (λz=>by rw[z,gn]at e;cases e)];exact r1.sub b u e,r1.len,r1.nd,λi a m h1 h2=>?_⟩,gn,r1.Jy hD,rfl,aaj _,by rw[List.drop_zero];exact h⟩;have⟨q1,q2⟩:=r1.gv i a m h1 h2;exact⟨q1,q2.mono (.refl _) (.refl _) (ω λz=>q2.there (by rw[z];exact hD))⟩
 ·rintro i m ys H2 ⟨hm,Ag,Μ,G2,L2,M2,e2,r2,g2,l2,n2,la,h2⟩;refine⟨Ag,?_⟩;have ne1:∀{b:Addr} {u:HO},H1 b=some u->b≠Dl:=λe z=>by rw[z,hD]at e;cases e
  by_cases hi:i < xs.length
  ·right;have hd:xs[i]? =some xs[i]:=aaa hi;rw[abt hi]at h2;have⟨aE,h2⟩:=h2;have⟨go,yl⟩:=y.go i G2 L2 M2 H2 _ e2.g e2.l r2 aE hd;refine⟨go,λv H3 hy os FL=>?_⟩;have⟨G3,e3,r3,n3⟩:=yl v H3 hy;have h3:H3 Dl=some (.lst ys):=e3.out _ _ Ag l2;have g3:G3 Dl=none:=e3.fr _ g2 (by rw[Ag];simp);refine gd G3 L2 M2 H3 _ v _ _ _ _ r3 n3 (B8 ((n.mono e2).mono e3) Α FL) h2 λρ' σ' n' h'=>?_;refine⟨G3,L2,ρ',M2,_,gP,r3,n',h',A7,λb H4 xz=>?_⟩;have⟨G4,L4,M4,e4,r4,h4⟩:=xz;have Ky:H4 Dl=some (.lst ys):=e4.out _ _ h3 l2;have g4:G4 Dl=none:=e4.fr _ g3 (by rw[h3];simp);have l4:Dl∉L4:=λz=>(e4.new _ z).elim l2 λq=>by rw[h3]at q;cases q
   have KI:=e3.trans e4;cases b with
   | false=>
    exact⟨m - 1,(),(),Ky,Μ,G4,L4,M4,e2.trans KI,r4,g4,l4,Ζ.mono KI.g KI.l _ _ n2,(),h4⟩
   | true=>
    refine⟨G4,L4,ρ',M4,_,gP,r4,n'.mono e4,h4,A7,λv5 H5 xz=>?_⟩;have⟨d5,G5,L5,M5,e5,r5,n5,h5⟩:=xz;have R3:H5 Dl=some (.lst ys):=e5.out _ _ Ky l4;have g5:G5 Dl=none:=e5.fr _ g4 (by rw[Ky];simp);have l5:Dl∉L5:=λz=>(e5.new _ z).elim l4 λq=>by rw[Ky]at q;cases q
    have Mn:=KI.trans e5;have O3:ys.length=Μ.length:=by rw[<-n2.length]
    refine⟨R3,(),m - 1,(),(),Ω,Μ++[d5],G5,L5,M5,?_,?_,g5,l5,(Ζ.mono Mn.g Mn.l _ _ n2).app ⟨_,_,rfl,n5,rfl⟩,by rw[aab];show Μ.length+1<=i+1;omega,h5⟩
    ·have Ha:=e2.trans Mn
     exact⟨Ha.g,Ha.l,Ha.fr,λb u h1 h2=>by rw[ω (ne1 h1)];exact Ha.out b u h1 h2,Ha.new,λb h=>by
      by_cases hb:b=Dl
      ·rw[hb,Ω];simp
      ·rw[ω hb];exact Ha.yA b h⟩
    ·refine⟨λb u e=>by rw[ω (λz=>by rw[z,g5]at e;cases e)];exact r5.sub b u e,r5.len,r5.nd,λi a m h1 h2=>?_⟩;have⟨q1,q2⟩:=r5.gv i a m h1 h2;exact⟨q1,q2.mono (.refl _) (.refl _) (ω λz=>l5 (by rw[<-z];exact aaJ h1))⟩
  ·left;rw[List.drop_eq_nil_of_le ()]at h2;exact⟨y.stop i G2 L2 M2 H2 e2.g e2.l r2 h2.1 (),fin G2 L2 M2 H2 Μ ys e2 r2 g2 l2 Ag n2 h2.2⟩
section
variable{K:fI}{G1:Hp}{L1:List Addr}{H1 G:Hp}{L:List Addr}{M:Ms}{H:Hp}{p:Addr}{ds:List Dt}{vs:List V}{q:DQ}
def CC(e:Ex G1 L1 H1 G L H)(r:Rl K G L M H)(D9:H1 p=none)(hg:G p=none)(hl:p∉L)(h:H p=some (.lst vs))(n:Ζ K G L ds vs)(k:q (.lst ds) M):Fin K G1 L1 H1 q (.ref p) H:=by
 have g1:bS G (upd G p (.lst vs)):=λb u e=>by rw[ω (λz=>by rw[z,hg]at e;cases e)];exact e
 refine⟨.lst ds,upd G p (.lst vs),L,M,⟨e.g.trans g1,e.l,λb h1 h2=>?_,e.out,e.new,e.yA⟩,⟨λb u e=>?_,r.len,r.nd,λk a m h1 h2=>?_⟩,⟨p,vs,rfl,Ω,Ζ.mono g1 (.refl _) _ _ n⟩,k⟩
 ·rw[ω (λz=>h2 (by rw[z];exact D9))];exact e.fr b h1 h2
 ·by_cases hb:b=p
  ·rw[hb,Ω]at e;rw[hb];cases e;exact h
  ·rw[ω hb]at e;exact r.sub b u e
 ·have⟨q1,q2⟩:=r.gv k a m h1 h2;have hb:a≠p:=λz=>hl (by rw[<-z];exact aaJ h1);exact⟨by rw[ω hb];exact q1,q2.mono g1 (.refl _) rfl⟩
def Dj(e:Ex G1 L1 H1 G L H)(r:Rl K G L M H)(D9:H1 p=none)(hg:G p=none)(hl:p∉L)(h:H p=some (.lst vs))(n:Ζ K G L ds vs)(k:q (.loc M.length) (M++[.lst ds])):Fin K G1 L1 H1 q (.ref p) H:=by
 refine⟨.loc M.length,G,L++[p],M++[.lst ds],⟨e.g,e.l.trans ⟨[p],rfl⟩,e.fr,e.out,λb hb=>?_,e.yA⟩,⟨r.sub,by rw[List.length_append,List.length_append,r.len];rfl,List.nodup_append.mpr ⟨r.nd,by simp,λa ha b hb=>?_⟩,λk a m h1 h2=>?_⟩,⟨p,rfl,by rw[<-r.len,List.getElem?_append_right (Nat.le_refl _)];simp⟩,k⟩
 ·rcases aaI.mp hb with z| z
  ·exact e.new b z
  ·have e:b=p:=by simpa using z
   right;rw[e];exact D9
 ·have e:b=p:=by simpa using hb
  rw[e];exactλz=>hl (z▸ha)
 ·by_cases hk:k < L.length
  ·rw[aav hk]at h1;rw[aav (by rw[<-r.len];exact hk)]at h2;have⟨q1,q2⟩:=r.gv k a m h1 h2;exact⟨q1,q2.mono (.refl _) ⟨[p],rfl⟩ rfl⟩
  ·have e:k=L.length:=by have:=(aai.mp h1).1;rw[aab]at this;simp at this;omega
   rw[e,aaD (aaj _)]at h1;rw[e,r.len,aaD (aaj _)]at h2;simp at h1 h2;subst h1 h2;exact⟨hg,vs,h,Ζ.mono (.refl _) ⟨[p],rfl⟩ _ _ n⟩
def J_(b:Bool)(q:DQ)(ys:List Dt)(M:Ms):Prop:=match b with
 | false=>q (.lst ys) M
 | true=>q (.loc M.length) (M++[.lst ys])
def vS{b:Bool}(e:Ex G1 L1 H1 G L H)(r:Rl K G L M H)(D9:H1 p=none)(hg:G p=none)(hl:p∉L)(h:H p=some (.lst vs))(n:Ζ K G L ds vs)(k:J_ b q ds M):Fin K G1 L1 H1 q (.ref p) H:=by
 cases b
 ·exact CC e r D9 hg hl h n k
 ·exact Dj e r D9 hg hl h n k
end
def cz{n i:Nat}(h:i < n):o7 n (eX i):=λv os cs H Q hl hq=>⟨⟨os.set i (some v),by rw[aa6];exact hl,List.set_append_left _ _ ()⟩,hq⟩
def xh{K:fI}{n i j:Nat}(h:i < n)(h':j < n):o7 n (z5 K 2 (i6 (eX i) (i6 (eX j) yX))):=
 fun v os cs H Q hl ⟨a,xs,e,s,l,v1,r,e1,v2,r2,e2,e3,q⟩=>⟨a,xs,e,s,l,v1,r,e1,v2,r2,e2,e3,⟨(os.set i (some v1)).set j (some v2),by simp[hl],by
  rw[List.set_append_left _ _ (),List.set_append_left _ _ (by rw[aa6];omega)]⟩,q⟩
section
variable{X:Cx}{elt iter tg:Expr}{xs:List Str}{scope:Scope}{pos:Pos}{ys:List Str}{Α:List Nat}
def cM{i:Nat}{x:Str}{px:Pos}(S:Θ X scope xs ys Α)(h:xs[i]? =some x)(C:Addr)(s:Shared)(H:Hp)(fp:List Addr):PG (Cx.comp X (xs++ys) scope C s H fp) (.Name x px) (eX i):=by
 have hm:x∈xs:=aaJ h;have hi:(xs++ys)[i]? =some x:=by rw[aav (aai.mp h).1];exact h
 exact cb S.nd hi (.inl (lookup_relabel_local (S.own x hm))) (.inr (lookup_relabel_local (S.own x hm)))
def Cs{x y:Str}{px py:Pos}{k:Nat}(hc:X.calm=true)(S:Θ X scope [x,y] ys Α)(C:Addr)(s:Shared)(H:Hp)(fp:List Addr):PG (Cx.comp X ([x,y]++ys) scope C s H fp) (.Tuple [.Name x px,.Name y py] k pos) (z5 X.K 2 (i6 (eX 0) (i6 (eX 1) yX))):=
 qM (X:=Cx.comp X ([x,y]++ys) scope C s H fp) hc (cK (cM S (i:=0) rfl C s H fp) (cK (cM S (i:=1) rfl C s H fp) k9))
end
def m_:DT:=λ_ M q _=>q true M
def OI(X:Cx)(cs:List Expr)(t:DT):Prop:=Kc X cs (xJ X.K (λ_=>E0) t)
def fq{X:Cx}:OI X [] m_:=⟨.inl rfl,λγ s σ H Q I ⟨G,L,ρ,M,q,x,r,n,h,hx,hQ⟩=>aaz ⟨H,I,hQ true H ⟨G,L,M,.refl _ _ _,r,h⟩⟩⟩
def Eh(b:Bool)(g:Dt->En->(En->Prop)->Prop)(tc:DT)(te:DE)(cs:En)(q:DQ):List Dt->(Ms->Prop)->Ms->Prop:=λzs ok M1=>zs.length<=sizeLine/\fU g tc te cs ok zs [] M1 (J_ b q)
section
variable{X:Cx}{R:St->XK}{elt iter tg:Expr}{cs:List Expr}{xs:List Str}{scope:Scope}{pos:Pos}{gg:TG}{g:Dt->En->(En->Prop)->Prop}{ti:DK}{tc:DT}{te:DE}{ys:List Str}{Α:List Nat}(b:Bool)(S:Θ X scope xs ys Α)(hi:JK X R tg iter ti)(hg:∀C s H fp,PG (Cx.comp X (xs++ys) scope C s H fp) tg gg)(gd:GD X.K gg g)(hk:o7 xs.length gg)(ht:∀C s H fp,OI (Cx.comp X (xs++ys) scope C s H fp) cs tc)(he:∀C s H fp,JE (Cx.comp X (xs++ys) scope C s H fp) (λ_=>E0) elt te)(hc:X.calm=true)(hs:∀x,foldedSetIterable iter X.env x=pure x)
include S hi hg gd hk ht he hc hs
def Kg{t:DE}(e:∀ρ M q x,t ρ M q x->ti ρ M (Eh b g tc te (List.replicate xs.length none++kg Α ρ) q) x):JE X R (.ListComp elt [⟨tg,iter,cs,0⟩] scope pos) t:=
 .of (Ar (tc:=xJ X.K (λ_=>E0) tc) (te:=nu X.K (λ_=>E0) te) S hc hi hg hk ht he hs) λσ H G L ρ M q x rl n h hx=>⟨G,L,ρ,M,_,x,rl,n,e _ _ _ _ h,hx,λJ H1 ⟨xs,ok,G1,L1,M1,e1,r1,y,hz,h1⟩ D hD=>rM gd r1 (n.mono e1) y hD hz h1 λG2 L2 M2 H2 ds vs e2 r2 g2 l2 h2 n2 k=>Fin.back e1 (vS e2 r2 hD g2 l2 h2 n2 k)⟩
def LP{i:Nat}{y:Str}{py je:Pos}(hN:X.N.Nodup)(Cv:X.N[i]? =some y)(hy:Loc X.env.scope y)(Dm:swapsWith (.ListComp elt [⟨tg,iter,cs,0⟩] scope pos) (some (.Name y py)) je.line X.env=pure true)(hf:X.fn y=true\/X.env.scope.names.lookup y=some .local){t:DE}(e:∀ρ M q x,t ρ M q x->ti ρ M (Eh b g tc te (List.replicate xs.length none++kg Α ρ) q) x):
  JS X R (.Assign [.Name y py] (.ListComp elt [⟨tg,iter,cs,0⟩] scope pos) je) (xx i t):=.of (sW (tc:=xJ X.K (λ_=>E0) tc) (te:=nu X.K (λ_=>E0) te) hN Cv hy S hc hi hg hk ht he Dm hs hf) λσ H G L ρ M Dn rl n h hx=>by
 refine⟨G,L,ρ,M,_,_,rl,n,e _ _ _ _ h,hx,fun J H1 ⟨xs,ok,G1,L1,M1,e1,r1,y,hz,h1⟩ D hD=>rM gd r1 (n.mono e1) y hD hz h1 λG2 L2 M2 H2 ds vs e2 r2 g2 l2 h2 n2 k=>?_⟩;have⟨d,G3,L3,M3,e3,r3,n3,h3⟩:=vS (q:=λd M=>Dn.nx (ρ.set i (some d)) M) e2 r2 hD g2 l2 h2 n2 k;exact⟨_,G3,L3,M3,e1.trans e3,r3,((n.mono e1).mono e3).set i n3,h3⟩
end
def mP(te:DE)(cs:En):List Dt->List Dt->Ms->(List Dt->Ms->Prop)->Prop
 | [],Μ,M,k=>k Μ M
 | x::xs,Μ,M,k=>te (some x::cs) M (λd M1=>mP te cs xs (Μ++[d]) M1 k) gP
def vN(ti:DA)(te:DE)(Α:List Nat):DE:=λρ M q x=>ti ρ M (λxs M1=>xs.length<=sizeLine/\mP te (kg Α ρ) xs [] M1 (λys M2=>q (.lst ys) M2)) x
def AK(ti:DA)(te:DE)(Α:List Nat):DE:=λρ M q x=>ti ρ M (λxs M1=>xs.length<=sizeLine/\mP te (kg Α ρ) xs [] M1 (λys M2=>q (.loc M2.length) (M2++[.lst ys]))) x
def qF{te:DE}{cs:En}:∀xs,mP te cs xs=fU (gN 0) m_ te (none::cs) (λ_=>True) xs
 | []=>funext λΜ=>funext λM=>funext λk=>(true_and _).symm
 | x::xs=>funext λΜ=>funext λM=>funext λk=>by show te (some x::cs) M (λd M1=>mP te cs xs (Μ++[d]) M1 k) gP=(True/\te (some x::cs) M (λd M1=>fU (gN 0) m_ te (none::cs) (λ_=>True) xs (Μ++[d]) M1 k) gP);rw[qF xs,true_and]
section
variable{X:Cx}{R:St->XK}{elt iter:Expr}{x:Str}{px:Pos}{scope:Scope}{pos:Pos}{ti:DA}{te:DE}{ys:List Str}{Α:List Nat}
def gq(S:Θ X scope [x] ys Α)(hi:JI X R (.Name x px) iter ti)(he:∀C s H fp,JE (Cx.comp X (x::ys) scope C s H fp) (λ_=>E0) elt te)(hc:X.calm=true:=by rfl)(hs:∀x,foldedSetIterable iter X.env x=pure x:=by intro _;rfl):JE X R (.ListComp elt [⟨.Name x px,iter,[],0⟩] scope pos) (vN ti te Α):=Kg false S (Ae hi) (cM S (i:=0) rfl) cD (cz (Nat.zero_lt_succ 0)) (λ_ _ _ _=>fq) he hc hs λρ M q x h=>by unfold vN at h;simp only[qF]at h;exact h
def B2(S:Θ X scope [x] ys Α)(hi:JI X R (.Name x px) iter ti)(he:∀C s H fp,JE (Cx.comp X (x::ys) scope C s H fp) (λ_=>E0) elt te)(hc:X.calm=true:=by rfl)(hs:∀x,foldedSetIterable iter X.env x=pure x:=by intro _;rfl):JE X R (.ListComp elt [⟨.Name x px,iter,[],0⟩] scope pos) (AK ti te Α):=Kg true S (Ae hi) (cM S (i:=0) rfl) cD (cz (Nat.zero_lt_succ 0)) (λ_ _ _ _=>fq) he hc hs λρ M q x h=>by unfold AK at h;simp only[qF]at h;exact h
end
def fin_same{K:fI}{G0:Hp}{L0:List Addr}{H0 G:Hp}{L:List Addr}{M:Ms}{H:Hp}{d:Dt}{v:V}{q:DQ}(e:Ex G0 L0 H0 G L H)(r:Rl K G L M H)(n:Den K G L d v)(h:q d M):Fin K G0 L0 H0 q v H:=⟨d,G,L,M,e,r,n,h⟩
def ag{K:fI}{G0:Hp}{L0:List Addr}{H0 G:Hp}{L:List Addr}{M:Ms}{H:Hp}{d:Dt}{v:V}{q:DQ}(e:Ex G0 L0 H0 G L H)(r:Rl K G L M H)(h:q d M)(n:Den K G L d v:=by rfl):Fin K G0 L0 H0 q v H:=⟨d,G,L,M,e,r,n,h⟩
def kZ:Dt->Dt->Ms->DQ->Prop
 | .int i,.int j,M,q=>q (.int (i+j)) M
 | .str a,.str b,M,q=>a.length+b.length<=sizeLine/\q (.str (a++b)) M
 | .lst a,.lst b,M,q=>a.length+b.length<=sizeLine/\q (.lst (a++b)) M
 | .tup a,.tup b,M,q=>(a≠[]/\a.length+b.length<=sizeLine)/\q (.tup (a++b)) M
 | _,_,_,_=>False
def Gx:Dt->Dt->Ms->DQ->Prop
 | .int i,.int j,M,q=>q (.int (i - j)) M
 | _,_,_,_=>False
def FD:Dt->Dt->Ms->DQ->Prop
 | .int i,.int j,M,q=>(g8 i/\g8 j)/\q (.int (i * j)) M
 | .lst a,.int k,M,q=>(-(2 ^ 63)<=k/\k < 2 ^ 63/\a.length * k.toNat<=sizeLine)/\q (.lst (List.replicate k.toNat a).flatten) M
 | _,_,_,_=>False
def Cg:Dt->Dt->Ms->DQ->Prop
 | .int i,.int j,M,q=>(0 < j/\g8 j)/\q (.int (i / j)) M
 | _,_,_,_=>False
def Be:Dt->Dt->Ms->DQ->Prop
 | .int i,.int j,M,q=>(j≠0/\g8 j)/\q (.int (i.fdiv j)) M
 | _,_,_,_=>False
def BG:Dt->Dt->Ms->DQ->Prop
 | .int i,.int j,M,q=>0 < j/\q (.int (i % j)) M
 | _,_,_,_=>False
def Fi:Dt->Dt->Ms->DQ->Prop
 | .int i,.int j,M,q=>xW i j/\q (.int (i ^ j.toNat)) M
 | _,_,_,_=>False
def Fq:Dt->Ms->DQ->Prop
 | .int i,M,q=>q (.int (-i)) M
 | _,_,_=>False
section
variable{K:fI}
def LV:jD K (λx y H Q=>(∃i j,x=V.int i/\y= .int j/\Q (.int (i+j)) H)\/(∃i j,x=V.str i/\y= .str j/\i.length+j.length<=sizeLine/\Q (.str (i++j)) H)\/Es x y H Q\/DM K x y H Q) kZ:=by
 intro G0 L0 H0 G L M H v1 v2 d1 d2 q e r n1 n2 h;unfold kZ at h;split at h
 ·rename_i i j;exact .inl ⟨i,j,n1,n2,ag e r h⟩
 ·rename_i a b;exact .inr (.inl ⟨a,b,n1,n2,h.1,ag e r h.2⟩)
 ·rename_i a b;have⟨p1,w1,rfl,e1,m1⟩:=n1;have⟨p2,w2,rfl,e2,m2⟩:=n2;refine .inr (.inr (.inl ⟨p1,p2,w1,w2,rfl,rfl,r.sub _ _ e1,r.sub _ _ e2,by rw[<-m1.length,<-m2.length];exact h.1,λp hp=>?_⟩));exact cF e r hp (gF r hp (m1.app m2)) h.2
 ·rename_i a b;have⟨p1,w1,rfl,e1,m1⟩:=n1;have⟨p2,w2,rfl,e2,m2⟩:=n2;have ne:w1≠[]:=λz=>h.1.1 (by have:=m1.length;rw[z]at this;exact abj this);refine .inr (.inr (.inr ⟨p1,p2,w1,w2,rfl,rfl,.inl (.inl (r.sub _ _ e1)),.inl (.inl (r.sub _ _ e2)),ne,by rw[<-m1.length,<-m2.length];exact h.1.2,λz=>?_,λ_ p hp=>?_⟩))
  ·have hb:b=[]:=by have:=m2.length;rw[z]at this;exact abj this
   subst hb;rw[aa2]at h;exact fin_same (d:=.tup a) e r ⟨p1,w1,rfl,e1,m1⟩ h.2
  ·exact cF e r hp (gJ r hp (m1.app m2)) h.2
 ·exact h.elim
def Le:jD K (wU λi j=>.int (i - j)) Gx:=by
 intro G0 L0 H0 G L M H v1 v2 d1 d2 q e r n1 n2 h;unfold Gx at h;split at h
 ·exact⟨_,_,n1,n2,ag e r h⟩
 ·exact h.elim
def MU:jD K (λx y H Q=>(rI (λi j=>g8 i/\g8 j) λi j=>.int (i * j)) x y H Q\/J4 x y H Q) FD:=by
 intro G0 L0 H0 G L M H v1 v2 d1 d2 q e r n1 n2 h;unfold FD at h;split at h
 ·exact .inl ⟨_,_,n1,n2,h.1,ag e r h.2⟩
 ·rename_i a k;have⟨p1,w1,rfl,e1,m1⟩:=n1;refine .inr ⟨p1,k,w1,rfl,n2,r.sub _ _ e1,h.1.1,h.1.2.1,by rw[<-m1.length];exact h.1.2.2,λp hp=>?_⟩;exact cF e r hp (gF r hp (.of (vH m1.pair k.toNat))) h.2
 ·exact h.elim
def MY:jD K (rI (λ_ j=>j≠0/\g8 j) λi j=>.int (i.fdiv j)) Cg:=by
 intro G0 L0 H0 G L M H v1 v2 d1 d2 q e r n1 n2 h;unfold Cg at h;split at h
 ·rename_i i j;have h0:=h.1.1;refine⟨_,_,n1,n2,⟨(),h.1.2⟩,fin_same (d:=.int (i.fdiv j)) e r rfl ?_⟩;rw[abq i (aaM h0)];exact h.2
 ·exact h.elim
def JL:jD K (rI (λ_ j=>j≠0/\g8 j) λi j=>.int (i.fdiv j)) Be:=by
 intro G0 L0 H0 G L M H v1 v2 d1 d2 q e r n1 n2 h;unfold Be at h;split at h
 ·exact⟨_,_,n1,n2,h.1,ag e r h.2⟩
 ·exact h.elim
def MF:jD K (rI (λ_ j=>0 < j) λi j=>.int (i % j)) BG:=by
 intro G0 L0 H0 G L M H v1 v2 d1 d2 q e r n1 n2 h;unfold BG at h;split at h
 ·exact⟨_,_,n1,n2,h.1,ag e r h.2⟩
 ·exact h.elim
def NR:jD K (rI xW λi j=>.int (i ^ j.toNat)) Fi:=by
 intro G0 L0 H0 G L M H v1 v2 d1 d2 q e r n1 n2 h;unfold Fi at h;split at h
 ·exact⟨_,_,n1,n2,h.1,ag e r h.2⟩
 ·exact h.elim
def Nd:NA K (rU λi=>.int (-i)) Fq:=by
 intro G0 L0 H0 G L M H v1 d1 q e r n1 h;unfold Fq at h;split at h
 ·exact⟨_,n1,ag e r h⟩
 ·exact h.elim
end
section
variable{X:Cx}{R:St->XK}{a b c:Expr}{ta tb:DE}{pos:Pos}
def aa(ja:JE X R a ta)(jb:JE X R b tb):JE X R (.BinOp a .Add b pos) (cQ kZ ta tb):=qd (EV.or (ua.or (yN.or BY))) LV ja jb
def r8(ja:JE X R a ta)(jb:JE X R b tb):JE X R (.BinOp a .Sub b pos) (cQ Gx ta tb):=qd Er Le ja jb
def e9(ja:JE X R a ta)(jb:JE X R b tb):JE X R (.BinOp a .Mult b pos) (cQ FD ta tb):=qd (BU.or FF) MU ja jb
def bx(ja:JE X R a ta)(jb:JE X R b tb):JE X R (.BinOp a .FloorDiv b pos) (cQ Cg ta tb):=qd sG MY ja jb
def Ah(ja:JE X R a ta)(jb:JE X R b tb):JE X R (.BinOp a .FloorDiv b pos) (cQ Be ta tb):=qd sG JL ja jb
def ao(ja:JE X R a ta)(jb:JE X R b tb):JE X R (.BinOp a .Mod b pos) (cQ BG ta tb):=qd Gi MF ja jb
def kM(ja:JE X R a ta)(jb:JE X R b tb):JE X R (.BinOp a .Pow b pos) (cQ Fi ta tb):=qd FG NR ja jb
def Ee(ja:JE X R a ta):JE X R (.UnaryOp .USub a pos) (HV Fq ta):=Lr FH Nd ja
end
def Km:Dt->Dt->Ms->DQ->Prop
 | .int i,.int j,M,q=>q (.bl (decide (i < j))) M
 | _,_,_,_=>False
def MJ:Dt->Dt->Ms->DQ->Prop
 | .int i,.int j,M,q=>q (.bl (decide (i<=j))) M
 | _,_,_,_=>False
def Nz:Dt->Dt->Ms->DQ->Prop
 | .int i,.int j,M,q=>q (.bl (decide (j < i))) M
 | _,_,_,_=>False
def LG:Dt->Dt->Ms->DQ->Prop
 | .int i,.int j,M,q=>q (.bl (decide (j<=i))) M
 | _,_,_,_=>False
def rS:Dt->Option V
 | .aR=>some .aR
 | .bl b=>some (.bl b)
 | .int i=>some (.int i)
 | .str x=>some (.str x)
 | _=>none
def dW:List Dt->Option (List V)
 | []=>some []
 | d::ds=>match rS d,dW ds with
  | some v,some vs=>some (v::vs)
  | _,_=>none
section
variable{K:fI}{G:Hp}{L:List Addr}
def mv{d:Dt}{v u:V}(h:rS d=some u)(n:Den K G L d v):v=u/\cU u=true:=by cases d <;> first| (cases h;exact⟨n,rfl⟩)| cases h
def cw:∀{ds:List Dt} {vs us:List V},dW ds=some us->Ζ K G L ds vs->vs=us/\us.all cU=true
 | [],vs,us,h,n=>by cases h;exact⟨n,rfl⟩
 | d::ds,_,us,h,⟨v,r,e,n1,n2⟩=>by
  subst e;unfold dW at h;split at h
  ·rename_i u1 u2 h1 h2;cases h;have⟨a1,a2⟩:=mv h1 n1;have⟨b1,b2⟩:=cw h2 n2;subst a1 b1;exact⟨rfl,by rw[abg,a2,b2];rfl⟩
  ·cases h
end
def CV:Dt->Dt->Ms->DQ->Prop
 | .int i,.int j,M,q=>q (.bl (decide (i=j))) M
 | .str i,.str j,M,q=>q (.bl (decide (i=j))) M
 | .bl i,.bl j,M,q=>q (.bl (decide (i=j))) M
 | .tup a,.tup b,M,q=>match dW a,dW b with
  | some us,some vs=>q (.bl (l6 us vs)) M
  | _,_=>False
 | _,_,_,_=>False
def Fc:Dt->Dt->Ms->DQ->Prop
 | .int i,.int j,M,q=>q (.bl (!decide (i=j))) M
 | .str i,.str j,M,q=>q (.bl (!decide (i=j))) M
 | .bl i,.bl j,M,q=>q (.bl (!decide (i=j))) M
 | .tup a,.tup b,M,q=>match dW a,dW b with
  | some us,some vs=>q (.bl (!l6 us vs)) M
  | _,_=>False
 | _,_,_,_=>False
def Ce:Dt->Dt->Ms->DQ->Prop
 | .aR,.aR,M,q=>q (.bl true) M
 | .bl _,.aR,M,q=>q (.bl false) M
 | .int _,.aR,M,q=>q (.bl false) M
 | .str _,.aR,M,q=>q (.bl false) M
 | .tup _,.aR,M,q=>q (.bl false) M
 | .lst _,.aR,M,q=>q (.bl false) M
 | _,_,_,_=>False
section
variable{K:fI}
def Om:jD K (wU λi j=>.bl (decide (i < j))) Km:=by
 intro G0 L0 H0 G L M H v1 v2 d1 d2 q e r n1 n2 h;unfold Km at h;split at h
 ·exact⟨_,_,n1,n2,ag e r h⟩
 ·exact h.elim
def Ti:jD K (wU λi j=>.bl (decide (i<=j))) MJ:=by
 intro G0 L0 H0 G L M H v1 v2 d1 d2 q e r n1 n2 h;unfold MJ at h;split at h
 ·exact⟨_,_,n1,n2,ag e r h⟩
 ·exact h.elim
def QJ:jD K (wU λi j=>.bl (decide (j < i))) Nz:=by
 intro G0 L0 H0 G L M H v1 v2 d1 d2 q e r n1 n2 h;unfold Nz at h;split at h
 ·exact⟨_,_,n1,n2,ag e r h⟩
 ·exact h.elim
def So:jD K (wU λi j=>.bl (decide (j<=i))) LG:=by
 intro G0 L0 H0 G L M H v1 v2 d1 d2 q e r n1 n2 h;unfold LG at h;split at h
 ·exact⟨_,_,n1,n2,ag e r h⟩
 ·exact h.elim
def gH{p q:Prop} [Decidable p] [Decidable q](h:p↔q):decide p=decide q:=decide_eq_decide.mpr h
def IG:jD K (λx y H Q=>OL x y H Q\/HG K x y H Q) CV:=by
 intro G0 L0 H0 G L M H v1 v2 d1 d2 q e r n1 n2 h;unfold CV at h;split at h
 ·rename_i i j;cases n1;cases n2;exact .inl ⟨rfl,fin_same (d:=.bl _) e r (by show V.bl _=V.bl _;rw[gH (p:=V.int i=V.int j) (q:=i=j) ⟨λz=>V.int.inj z,λz=>by rw[z]⟩]) h⟩
 ·rename_i i j;cases n1;cases n2;exact .inl ⟨rfl,fin_same (d:=.bl _) e r (by show V.bl _=V.bl _;rw[gH (p:=V.str i=V.str j) (q:=i=j) ⟨λz=>V.str.inj z,λz=>by rw[z]⟩]) h⟩
 ·rename_i i j;cases n1;cases n2;exact .inl ⟨rfl,fin_same (d:=.bl _) e r (by show V.bl _=V.bl _;rw[gH (p:=V.bl i=V.bl j) (q:=i=j) ⟨λz=>V.bl.inj z,λz=>by rw[z]⟩]) h⟩
 ·rename_i a b;have⟨p1,w1,rfl,e1,m1⟩:=n1;have⟨p2,w2,rfl,e2,m2⟩:=n2;split at h
  ·rename_i us vs h1 h2;have⟨rfl,a2⟩:=cw h1 m1;have⟨rfl,b2⟩:=cw h2 m2;exact .inr ⟨p1,p2,_,_,rfl,rfl,.inl (.inl (r.sub _ _ e1)),.inl (.inl (r.sub _ _ e2)),a2,b2,ag e r h⟩
  ·exact h.elim
 ·exact h.elim
def LL:jD K (λx y H Q=>OG x y H Q\/IY K x y H Q) Fc:=by
 intro G0 L0 H0 G L M H v1 v2 d1 d2 q e r n1 n2 h;unfold Fc at h;split at h
 ·rename_i i j;cases n1;cases n2;exact .inl ⟨rfl,fin_same (d:=.bl _) e r (by show V.bl _=V.bl _;rw[gH (p:=V.int i=V.int j) (q:=i=j) ⟨λz=>V.int.inj z,λz=>by rw[z]⟩]) h⟩
 ·rename_i i j;cases n1;cases n2;exact .inl ⟨rfl,fin_same (d:=.bl _) e r (by show V.bl _=V.bl _;rw[gH (p:=V.str i=V.str j) (q:=i=j) ⟨λz=>V.str.inj z,λz=>by rw[z]⟩]) h⟩
 ·rename_i i j;cases n1;cases n2;exact .inl ⟨rfl,fin_same (d:=.bl _) e r (by show V.bl _=V.bl _;rw[gH (p:=V.bl i=V.bl j) (q:=i=j) ⟨λz=>V.bl.inj z,λz=>by rw[z]⟩]) h⟩
 ·rename_i a b;have⟨p1,w1,rfl,e1,m1⟩:=n1;have⟨p2,w2,rfl,e2,m2⟩:=n2;split at h
  ·rename_i us vs h1 h2;have⟨rfl,a2⟩:=cw h1 m1;have⟨rfl,b2⟩:=cw h2 m2;exact .inr ⟨p1,p2,_,_,rfl,rfl,.inl (.inl (r.sub _ _ e1)),.inl (.inl (r.sub _ _ e2)),a2,b2,ag e r h⟩
  ·exact h.elim
 ·exact h.elim
def Ih:jD K (λx y H Q=>y= .aR/\Q (.bl (decide (x= .aR))) H) Ce:=by
 intro G0 L0 H0 G L M H v1 v2 d1 d2 q e r n1 n2 h;unfold Ce at h;split at h
 ·cases n1;exact⟨n2,fin_same (d:=.bl true) e r (by show V.bl _=V.bl _;rw[aar rfl]) h⟩
 ·cases n1;exact⟨n2,fin_same (d:=.bl false) e r (by show V.bl _=V.bl _;rw[aau nofun]) h⟩
 ·cases n1;exact⟨n2,fin_same (d:=.bl false) e r (by show V.bl _=V.bl _;rw[aau nofun]) h⟩
 ·cases n1;exact⟨n2,fin_same (d:=.bl false) e r (by show V.bl _=V.bl _;rw[aau nofun]) h⟩
 ·have⟨p1,w1,rfl,_⟩:=n1;exact⟨n2,fin_same (d:=.bl false) e r (by show V.bl _=V.bl _;rw[aau nofun]) h⟩
 ·have⟨p1,w1,rfl,_⟩:=n1;exact⟨n2,fin_same (d:=.bl false) e r (by show V.bl _=V.bl _;rw[aau nofun]) h⟩
 ·exact h.elim
end
section
variable{X:Cx}{R:St->XK}{a b c:Expr}{ta tb:DE}{pos:Pos}
def Iu(ja:JE X R a ta)(jb:JE X R b tb):JE X R (.Compare a [.Lt] [b] pos) (cQ Km ta tb):=ot DN Om ja jb (eJ _)
def qe(ja:JE X R a ta)(jb:JE X R b tb):JE X R (.Compare a [.LtE] [b] pos) (cQ MJ ta tb):=ot Hv Ti ja jb (eJ _)
def zA{k:Nat}(hr:bj k X.A)(ja:JE X R a ta)(jb:JE X R b tb):JE X R (.Compare a [.Eq] [b] pos) (cQ CV ta tb):=ot (Ek.or (AE hr.uO)) IG ja jb (eJ _)
def Dw(ja:JE X R a ta)(jb:JE X R b tb):JE X R (.Compare a [.Is] [b] pos) (cQ Ce ta tb):=ot AD Ih ja jb (eJ _)
def kE(ja:JE X R a ta)(jb:JE X R b tb):JT X R (.Compare a [.Lt] [b] pos) (jA (cQ Km ta tb)):=eC DN Om ja jb (eJ _)
def sC(ja:JE X R a ta)(jb:JE X R b tb):JT X R (.Compare a [.Gt] [b] pos) (jA (cQ Nz ta tb)):=eC Jl QJ ja jb (eJ _)
def Jb(ja:JE X R a ta)(jb:JE X R b tb):JT X R (.Compare a [.GtE] [b] pos) (jA (cQ LG ta tb)):=eC HJ So ja jb (eJ _)
def bw{k:Nat}(hr:bj k X.A)(ja:JE X R a ta)(jb:JE X R b tb):JT X R (.Compare a [.Eq] [b] pos) (jA (cQ CV ta tb)):=eC (Ek.or (AE hr.uO)) IG ja jb (eJ _)
def eh{k:Nat}(hr:bj k X.A)(ja:JE X R a ta)(jb:JE X R b tb):JT X R (.Compare a [.NotEq] [b] pos) (jA (cQ Fc ta tb)):=eC (Iq.or (E_ hr.uO)) LL ja jb (eJ _)
def Au(ja:JE X R a ta)(jb:JE X R b tb):JT X R (.Compare a [.Is] [b] pos) (jA (cQ Ce ta tb)):=eC AD Ih ja jb (eJ _)
end
def i9(M:Ms):Dt->Option (List Dt)
 | .lst xs=>some xs
 | .tup xs=>some xs
 | .mh ns=>some (ns.map .int)
 | .kt xs=>some xs
 | .loc k=>match M[k]? with
  | some (.lst xs)=>some xs
  | _=>none
 | _=>none
def jz{K:fI}{G:Hp}{L:List Addr}{M:Ms}{H:Hp}{d:Dt}{v:V}{xs:List Dt}(r:Rl K G L M H)(n:Den K G L d v)(h:i9 M d=some xs):∃a vs,v= .ref a/\(d9 K H a vs\/iR K H a vs)/\Ζ K G L xs vs:=by
 cases d with
 | lst ds=>cases h;have⟨a,vs,rfl,e,m⟩:=n;exact⟨a,vs,rfl,.inl (.of (r.sub _ _ e)),m⟩
 | tup ds=>cases h;have⟨a,vs,rfl,e,m⟩:=n;exact⟨a,vs,rfl,.inr (.of (r.sub _ _ e)),m⟩
 | kt ds=>cases h;have⟨a,vs,rfl,e,m⟩:=n;exact⟨a,vs,rfl,.inr (r.sub.EZ e),m⟩
 | mh ns=>cases h;have⟨a,rfl,e⟩:=n;exact⟨a,_,rfl,.inl (r.sub.seq e),dc⟩
 | loc k=>
  have⟨a,rfl,e⟩:=n;have h:(match M[k]? with| some (.lst xs)=>some xs| _=>none)=some xs:=h;split at h
  ·rename_i ys hm;cases h;have⟨_,vs,e1,m1⟩:=r.gv k a _ e hm;exact⟨a,vs,rfl,.inl (.of e1),m1⟩
  ·cases h
 | _=>cases h
def C7{K:fI}{G:Hp}{L:List Addr}{ds:List Dt}{vs:List V}{i:Int}{d:Dt}(n:Ζ K G L ds vs)(h:ik ds i=some d):∃v,ik vs i=some v/\Den K G L d v:=by
 unfold ik at h⊢;rw[<-n.length];cases q:Bw ds.length i with
 | none=>rw[q]at h;cases h
 | some j=>
  rw[q]at h;have⟨v,e,m⟩:=n.get h;exact⟨v,e,m⟩
def gT:Dt->Dt->Ms->DQ->Prop
 | .str z,.int i,M,q=>z.length<=sizeLine/\match ik z.cps.toList i with
  | some c=>q (.str ⟨#[c]⟩) M
  | none=>False
 | d,.int i,M,q=>match i9 M d with
  | some xs=>(match ik xs i with
   | some y=>q y M
   | none=>False)
  | none=>False
 | _,_,_,_=>False
def nE:List Dt->Ms->DQ->Prop
 | [.str z],M,q=>z.length<=sizeLine/\q (.int z.length) M
 | [d],M,q=>match i9 M d with
  | some xs=>q (.int xs.length) M
  | none=>False
 | _,_,_=>False
section
variable{K:fI}
def QI:jD K (Of K) gT:=by
 intro G0 L0 H0 G L M H v1 v2 d1 d2 q e r n1 n2 h;unfold gT at h;split at h
 ·rename_i z i;split at h
  ·rename_i c hc;exact .inr (.inr ⟨z,i,c,n1,n2,h.1,hc,ag e r h.2⟩)
  ·exact h.2.elim
 ·rename_i d i _;split at h
  ·rename_i xs hx;split at h
   ·rename_i y hy;have⟨a,vs,rfl,hs,m⟩:=jz r n1 hx;have⟨v,e1,m1⟩:=C7 m hy;rcases hs with hs| hs
    ·exact .inl ⟨a,vs,i,v,rfl,n2,hs,e1,fin_same e r m1 h⟩
    ·exact .inr (.inl ⟨a,vs,i,v,rfl,n2,hs,e1,fin_same e r m1 h⟩)
   ·exact h.elim
  ·exact h.elim
 ·exact h.elim
def LI:vy K (λxs H Q=>(∃z,xs=[V.str z]/\z.length<=sizeLine/\Q (.int z.length) H)\/(∃p ys,xs=[V.ref p]/\(d9 K H p ys\/iR K H p ys)/\Q (.int ys.length) H)) nE:=by
 intro G0 L0 H0 G L M H vs ds q e r n h;unfold nE at h;split at h
 ·rename_i z;have⟨v,rfl,n1⟩:=ai n;cases n1;exact .inl ⟨z,rfl,h.1,ag e r h.2⟩
 ·rename_i d _;have⟨v,rfl,n1⟩:=ai n;split at h
  ·rename_i xs hx;have⟨a,ws,rfl,hs,m⟩:=jz r n1 hx;exact .inr ⟨a,ws,rfl,hs,fin_same (d:=.int xs.length) e r (by show V.int _=V.int _;rw[m.length]) h⟩
  ·exact h.elim
 ·exact h.elim
end
section
variable{X:Cx}{R:St->XK}{a b c:Expr}{ta tb:DE}{pos:Pos}
def Δ(ja:JE X R a ta)(jb:JE X R b tb)(hs:qq b:=by exactλ_ _=>rfl):JE X R (.Subscript a b pos) (cQ gT ta tb):=Im Fl QI ja jb hs
variable{x:Str}{p:Pos}{e:Expr}{es:List Expr}{t:DA}{id T:String}{r:List V->Hp->VK->Prop}{f:List Dt->Ms->DQ->Prop}
def fF(hc:bM X (.builtin id) r)(cd:vy X.K r f)(hm:X.mg x=none)(hv:bootBuiltins x=some (.builtin id))(ha:JA X R (e::es) t)(hg:Gl X x:=by rfl)(hn:x≠"__name__":=by decide)(qL:(x==("__debug__":Str))=false:=by decide)
  (he:starEach (e::es) X.env=(false,eval e X.env)::starEach es X.env:=by rfl) (dI:(backTo pos (starEach es X.env)).any (·.1)=false:=by rfl):JE X R (.Call (.Name x p) (e::es) [] pos) (tw f t):=
 .of (Az hc hg hm hv ha hn qL he dI) λσ H G L ρ M q x r n h hx=>D8 cd r n h hx
def i_(hc:bM X (.type T) r)(cd:vy X.K r f)(hm:X.mg x=none)(hv:bootBuiltins x=some (.type T))(ha:JA X R (e::es) t)(hg:Gl X x:=by rfl)(hn:x≠"__name__":=by decide)(qL:(x==("__debug__":Str))=false:=by decide)
  (he:starEach (e::es) X.env=(false,eval e X.env)::starEach es X.env:=by rfl) (dI:(backTo pos (starEach es X.env)).any (·.1)=false:=by rfl):JE X R (.Call (.Name x p) (e::es) [] pos) (tw f t):=
 .of (yq hc hg hm hv ha hn qL he dI) λσ H G L ρ M q x r n h hx=>D8 cd r n h hx
def bp(hm:X.mg "len"=none)(ha:JA X R [e] t)(he:starEach [e] X.env=(false,eval e X.env)::starEach [] X.env:=by rfl)(dI:(backTo pos (starEach [] X.env)).any (·.1)=false:=by rfl)(hg:Gl X "len":=by rfl):JE X R (.Call (.Name "len" p) [e] [] pos) (tw nE t):=
 fF (pj.or pe) LI hm PySem.boot_len ha hg @_ @_ he dI
end
section
variable{X:Cx}
def Bh:V->List V->Hp->VK->Prop:=λx xs H Q=>∃z y,x= .str z/\xs=[.str y]/\(y.length==0)=false/\z.length+2<=sizeLine/\∀p,H p=none->Q (.ref p) (upd H p (.lst ((Txt.split z y).map V.str)))
def jX:∀(l:List (Str×Tok)),Ν ((l.map (·.1)).map V.str) (strValues l)
 | []=>.nil
 | p::r=>.cons ⟨p.2,rfl⟩ (jX r)
def p7(x y:Str)(h:x.length+2<=sizeLine):(Txt.split x y).length<=sizeLine:=by
 unfold Txt.split;split
 ·exact Nat.le_trans (by simp) (Nat.le_trans (Nat.le_add_left 2 x.length) h)
 ·split
  ·exact Nat.le_trans (by simp) (Nat.le_trans (Nat.le_add_left 2 x.length) h)
  ·have e1:=StrLaws.occ_length_le x y 0 x.length (x.length+1);rw[length_partsBetween];omega
def zM:Ew X "str.split" Bh:=by
 intro γ s σ H x xs v us Q I rx rs h;have⟨z,y,rfl,rfl,hy,hz,q⟩:=h;have⟨t,rfl⟩:=rx;have⟨w,rfl,u,rfl⟩:=dY rs
 have fin:∀(l:List (Str×Tok)) (tk:Nat),l.map (·.1)=Txt.split z y->EP X γ σ Q (.ref s.heap.objs.size) {s with heap:=s.heap.push {cls:=.type "list",data:=.seq (strValues l).toArray},toks:=tk}:=λl tk e=>
  ⟨.ref _,_,I.A0 (t':=tk) (ys:=(Txt.split z y).map V.str) (by rw[<-e];exact jX l) (by rw[aac];exact p7 z y hz),rfl,q _ I.fresh⟩
 have hn:(Builtin.Str.partsBetween z (Builtin.Str.occurrences z y 0 z.length (z.length+1)) y.length).length<=sizeLine:=by have e1:=StrLaws.occ_length_le z y 0 z.length (z.length+1);rw[length_partsBetween];omega
 cases h1:(decide (z.length < y.length)|| decide (Builtin.Str.strKind z < Builtin.Str.strKind y))
 ·cases hf:(Builtin.Str.occurrences z y 0 z.length (z.length+1)).isEmpty
  ·refine call_meets F.slot_str_split (typeIs_str _ _ _) F.entry_str_split (F.args_str_split_2 _ _) (meets_str_split_sep z y t u h1 hy hf () hn) ?_;show wants _ _ _ {s with toks:=_,heap:=s.heap.push {cls:=.type "list",data:=.seq (strsFrom s.toks (Builtin.Str.partsBetween z (Builtin.Str.occurrences z y 0 z.length (z.length+1)) y.length)).toArray}};rw[strsFrom_eq];exact fin (numbered s.toks _) _ ((numbered_texts _ _).trans ((aaH (ne_true_of_eq_false h1)).trans (aaH (ne_true_of_eq_false hf))).symm)
  ·exact call_meets F.slot_str_split (typeIs_str _ _ _) F.entry_str_split (F.args_str_split_2 _ _) (meets_str_split_not_found z y t u h1 hy hf)
    (fin [(z,t)] s.toks ((aaH (ne_true_of_eq_false h1)).trans (aaN hf)).symm)
 ·exact call_meets F.slot_str_split (typeIs_str _ _ _) F.entry_str_split (F.args_str_split_2 _ _) (meets_str_split_cannot_occur z y t u h1)
   (fin [(z,t)] s.toks (aaN h1).symm)
def wx:V->List V->Hp->VK->Prop:=λx xs H Q=>∃z y,x= .str z/\xs=[.str y]/\Q (.bl (Txt.startswith z y)) H
def x5:Ew X "str.startswith" wx:=by intro γ s σ H x xs v us Q I rx rs h;have⟨z,y,rfl,rfl,q⟩:=h;have⟨t,rfl⟩:=rx;have⟨w,rfl,u,rfl⟩:=dY rs;exact SC.startswith ⟨.bl _,H,I,rfl,q⟩
def pk:bM X (.type "int") (λxs H Q=>∃x n,xs=[.str x]/\PySem.intText? x=some n/\x.length<=640/\Q (.int n) H):=by intro γ s σ H xs us Q I rs h;have⟨x,n,rfl,hn,hl,q⟩:=h;have⟨w,rfl,u,rfl⟩:=dY rs;exact PySem.W.KIN.call_text hn hl ⟨.int n,H,I.tok _,⟨_,rfl⟩,q⟩
def K1:V->Option Int->Option Int->Hp->VK->Prop:=λx lo hi H Q=>∃z,x= .str z/\z.length<=sizeLine/\Q (.str (Txt.slice z lo hi)) H
def zb:Kw X K1:=by
 intro γ s σ H x v vl vu lo hi sl Q I rx hs pl pu h;have⟨z,rfl,hz,q⟩:=h;have⟨t,rfl⟩:=rx;refine⟨"str",_,F.slot_str_getitem.lookup,typeIs_str _ _ _,?_⟩;have fin:∀(t':Tok) (k:Nat),EP X γ σ Q (.str (Txt.slice z lo hi) t') {s with toks:=k}:=λt' k=>⟨.str _,H,I.tok k,⟨_,rfl⟩,q⟩;cases pl with
 | none=>
  cases pu with
  | none=>exact wpAny_getItem_str_slice (l:=none) (u:=none) (st:=none) hs rfl (post_val_or_str ⟨aaq (Txt.slice_le z _ _) hz,λt' k=>fin t' k⟩)
  | int j uj=>exact wpAny_getItem_str_slice (l:=none) (u:=some (j,uj)) (st:=none) hs rfl (post_val_or_str ⟨aaq (Txt.slice_le z _ _) hz,λt' k=>fin t' k⟩)
 | int i ui=>
  cases pu with
  | none=>exact wpAny_getItem_str_slice (l:=some (i,ui)) (u:=none) (st:=none) hs rfl (post_val_or_str ⟨aaq (Txt.slice_le z _ _) hz,λt' k=>fin t' k⟩)
  | int j uj=>exact wpAny_getItem_str_slice (l:=some (i,ui)) (u:=some (j,uj)) (st:=none) hs rfl (post_val_or_str ⟨aaq (Txt.slice_le z _ _) hz,λt' k=>fin t' k⟩)
end
def M9(ta:TE):TE:=λσ H Q=>ta σ H λx H1=>(∃i,x= .int i/\i.natAbs.log2 < 1920/\Q (.str (toString i)) H1)\/∃z,x= .str z/\z.length<=sizeLine/\Q (.str z) H1
def vW:List TE->Str->TE
 | [],Μ=>λ_ H Q=>Q (.str Μ) H
 | t::ts,Μ=>λσ H Q=>t σ H λx H1=>∃y,x= .str y/\(Μ++y).length<=sizeLine/\vW ts (Μ++y) σ H1 Q
section
variable{X:Cx}{a:Expr}{ta:TE}{pos:Pos}
def ES(ha:PE X a ta):PE X (.FormattedValue a (-1) none pos) (M9 ta):=by
 intro γ s σ H Q I h;refine FormattedValue_plain (ba (ha γ s σ H _ I h) λv s1 xz=>?_);have⟨x,H1,I1,r1,q1⟩:=xz;rcases q1 with ⟨i,rfl,hd,q⟩| ⟨z,rfl,hz,q⟩
 ·have⟨t,rfl⟩:=r1;exact wpAny_formatField_int hd ⟨.str _,H1,I1.tok _,⟨_,rfl⟩,q⟩
 ·have⟨t,rfl⟩:=r1;exact formatField_str (λt' tk=>⟨.str z,H1,I1.tok tk,⟨_,rfl⟩,q⟩) hz
def uN{es:List Expr}{ts:List TE}(h:Paired (PE X) es ts):∀(Μ:Str) (γ:List (Addr×Obj)) (s:Shared) (σ:St) (H:Hp) (Q:VK),Μ.length<=sizeLine->Inv X γ σ H s->vW ts Μ σ H Q->
  wpAny (model X.prog X.w) X.A (joinParts Μ (evalEach es X.env)) (EP X γ σ Q) X.xe s:=by
 induction h with
 | nil=>
  intro Μ γ s σ H Q hz I q;exact joinParts_nil ⟨.str Μ,H,I.tok _,⟨_,rfl⟩,q⟩ hz
 | cons he _ ih=>
  intro Μ γ s σ H Q hz I q;refine joinParts_cons (ba (he γ s σ H _ I q) λv s1 xz=>?_);have⟨x,H1,I1,r1,y,e,OF,q1⟩:=xz;subst e;have⟨t,rfl⟩:=r1;exact⟨OF,ih (Μ++y) γ s1 σ H1 Q OF I1 q1⟩
def Di{e1 e2:Expr}{es:List Expr}{ts:List TE}(h:Paired (PE X) (e1::e2::es) ts):PE X (.JoinedStr (e1::e2::es) pos) (vW ts Str.empty):=by intro γ s σ H Q I q;exact JoinedStr_many (uN h Str.empty γ s σ H Q @_ I q)
end
def eE:Dt->List Dt->Ms->DQ->Prop
 | .str z,[.str y],M,q=>((y.length==0)=false/\z.length+2<=sizeLine)/\q (.lst ((Txt.split z y).map Dt.str)) M
 | _,_,_,_=>False
def ll:Dt->List Dt->Ms->DQ->Prop
 | .str z,[.str y],M,q=>q (.bl (Txt.startswith z y)) M
 | _,_,_,_=>False
def Fm:List Dt->Ms->DQ->Prop
 | [.int i],M,q=>i.natAbs.log2 < 1920/\q (.str (Str.ofString (toString i))) M
 | _,_,_=>False
def zq:List Dt->Ms->DQ->Prop
 | [.int i],M,q=>q (.int i) M
 | [.bl b],M,q=>q (.int (if b then 1 else 0)) M
 | [.str x],M,q=>x.length<=640/\match PySem.intText? x with
  | some n=>q (.int n) M
  | none=>False
 | _,_,_=>False
def Ii:Dt->Ms->DQ->Prop
 | .int i,M,q=>i.natAbs.log2 < 1920/\q (.str (Str.ofString (toString i))) M
 | .str z,M,q=>z.length<=sizeLine/\q (.str z) M
 | _,_,_=>False
def FJ:List Dt->Ms->DQ->Prop
 | [.int i],M,q=>q (.int (if i < 0 then -i else i)) M
 | _,_,_=>False
def EN:List Dt->Ms->DQ->Prop
 | [.int i,.int j],M,q=>q (.int (if j < i then j else i)) M
 | _,_,_=>False
def Gr:List Dt->Ms->DQ->Prop
 | [d],M,q=>∃bs:List Bool,i9 M d=some (bs.map Dt.bl)/\(∀k,d≠ .kt k)/\(∀k,d≠ .tup k)/\q (.bl (bs.any id)) M
 | _,_,_=>False
def El:Dt->Option Value
 | .aR=>some (.type "NoneType")
 | .bl _=>some (.type "bool")
 | .int _=>some (.type "int")
 | .str _=>some (.type "str")
 | .lst _=>some (.type "list")
 | .tup _=>some (.type "tuple")
 | _=>none
def IF:Dt->Option Value
 | .ty T=>some (.type T)
 | .ref C=>some (.ref C)
 | _=>none
def Fw:Dt->Dt->Ms->DQ->Prop
 | .str i,.str j,M,q=>q (.bl (!(Builtin.Str.occurrences j i 0 j.length 1).isEmpty)) M
 | _,_,_,_=>False
def qP:Dt->Dt->Ms->DQ->Prop
 | .str i,.str j,M,q=>q (.bl (!(!(Builtin.Str.occurrences j i 0 j.length 1).isEmpty))) M
 | _,_,_,_=>False
section
variable{K:fI}
def gG{G:Hp}{L:List Addr}:∀{l:List Str},Ζ K G L (l.map Dt.str) (l.map V.str)
 | []=>rfl
 | _::_=>⟨_,_,rfl,rfl,gG⟩
def iS{G:Hp}{L:List Addr}:∀{bs:List Bool} {vs:List V},Ζ K G L (bs.map Dt.bl) vs->vs=bs.map V.bl
 | [],_,h=>h
 | b::bs,_,⟨v,r,e,h1,h2⟩=>by subst e;rw[iS h2,show v=V.bl b from h1];rfl
def Gj:JG K "str" Bh eE:=by
 intro G0 L0 H0 G L M H v d vs ds q e r n ns h;unfold eE at h;split at h
 ·rename_i z y;have⟨u,rfl,n2⟩:=ai ns;cases n;cases n2;exact⟨z,y,rfl,rfl,h.1.1,h.1.2,λp hp=>cF e r hp (gF r hp gG) h.2⟩
 ·exact h.elim
def Cy:JG K "str" wx ll:=by
 intro G0 L0 H0 G L M H v d vs ds q e r n ns h;unfold ll at h;split at h
 ·rename_i z y;have⟨u,rfl,n2⟩:=ai ns;cases n;cases n2;exact⟨z,y,rfl,rfl,ag e r h⟩
 ·exact h.elim
def MC:vy K (λxs H Q=>∃i,xs=[V.int i]/\i.natAbs.log2 < 1920/\Q (.str (toString i)) H) Fm:=by
 intro G0 L0 H0 G L M H vs ds q e r n h;unfold Fm at h;split at h
 ·rename_i i;have⟨v,rfl,n1⟩:=ai n;cases n1;exact⟨i,rfl,h.1,ag e r h.2⟩
 ·exact h.elim
def N2:vy K (λxs H Q=>((∃i,xs=[V.int i]/\Q (.int i) H)\/∃k,xs=[V.bl k]/\Q (.int (if k then 1 else 0)) H)\/∃x n,xs=[V.str x]/\PySem.intText? x=some n/\x.length<=640/\Q (.int n) H) zq:=by
 intro G0 L0 H0 G L M H vs ds q e r n h;unfold zq at h;split at h
 ·rename_i i;have⟨v,rfl,n1⟩:=ai n;cases n1;exact .inl (.inl ⟨i,rfl,ag e r h⟩)
 ·rename_i i;have⟨v,rfl,n1⟩:=ai n;cases n1;exact .inl (.inr ⟨i,rfl,ag e r h⟩)
 ·rename_i x;have⟨v,rfl,n1⟩:=ai n;cases n1;split at h
  ·rename_i m hm;exact .inr ⟨x,m,rfl,hm,h.1,ag e r h.2⟩
  ·exact h.2.elim
 ·exact h.elim
def Nu:vy K (λxs H Q=>∃i,xs=[V.int i]/\Q (.int (if i < 0 then -i else i)) H) FJ:=by
 intro G0 L0 H0 G L M H vs ds q e r n h;unfold FJ at h;split at h
 ·rename_i i;have⟨v,rfl,n1⟩:=ai n;cases n1;exact⟨i,rfl,ag e r h⟩
 ·exact h.elim
def N3:vy K (λxs H Q=>∃i j,xs=[V.int i,.int j]/\Q (.int (if j < i then j else i)) H) EN:=by
 intro G0 L0 H0 G L M H vs ds q e r n h;unfold EN at h;split at h
 ·rename_i i j;have⟨v,u,rfl,n1,n2⟩:=dD n;cases n1;cases n2;exact⟨i,j,rfl,ag e r h⟩
 ·exact h.elim
def K':vy K (Hz K) Gr:=by
 intro G0 L0 H0 G L M H vs ds q e r n h;unfold Gr at h;split at h
 ·rename_i d;have⟨bs,hs,nk,nt,h⟩:=h;have⟨v,rfl,n1⟩:=ai n;cases d with
  | lst xs=>
   cases hs;have⟨a,ws,rfl,e1,m⟩:=n1;exact⟨a,bs,rfl,by rw[<-iS m];exact .of (r.sub _ _ e1),ag e r h⟩
  | loc k=>
   have⟨a,rfl,e1⟩:=n1;have hs:(match M[k]? with| some (.lst xs)=>some xs| _=>none)=some (bs.map Dt.bl):=hs;split at hs
   ·rename_i ys hm;cases hs;have⟨_,ws,e2,m⟩:=r.gv k a _ e1 hm;exact⟨a,bs,rfl,by rw[<-iS m];exact .of e2,ag e r h⟩
   ·cases hs
  | tup xs=>exact aaE rfl (nt xs)
  | kt xs=>exact aaE rfl (nk xs)
  | mh ns=>
   have e0:ns.map Dt.int=bs.map Dt.bl:=aan hs;cases ns with
   | nil=>
    cases bs with
    | nil=>have⟨a,rfl,e1⟩:=n1;exact⟨a,[],rfl,r.sub.seq e1,ag e r h⟩
    | cons _ _=>cases e0
   | cons _ _=>
    cases bs with
    | nil=>cases e0
    | cons _ _=>cases e0
  | _=>cases hs
 ·exact h.elim
def xu{G:Hp}{L:List Addr}{M:Ms}{H:Hp}{d:Dt}{v:V}{t:Value}(r:Rl K G L M H)(n:Den K G L d v)(h:El d=some t):gR K H v t:=by
 cases d with
 | aR=>cases h;cases n;exact .aR
 | bl b=>cases h;cases n;exact .bl _
 | int i=>cases h;cases n;exact .int _
 | str x=>cases h;cases n;exact .str _
 | lst xs=>cases h;have⟨a,ws,rfl,e,_⟩:=n;exact .lst (r.sub _ _ e)
 | tup xs=>cases h;have⟨a,ws,rfl,e,_⟩:=n;exact .tup (r.sub _ _ e)
 | _=>cases h
def B6{G:Hp}{L:List Addr}{d:Dt}{v:V}{t:Value}(n:Den K G L d v)(h:IF d=some t):BX v=some t:=by
 cases d with
 | ty T=>cases n;exact h
 | ref C=>cases n;exact h
 | _=>cases h
def LZ:jD K (λx y H Q=>∃i j,x=V.str i/\y= .str j/\Q (.bl (!(Builtin.Str.occurrences j i 0 j.length 1).isEmpty)) H) Fw:=by
 intro G0 L0 H0 G L M H v1 v2 d1 d2 q e r n1 n2 h;unfold Fw at h;split at h
 ·exact⟨_,_,n1,n2,ag e r h⟩
 ·exact h.elim
def Cm:jD K (λx y H Q=>∃i j,x=V.str i/\y= .str j/\Q (.bl (!(!(Builtin.Str.occurrences j i 0 j.length 1).isEmpty))) H) qP:=by
 intro G0 L0 H0 G L M H v1 v2 d1 d2 q e r n1 n2 h;unfold qP at h;split at h
 ·exact⟨_,_,n1,n2,ag e r h⟩
 ·exact h.elim
end
def Ad:List DE->Str->DE
 | [],Μ=>λ_ M q _=>q (.str Μ) M
 | t::ts,Μ=>λρ M q x=>t ρ M (λd M1=>match d with
  | .str y=>(Μ++y).length<=sizeLine/\Ad ts (Μ++y) ρ M1 q x
  | _=>False) x
def Bf(te:DE)(lo hi:Option DE):DE:=λρ M q x=>te ρ M (λd M1=>match d with
 | .str z=>z.length<=sizeLine/\(match lo,hi with
  | none,none=>q (.str (Txt.slice z none none)) M1
  | some l,none=>l ρ M1 (λdl M2=>match dl with| .int i=>q (.str (Txt.slice z (some i) none)) M2| _=>False) x
  | none,some u=>u ρ M1 (λdu M2=>match du with| .int j=>q (.str (Txt.slice z none (some j))) M2| _=>False) x
  | some l,some u=>l ρ M1 (λdl M2=>match dl with| .int i=>u ρ M2 (λdu M3=>match du with| .int j=>q (.str (Txt.slice z (some i) (some j))) M3| _=>False) x| _=>False) x)
 | _=>False) x
section
variable{X:Cx}{R:St->XK}{o a e e1 e2:Expr}{es:List Expr}{to ta te:DE}{t:DA}{name:Str}{apos af pos p p2:Pos}{T id:String}
def lC{r:V->List V->Hp->VK->Prop}{f:Dt->List Dt->Ms->DQ->Prop}(slot:Slot "str" name id)(Lb:typeOf (.builtin id)=pure (.type "method_descriptor"))(hm:Ew X id r)(md:JG X.K "str" r f)(hf:∀d ds M q,f d ds M q->∃z,d= .str z)(ho:JE X R o to)(ha:JA X R (e::es) t)
  (eP:attributeBase o name X.env (eval o X.env)=eval o X.env:=by rfl)
  (ke:((backTo af (starEach (e::es) X.env)).all (λx=> !x.1)&&(backToKw af (keywordEach [] X.env)).all (λx=>x.1.isSome)
   &&decide ((e::es).length+([]:List Keyword).length+(if ([]:List Keyword).isEmpty then 0 else 1) < 30))=true:=by rfl)
  (e6:(apos.endLine==af.line)=true:=by rfl) (hs:starEach (e::es) X.env=(false,eval e X.env)::starEach es X.env:=by rfl) (cu:(backTo af (starEach es X.env)).any (·.1)=false:=by rfl):
  JE X R (.Call (.Attribute o name apos) (e::es) [] af) (λρ M q x=>to ρ M (λd M1=>(∃z,d= .str z)/\t ρ M1 (λds M2=>f d ds M2 q) x) x):=
 .of (DO PySem.F.plainAttrs_str slot Lb hm ho ha eP ke e6 hs cu) λσ H G L ρ M q x rl n h hx=>by refine⟨G,L,ρ,M,_,x,rl,n,h,hx,λv H1 xz=>?_⟩;have⟨d1,G1,L1,M1,e1,r1,n1,hz,h1⟩:=xz;have⟨z,rfl⟩:=hz;have L6:v= .str z:=n1;refine⟨by rw[L6];rfl,G1,L1,ρ,M1,_,x,r1,n.mono e1,h1,hx.on e1,fun vs H2 ⟨ds,G2,L2,M2,e2,r2,n2,h2⟩=>?_⟩;exact md G L H G2 L2 M2 H2 v _ vs ds q (e1.trans e2) r2 (Den.mono e2.g e2.l _ _ n1) n2 h2
def oy(ha:JE X R a ta):JE X R (.FormattedValue a (-1) none pos) (HV Ii ta):=.of (ES ha) λσ H G L ρ M q x rl n h hx=>by
 refine⟨G,L,ρ,M,_,x,rl,n,h,hx,λv H1 xz=>?_⟩;have⟨d1,G1,L1,M1,e1,r1,n1,h1⟩:=xz;unfold Ii at h1
 (try dsimp only at h1)
 split at h1
 ·cases n1;exact .inl ⟨_,rfl,h1.1,ag e1 r1 h1.2⟩
 ·cases n1;exact .inr ⟨_,rfl,h1.1,ag e1 r1 h1.2⟩
 ·exact h1.elim
def lS:∀{es:List Expr} {ts:List DE},Paired (JE X R) es ts->Paired (PE X) es (ts.map (nu X.K R))
 | _,_,.nil=>.nil
 | _,_,.cons h t=>.cons h (lS t)
def vG{K:fI}:∀(ts:List DE) (Μ:Str) (σ:St) (G0:Hp) (L0:List Addr) (H0 G:Hp) (L:List Addr) (M:Ms) (H:Hp) (ρ:En) (q:DQ) (x:DX),Ex G0 L0 H0 G L H->Rl K G L M H->gZ K G L ρ σ->Ad ts Μ ρ M q x->ni K G L H R x->vW (ts.map (nu K R)) Μ σ H (Fin K G0 L0 H0 q)
 | [],Μ,σ,G0,L0,H0,G,L,M,H,ρ,q,x,e,rl,n,h,hx=>ag e rl h
 | t::ts,Μ,σ,G0,L0,H0,G,L,M,H,ρ,q,x,e,rl,n,h,hx=>by
  refine⟨G,L,ρ,M,_,x,rl,n,h,hx,λv H1 xz=>?_⟩;have⟨d1,G1,L1,M1,e1,r1,n1,h1⟩:=xz
  (try dsimp only at h1)
  split at h1
  ·rename_i y;exact⟨y,n1,h1.1,vG ts (Μ++y) σ G0 L0 H0 G1 L1 M1 H1 ρ q x (e.trans e1) r1 (n.mono e1) h1.2 (hx.on e1)⟩
  ·exact h1.elim
def uI{ts:List DE}(h:Paired (JE X R) (e1::e2::es) ts):JE X R (.JoinedStr (e1::e2::es) pos) (Ad ts Str.empty):=
 .of (Di (lS h)) λσ H G L ρ M q x rl n h hx=>vG ts _ σ G L H G L M H ρ q x (.refl _ _ _) rl n h hx
def sd{l:Expr}{tl:DE}(he:JE X R e te)(hl:JE X R l tl):JE X R (.Subscript e (.Slice (some l) none none p2) pos) (Bf te (some tl) none):=
 .of (iW zb he (ly hl) lB) λσ H G L ρ M q x rl n h hx=>by
  refine⟨G,L,ρ,M,_,x,rl,n,h,hx,λv H1 xz=>?_⟩;have⟨d1,G1,L1,M1,e1,r1,n1,h1⟩:=xz
  (try dsimp only at h1)
  split at h1
  ·rename_i z;refine⟨G1,L1,ρ,M1,_,x,r1,n.mono e1,h1.2,hx.on e1,λv2 H2 xz=>?_⟩;have⟨d2,G2,L2,M2,e2,r2,n2,h2⟩:=xz
   (try dsimp only at h2)
   split at h2
   ·rename_i i;exact⟨i,n2,z,n1,h1.1,ag (e1.trans e2) r2 h2⟩
   ·exact h2.elim
  ·exact h1.elim
def Gv{u:Expr}{tu:DE}(he:JE X R e te)(hu:JE X R u tu):JE X R (.Subscript e (.Slice none (some u) none p2) pos) (Bf te none (some tu)):=
 .of (iW zb he lB (ly hu)) λσ H G L ρ M q x rl n h hx=>by
  refine⟨G,L,ρ,M,_,x,rl,n,h,hx,λv H1 xz=>?_⟩;have⟨d1,G1,L1,M1,e1,r1,n1,h1⟩:=xz
  (try dsimp only at h1)
  split at h1
  ·rename_i z;refine⟨G1,L1,ρ,M1,_,x,r1,n.mono e1,h1.2,hx.on e1,λv2 H2 xz=>?_⟩;have⟨d2,G2,L2,M2,e2,r2,n2,h2⟩:=xz
   (try dsimp only at h2)
   split at h2
   ·rename_i i;exact⟨i,n2,z,n1,h1.1,ag (e1.trans e2) r2 h2⟩
   ·exact h2.elim
  ·exact h1.elim
def eR:bootBuiltins "str"=some (.type "str"):=by decide+kernel
def eS:bootBuiltins "int"=some (.type "int"):=by decide+kernel
def x4:bootBuiltins "abs"=some (.builtin "abs"):=by decide+kernel
def xU:bootBuiltins "any"=some (.builtin "any"):=by decide+kernel
def yu:bootBuiltins "min"=some (.builtin "min"):=by decide+kernel
def jQ:bootBuiltins "isinstance"=some (.builtin "isinstance"):=by decide+kernel
def mi:bootBuiltins "bool"=some (.type "bool"):=by decide+kernel
def b9:bootBuiltins "tuple"=some (.type "tuple"):=by decide+kernel
def dE:bootBuiltins "list"=some (.type "list"):=by decide+kernel
def fo{x:Str}{T:String}(hm:X.mg x=none)(hv:bootBuiltins x=some (.type T))(hg:Gl X x:=by rfl)(hn:x≠"__name__":=by decide)(hd:(x==("__debug__":Str))=false:=by decide):JE X R (.Name x p) (dC (.ty T)):=DP (BE (v:=.ty T) hg hm hv rfl hn hd) λ_ _=>rfl
def zN{x:Str}{z:Str}(hm:∃tk,X.mg x=some (.str z tk))(hg:Gl X x:=by rfl)(hd:(x==("__debug__":Str))=false:=by decide):JE X R (.Name x p) (dC (.str z)):=let ⟨tk,hm⟩:=hm;DP (qV (v:=.str z) hg hm ⟨tk,rfl⟩ hd) λ_ _=>rfl
def iP{x:Str}{z:Int}(hm:∃tk,X.mg x=some (.int z tk))(hg:Gl X x:=by rfl)(hd:(x==("__debug__":Str))=false:=by decide):JE X R (.Name x p) (dC (.int z)):=let ⟨tk,hm⟩:=hm;DP (qV (v:=.int z) hg hm ⟨tk,rfl⟩ hd) λ_ _=>rfl
end
def Kr(x:Str):It:=⟨λi _=>i < x.cps.size,λi H v H'=>H'=H/\∃c,x.cps[i]? =some c/\v= .str ⟨#[c]⟩,λi _=>x.cps.size<=i⟩
def wR{P:Program}{w:World}{K:fI}{tg:Expr}(x:Str)(t:Tok)(it:Addr):qW P w K tg (Kr x) [it] it (λi h=>h.IsStrIter it "str_ascii_iterator" x t i) where
 mem:=by simp
 obj:=λi h st b hb=>by
  have e:b=it:=by simpa using hb
  subst e;have⟨o,e,c,d⟩:=st;exact⟨o,e,λv z=>by rw[d]at z;cases z⟩
 keep:=λi h h' st k=>let ⟨o,ho,r⟩:=st;⟨o,k it (by simp) o ho,r⟩
 item:=by intro X hP hw hK hc i γ s σ H E I hf st hg;subst hP hw hK;have⟨f0,f1,f2,f3,f4,f5⟩:=hf it (by simp);have hg:i < x.cps.size:=hg;refine wpAny_pyNext_ascii_item st (c:=x.cps[i]) (by simp[hg]) λh' wq sb=>?_;have I1:Inv X γ σ H {s with heap:=h',toks:=s.toks+1}:=I.turned (λb o hb e=>(sb.2 b hb).trans e) f0 f1 f3 f4 f5;have⟨o,e,c,d⟩:=id wq;exact⟨_,rfl,sA (s:={s with heap:=h',toks:=s.toks+1}) e c d @_ ⟨.str ⟨#[x.cps[i]]⟩,H,I1,⟨_,rfl⟩,⟨rfl,_,by simp[hg],rfl⟩,wq,λb hb=>(hf b hb).1⟩⟩
 done:=by intro X hP hw hK hc i γ s σ H E I hf st hg;subst hP hw hK;have⟨f0,f1,f2,f3,f4,f5⟩:=hf it (by simp);have hg:x.cps.size<=i:=hg;exact wpAny_pyNext_ascii_end (I.ok.hd hc) st (by simp;omega) λh' eb=>⟨rfl,I.turned (t':=s.toks) (λb o hb e=>eb b o hb e) f0 f1 f3 f4 f5⟩
 self:=λ_ _ _ _ _ st h=>wpAny_pyIter_striter_ascii st h
def xQ{P:Program}{w:World}{K:fI}{tg:Expr}(x:Str)(t:Tok)(it:Addr):qW P w K tg (Kr x) [it] it (λi h=>h.IsStrIter it "str_iterator" x t i) where
 mem:=by simp
 obj:=λi h st b hb=>by
  have e:b=it:=by simpa using hb
  subst e;have⟨o,e,c,d⟩:=st;exact⟨o,e,λv z=>by rw[d]at z;cases z⟩
 keep:=λi h h' st k=>let ⟨o,ho,r⟩:=st;⟨o,k it (by simp) o ho,r⟩
 item:=by intro X hP hw hK hc i γ s σ H E I hf st hg;subst hP hw hK;have⟨f0,f1,f2,f3,f4,f5⟩:=hf it (by simp);have hg:i < x.cps.size:=hg;refine wpAny_pyNext_wide_item st (c:=x.cps[i]) (by simp[hg]) λh' wq sb=>?_;have I1:Inv X γ σ H {s with heap:=h',toks:=s.toks+1}:=I.turned (λb o hb e=>(sb.2 b hb).trans e) f0 f1 f3 f4 f5;have⟨o,e,c,d⟩:=id wq;exact⟨_,rfl,sA (s:={s with heap:=h',toks:=s.toks+1}) e c d @_ ⟨.str ⟨#[x.cps[i]]⟩,H,I1,⟨_,rfl⟩,⟨rfl,_,by simp[hg],rfl⟩,wq,λb hb=>(hf b hb).1⟩⟩
 done:=by intro X hP hw hK hc i γ s σ H E I hf st hg;subst hP hw hK;have⟨f0,f1,f2,f3,f4,f5⟩:=hf it (by simp);have hg:x.cps.size<=i:=hg;exact wpAny_pyNext_wide_end (I.ok.hd hc) st (by simp;omega) λh' eb=>⟨rfl,I.turned (t':=s.toks) (λb o hb e=>eb b o hb e) f0 f1 f3 f4 f5⟩
 self:=λ_ _ _ _ _ st h=>wpAny_pyIter_striter_wide st h
def et(z:Str):List Dt:=z.cps.toList.map λc=>Dt.str ⟨#[c]⟩
def z6{K:fI}{G:Hp}{L:List Addr}{z:Str}:Yl K (Kr z) (et z) G L where
 go :=λi G1 L1 M1 H1 d g l r e=>by
  unfold et at e;rw[aaB]at e;cases q:z.cps.toList[i]? with
  | none=>rw[q]at e;cases e
  | some c=>
   rw[q]at e;cases e;have hi:i < z.cps.size:=by have:=(aai.mp q).1;simpa using this
   refine⟨hi,λv' H' xz=>?_⟩;have⟨eH,c',e',y⟩:=xz;subst eH y;have:c'=c:=by rw[<-Array.getElem?_toList,q]at e';exact(aan e').symm
   subst this;exact⟨G1,.refl _ _ _,r,rfl⟩
 stop:=λi G1 L1 M1 H1 g l r e=>by unfold et at e;show z.cps.size<=i;simpa using e
def Bi(M:Ms):Dt->Option (List Dt)
 | .lst xs=>some xs
 | .tup xs=>some xs
 | .mh ns=>some (ns.map .int)
 | .kt xs=>some xs
 | .str z=>some (et z)
 | _=>none
def J9(t:DE):DA:=λρ M q x=>t ρ M (λd M1=>match Bi M1 d with
 | some xs=>q xs M1
 | none=>False) x
section
variable{X:Cx}{R:St->XK}{tg e:Expr}{te:DE}
def jr{γ:List (Addr×Obj)}{σ:St}{H:Hp}{s:Shared}{a:Addr}{vs:List V}{Q:It->Hp->Prop}{E:Value->Shared->Prop}(I:Inv X γ σ H s)(hq:d9 X.K H a vs)(q:Q (Kv X.K a) H):wpAny (model X.prog X.w) X.A (pyIter (.ref a)) (CW X γ σ tg Q) E s:=by
 have⟨its,rv,p,hz⟩:=I.list hq;refine wpAny_pyIter_list p.isList ?_;refine⟨s.heap.objs.size,[s.heap.objs.size],_,_,H,rfl,I.kept (t':=s.toks) λb o e=>aaf _ e,xY a _,⟨_,aaG _ rfl,rfl,rfl⟩,λb hb=>?_,q⟩;have e:b=s.heap.objs.size:=by simpa using hb
 subst e;exact I.xw (aaj _) (I.aE.fresh (aaj _))
def qB{γ:List (Addr×Obj)}{σ:St}{H:Hp}{s:Shared}{a:Addr}{vs:List V}{Q:It->Hp->Prop}{E:Value->Shared->Prop}(I:Inv X γ σ H s)(hq:iR X.K H a vs)(q:Q (Lf X.K a) H):wpAny (model X.prog X.w) X.A (pyIter (.ref a)) (CW X γ σ tg Q) E s:=by
 have⟨its,rv,p,hz⟩:=I.tuple hq;refine wpAny_pyIter_tuple (show s.heap.IsTuple a its.toArray from p) ?_;refine⟨s.heap.objs.size,[s.heap.objs.size],_,_,H,rfl,I.kept (t':=s.toks) λb o e=>aaf _ e,tM a _,⟨_,aaG _ rfl,rfl,rfl⟩,λb hb=>?_,q⟩;have e:b=s.heap.objs.size:=by simpa using hb
 subst e;exact I.xw (aaj _) (I.aE.fresh (aaj _))
def Bp{γ:List (Addr×Obj)}{σ:St}{H:Hp}{s:Shared}{z:Str}{t:Tok}{Q:It->Hp->Prop}{E:Value->Shared->Prop}(I:Inv X γ σ H s)(q:Q (Kr z) H):wpAny (model X.prog X.w) X.A (pyIter (.str z t)) (CW X γ σ tg Q) E s:=by
 have fp:∀b∈[s.heap.objs.size],mz X γ H b:=λb hb=>by
  have e:b=s.heap.objs.size:=by simpa using hb
  subst e;exact I.xw (aaj _) (I.aE.fresh (aaj _))
 cases ha:z.cps.all (· < 128)
 ·exact wpAny_pyIter_wide ha ⟨s.heap.objs.size,[s.heap.objs.size],_,_,H,rfl,I.kept (t':=s.toks) λb o e=>aaf _ e,xQ z t _,⟨_,aaG _ rfl,rfl,rfl⟩,fp,q⟩
 ·exact wpAny_pyIter_ascii ha ⟨s.heap.objs.size,[s.heap.objs.size],_,_,H,rfl,I.kept (t':=s.toks) λb o e=>aaf _ e,wR z t _,⟨_,aaG _ rfl,rfl,rfl⟩,fp,q⟩
def zx(h:JE X R e te):JI X R tg e (J9 te):=by
 intro γ s σ H Q I ⟨G,L,ρ,M,q,x,rl,n,ht,hx,hQ⟩;refine ba (h γ s σ H (Fin X.K G L H _) I ⟨G,L,ρ,M,_,x,rl,n,ht,hx,λ_ _ f=>f⟩) λu s1 xz=>?_;have⟨v,H1,I1,rv,d,G1,L1,M1,e1,r1,n1,h1⟩:=xz
 (try dsimp only at h1)
 cases hi:Bi M1 d with
 | none=>rw[hi]at h1;exact h1.elim
 | some xs=>
  rw[hi]at h1;have fin:∀J,Yl X.K J xs G1 L1->Q J H1:=λJ y=>hQ J H1 ⟨xs,G1,L1,M1,e1,r1,y,h1⟩;cases d with
  | lst ds=>
   cases hi;have⟨a,vs,rfl,e,m⟩:=n1;cases rv;exact jr I1 (vs:=vs) (.of (r1.sub _ _ e)) (fin _ (lD (λG' g=>.of (g _ _ e)) m))
  | mh ns=>
   cases hi;have⟨a,rfl,e⟩:=n1;cases rv;exact jr I1 (r1.sub.seq e) (fin _ (lD (λG' g=>g.seq e) dc))
  | tup ds=>
   cases hi;have⟨a,vs,rfl,e,m⟩:=n1;cases rv;exact qB I1 (vs:=vs) (.of (r1.sub _ _ e)) (fin _ (pM (λG' g=>.of (g _ _ e)) m))
  | kt ds=>
   cases hi;have⟨a,vs,rfl,e,m⟩:=n1;cases rv;exact qB I1 (r1.sub.EZ e) (fin _ (pM (λG' g=>g.EZ e) m))
  | str z=>
   cases hi;cases n1;have⟨t,rfl⟩:=rv;exact Bp I1 (fin _ z6)
  | _=>cases hi
end
def Fd:DF:=λds _ q _=>∃ns:List Int,ds=[.mh ns]/\ns.length<=63/\∀M',q (.bl true) M'
def sT(K:fI):Sp:=λvs H Q _=>∃(a:Addr) (ns:List Int),vs=[.ref a]/\d9 K H a (ns.map V.int)/\ns.length<=63/\∀H',Q (.bl true) H'
def E3{P:Program}{w:World}{K:fI}{mg:Str->Option Value}{base:Heap}{k:Nat}{f:Addr}{fd:FuncData}{x:Str}(F:Φ P w K mg base (bE P w) k f fd [x] (cm K Fd)):Φ P w K mg base Kp k f fd [x] (sT K):=by
 have sp:∀vs H Q E,sT K vs H Q E->cm K Fd vs H Q E0:=by rintro vs H Q E ⟨a,ns,rfl,hS,hl,hQ⟩;refine⟨H,[],[.mh ns],[],λd _=>d= .bl true,λ_ _ _=>False,⟨.refl _,rfl,List.nodup_nil,λk a m h=>by simp at h⟩,⟨_,_,rfl,⟨a,rfl,hS⟩,rfl⟩,⟨ns,rfl,hl,λ_=>rfl⟩,fun v H' ⟨d,G',L',M',_,_,n,e⟩=>?_,λ_ _ _ _ _ _ _ h=>h.elim⟩;subst e;rw[show v=V.bl true from n];exact hQ H'
 refine⟨λvs H Q E h=>F.len vs H Q E0 (sp vs H Q E h),λA outer s H args us vs Q E hr he hb hv h=>codeAny_mono (F.run A outer s H args us vs Q E0 hr he hb hv (sp vs H Q E h)) λr s' hq=>?_⟩;cases r with
 | error e=>
  have⟨_,_,_,_,_,_,_,_,hE⟩:=hq;exact hE.elim
 | ok fl=>cases fl <;> exact hq
def GA(c:DT)(tb:DS):DS:=λDn ρ M=>∃W:Nat->En->Ms->Prop,(∃m,W m ρ M)/\∀m ρ M,W m ρ M->
 c ρ M (λb M1=>(b=true->∃N:En->Ms->Prop,(∀ρ' M',N ρ' M'->∃m',m' < m/\W m' ρ' M')/\tb {Dn with nx:=N,ct:=N,bk:=Dn.nx} ρ M1)/\(b=false->Dn.nx ρ M1)) Dn.x
def MR(i j:Nat)(t:DA):DS:=λDn ρ M=>t ρ M (λds M1=>match ds with
 | [a,b]=>Dn.nx ((ρ.set i (some a)).set j (some b)) M1
 | _=>False) Dn.x
section
variable{X:Cx}{R:St->XK}{c a b:Expr}{body:List Stmt}{tc:DT}{tb:DS}{pos:Pos}
def rT(hc:JT X R c tc)(hb:xE X R body tb)(hp:PassesOwn (model X.prog X.w) X.A X.env X.xe:=by first| exact PassesOwn.never| exact PassesOwn.leaving):JS X R (.While c body [] pos) (GA tc tb):=.of (A3 hp hc hb) λσ H G L ρ M Dn rl n h hx=>by
 have⟨W,⟨m0,w0⟩,turn⟩:=h;refine⟨λm σ' H'=>cX X.K G L H (W m) σ' H',⟨m0,ρ,G,L,M,.refl _ _ _,rl,n,w0⟩,λm σ' H' xz=>?_⟩;have⟨ρ',G',L',M',e',r',n',w'⟩:=xz;refine⟨G',L',ρ',M',_,_,r',n',turn m ρ' M' w',hx.on e',λv H1 xz=>?_⟩;have⟨G1,L1,M1,e1,r1,h1⟩:=xz;cases v with
 | true=>
  have⟨N,hN,hb⟩:=h1.1 rfl;refine yr ⟨cX X.K G L H N,fun σ2 H2 ⟨ρ2,G2,L2,M2,e2,r2,n2,h2⟩=>?_,?_⟩
  ·have⟨m',hm,w2⟩:=hN ρ2 M2 h2;exact⟨m',hm,ρ2,G2,L2,M2,e2,r2,n2,w2⟩
  ·have II:=e'.trans e1;exact⟨G1,L1,ρ',M1,_,r1,n'.mono e1,hb,hx.on II,⟨λ_ _ f=>cX.back II f,λ_ _ f=>Fin.back II f,λ_ _ f=>cX.back II f,λ_ _ f=>cX.back II f⟩⟩
 | false=>exact wX ⟨ρ',G1,L1,M1,e'.trans e1,r1,n'.mono e1,h1.2 rfl⟩
def Fg{i j:Nat}{x y:Str}{t:DA}{px py pt:Pos}{kt k2 GR}(hN:X.N.Nodup)(hi:X.N[i]? =some x)(hj:X.N[j]? =some y)(ha:JA X R [a,b] t)(J0:i≠j:=by decide)
  (hx:X.env.scope.names.lookup x=some .local:=by rfl) (hy:X.env.scope.names.lookup y=some .local:=by rfl)
  (hw:swappedStores [.Tuple [.Name x px,.Name y py] kt pt] (.Tuple [a,b] k2 GR) X.env=pure (some [x,y]):=by rfl) (hc:X.calm=true:=by rfl)
  (hs:swapsWithSole [.Tuple [.Name x px,.Name y py] kt pt] (.Tuple [a,b] k2 GR) pos.line X.env=pure false:=by rfl):
  JS X R (.Assign [.Tuple [.Name x px,.Name y py] kt pt] (.Tuple [a,b] k2 GR) pos) (MR i j t):=.of (EG hc hN hi hj J0 hx hy ha hw hs) λσ H G L ρ M Dn rl n h hx=>by
 refine⟨G,L,ρ,M,_,_,rl,n,h,hx,λvs H1 xz=>?_⟩;have⟨ds,G1,L1,M1,e1,r1,n1,h1⟩:=xz
 (try dsimp only at h1)
 split at h1
 ·have⟨v,u,rfl,m1,m2⟩:=dD n1;exact⟨v,u,rfl,_,G1,L1,M1,e1,r1,((n.mono e1).set i m1).set j m2,h1⟩
 ·exact h1.elim
end
section
variable{X:Cx}{R:St->XK}{e e2 o:Expr}{es:List Expr}{t:DA}{to ta tb:DE}{a b:Expr}{p pos apos af:Pos}
def sI(hm:X.mg "abs"=none)(ha:JA X R [e] t)(he:starEach [e] X.env=(false,eval e X.env)::starEach [] X.env:=by rfl)(dI:(backTo pos (starEach [] X.env)).any (·.1)=false:=by rfl)(hg:Gl X "abs":=by rfl):JE X R (.Call (.Name "abs" p) [e] [] pos) (tw FJ t):=
 fF zj Nu hm x4 ha hg @_ @_ he dI
def IJ(hm:X.mg "min"=none)(ha:JA X R [e,e2] t)(hc:X.calm=true:=by rfl)(he:starEach [e,e2] X.env=(false,eval e X.env)::starEach [e2] X.env:=by rfl)(dI:(backTo pos (starEach [e2] X.env)).any (·.1)=false:=by rfl)(hg:Gl X "min":=by rfl):JE X R (.Call (.Name "min" p) [e,e2] [] pos) (tw EN t):=
 fF (x9 hc) N3 hm yu ha hg @_ @_ he dI
def Ed(hm:X.mg "any"=none)(ha:JA X R [e] t)(hc:X.calm=true:=by rfl)(he:starEach [e] X.env=(false,eval e X.env)::starEach [] X.env:=by rfl)(dI:(backTo pos (starEach [] X.env)).any (·.1)=false:=by rfl)(hg:Gl X "any":=by rfl):JE X R (.Call (.Name "any" p) [e] [] pos) (tw Gr t):=
 fF (zh hc) K' hm xU ha hg @_ @_ he dI
def wo(hm:X.mg "str"=none)(ha:JA X R [e] t)(he:starEach [e] X.env=(false,eval e X.env)::starEach [] X.env:=by rfl)(dI:(backTo pos (starEach [] X.env)).any (·.1)=false:=by rfl)(hg:Gl X "str":=by rfl):JE X R (.Call (.Name "str" p) [e] [] pos) (tw Fm t):=
 i_ pK MC hm eR ha hg @_ @_ he dI
def Je(hm:X.mg "int"=none)(ha:JA X R [e] t)(he:starEach [e] X.env=(false,eval e X.env)::starEach [] X.env:=by rfl)(dI:(backTo pos (starEach [] X.env)).any (·.1)=false:=by rfl)(hg:Gl X "int":=by rfl):JE X R (.Call (.Name "int" p) [e] [] pos) (tw zq t):=
 i_ (xX.or pk) N2 hm eS ha hg @_ @_ he dI
def Nj(ja:JE X R a ta)(jb:JE X R b tb)(hm:behindInMarks .In b=false:=by rfl):JE X R (.Compare a [.In] [b] pos) (cQ Fw ta tb):=ot w6 LZ ja jb hm
def CJ(ja:JE X R a ta)(jb:JE X R b tb)(hm:behindInMarks .NotIn b=false:=by rfl):JE X R (.Compare a [.NotIn] [b] pos) (cQ qP ta tb):=ot o8 Cm ja jb hm
def Cj(f:Dt->List Dt->Ms->DQ->Prop)(to:DE)(t:DA):DE:=λρ M q x=>to ρ M (λd M1=>(∃z,d= .str z)/\t ρ M1 (λds M2=>f d ds M2 q) x) x
def lM(ho:JE X R o to)(ha:JA X R [e] t)(eP:attributeBase o "startswith" X.env (eval o X.env)=eval o X.env:=by rfl)
  (ke:((backTo af (starEach [e] X.env)).all (λx=> !x.1)&&(backToKw af (keywordEach [] X.env)).all (λx=>x.1.isSome)
   &&decide (([e]:List Expr).length+([]:List Keyword).length+(if ([]:List Keyword).isEmpty then 0 else 1) < 30))=true:=by rfl)
  (e6:(apos.endLine==af.line)=true:=by rfl) (hs:starEach [e] X.env=(false,eval e X.env)::starEach [] X.env:=by rfl) (cu:(backTo af (starEach [] X.env)).any (·.1)=false:=by rfl):
  JE X R (.Call (.Attribute o "startswith" apos) [e] [] af) (Cj ll to t):=
 lC PySem.F.slot_str_startswith PySem.F.type_str_startswith x5 Cy (λd ds M q h=>by unfold ll at h;split at h <;> first| exact⟨_,rfl⟩| exact h.elim) ho ha eP ke e6 hs cu
def de(ho:JE X R o to)(ha:JA X R [e] t)(eP:attributeBase o "split" X.env (eval o X.env)=eval o X.env:=by rfl)
  (ke:((backTo af (starEach [e] X.env)).all (λx=> !x.1)&&(backToKw af (keywordEach [] X.env)).all (λx=>x.1.isSome)
   &&decide (([e]:List Expr).length+([]:List Keyword).length+(if ([]:List Keyword).isEmpty then 0 else 1) < 30))=true:=by rfl)
  (e6:(apos.endLine==af.line)=true:=by rfl) (hs:starEach [e] X.env=(false,eval e X.env)::starEach [] X.env:=by rfl) (cu:(backTo af (starEach [] X.env)).any (·.1)=false:=by rfl):
  JE X R (.Call (.Attribute o "split" apos) [e] [] af) (Cj eE to t):=
 lC PySem.F.slot_str_split PySem.F.type_str_split zM Gj (λd ds M q h=>by unfold eE at h;split at h <;> first| exact⟨_,rfl⟩| exact h.elim) ho ha eP ke e6 hs cu
end
def cy{te:DE}{cs:En}{f:Dt->Dt}{M:Ms}{k:List Dt->Ms->Prop}:∀(xs Μ:List Dt),(∀x∈xs,∀q:DQ,q (f x) M->te (some x::cs) M q gP)->k (Μ++xs.map f) M->mP te cs xs Μ M k
 | [],Μ,_,h=>by rw[List.map_nil,aa2]at h;exact h
 | x::xs,Μ,ht,h=>ht x List.mem_cons_self _ (cy xs (Μ++[f x]) (λy hy=>ht y (List.mem_cons_of_mem _ hy)) (by simpa using h))
def Γ{d y:Dt}{xs:List Dt}{i:Int}{M:Ms}{q:DQ}(hs:i9 M d=some xs)(h:ik xs i=some y)(k:q y M):gT d (.int i) M q:=by
 cases d with
 | str z=>cases hs
 | _=>
  unfold gT;simp only[hs,h];exact k
def zg{z:Str}{n:Int}{M:Ms}{q:DQ}(hz:z.length<=640)(h:PySem.intText? z=some n)(k:q (.int n) M):zq [.str z] M q:=by show z.length<=640/\(match PySem.intText? z with| some n=>q (.int n) M| none=>False);rw[h];exact⟨hz,k⟩
def aP{d:Dt}{xs:List Dt}{M:Ms}{q:DQ}(hs:i9 M d=some xs)(k:q (.int xs.length) M):nE [d] M q:=by
 cases d with
 | str z=>cases hs
 | _=>
  unfold nE;simp only[hs];exact k
def cc{α:Type}{x:α}{xs:List α}:ik (x::xs) 0=some x:=az (j:=0) rfl
def yw(bs:List Bool):(List.range bs.length).all (λi=>bs.getD i false)=bs.all id:=by
 induction bs with
 | nil=>rfl
 | cons b bs ih=>
  rw[aaA,abl,abg,List.all_map,abg,<-ih];rfl
def Hu(K:fI):List V->Hp->VK->Prop:=λxs H Q=>∃(p:Addr) (bs:List Bool),xs=[.ref p]/\d9 K H p (bs.map V.bl)/\Q (.bl (bs.all id)) H
section
variable{X:Cx}
def zY (hc : X.calm = true) : bM X (.builtin "all") (Hu X.K) :=by
  intro γ s σ H xs us Q I r h;obtain⟨p,bs,rfl,hq,q⟩ :=h;obtain⟨u,rfl,r1⟩ :=dY r;cases r1;obtain⟨its,rv,pl,hz⟩ :=I.list hq;have Fy :=pw rv;subst Fy;refine call_all_walk (wpAny_pyIter_list pl.isList ?_);have lp : p < s.heap.objs.size :=by obtain⟨o,e,_⟩ :=pl.isList;exact aah e
  refine⟨s.heap.objs.size,_,_,_,_,_,λi =>bs.getD i false,rfl,Walks.list (show X.A.in1.handled = none from I.ok.hd hc) s.heap.objs.size p (aaC lp) (bs.map Value.bool).toArray,⟨⟨_,aaG _ rfl,rfl,rfl⟩,pl.isList.at λo e =>aaf _ e⟩,rX,λh' tk hk =>?_⟩;refine⟨.bl (bs.all id),H,I.kept λb o e =>hk b o (λz =>by have : b = s.heap.objs.size :=(by simpa using z);exact Nat.lt_irrefl _ (this ▸ Heap.lt_size e)) (Heap.get?_push_of_some _ e),?_,q⟩;rw[aaP,aac,yw];rfl
end
def Fx:List Dt->Ms->DQ->Prop
 | [.lst xs],M,q=>∃bs:List Bool,xs=bs.map Dt.bl/\q (.bl (bs.all id)) M
 | _,_,_=>False
def MV{K:fI}:vy K (Hu K) Fx:=by
 intro G0 L0 H0 G L M H vs ds q e r n h;unfold Fx at h;split at h
 ·rename_i xs;have⟨bs,rfl,h⟩:=h;have⟨v,rfl,n1⟩:=ai n;have⟨a,ws,rfl,e1,m⟩:=n1;exact⟨a,bs,rfl,by rw[<-iS m];exact .of (r.sub _ _ e1),ag e r h⟩
 ·exact h.elim
def DY(i j:Nat)(t:DE):DS:=λDn ρ M=>t ρ M (λd M1=>match d with
 | .tup [a,b]=>Dn.nx ((ρ.set i (some a)).set j (some b)) M1
 | _=>False) Dn.x
section
variable{X:Cx}{R:St->XK}{e o:Expr}{es:List Expr}{t:DA}{to te:DE}{p pos apos af:Pos}
def xt:bootBuiltins "all"=some (.builtin "all"):=by decide+kernel
def y9(hm:X.mg "all"=none)(ha:JA X R [e] t)(hc:X.calm=true:=by rfl)(he:starEach [e] X.env=(false,eval e X.env)::starEach [] X.env:=by rfl)(dI:(backTo pos (starEach [] X.env)).any (·.1)=false:=by rfl)(hg:Gl X "all":=by rfl):JE X R (.Call (.Name "all" p) [e] [] pos) (tw Fx t):=
 fF (zY hc) MV hm xt ha hg @_ @_ he dI
variable{i j k:Nat}{tg:Expr}
def Cw(he:JE X R e te)(hg:PG X tg (z5 X.K 2 (i6 (eX i) (i6 (eX j) yX))))(hs:swapsWithSole [tg] e pos.line X.env=pure false:=by rfl)(hw:swappedStores [tg] e X.env=pure none:=by rfl)
  (h1:(assignEach [tg] X.env).map (·.2)=[assign tg X.env]:=by rfl):JS X R (.Assign [tg] e pos) (DY i j te):=.of (AU he hg hs hw h1) λσ H G L ρ M Dn rl n h hx=>by
 refine⟨G,L,ρ,M,_,_,rl,n,h,hx,λv H1 xz=>?_⟩;have⟨d1,G1,L1,M1,e1,r1,n1,h1⟩:=xz
 (try dsimp only at h1)
 split at h1
 ·rename_i a b;have⟨p,vs,rfl,e,m⟩:=n1;have⟨v1,v2,rfl,m1,m2⟩:=dD m;exact⟨p,_,rfl,.inl (.inl (r1.sub _ _ e)),rfl,v1,_,rfl,v2,_,rfl,rfl,_,G1,L1,M1,e1,r1,((n.mono e1).set i m1).set j m2,h1⟩
 ·exact h1.elim
end
mutual
def Dt.under(n:Nat):Dt->Prop
 | .aR=>True
 | .bl _=>True
 | .int _=>True
 | .str _=>True
 | .tup ds=>Dt.bc n ds
 | .lst ds=>Dt.bc n ds
 | .obj _ _ ds=>Dt.bc n ds
 | .loc k=>k < n
 | .ref _=>True
 | .ty _=>True
 | .mh _=>True
 | .kt ds=>Dt.bc n ds
 | .exc _ _ ds=>Dt.bc n ds
 | .Ij _ _ _ _ ds=>Dt.bc n ds
def Dt.bc(n:Nat):List Dt->Prop
 | []=>True
 | d::ds=>Dt.under n d/\Dt.bc n ds
end
def MO.under(n:Nat):MO->Prop
 | .lst ds=>Dt.bc n ds
 | .ins _ _ ds=>Dt.bc n ds
 | .tI _ ds=>Dt.bc n ds
 | .raw _=>True
mutual
inductive qf(n:Nat)(E:Ms):Dt->Dt->Prop
 | old {d:Dt} (h:d.under n):qf n E d d
 | tup {ds es:List Dt} (h:cN n E ds es):qf n E (.tup ds) (.tup es)
 | lst {ds es:List Dt} (h:cN n E ds es):qf n E (.lst ds) (.lst es)
 | obj {C:Addr} {ns:List Str} {ds es:List Dt} (h:cN n E ds es):qf n E (.obj C ns ds) (.obj C ns es)
 | qw {k:Nat} {ds es:List Dt} (hk:n<=k) (e:E[k - n]? =some (.lst ds)) (h:cN n E ds es):qf n E (.loc k) (.lst es)
 | J1 {k:Nat} {C:Addr} {ns:List Str} {ds es:List Dt} (hk:n<=k) (e:E[k - n]? =some (.ins C ns ds)) (h:cN n E ds es):qf n E (.loc k) (.obj C ns es)
inductive cN(n:Nat)(E:Ms):List Dt->List Dt->Prop
 | nil:cN n E [] []
 | cons {d e:Dt} {ds es:List Dt} (h:qf n E d e) (t:cN n E ds es):cN n E (d::ds) (e::es)
end
def cN.length{n:Nat}{E:Ms}:∀{ds es:List Dt},cN n E ds es->ds.length=es.length
 | [],es,h=>by cases h;rfl
 | d::ds,es,h=>by
  cases h with
  | cons h t=>rw[aaA,aaA,cN.length t]
def cN.old{n:Nat}{E:Ms}:∀{ds:List Dt},Dt.bc n ds->cN n E ds ds
 | [],_=>.nil
 | _::_,h=>.cons (.old h.1) (cN.old h.2)
section
variable{K:fI}{G G':Hp}{L0 t:List Addr}{n:Nat}
mutual
def oh(hn:L0.length=n)(g:bS G G'):∀(d:Dt) (v:V),d.under n->Den K G (L0++t) d v->Den K G' L0 d v
 | .aR,_,_,h=>h
 | .bl _,_,_,h=>h
 | .int _,_,_,h=>h
 | .str _,_,_,h=>h
 | .tup ds,_,u,⟨a,vs,e,h1,h2⟩=>⟨a,vs,e,g _ _ h1,aU hn g ds vs u h2⟩
 | .lst ds,_,u,⟨a,vs,e,h1,h2⟩=>⟨a,vs,e,g _ _ h1,aU hn g ds vs u h2⟩
 | .obj C ns ds,_,u,⟨a,dx,vs,e,h1,hl,h2⟩=>⟨a,dx,vs,e,g _ _ h1,hl,aU hn g ds vs u h2⟩
 | .loc k,_,u,⟨a,e,h1⟩=>⟨a,e,by
   have u:k < n:=u
   rwa[aav (by rw[hn];exact u)]at h1⟩
 | .ref _,_,_,h=>h
 | .ty _,_,_,h=>h
 | .mh _,_,_,⟨a,e,h1⟩=>⟨a,e,g.seq h1⟩
 | .kt ds,_,u,⟨a,vs,e,h1,h2⟩=>⟨a,vs,e,g.EZ h1,aU hn g ds vs u h2⟩
 | .exc _ _ ds,_,u,⟨a,od,vs,e,h1,h2,h3,h4⟩=>⟨a,od,vs,e,g _ _ h1,h2.imp (λz=>z) (λ⟨dx,z1,z2⟩=>⟨dx,z1,g _ _ z2⟩),h3,aU hn g ds vs u h4⟩
 | .Ij _ _ _ _ ds,_,u,⟨vs,e,h2,h3,h4⟩=>⟨vs,e,h2.imp (λz=>z) (λ⟨dx,z1,z2⟩=>⟨dx,z1,g _ _ z2⟩),h3,aU hn g ds vs u h4⟩
def aU(hn:L0.length=n)(g:bS G G'):∀(ds:List Dt) (vs:List V),Dt.bc n ds->Ζ K G (L0++t) ds vs->Ζ K G' L0 ds vs
 | [],_,_,h=>h
 | d::ds,_,u,⟨v,r,e,h1,h2⟩=>⟨v,r,e,oh hn g d v u.1 h1,aU hn g ds r u.2 h2⟩
end
def yd{H:Hp}{a:Addr}(hn:L0.length=n)(g:bS G G'){m:MO}(u:m.under n)(h:yy K G (L0++t) H a m):yy K G' L0 H a m:=by
 cases m with
 | lst ds=>have⟨vs,e,h⟩:=h;exact⟨vs,e,aU hn g _ _ u h⟩
 | ins C ns ds=>have⟨dx,vs,e,hl,h⟩:=h;exact⟨dx,vs,e,hl,aU hn g _ _ u h⟩
 | tI ks ds=>have⟨vs,e,hl,h⟩:=h;exact⟨vs,e,hl,aU hn g _ _ u h⟩
 | raw u=>exact h
end
open Classical in
noncomputable def k7(G H:Hp)(t:List Addr):Hp:=λb=>if b∈t then H b else G b
def vT{G H:Hp}{t:List Addr}{b:Addr}(h:b∈t):k7 G H t b=H b:=by unfold k7;rw[if_pos h]
def jC{G H:Hp}{t:List Addr}{b:Addr}(h:b∉t):k7 G H t b=G b:=by unfold k7;rw[if_neg h]
section
variable{K:fI}{G:Hp}{L0 t:List Addr}{M0 E:Ms}{H:Hp}
def eV(r:Rl K G (L0++t) (M0++E) H):bS G (k7 G H t):=λb u e=>by
 by_cases hb:b∈t
 ·have⟨_,_,_,_,g,_⟩:=r.qT (a:=b) (aas _ hb);rw[g]at e;cases e
 ·rw[jC hb];exact e
def Bg(r:Rl K G (L0++t) (M0++E) H)(hn:L0.length=M0.length){k:Nat}{a:Addr}{m:MO}(hk:M0.length<=k)(e:(L0++t)[k]? =some a)(em:E[k - M0.length]? =some m):k7 G H t a=H a/\yy K G (L0++t) H a m:=by
 have e2:(M0++E)[k]? =some m:=by rw[aaD hk];exact em
 have⟨_,q⟩:=r.gv k a m e e2;rw[aaD (by rw[hn];exact hk)]at e;exact⟨vT (aaJ e),q⟩
def CB(r:Rl K G (L0++t) (M0++E) H)(hn:L0.length=M0.length){d d':Dt}(f:qf M0.length E d d'):∀v,Den K G (L0++t) d v->Den K (k7 G H t) L0 d' v:=by
 refine qf.rec (motive_1:=λd d' _=>∀v,Den K G (L0++t) d v->Den K (k7 G H t) L0 d' v) (motive_2:=λds es _=>∀vs,Ζ K G (L0++t) ds vs->Ζ K (k7 G H t) L0 es vs) ?_ ?_ ?_ ?_ ?_ ?_ ?_ ?_ f
 ·exactλ{d} u v h=>oh hn (eV r) d v u h
 ·exactλ{ds es} f ih v ⟨a,vs,e,h1,h2⟩=>⟨a,vs,e,eV r _ _ h1,ih vs h2⟩
 ·exactλ{ds es} f ih v ⟨a,vs,e,h1,h2⟩=>⟨a,vs,e,eV r _ _ h1,ih vs h2⟩
 ·exactλ{C ns ds es} f ih v ⟨a,dx,vs,e,h1,hl,h2⟩=>⟨a,dx,vs,e,eV r _ _ h1,hl.trans f.length,ih vs h2⟩
 ·intro k ds es hk em f ih v ⟨a,e,h1⟩;have⟨o,vs,e1,h2⟩:=Bg r hn hk h1 em;exact⟨a,vs,e,o.trans e1,ih vs h2⟩
 ·intro k C ns ds es hk em f ih v ⟨a,e,h1⟩;have⟨o,dx,vs,e1,hl,h2⟩:=Bg r hn hk h1 em;exact⟨a,dx,vs,e,o.trans e1,hl.trans f.length,ih vs h2⟩
 ·exactλvs h=>h
 ·exactλ{d e ds es} f t Pu QS vs ⟨v,r,e,h1,h2⟩=>⟨v,r,e,Pu v h1,QS r h2⟩
end
def Lq(n:Nat)(q:DQ):DQ:=λd M=>∃M' E d',M=M'++E/\M'.length=n/\(∀m∈M',MO.under n m)/\qf n E d d'/\q d' M'
def Fin.qO{K:fI}{G0:Hp}{L0:List Addr}{M0:Ms}{H0:Hp}{q:DQ}{v:V}{H:Hp}(r0:Rl K G0 L0 M0 H0)(f:Fin K G0 L0 H0 (Lq M0.length q) v H):Fin K G0 L0 H0 q v H:=by
 have⟨d,G,L,M,ex,r,dn,M',E,d',rfl,hl,hu,fz,hq⟩:=f;have⟨t,rfl⟩:=ex.l;have hn:L0.length=M'.length:=by rw[hl];exact r0.len
 have OZ:∀b,b∈L0->b∉t:=λb h1 h2=>(List.nodup_append.mp r.nd).2.2 b h1 b h2 rfl;have sm:=eV r;refine⟨d',k7 G H t,L0,M',⟨ex.g.trans sm,.refl _,λb h1 h2=>?_,ex.out,λb h=>.inl h,ex.yA⟩,⟨λb u e=>?_,hn,(List.nodup_append.mp r.nd).1,λk a m h1 h2=>?_⟩,CB r hn (hl▸fz) v dn,hq⟩
 ·have hb:b∉t:=λz=>(ex.new b (aas _ z)).elim (λy=>OZ b y z) h2;rw[jC hb];exact ex.fr b h1 h2
 ·by_cases hb:b∈t
  ·rw[vT hb]at e;exact e
  ·rw[jC hb]at e;exact r.sub b u e
 ·have k1:k < L0.length:=(aai.mp h1).1;have e1:(L0++t)[k]? =some a:=by rw[aav k1];exact h1
  have e2:(M'++E)[k]? =some m:=by rw[aav (by rw[<-hn];exact k1)];exact h2
  have⟨g,q⟩:=r.gv k a m e1 e2;exact⟨by rw[jC (OZ a (aaJ h1))];exact g,yd (n:=M'.length) hn sm (by rw[hl];exact hu m (aaJ h2)) q⟩
section
variable{X:Cx}{R:St->XK}{e:Expr}{t:DE}
def dz{st:Stmt}:JS X R st (λ_ _ _=>False):=λ_ _ _ _ _ _ ⟨_,_,_,_,_,_,_,h,_,_⟩=>h.elim
end
def F0(C:Addr)(m:Str)(sp:Sp)(nj:List V)(R:St->XK)(ta:TE)(t:TA):TE:=λσ H Q=>ta σ H λx H1=>∃a dx fs,x= .ref a/\H1 a=some (.ins C dx fs)/\fs.lookup m=none/\
 t σ H1 λvs H2=>sp (x::(vs++nj)) H2 Q (R σ)
def GH(C:Addr)(sp:Sp)(nj:List V)(R:St->XK)(t:TA):TE:=λσ H Q=>t σ H λvs H1=>∀x dx,H1 x=none->H1 dx=none->dx≠x->
 sp (.ref x::(vs++nj)) (upd (upd H1 dx (.own x)) x (.ins C dx [])) (λv H2=>v= .aR/\Q (.ref x) H2) (R σ)
section
variable{X:Cx}{CX:tJ}{k:Nat}{f C:Addr}{fd:FuncData}{ps:List Str}{sp:Sp}{nj:List V}{ds:List Value}{R:St->XK}{x m:Str}{p pos apos:Pos}{e o:Expr}{es:List Expr}{ta:TE}{t:TA}
def xN{pl:Sem Bool}(he:PE X o ta)(c:yi X.K C)(hm:G6 X.K C m f)(F:Φ X.prog X.w X.K X.mg X.base CX k f fd ps sp)(hr:bj k X.A)(hb:fJ X.K fd ps ds)(hd:Ν nj ds)(hx:cE CX X R)
  (ht:eval (.Call (.Attribute o m apos) [] [] pos) X.env=(do
   let ov<-eval o X.env
   standAt apos.atName
   let (f,first)<-holding [ov] (getMethod ov m pl)
   callWith pos f first (backTo pos (starEach [] X.env)) (backToKw pos (keywordEach [] X.env))):=by rfl):
  PE X (.Call (.Attribute o m apos) [] [] pos) (F0 C m sp nj R ta HY):=by
 intro γ s σ H Q I h;refine PySem.W.methodCall_KW (pl:=pl) (ba (he γ s σ H _ I h) λu s1 xz=>?_) ht;have⟨x,H1,I1,rx,a,dx,fs,ex,ea,l,q⟩:=xz;subst ex;obtain rfl:u=Value.ref a:=rx;refine tQ I1 ea c hm l ?_;exact PySem.W.callWith_K0 (first:=[.ref a]) I1.jF hm.kp (vF (us:=[.ref a]) (vs:=[.ref a]) F hr hb hd hx I1 (.cons rfl .nil) q)
def wZ{γ:List (Addr×Obj)}{σ:St}{H:Hp}{s:Shared}{Q:VK}{us:List Value}{vs:List V}(M:Mk X.K C f)(F:Φ X.prog X.w X.K X.mg X.base CX k f fd ps sp)(hr:bj (k+1) X.A)(hb:fJ X.K fd ps ds)(hd:Ν nj ds)
  (hx:cE CX X R) (I:Inv X γ σ H s) (r:Ν vs us)
  (h:∀x dx,H x=none->H dx=none->dx≠x->sp (.ref x::(vs++nj)) (upd (upd H dx (.own x)) x (.ins C dx [])) (λv H2=>v= .aR/\Q (.ref x) H2) (R σ)):
  wpAny (model X.prog X.w) X.A (call (.ref C) us) (EP X γ σ Q) X.xe s:=by
 have hq:=h (s.heap.objs.size+1) s.heap.objs.size (I.aE.fresh (Nat.le_succ _)) (I.aE.fresh (aaj _)) (aaC (Nat.lt_succ_self _));have I2:=Inv.made (C:=C) I;have r2:Ν (V.ref (s.heap.objs.size+1)::(vs++nj)) (Value.ref (s.heap.objs.size+1)::(us++ds)):=.cons rfl (r.append hd);have hl:(Value.ref (s.heap.objs.size+1)::us++ds).length=ps.length:=by have e:=r2.length;rw[F.len _ _ _ _ hq]at e;exact e.symm
 refine wpAny_call (AI (f:=f) I.jF M.makes M.init (abv.mp M.fn) (codeAny_mono (F.run _ X.stack _ _ ⟨Value.ref (s.heap.objs.size+1)::us,[]⟩ (Value.ref (s.heap.objs.size+1)::(us++ds)) _ _ (R σ) (hr.make C us [])
  (I2.Hn.make C us []) (hb _ (Value.ref (s.heap.objs.size+1)::us) I2.jF hl) r2 hq) λr s' fK=>?_))
 cases r with
 | error e=>exact hx γ σ _ _ e s' I2 fK
 | ok fl=>
  cases fl with
  | ret u=>
   have⟨v,H',I3,rv,ev,q3⟩:=I2.after fK;subst ev;exact⟨rv,⟨V.ref (s.heap.objs.size+1),H',I3,rfl,q3⟩⟩
  | next=>exact False.elim fK
  | brk=>exact False.elim fK
  | cont=>exact False.elim fK
def zw(M:Mk X.K C f)(F:Φ X.prog X.w X.K X.mg X.base CX k f fd ps sp)(hr:bj (k+1) X.A)(hg:Gl X x)(hm:X.mg x=some (.ref C))(hb:fJ X.K fd ps ds)(hd:Ν nj ds)(hx:cE CX X R)
  (ha:PA X (e::es) t) (qL:(x==("__debug__":Str))=false:=by decide) (he:starEach (e::es) X.env=(false,eval e X.env)::starEach es X.env:=by rfl) (dI:(backTo pos (starEach es X.env)).any (·.1)=false:=by rfl):
  PE X (.Call (.Name x p) (e::es) [] pos) (GH C sp nj R t):=by
 intro γ s σ H Q I h;refine wpAny_Call_Name_kw (lr I hg hm ?_ qL);refine PySem.W.callWith_K (h₀:=X.base) I.ok.mod.Kl M.kp (ba (ha pos γ s σ H _ I h) fun us s1 ⟨vs,H1,I1,r,q⟩=>⟨I1.jF,?_⟩) he dI;exact wZ M F hr hb hd hx I1 r q
end
def BA(C:Addr)(M:Ms)(d:Dt)(ns:List Str)(ds:List Dt):Prop:=d= .obj C ns ds\/∃k,d= .loc k/\M[k]? =some (.ins C ns ds)
section
variable{K:fI}{G:Hp}{L:List Addr}{M:Ms}{H:Hp}{C:Addr}{d:Dt}{v:V}{ns:List Str}{ds:List Dt}
def D5(r:Rl K G L M H)(n:Den K G L d v)(o:BA C M d ns ds):∃a dx vs,v= .ref a/\H a=some (.ins C dx (ns.zip vs))/\ns.length=ds.length/\Ζ K G L ds vs:=by
 rcases o with rfl| ⟨k,rfl,hm⟩
 ·have⟨a,dx,vs,e,h1,hl,h2⟩:=n;exact⟨a,dx,vs,e,r.sub _ _ h1,hl,h2⟩
 ·have⟨a,e,h1⟩:=n;have⟨_,dx,vs,h2,hl,h3⟩:=r.gv k a _ h1 hm;exact⟨a,dx,vs,e,h2,hl,h3⟩
def rG{f:Str}:∀{ns:List Str} {ds:List Dt} {vs:List V} {d:Dt},Ζ K G L ds vs->(ns.zip ds).lookup f=some d->∃v,(ns.zip vs).lookup f=some v/\Den K G L d v
 | [],_,_,_,_,h=>by simp at h
 | _::_,[],_,_,_,h=>by simp at h
 | g::ns,d::ds,_,d',⟨v,r,rfl,h1,h2⟩,h=>by
  rw[aaZ,abb]at h;rw[aaZ,abb];cases q:f==g with
  | true=>rw[q]at h;cases h;exact⟨v,rfl,h1⟩
  | false=>rw[q]at h;exact rG h2 h
def qZ{f:Str}:∀{ns:List Str} {ds:List Dt} {vs:List V},Ζ K G L ds vs->(ns.zip ds).lookup f=none->(ns.zip vs).lookup f=none
 | [],_,_,_,_=>by simp
 | _::_,[],_,h,_=>by have h:_=_:=h;subst h;simp
 | g::ns,d::ds,_,⟨v,r,rfl,h1,h2⟩,h=>by
  rw[aaZ,abb]at h;rw[aaZ,abb];cases q:f==g with
  | true=>rw[q]at h;cases h
  | false=>rw[q]at h;exact qZ h2 h
def rm{f:Str}{v:V}:∀{ns:List Str} {vs:List V},ns.length=vs.length->f∉ns->fL f v (ns.zip vs)=(ns++[f]).zip (vs++[v])
 | [],[],_,_=>rfl
 | g::ns,x::vs,hl,h=>by have hg:¬g=f:=λz=>h (by rw[z];exact aad);show(if g=f then (g,v)::ns.zip vs else (g,x)::fL f v (ns.zip vs))=(g,x)::(ns++[f]).zip (vs++[v]);rw[if_neg hg,rm (by simpa using hl) λz=>h (List.mem_cons_of_mem _ z)]
 | [],_::_,hl,_=>by simp at hl
 | _::_,[],hl,_=>by simp at hl
end
def F_(C:Addr)(f:Str)(t:DE):DE:=λρ M q x=>t ρ M (λd M1=>∃ns ds v,BA C M1 d ns ds/\(ns.zip ds).lookup f=some v/\q v M1) x
def DD(C:Addr)(m:Str)(T:DF)(to:DE)(ta:DA):DE:=λρ M q x=>to ρ M (λd M1=>(∃ns ds,BA C M1 d ns ds/\(ns.zip ds).lookup m=none)/\ta ρ M1 (λds M2=>T (d::ds) M2 q (λC fs M'=>x ρ C fs M')) x) x
def y_(C:Addr)(T:DF)(ta:DA):DE:=λρ M q x=>ta ρ M (λds M1=>T (.loc M1.length::ds) (M1++[.ins C [] []]) (λd M2=>d= .aR/\q (.loc M1.length) M2) (λC fs M'=>x ρ C fs M')) x
def DV(C:Addr)(f:Str)(to tv:DE):DS:=λDn ρ M=>tv ρ M (λy M1=>to ρ M1 (λd M2=>∃k ns ds,d= .loc k/\M2[k]? =some (.ins C ns ds)/\f∉ns/\ns.length < 1000/\Dn.nx ρ (M2.set k (.ins C (ns++[f]) (ds++[y])))) Dn.x) Dn.x
structure tE(P:Program)(w:World)(K:fI)(mg:Str->Option Value)(base:Heap)(k:Nat)(C:Addr)(m:Str)(ps:List Str)(T:DF)(f:Addr)(fd:FuncData):Prop where
 ok:Φ P w K mg base (bE P w) k f fd ps (cm K T)
 b:fJ K fd ps []
 c:yi K C
 m:G6 K C m f
structure Ca(P:Program)(w:World)(K:fI)(mg:Str->Option Value)(base:Heap)(k:Nat)(x:Str)(C:Addr)(ps:List Str)(T:DF)(f:Addr)(fd:FuncData):Prop where
 ok:Φ P w K mg base (bE P w) k f fd ps (cm K T)
 b:fJ K fd ps []
 k:Mk K C f
 m:mg x=some (.ref C)
section
variable{X:Cx}{R:St->XK}{C:Addr}{f m x:Str}{T:DF}{k k':Nat}{a:Addr}{fd:FuncData}{ps:List Str}{e o value:Expr}{es:List Expr}{pos pos' apos p:Pos}{to te tv:DE}{ta:DA}
def D6(c:yi X.K C)(n:eK X.K C f)(he:JE X R e te)(hb:attributeBase e f X.env (eval e X.env)=eval e X.env:=by rfl):JE X R (.Attribute e f pos) (F_ C f te):=
 .of (FK he hb) λσ H G L ρ M q x rl en h hx=>by refine⟨G,L,ρ,M,_,x,rl,en,h,hx,λv H1 xz=>?_⟩;have⟨d1,G1,L1,M1,e1,r1,n1,ns,ds,y,ob,hl,h1⟩:=xz;have⟨p,dx,vs,rfl,hp,_,dn⟩:=D5 r1 n1 ob;have⟨u,hu,du⟩:=rG dn hl;exact⟨p,C,dx,_,u,rfl,hp,c,n,hu,y,G1,L1,M1,e1,r1,du,h1⟩
def jB{pl:Sem Bool}(D:tE X.prog X.w X.K X.mg X.base k C m ps T a fd)(hr:bj k' X.A)(hx:cE (bE X.prog X.w) X R)(ho:JE X R o to)(hk:k<=k':=by decide)
  (ht:eval (.Call (.Attribute o m apos) [] [] pos) X.env=(do
   let ov<-eval o X.env
   standAt apos.atName
   let (f,first)<-holding [ov] (getMethod ov m pl)
   callWith pos f first (backTo pos (starEach [] X.env)) (backToKw pos (keywordEach [] X.env))):=by rfl):
  JE X R (.Call (.Attribute o m apos) [] [] pos) (DD C m T to ff):=
 .of (xN (pl:=pl) ho D.c D.m D.ok (hr.mono hk) D.b .nil hx ht) λσ H G L ρ M q x rl en h hx=>by refine⟨G,L,ρ,M,_,x,rl,en,h,hx,λv H1 xz=>?_⟩;have⟨d1,G1,L1,M1,e1,r1,n1,⟨ns,ds,ob,hl⟩,h1⟩:=xz;have⟨p,dx,vs,rfl,hp,_,dn⟩:=D5 r1 n1 ob;refine⟨p,dx,_,rfl,hp,qZ dn hl,?_⟩;show cm X.K T (V.ref p::([]++[])) H1 _ _;exact⟨G1,L1,[d1],M1,q,_,r1,⟨_,_,rfl,n1,rfl⟩,h1,λv H' f=>Fin.back e1 f,λC fs M' G' L' H' od hq e' r' y=>hx σ ρ C fs M' G' L' H' od hq (e1.trans e') r' (en.mono (e1.trans e')) y⟩
def zG(D:Ca X.prog X.w X.K X.mg X.base k x C ps T a fd)(hr:bj k' X.A)(hx:cE (bE X.prog X.w) X R)(ha:JA X R (e::es) ta)(hk:k+1<=k':=by decide)(hg:Gl X x:=by rfl)(qL:(x==("__debug__":Str))=false:=by decide)
  (he:starEach (e::es) X.env=(false,eval e X.env)::starEach es X.env:=by rfl) (dI:(backTo pos (starEach es X.env)).any (·.1)=false:=by rfl):JE X R (.Call (.Name x p) (e::es) [] pos) (y_ C T ta):=
 .of (zw D.k D.ok (hr.mono hk) hg D.m D.b .nil hx ha qL he dI) λσ H G L ρ M q x rl en h hx=>by
  refine⟨G,L,ρ,M,_,x,rl,en,h,hx,λvs H1 xz y dx hy OO By=>?_⟩;have⟨ds,G1,L1,M1,e1,r1,n1,h1⟩:=xz;show cm X.K T (V.ref y::(vs++[])) _ _ _;rw[aa2];have ra:=r1.Df (o:=.own y) OO;have ea:=r1.Hg (o:=.own y) OO;have KO:upd H1 dx (HO.own y) y=none:=by rw[ω (Ne.symm By)];exact hy
  have rb:=ra.GG (p:=y) (o:=.ins C dx []) (m:=.ins C [] []) KO ⟨dx,[],Ω,rfl,rfl⟩;have eb:=ra.Mf (p:=y) (o:=.ins C dx []) KO;have e2:=ea.trans eb;have Lj:=e1.trans e2;refine⟨_,_,.loc M1.length::ds,_,_,_,rb,⟨_,_,rfl,⟨y,rfl,?_⟩,Ζ.mono e2.g e2.l _ _ n1⟩,h1,fun v H' ⟨d,G',L',M',e',r',dn,hd,hq⟩=>?_,λC fs M' G' L' H' od hq e' r' z=>hx σ ρ C fs M' G' L' H' od hq (Lj.trans e') r' (en.mono (Lj.trans e')) z⟩
  ·rw[<-r1.len,List.getElem?_append_right (Nat.le_refl _)];simp
  ·subst hd;refine⟨dn,.loc M1.length,G',L',M',Lj.trans e',r',⟨y,rfl,e'.l.get ?_⟩,hq⟩;rw[<-r1.len,List.getElem?_append_right (Nat.le_refl _)];simp
def vM(c:yi X.K C)(n:eK X.K C f)(ho:JE X R o to)(hv:JE X R value tv)(hs:swapsWith value (some (.Attribute o f pos')) pos.line X.env=pure false:=by rfl):JS X R (.Assign [.Attribute o f pos'] value pos) (DV C f to tv):=
 .of (GK ho hv hs) λσ H G L ρ M Dn rl en h hx=>by refine⟨G,L,ρ,M,_,_,rl,en,h,hx,λy H1 xz=>?_⟩;have⟨dy,G1,L1,M1,e1,r1,n1,h1⟩:=xz;refine⟨G1,L1,ρ,M1,_,_,r1,en.mono e1,h1,hx.on e1,λu H2 xz=>?_⟩;have⟨du,G2,L2,M2,e2,r2,n2,k,ns,ds,ed,hm,hf,hz,h2⟩:=xz;subst ed;have⟨p,rfl,hp⟩:=n2;have⟨_,dx,vs,hH,hl,dn⟩:=r2.gv k p _ hp hm;have Ow:ns.length=vs.length:=hl.trans dn.length;refine⟨p,C,dx,_,rfl,hH,c,n,by rw[abo,<-Ow,Nat.min_self];exact hz,?_⟩;rw[rm Ow hf];exact⟨ρ,G2,L2,_,(e1.trans e2).trans (r2.Ge hp),r2.setM (m:=.ins C (ns++[f]) (ds++[dy])) hp ⟨dx,_,Ω,by rw[aab,aab,hl];rfl,dn.app ⟨_,_,rfl,Den.mono e2.g e2.l _ _ n1,rfl⟩⟩,(en.mono (e1.trans e2)).mono (r2.Ge (o:=.own p) hp),h2⟩
end
def vv:List Dt->Ms->DQ->Prop
 | [d],M,q=>match i9 M d with
  | some xs=>q (.loc M.length) (M++[.lst xs])
  | none=>False
 | _,_,_=>False
section
variable{K:fI}
def J5:vy K (λxs H Q=>∃p ys,xs=[V.ref p]/\(d9 K H p ys\/iR K H p ys)/\∀l,H l=none->Q (.ref l) (upd H l (.lst ys))) vv:=by
 intro G0 L0 H0 G L M H vs ds q e r n h;unfold vv at h;split at h
 ·rename_i d;have⟨v,rfl,n1⟩:=ai n;split at h
  ·rename_i xs hs;have⟨a,us,rfl,hq,dn⟩:=jz r n1 hs;exact⟨a,us,rfl,hq,λl hl=>qa e r hl dn h⟩
  ·exact h.elim
 ·exact h.elim
end
section
variable{X:Cx}{R:St->XK}{e o i value:Expr}{t:DA}{to ti tv:DE}{p pos apos af nC:Pos}
def Bm(hm:X.mg "list"=none)(ha:JA X R [e] t)(hg:Gl X "list":=by rfl)(he:starEach [e] X.env=(false,eval e X.env)::starEach [] X.env:=by rfl)(dI:(backTo pos (starEach [] X.env)).any (·.1)=false:=by rfl):JE X R (.Call (.Name "list" p) [e] [] pos) (tw vv t):=
 i_ pL J5 hm dE ha hg @_ @_ he dI
def Ez(to:DE)(t:DA):DE:=λρ M q x=>to ρ M (λd M1=>(∃k xs,d= .loc k/\M1[k]? =some (.lst xs))/\t ρ M1 (λds M2=>∃k xs y,d= .loc k/\ds=[y]/\M2[k]? =some (.lst xs)/\xs.length < sizeLine/\q .aR (M2.set k (.lst (xs++[y])))) x) x
def fX(ho:JE X R o to)(ha:JA X R [e] t)(eP:attributeBase o "append" X.env (eval o X.env)=eval o X.env:=by rfl)
  (ke:((backTo af (starEach [e] X.env)).all (λx=> !x.1)&&(backToKw af (keywordEach [] X.env)).all (λx=>x.1.isSome)
   &&decide (([e]:List Expr).length+([]:List Keyword).length+(if ([]:List Keyword).isEmpty then 0 else 1) < 30))=true:=by rfl)
  (e6:(apos.endLine==af.line)=true:=by rfl) (hs:starEach [e] X.env=(false,eval e X.env)::starEach [] X.env:=by rfl) (cu:(backTo af (starEach [] X.env)).any (·.1)=false:=by rfl):
  JE X R (.Call (.Attribute o "append" apos) [e] [] af) (Ez to t):=
 .of (DO PySem.F.plainAttrs_list PySem.F.slot_list_append PySem.F.type_list_append (r:=vP) oK ho ha eP ke e6 hs cu) λσ H G L ρ M q x rl n h hx=>by refine⟨G,L,ρ,M,_,x,rl,n,h,hx,λv H1 xz=>?_⟩;have⟨d1,G1,L1,M1,e1,r1,n1,⟨k,xs,ed,hm⟩,h1⟩:=xz;subst ed;have⟨a,rfl,hk⟩:=n1;have⟨_,vs,hH,_⟩:=r1.gv k a _ hk hm;refine⟨.inl ⟨rfl,vs,.of hH⟩,G1,L1,ρ,M1,_,x,r1,n.mono e1,h1,hx.on e1,λus H2 xz=>?_⟩;have⟨ds,G2,L2,M2,e2,r2,n2,k',xs',y,ek,ed,QM,hz,h2⟩:=xz;cases ek;subst ed;have⟨u,rfl,n3⟩:=ai n2;have IZ:=e2.l.get hk;have⟨_,MT,PY,KU⟩:=r2.gv k a _ IZ QM;refine⟨a,MT,u,rfl,rfl,PY,by rw[<-KU.length];exact hz,.aR,G2,L2,_,(e1.trans e2).trans (r2.Ge IZ),r2.setM (m:=.lst (xs'++[y])) IZ ⟨_,Ω,KU.app ⟨_,_,rfl,n3,rfl⟩⟩,rfl,h2⟩
def Ao(to ti tv:DE):DS:=λDn ρ M=>tv ρ M (λy M1=>to ρ M1 (λd M2=>ti ρ M2 (λdi M3=>∃k i xs j,d= .loc k/\di= .int i/\M3[k]? =some (.lst xs)/\Bw xs.length i=some j/\Dn.nx ρ (M3.set k (.lst (xs.set j y)))) Dn.x) Dn.x) Dn.x
def zX(ho:JE X R o to)(hi:JE X R i ti)(hv:JE X R value tv)(hs:swapsWithSole [.Subscript o i nC] value pos.line X.env=pure false:=by rfl)(hw:swappedStores [.Subscript o i nC] value X.env=pure none:=by rfl)
  (h1:(assignEach [.Subscript o i nC] X.env).map (·.2)=[assign (.Subscript o i nC) X.env]:=by rfl)
  (ha:∀v,assign (.Subscript o i nC) X.env v=(do
   let ov<-holding [v] (eval o X.env)
   let iv<-holding [v,ov] (eval i X.env)
   standAt nC
   holding [v,ov,iv] (setItem ov iv v)
   release [v,ov,iv] []):=by intro _;rfl):JS X R (.Assign [.Subscript o i nC] value pos) (Ao to ti tv):=
 .of (AU hv (Fv (t:=D_) ho hi Br ha) hs hw h1) λσ H G L ρ M Dn rl n h hx=>by refine⟨G,L,ρ,M,_,_,rl,n,h,hx,λv H1 xz=>?_⟩;have⟨dv,G1,L1,M1,e1,r1,n1,h1⟩:=xz;refine⟨G1,L1,ρ,M1,_,_,r1,n.mono e1,h1,hx.on e1,λov H2 xz=>?_⟩;have⟨d,G2,L2,M2,e2,r2,n2,h2⟩:=xz;refine⟨G2,L2,ρ,M2,_,_,r2,(n.mono e1).mono e2,h2,(hx.on e1).on e2,λiv H3 xz=>?_⟩;have⟨di,G3,L3,M3,e3,r3,n3,k,i,xs,j,ed,ei,hm,hj,h3⟩:=xz;subst ed ei;have⟨a,rfl,hk⟩:=n2;have n3:iv= .int i:=n3;subst n3;have C3:=e3.l.get hk;have⟨_,vs,hH,dn⟩:=r3.gv k a _ C3 hm;have JV:=e2.trans e3;have Kb:=Den.mono JV.g JV.l _ _ n1;refine⟨a,vs,i,j,rfl,rfl,hH,by rw[<-dn.length];exact hj,ρ,G3,L3,_,((e1.trans e2).trans e3).trans (r3.Ge C3),r3.setM (m:=.lst (xs.set j dv)) C3 ⟨_,Ω,.of (wA Kb j dn.pair)⟩,(((n.mono e1).mono e2).mono e3).mono (r3.Ge (o:=.own a) C3),h3⟩
end
structure Src(K:fI)(a:Addr)(xs:List Dt)(ok:Ms->Prop)(G0:Hp)(L0:List Addr):Prop where
 at_:∀G L M H,bS G0 G->Pre L0 L->Rl K G L M H->ok M->∃vs,d9 K H a vs/\Ζ K G L xs vs
def gB(M:Ms):Dt->Option (List Dt×(Ms->Prop))
 | .lst xs=>some (xs,λ_=>True)
 | .mh ns=>some (ns.map .int,λ_=>True)
 | .loc k=>match M[k]? with
  | some (.lst xs)=>some (xs,λM'=>M'[k]? =some (.lst xs))
  | _=>none
 | _=>none
def lF{K:fI}{G:Hp}{L:List Addr}{M:Ms}{H:Hp}{d:Dt}{v:V}{xs:List Dt}{ok:Ms->Prop}(r:Rl K G L M H)(n:Den K G L d v)(h:gB M d=some (xs,ok)):∃a vs,v= .ref a/\d9 K H a vs/\Src K a xs ok G L/\ok M:=by
 cases d with
 | lst ds=>
  cases h;have⟨a,vs,rfl,e,m⟩:=n;exact⟨a,vs,rfl,.of (r.sub _ _ e),⟨λG' L' M' H' g l r' _=>⟨vs,.of (r'.sub _ _ (g _ _ e)),Ζ.mono g l _ _ m⟩⟩,trivial⟩
 | mh ns=>
  cases h;have⟨a,rfl,e⟩:=n;exact⟨a,_,rfl,r.sub.seq e,⟨λG' L' M' H' g l r' _=>⟨_,r'.sub.seq (g.seq e),dc⟩⟩,trivial⟩
 | loc k=>
  have⟨a,rfl,e⟩:=n;have h:(match M[k]? with| some (.lst xs)=>some (xs,λM':Ms=>M'[k]? =some (.lst xs))| _=>none)=some (xs,ok):=h;split at h
  ·rename_i ys hm;cases h;have⟨_,vs,e1,m1⟩:=r.gv k a _ e hm;refine⟨a,vs,rfl,.of e1,⟨λG' L' M' H' g l r' hk=>?_⟩,hm⟩;have⟨_,MT,e2,m2⟩:=r'.gv k a _ (l.get e) hk;exact⟨MT,.of e2,m2⟩
  ·cases h
 | _=>cases h
def yJ{K:fI}{G:Hp}{L:List Addr}{a:Addr}{xs:List Dt}{ok:Ms->Prop}(s:Src K a xs ok G L):FN K (Kv K a) xs ok G L where
 go:=λi G1 L1 M1 H1 d g l r k e=>by
  have⟨vs,hs,n⟩:=s.at_ G1 L1 M1 H1 g l r k;have⟨v,e1,n1⟩:=n.get e
  exact⟨⟨vs,v,hs,e1⟩,fun v' H' ⟨eH,y⟩=>by
   subst eH;have e2:=y vs hs;rw[e1]at e2;cases e2
   exact⟨G1,.refl _ _ _,r,n1⟩⟩
 stop:=λi G1 L1 M1 H1 g l r k e=>by have⟨vs,hs,n⟩:=s.at_ G1 L1 M1 H1 g l r k;exact⟨vs,hs,by rw[<-n.length];exact e⟩
def lO(M:Ms):Dt->Option (List Dt×(Ms->Prop))
 | .loc k=>gB M (.loc k)
 | d=>(Bi M d).map λxs=>(xs,λ_=>True)
def cJ(t:DE):DK:=λρ M q x=>t ρ M (λd M1=>match lO M1 d with
 | some (xs,ok)=>q xs ok M1
 | none=>False) x
def aZ{X:Cx}{R:St->XK}{tg e:Expr}{te:DE}(h:JE X R e te):JK X R tg e (cJ te):=by
 intro γ s σ H Q I ⟨G,L,ρ,M,q,x,rl,n,ht,hx,hQ⟩;refine ba (h γ s σ H (Fin X.K G L H _) I ⟨G,L,ρ,M,_,x,rl,n,ht,hx,λ_ _ f=>f⟩) λu s1 xz=>?_;have⟨v,H1,I1,rv,d,G1,L1,M1,e1,r1,n1,h1⟩:=xz
 (try dsimp only at h1)
 cases hi:lO M1 d with
 | none=>rw[hi]at h1;exact h1.elim
 | some p=>
  have⟨xs,ok⟩:=p;rw[hi]at h1;have fin:∀J,FN X.K J xs ok G1 L1->Q J H1:=λJ y=>hQ J H1 ⟨xs,ok,G1,L1,M1,e1,r1,y,h1⟩;have up:∀{J},ok=(λ_=>True)->Yl X.K J xs G1 L1->FN X.K J xs ok G1 L1:=λeo y=>by subst eo;exact⟨λi G L M H d g l r _ e=>y.go i G L M H d g l r e,λi G L M H g l r _ e=>y.stop i G L M H g l r e⟩
  cases d with
  | loc k=>
   have⟨a,vs,rfl,hs,sr,_⟩:=lF r1 n1 hi;cases rv;exact jr I1 hs (fin _ (yJ sr))
  | lst ds=>
   cases hi;have⟨a,vs,rfl,e,m⟩:=n1;cases rv;exact jr I1 (vs:=vs) (.of (r1.sub _ _ e)) (fin _ (up rfl (lD (λG' g=>.of (g _ _ e)) m)))
  | mh ns=>
   cases hi;have⟨a,rfl,e⟩:=n1;cases rv;exact jr I1 (r1.sub.seq e) (fin _ (up rfl (lD (λG' g=>g.seq e) dc)))
  | tup ds=>
   cases hi;have⟨a,vs,rfl,e,m⟩:=n1;cases rv;exact qB I1 (vs:=vs) (.of (r1.sub _ _ e)) (fin _ (up rfl (pM (λG' g=>.of (g _ _ e)) m)))
  | kt ds=>
   cases hi;have⟨a,vs,rfl,e,m⟩:=n1;cases rv;exact qB I1 (r1.sub.EZ e) (fin _ (up rfl (pM (λG' g=>g.EZ e) m)))
  | str z=>
   cases hi;cases n1;have⟨t,rfl⟩:=rv;exact Bp I1 (fin _ (up rfl z6))
  | _=>cases hi
def pd(g:Dt->En->(En->Prop)->Prop)(tb:DS)(Dn:kO)(ok:Ms->Prop):List Dt->En->Ms->Prop
 | [],ρ,M=>ok M/\Dn.nx ρ M
 | x::xs,ρ,M=>ok M/\g x ρ λρ'=>tb {Dn with nx:=pd g tb Dn ok xs,ct:=pd g tb Dn ok xs,bk:=Dn.nx} ρ' M
def DZ(ti:DK)(g:Dt->En->(En->Prop)->Prop)(tb:DS):DS:=λDn ρ M=>ti ρ M (λxs ok M1=>pd g tb Dn ok xs ρ M1) Dn.x
section
variable{X:Cx}{R:St->XK}{tg iter:Expr}{body:List Stmt}{ti:DK}{gg:TG}{g:Dt->En->(En->Prop)->Prop}{tb:DS}{pos:Pos}
def qb(hi:JK X R tg iter ti)(hg:PG X tg gg)(gd:GD X.K gg g)(hb:xE X R body tb)(hp:PassesOwn (model X.prog X.w) X.A X.env X.xe:=by first| exact PassesOwn.never| exact PassesOwn.leaving)(hc:X.calm=true:=by rfl)(hs:∀x,foldedSetIterable iter X.env x=pure x:=by intro _;rfl):
  JS X R (.For tg iter body [] pos) (DZ ti g tb):=.of (Bd hp hc hi hg hb hs) λσ H G L ρ M Dn rl n h hx=>by
 refine⟨G,L,ρ,M,_,_,rl,n,h,hx,λJ H1 xz=>?_⟩;have⟨xs,ok,G1,L1,M1,e1,r1,y,h1⟩:=xz;refine⟨λi m σ' H'=>m+i=xs.length/\cX X.K G1 L1 H1 (λρ' M'=>pd g tb Dn ok (xs.drop i) ρ' M') σ' H',⟨xs.length,rfl,ρ,G1,L1,M1,.refl _ _ _,r1,n.mono e1,by rw[List.drop_zero];exact h1⟩,?_⟩;rintro i m σ' H' ⟨hm,ρ',G',L',M',e',r',n',h'⟩;by_cases hi:i < xs.length
 ·right;have hd:xs[i]? =some xs[i]:=aaa hi;rw[abt hi]at h';have⟨aE,h'⟩:=h';have⟨go,yl⟩:=y.go i G' L' M' H' _ e'.g e'.l r' aE hd;refine⟨go,cX X.K G1 L1 H1 (λρ' M'=>pd g tb Dn ok (xs.drop (i+1)) ρ' M'),λσ2 H2 f=>⟨m - 1,(),(),f⟩,λv H2 hy=>?_⟩;have⟨G2,e2,r2,n2⟩:=yl v H2 hy;refine gd G2 L' M' H2 _ v ρ' σ' _ _ r2 n2 (n'.mono e2) h' λρ3 σ3 n3 h3=>?_;refine⟨G2,L',ρ3,M',_,r2,n3,h3,hx.on (e1.trans (e'.trans e2)),⟨λ_ _ f=>cX.back (e'.trans e2) f,λ_ _ f=>Fin.back (e1.trans (e'.trans e2)) f,λ_ _ f=>cX.back (e1.trans (e'.trans e2)) f,λ_ _ f=>cX.back (e'.trans e2) f⟩⟩
 ·left;rw[List.drop_eq_nil_of_le ()]at h';exact⟨y.stop i G' L' M' H' e'.g e'.l r' h'.1 (),ρ',G',L',M',e1.trans e',r',n',h'.2⟩
end
def ck(te:DE)(cs:En)(ok:Ms->Prop):List Dt->List Dt->Ms->(List Dt->Ms->Prop)->Prop
 | [],Μ,M,k=>ok M/\k Μ M
 | x::xs,Μ,M,k=>ok M/\te (some x::cs) M (λd M1=>ck te cs ok xs (Μ++[d]) M1 k) gP
def cT(ti:DK)(te:DE)(Α:List Nat):DE:=λρ M q x=>ti ρ M (λxs ok M1=>xs.length<=sizeLine/\ck te (kg Α ρ) ok xs [] M1 (λys M2=>q (.lst ys) M2)) x
def jd(ti:DK)(te:DE)(Α:List Nat):DE:=λρ M q x=>ti ρ M (λxs ok M1=>xs.length<=sizeLine/\ck te (kg Α ρ) ok xs [] M1 (λys M2=>q (.loc M2.length) (M2++[.lst ys]))) x
def i4{te:DE}{cs:En}{ok:Ms->Prop}:∀xs,ck te cs ok xs=fU (gN 0) m_ te (none::cs) ok xs
 | []=>rfl
 | x::xs=>funext λΜ=>funext λM=>funext λk=>by show(ok M/\te (some x::cs) M (λd M1=>ck te cs ok xs (Μ++[d]) M1 k) gP)=(ok M/\te (some x::cs) M (λd M1=>fU (gN 0) m_ te (none::cs) ok xs (Μ++[d]) M1 k) gP);rw[i4 xs]
section
variable{X:Cx}{R:St->XK}{elt iter:Expr}{x:Str}{px:Pos}{scope:Scope}{pos:Pos}{ti:DK}{te:DE}{ys:List Str}{Α:List Nat}
def br(S:Θ X scope [x] ys Α)(hi:JK X R (.Name x px) iter ti)(he:∀C s H fp,JE (Cx.comp X (x::ys) scope C s H fp) (λ_=>E0) elt te)(hc:X.calm=true:=by rfl)(hs:∀x,foldedSetIterable iter X.env x=pure x:=by intro _;rfl):JE X R (.ListComp elt [⟨.Name x px,iter,[],0⟩] scope pos) (cT ti te Α):=Kg false S hi (cM S (i:=0) rfl) cD (cz (Nat.zero_lt_succ 0)) (λ_ _ _ _=>fq) he hc hs λρ M q x h=>by unfold cT at h;simp only[i4]at h;exact h
def AR(S:Θ X scope [x] ys Α)(hi:JK X R (.Name x px) iter ti)(he:∀C s H fp,JE (Cx.comp X (x::ys) scope C s H fp) (λ_=>E0) elt te)(hc:X.calm=true:=by rfl)(hs:∀x,foldedSetIterable iter X.env x=pure x:=by intro _;rfl):JE X R (.ListComp elt [⟨.Name x px,iter,[],0⟩] scope pos) (jd ti te Α):=Kg true S hi (cM S (i:=0) rfl) cD (cz (Nat.zero_lt_succ 0)) (λ_ _ _ _=>fq) he hc hs λρ M q x h=>by unfold jd at h;simp only[i4]at h;exact h
def fW{i:Nat}{y:Str}{py je:Pos}(hN:X.N.Nodup)(Cv:X.N[i]? =some y)(hy:Loc X.env.scope y)(S:Θ X scope [x] ys Α)(hi:JK X R (.Name x px) iter ti)(he:∀C s H fp,JE (Cx.comp X (x::ys) scope C s H fp) (λ_=>E0) elt te)(hc:X.calm=true:=by rfl)(Dm:swapsWith (.ListComp elt [⟨.Name x px,iter,[],0⟩] scope pos) (some (.Name y py)) je.line X.env=pure true:=by rfl)(hs:∀x,foldedSetIterable iter X.env x=pure x:=by intro _;rfl)(hf:X.fn y=true\/X.env.scope.names.lookup y=some .local:=by first| exact .inl rfl| exact .inr rfl| assumption):JS X R (.Assign [.Name y py] (.ListComp elt [⟨.Name x px,iter,[],0⟩] scope pos) je) (xx i (cT ti te Α)):=LP false S hi (cM S (i:=0) rfl) cD (cz (Nat.zero_lt_succ 0)) (λ_ _ _ _=>fq) he hc hs hN Cv hy Dm hf λρ M q x h=>by unfold cT at h;simp only[i4]at h;exact h
def iX{i:Nat}{y:Str}{py je:Pos}(hN:X.N.Nodup)(Cv:X.N[i]? =some y)(hy:Loc X.env.scope y)(S:Θ X scope [x] ys Α)(hi:JK X R (.Name x px) iter ti)(he:∀C s H fp,JE (Cx.comp X (x::ys) scope C s H fp) (λ_=>E0) elt te)(hc:X.calm=true:=by rfl)(Dm:swapsWith (.ListComp elt [⟨.Name x px,iter,[],0⟩] scope pos) (some (.Name y py)) je.line X.env=pure true:=by rfl)(hs:∀x,foldedSetIterable iter X.env x=pure x:=by intro _;rfl)(hf:X.fn y=true\/X.env.scope.names.lookup y=some .local:=by first| exact .inl rfl| exact .inr rfl| assumption):JS X R (.Assign [.Name y py] (.ListComp elt [⟨.Name x px,iter,[],0⟩] scope pos) je) (xx i (jd ti te Α)):=LP true S hi (cM S (i:=0) rfl) cD (cz (Nat.zero_lt_succ 0)) (λ_ _ _ _=>fq) he hc hs hN Cv hy Dm hf λρ M q x h=>by unfold jd at h;simp only[i4]at h;exact h
end
def oW:∀{ns:List Int} {us:List Value},Ν (ns.map V.int) us->∃ts:List (Int×Tok),us=ts.map (λp=>Value.int p.1 p.2)/\ts.map (·.1)=ns
 | [],_,h=>by cases h;exact⟨[],rfl,rfl⟩
 | n::ns,_,h=>by
  cases h with
  | cons r t=>
   have⟨tk,rfl⟩:=r;have⟨ts,rfl,rfl⟩:=oW t;exact⟨(n,tk)::ts,rfl,rfl⟩
def IL(K:fI):List V->Hp->VK->Prop:=λxs H Q=>∃(p:Addr) (ns:List Int),xs=[.ref p]/\d9 K H p (ns.map V.int)/\Q (.int ns.sum) H
def AN{X:Cx}(hc:X.calm=true):bM X (.builtin "sum") (IL X.K):=by
 intro γ s σ H xs us Q I r h;have⟨p,ns,rfl,hq,q⟩:=h;have⟨u,rfl,r1⟩:=dY r;cases r1;have⟨its,rv,pl,hz⟩:=I.list hq;have⟨ts,rfl,rfl⟩:=oW rv;have e:(ts.map λp=>Value.int p.1 p.2).toArray=intItems ts.toArray:=by simp[intItems]
 have hl:=pl.isList;rw[e]at hl;refine sum_intListG (I.ok.hd hc) hl λh' tk t' hk=>?_;refine⟨.int (ts.map (·.1)).sum,H,I.kept hk,⟨t',?_⟩,q⟩;rw[preSum_eq,List.take_of_length_le (by simp)]
def Ga:List Dt->Ms->DQ->Prop
 | [d],M,q=>∃ns:List Int,i9 M d=some (ns.map .int)/\(∃xs ok,gB M d=some (xs,ok))/\q (.int ns.sum) M
 | _,_,_=>False
def ng{K:fI}{G:Hp}{L:List Addr}:∀{ns:List Int} {vs:List V},Ζ K G L (ns.map Dt.int) vs->vs=ns.map V.int
 | [],_,h=>h
 | _::_,_,⟨v,r,e,h1,h2⟩=>by have h1:v=_:=h1;rw[e,h1,ng h2];rfl
def jy{M:Ms}{d:Dt}{xs:List Dt}{ok:Ms->Prop}(h:gB M d=some (xs,ok)):i9 M d=some xs:=by
 cases d with
 | lst ds=>cases h;rfl
 | mh ns=>cases h;rfl
 | loc k=>
  have h:(match M[k]? with| some (.lst xs)=>some (xs,λM':Ms=>M'[k]? =some (.lst xs))| _=>none)=some (xs,ok):=h;show(match M[k]? with| some (.lst xs)=>some xs| _=>none)=some xs;split at h
  ·rename_i ys hm;cases h;rfl
  ·cases h
 | _=>cases h
def MD{K:fI}:vy K (IL K) Ga:=by
 intro G0 L0 H0 G L M H vs ds q e r n h;unfold Ga at h;split at h
 ·rename_i d;have⟨v,rfl,n1⟩:=ai n;have⟨ns,hs,⟨xs,ok,hl⟩,hq⟩:=h;have⟨a,us,rfl,sq,sr,aE⟩:=lF r n1 hl;rw[jy hl]at hs;cases hs;have⟨ws,Ou,dn⟩:=sr.at_ G L M H (.refl _) (.refl _) r aE;rw[ng dn]at Ou;exact⟨a,ns,rfl,Ou,.int ns.sum,G,L,M,e,r,rfl,hq⟩
 ·exact h.elim
def wQ:bootBuiltins "sum"=some (.builtin "sum"):=by decide+kernel
def uc:bootBuiltins "enumerate"=some (.type "enumerate"):=by decide+kernel
section
variable{X:Cx}{R:St->XK}{e a b:Expr}{t:DA}{ta tb:DE}{p pos:Pos}
def Dx(hm:X.mg "sum"=none)(ha:JA X R [e] t)(hc:X.calm=true:=by rfl)(hg:Gl X "sum":=by rfl)(he:starEach [e] X.env=(false,eval e X.env)::starEach [] X.env:=by rfl)(dI:(backTo pos (starEach [] X.env)).any (·.1)=false:=by rfl):JE X R (.Call (.Name "sum" p) [e] [] pos) (tw Ga t):=
 fF (AN hc) MD hm wQ ha hg @_ @_ he dI
def JY:Dt->Dt->Ms->DQ->Prop:=λd e M q=>∃u xs us,rS d=some u/\i9 M e=some xs/\dW xs=some us/\q (.bl (Fj u us)) M
def wM:Dt->Dt->Ms->DQ->Prop:=λd e M q=>∃u xs us,rS d=some u/\i9 M e=some xs/\dW xs=some us/\q (.bl (!Fj u us)) M
def Mi{K:fI}:jD K (Kk K false) JY:=by intro G0 L0 H0 G L M H v1 v2 d1 d2 q e r n1 n2 ⟨u,xs,us,h1,h2,h3,hq⟩;have⟨rfl,fu⟩:=mv h1 n1;have⟨a,vs,rfl,sq,dn⟩:=jz r n2 h2;have⟨rfl,fs⟩:=cw h3 dn;exact⟨a,vs,rfl,sq,fu,fs,.bl _,G,L,M,e,r,rfl,hq⟩
def B7{K:fI}:jD K (Kk K true) wM:=by intro G0 L0 H0 G L M H v1 v2 d1 d2 q e r n1 n2 ⟨u,xs,us,h1,h2,h3,hq⟩;have⟨rfl,fu⟩:=mv h1 n1;have⟨a,vs,rfl,sq,dn⟩:=jz r n2 h2;have⟨rfl,fs⟩:=cw h3 dn;exact⟨a,vs,rfl,sq,fu,fs,.bl _,G,L,M,e,r,rfl,hq⟩
def Ay(ja:JE X R a ta)(jb:JE X R b tb)(hm:behindInMarks .In b=false:=by rfl):JT X R (.Compare a [.In] [b] pos) (jA (cQ JY ta tb)):=eC xk Mi ja jb hm
def xq(ja:JE X R a ta)(jb:JE X R b tb)(hm:behindInMarks .NotIn b=false:=by rfl):JT X R (.Compare a [.NotIn] [b] pos) (jA (cQ wM ta tb)):=eC pq B7 ja jb hm
end
def Inv.og{X:Cx}{γ:List (Addr×Obj)}{σ:St}{H:Hp}{s:Shared}{h':Heap}{its:List Addr}{T:Addr}{o:HO}{t':Nat}(I:Inv X γ σ H s)(k:∀b u,b∉its->s.heap.get? b=some u->h'.get? b=some u)(f:∀b∈its,mz X γ H b)(hT:s.heap.objs.size<=T)(new:aI X.prog X.w (upd H T o) h' T o):
  Inv X γ σ (upd H T o) {s with heap:=h',toks:=t'}:=by
 have hn:=I.aE.fresh hT;have Jj:∀b u,H b=some u->b∉its:=λb u e z=>by rw[(f b z).1]at e;cases e
 refine I.call (ch:=its) (g':=s.gens) (d':=s.drawn) (t':=t') ⟨λb u q _ _ hb=>k b u hb q,λb u q _ _ hb=>⟨u.slots,k b u hb q⟩,λb u q n _=>?_,λb u q hb=>⟨u,k b u hb q⟩,λb xs q=>?_,λb u xs q=>?_,λb ps q=>⟨#[],?_⟩⟩ (λb u e=>?_) I.bare λb hb=>?_
 ·rw[ω (aaC (aak (aah q) hT))];exact n
 ·rw[ω (aS q hn)];exact q
 ·rw[ω (aS q hn)];exact q
 ·rw[ω (aS q hn),q];simp
 ·by_cases hb:b=T
  ·subst hb;rw[Ω]at e;cases e;exact new
  ·rw[ω hb]at e;refine(I.aE b u e).sh (λc v hc q=>k c v ?_ q) (λc q=>by rw[ω (aS q hn)];exact q) λc xs q=>by rw[ω (aS q hn)];exact q
   rcases hc with z| z
   ·rw[z];exact Jj b u e
   ·exact Jj c _ z
 ·have⟨f0,f1,f2,f3,f4,f5⟩:=f b hb;exact⟨f3,f1,f4,f5⟩
def Od(K:fI)(l:Addr):It:=
 ⟨λi H=>∃xs x,d9 K H l xs/\xs[i]? =some x,λi H v H'=>∃p x,H p=none/\v= .ref p/\H'=upd H p (.tup [.int i,x])/\∀xs,d9 K H l xs->xs[i]? =some x,λi H=>∃xs,d9 K H l xs/\xs.length<=i⟩
def xR{P:Program}{w:World}{K:fI}{elts:List Expr}{x1:Nat}{tp:Pos}(l it e:Addr)(By:e≠it):qW P w K (.Tuple elts x1 tp) (Od K l) [e,it] e (λi h=>(∃old,IsEnum h e it i old)/\h.IsListIter it l i) where
 mem:=by simp
 obj:=λi h st b hb=>by
  have⟨⟨old,he⟩,hi⟩:=st;rcases aay.mp hb with rfl| hb
  ·exact⟨_,he,λv z=>by
    have z':Data.fields _=Data.cell v:=z
    cases z'⟩
  ·have e:b=it:=by simpa using hb
   subst e;have⟨o,e,c,d⟩:=hi;exact⟨o,e,λv z=>by rw[d]at z;cases z⟩
 keep:=λi h h' st k=>by have⟨⟨old,he⟩,hi⟩:=st;exact⟨⟨old,k e (by simp) _ he⟩,hi.at λo q=>k it (by simp) o q⟩
 item:=by
  intro X hP hw hK hc i γ s σ H E I hf st hg;subst hP hw hK;have⟨⟨old,he⟩,hi⟩:=st;have⟨xs,x,hq,hx⟩:=hg;have⟨its,rv,p,hz⟩:=I.list hq;have⟨u,hu,ru⟩:=rv.get hx;refine wpAny_pyNext_enum_item he hi p.isList (x:=u) (by simpa using hu) By λh' ho Lp hT hsz hk=>?_;refine⟨_,rfl,wpAny_letOwnedTupleGo_enum (s:={s with heap:=h',toks:=s.toks+1}) ho λh2 Q4 sb=>?_⟩;have sb:Heap.SameBut e h' h2:=sb;have elt:e < s.heap.objs.size:=aah he;have S3:it < s.heap.objs.size:=by have⟨o,q,_⟩:=hi;exact aah q
  have neT:s.heap.objs.size≠e:=abD elt;have Q5:h2.get? s.heap.objs.size=some {cls:=.type "tuple",data:=.seq #[.int i s.toks,u]}:=(sb.2 _ neT).trans hT;have I2:Inv X γ σ (upd H s.heap.objs.size (.tup [.int i,x])) {s with heap:=h2,toks:=s.toks+1}:=by
   refine I.og (its:=[e,it]) (λb o hb q=>?_) hf (aaj _) ?_
   ·have h1:b≠e:=λz=>hb (by simp[z]);have h3:b≠it:=λz=>hb (by simp[z]);exact(sb.2 b h1).trans (hk b o h1 h3 q)
   ·refine⟨by simp[sizeLine_eq],[.int i s.toks,u],.cons ⟨_,rfl⟩ (.cons ru .nil),?_⟩;exact⟨_,Q5,rfl,0,rfl⟩
  have iter:h2.IsListIter it l (i+1):=Lp.at λo q=>(sb.2 it (Ne.symm By)).trans q;refine⟨.ref s.heap.objs.size,_,I2,rfl,⟨s.heap.objs.size,x,I.aE.fresh (Nat.le_refl _),rfl,rfl,λys hy=>by rw[I.i7 hy hq];exact hx⟩,⟨⟨u,by simpa using Q4⟩,iter⟩,λb hb=>?_⟩;have nb:b≠s.heap.objs.size:=by
   rcases aay.mp hb with rfl| hb
   ·exact aaC elt
   ·have:b=it:=by simpa using hb
    subst this;exact aaC S3
  rw[ω nb];exact(hf b hb).1
 done:=by intro X hP hw hK hc i γ s σ H E I hf st hg;subst hP hw hK;have⟨⟨old,he⟩,hi⟩:=st;have⟨xs,hq,hx⟩:=hg;have⟨its,rv,p,hz⟩:=I.list hq;have hl:=rv.length;have⟨f0,f1,f2,f3,f4,f5⟩:=hf it (by simp);refine wpAny_pyNext_enum_end (I.ok.hd hc) he hi p.isList (by simp;omega) λh' ext=>⟨rfl,I.turned (t':=s.toks) (λb o hb q=>ext b o hb q) f0 f1 f3 f4 f5⟩
 self:=λ_ _ _ _ _ st h=>by have⟨⟨old,he⟩,_⟩:=st;exact wpAny_pyIter_enum he h
def gk:Nat->List Dt->List Dt
 | _,[]=>[]
 | n,x::xs=>.tup [.int n,x]::gk (n+1) xs
def jc:∀(n:Nat) (xs:List Dt),(gk n xs).length=xs.length
 | _,[]=>rfl
 | n,_::xs=>by unfold gk;rw[List.length_cons,List.length_cons,jc]
def n8:∀{n i:Nat} {xs:List Dt} {d:Dt},(gk n xs)[i]? =some d->∃x,xs[i]? =some x/\d= .tup [.int ((n+i:Nat):Int),x]
 | n,i,[],d,h=>by simp[gk]at h
 | n,0,x::xs,d,h=>by unfold gk at h;simp at h;exact⟨x,rfl,by rw[<-h];simp⟩
 | n,i+1,x::xs,d,h=>by unfold gk at h;have⟨y,h1,h2⟩:=n8 (n:=n+1) (i:=i) (xs:=xs) (d:=d) (by simpa using h);exact⟨y,by simpa using h1,by rw[h2,show n+1+i=n+(i+1) by omega]⟩
def zI{K:fI}{G:Hp}{L:List Addr}{a:Addr}{xs:List Dt}{ok:Ms->Prop}(s:Src K a xs ok G L):FN K (Od K a) (gk 0 xs) ok G L where
 go:=λi G1 L1 M1 H1 d g l r k e=>by have⟨vs,hs,n⟩:=s.at_ G1 L1 M1 H1 g l r k;have⟨y,ey,rfl⟩:=n8 e;have⟨v,e1,n1⟩:=n.get ey;refine⟨⟨vs,v,hs,e1⟩,λv' H' xz=>?_⟩;have⟨p,x,hp,ev,eH,hx⟩:=xz;subst ev eH;have e2:=hx vs hs;rw[e1]at e2;cases e2;refine⟨_,r.Hg hp,r.Df hp,gJ (ds:=[.int ((0+i:Nat):Int),y]) r hp ⟨_,_,rfl,?_,_,_,rfl,n1,rfl⟩⟩;show V.int i=V.int _;rw[Nat.zero_add]
 stop:=λi G1 L1 M1 H1 g l r k e=>by have⟨vs,hs,n⟩:=s.at_ G1 L1 M1 H1 g l r k;exact⟨vs,hs,by rw[<-n.length,<-jc 0];exact e⟩
def Eg(t:DA):DK:=λρ M q x=>t ρ M (λds M1=>∃d xs ok,ds=[d]/\gB M1 d=some (xs,ok)/\q (gk 0 xs) ok M1) x
def v7{X:Cx}{R:St->XK}{elts:List Expr}{x1:Nat}{tp:Pos}{a:Expr}{t:DA}{p pos:Pos}(hm:X.mg "enumerate"=none)(ha:JA X R [a] t)(hg:Gl X "enumerate":=by rfl)(hs:starEach [a] X.env=[(false,eval a X.env)]:=by rfl):JK X R (.Tuple elts x1 tp) (.Call (.Name "enumerate" p) [a] [] pos) (Eg t):=by
 intro γ s σ H Q I ⟨G,L,ρ,M,q,x,rl,n,ht,hx,hQ⟩;refine Call_ (j9 I hg hm uc (PyProof.Rows.callWith_type1 (ba (ha pos γ s σ H (Ds X.K G L H _) I ⟨G,L,ρ,M,_,x,rl,n,ht,hx,λ_ _ f=>f⟩) λus s1 xz=>?_) hs rfl));have⟨vs,H1,I1,rv,ds,G1,L1,M1,e1,r1,n1,d,xs,ok,ed,hl,h1⟩:=xz;subst ed;have⟨v,rfl,n2⟩:=ai n1;have⟨b,ws,rfl,sq,sr,_⟩:=lF r1 n2 hl;have⟨u,rfl,ru⟩:=Ν.one rv;cases ru;have⟨its,_,pl,_⟩:=I1.list sq;refine call_enumerate_list pl.isList λh' he hi hz hk=>?_;have I2:Inv X γ σ H1 {s1 with heap:=h'}:=I1.kept (t':=s1.toks) hk;refine wpAny_pyIter_enum (s:={s1 with heap:=h'}) he ⟨s1.heap.objs.size+1,[s1.heap.objs.size+1,s1.heap.objs.size],_,_,H1,rfl,I2,xR b s1.heap.objs.size (s1.heap.objs.size+1) (abD (Nat.lt_succ_self _)),⟨⟨_,he⟩,hi⟩,λc hc=>?_,hQ _ _ ⟨_,ok,G1,L1,M1,e1,r1,zI sr,h1⟩⟩;have hc:s1.heap.objs.size<=c:=by
  rcases aay.mp hc with rfl| hc
  ·exact Nat.le_succ _
  ·have:c=s1.heap.objs.size:=by simpa using hc
   rw[this];exact aaj _
 have f:=I1.xw (H':=H1) hc (I1.aE.fresh hc);exact f
def Ac(M:Ms):Dt->Option Value
 | .loc k=>match M[k]? with
  | some (.lst _)=>some (.type "list")
  | _=>none
 | d=>El d
def D1(K:fI):List Dt->Ms->DQ->Prop:=λds M q=>∃d c t t' b,ds=[d,c]/\Ac M d=some t/\IF c=some t'/\PySem.W.kitOne K t t'=some b/\q (.bl b) M
section
variable{K:fI}
def uF{G:Hp}{L:List Addr}{M:Ms}{H:Hp}{d:Dt}{v:V}{t:Value}(r:Rl K G L M H)(n:Den K G L d v)(h:Ac M d=some t):gR K H v t:=by
 by_cases hd:∃k,d= .loc k
 ·have⟨k,rfl⟩:=hd;have⟨a,rfl,e⟩:=n;have h:(match M[k]? with| some (.lst _)=>some (Value.type "list")| _=>none)=some t:=h;split at h
  ·rename_i xs hm;cases h;have⟨_,vs,e1,_⟩:=r.gv k a _ e hm;exact .lst e1
  ·cases h
 ·refine xu r n ?_;cases d with
  | loc k=>exact aaE ⟨k,rfl⟩ hd
  | _=>exact h
def HI:vy K (λxs H Q=>∃x c t t' b,xs=[x,c]/\gR K H x t/\BX c=some t'/\PySem.W.kitOne K t t'=some b/\Q (.bl b) H) (D1 K):=by intro G0 L0 H0 G L M H vs ds q e r n ⟨d,c,t,t',b,ed,h1,h2,hb,h⟩;subst ed;have⟨v,u,rfl,n1,n2⟩:=dD n;exact⟨v,u,t,t',b,rfl,uF r n1 h1,B6 n2 h2,hb,ag e r h⟩
end
section
variable{X:Cx}{R:St->XK}{e e2:Expr}{t:DA}{p pos:Pos}
def bb(K:fI)(hm:X.mg "isinstance"=none)(ha:JA X R [e,e2] t)(he:starEach [e,e2] X.env=(false,eval e X.env)::starEach [e2] X.env:=by rfl)(dI:(backTo pos (starEach [e2] X.env)).any (·.1)=false:=by rfl)(hg:Gl X "isinstance":=by rfl)(hK:X.K=K:=by rfl):JE X R (.Call (.Name "isinstance" p) [e,e2] [] pos) (tw (D1 K) t):=by subst hK;exact fF tq HI hm jQ ha hg @_ @_ he dI
def oi:∀{zs:List Str} {us:List Value},Paired (λ(z:Str) (u:Value)=>∃tk,u= .str z tk) zs us->Ν (zs.map V.str) us
 | _,_,.nil=>.nil
 | _,_,.cons h t=>.cons h (oi t)
def Dz{x:Str}{zs:List Str}(hm:∃a o its n,X.mg x=some (.ref a)/\X.K.lookup a=some o/\o.cls= .type "tuple"/\o.data= .seq its n/\its.size<=sizeLine/\Paired (λ(z:Str) (u:Value)=>∃tk,u= .str z tk) zs its.toList)(hg:Gl X x:=by rfl)(hd:(x==("__debug__":Str))=false:=by decide):JE X R (.Name x pos) (dC (.kt (zs.map .str))):=by have⟨a,o,its,n,h1,h2,h3,h4,h5,h6⟩:=hm;exact DP (v:=.ref a) (qV hg h1 rfl hd) λG L=>⟨a,zs.map V.str,rfl,.inr ⟨o,its,n,h2,h3,h4,h5,oi h6⟩,gG⟩
end
def cp{te:DE}{cs:En}{ok:Ms->Prop}{f:Dt->Dt}:∀{xs Μ:List Dt} {M:Ms} {k:List Dt->Ms->Prop},ok M->(∀x∈xs,∀q:DQ,q (f x) M->te (some x::cs) M q gP)->k (Μ++xs.map f) M->ck te cs ok xs Μ M k
 | [],Μ,M,k,ho,_,h=>⟨ho,by simpa using h⟩
 | x::xs,Μ,M,k,ho,hf,h=>⟨ho,hf x List.mem_cons_self _ (cp ho (λy hy=>hf y (List.mem_cons_of_mem _ hy)) (by simpa using h))⟩
def jl{g:Dt->En->(En->Prop)->Prop}{tb:DS}{Dn:kO}{ok:Ms->Prop}(J:List Dt->En->Ms->Prop)(aE:∀xs ρ M,J xs ρ M->ok M)
  (step:∀x xs ρ M,J (x::xs) ρ M->(∀ρ M,J xs ρ M->pd g tb Dn ok xs ρ M)->g x ρ λρ'=>tb {Dn with nx:=pd g tb Dn ok xs,ct:=pd g tb Dn ok xs,bk:=Dn.nx} ρ' M)
  (fin:∀ρ M,J [] ρ M->Dn.nx ρ M):∀(xs:List Dt) (ρ:En) (M:Ms),J xs ρ M->pd g tb Dn ok xs ρ M
 | [],ρ,M,h=>⟨aE _ _ _ h,fin _ _ h⟩
 | x::xs,ρ,M,h=>⟨aE _ _ _ h,step x xs ρ M h λρ' M' h'=>jl J aE step fin xs ρ' M' h'⟩
section
variable{K:fI}{G:Hp}{L:List Addr}
mutual
def Fs:∀(d:Dt) (v:V),Den K G L d v->d.under L.length
 | .aR,_,_=>trivial
 | .bl _,_,_=>trivial
 | .int _,_,_=>trivial
 | .str _,_,_=>trivial
 | .tup ds,_,⟨a,vs,e,h1,h2⟩=>cC ds vs h2
 | .lst ds,_,⟨a,vs,e,h1,h2⟩=>cC ds vs h2
 | .obj C ns ds,_,⟨a,dx,vs,e,h1,hl,h2⟩=>cC ds vs h2
 | .loc k,_,⟨a,e,h1⟩=>(aai.mp h1).1
 | .ref _,_,_=>trivial
 | .ty _,_,_=>trivial
 | .mh _,_,_=>trivial
 | .kt ds,_,⟨a,vs,e,h1,h2⟩=>cC ds vs h2
 | .exc _ _ ds,_,⟨a,od,vs,e,h1,h2,h3,h4⟩=>cC ds vs h4
 | .Ij _ _ _ _ ds,_,⟨vs,e,h2,h3,h4⟩=>cC ds vs h4
def cC:∀(ds:List Dt) (vs:List V),Ζ K G L ds vs->Dt.bc L.length ds
 | [],_,_=>trivial
 | d::ds,_,⟨v,r,e,h1,h2⟩=>⟨Fs d v h1,cC ds r h2⟩
end
def Rl.un{M:Ms}{H:Hp}(r:Rl K G L M H):∀m∈M,MO.under M.length m:=λm hm=>by
 have⟨k,hk,e⟩:=List.getElem_of_mem hm;have em:M[k]? =some m:=by rw[aaa hk,e]
 have el:L[k]? =some (L[k]'(by rw[r.len];exact hk)):=aaa _;have⟨_,q⟩:=r.gv k _ m el em;rw[<-r.len];cases m with
 | lst ds=>have⟨vs,_,h⟩:=q;exact cC _ _ h
 | ins C ns ds=>have⟨dx,vs,_,_,h⟩:=q;exact cC _ _ h
 | tI ks ds=>have⟨vs,_,_,h⟩:=q;exact cC _ _ h
 | raw u=>trivial
end
def sY(M0:Ms)(q:DQ):DQ:=λd M=>∃E d',M=M0++E/\qf M0.length E d d'/\q d' M0
def Fin.sY{K:fI}{G0:Hp}{L0:List Addr}{M0:Ms}{H0:Hp}{q:DQ}{v:V}{H:Hp}(r0:Rl K G0 L0 M0 H0)(f:Fin K G0 L0 H0 (sY M0 q) v H):Fin K G0 L0 H0 q v H:=by have⟨d,G,L,M,ex,r,dn,E,d',e,fz,hq⟩:=f;exact Fin.qO r0 ⟨d,G,L,M,ex,r,dn,M0,E,d',e,rfl,r0.un,fz,hq⟩
def HR(t:DE):DE:=λρ M q x=>t ρ M (sY M q) x
def fH{X:Cx}{R:St->XK}{e:Expr}{t:DE}(h:JE X R e t):JE X R e (HR t):=.of h λσ H G L ρ M q x rl n ht hx=>⟨G,L,ρ,M,_,x,rl,n,ht,hx,λv H1 f=>Fin.sY rl f⟩
def C4{M0:Ms}{q:DQ}{d:Dt}(hu:d.under M0.length)(h:q d M0):sY M0 q d M0:=⟨[],d,by simp,.old hu,h⟩
def fv{M0 E:Ms}{q:DQ}{d d':Dt}(f:qf M0.length E d d')(h:q d' M0):sY M0 q d (M0++E):=⟨E,d',rfl,f,h⟩
def c_(f:Expr->Option Dt):List Expr->Option (List Dt)
 | []=>some []
 | e::es=>match f e,c_ f es with
  | some d,some ds=>some (d::ds)
  | _,_=>none
def dF:Nat->Expr->Option Dt
 | 0,e=>match e with
  | .Constant (.int i) _ _=>some (.int i)
  | .Constant (.str x) _ _=>some (.str x)
  | _=>none
 | n+1,e=>match e with
  | .Constant (.int i) _ _=>some (.int i)
  | .Constant (.str x) _ _=>some (.str x)
  | .Tuple es _ _=>if es.length<=100 then (c_ (dF n) es).map .tup else none
  | .List es _=>if es.length<=100 then (c_ (dF n) es).map .lst else none
  | _=>none
def uT{n:Nat}{e:Expr}{d:Dt}{es:List Expr}{env:Env}(h:dF n e=some d):starEach (e::es) env=(false,eval e env)::starEach es env:=by cases n <;> (unfold dF at h;split at h <;> first| rfl| cases h)
def gm{f:Expr->Option Dt}:∀{es:List Expr} {ds:List Dt},c_ f es=some ds->ds.length=es.length
 | [],ds,h=>by cases h;rfl
 | e::es,ds,h=>by
  unfold c_ at h;split at h
  ·rename_i d yH h1 h2;cases h;rw[aaA,aaA,gm h2]
  ·cases h
section
variable{X:Cx}{R:St->XK}
def mG{n:Nat}(ih:∀(e:Expr) (d:Dt),dF n e=some d->JE X R e (dC d)):∀(es:List Expr) (ds:List Dt),c_ (dF n) es=some ds->JA X R es (λ_ M q _=>q ds M)
 | [],ds,h=>by cases h;exact δ
 | e::es,ds,h=>by
  unfold c_ at h;split at h
  ·rename_i d yH h1 h2;cases h;exact ζ (ih e d h1) (mG ih es yH h2) (hs:=uT h1)
  ·cases h
def wy{n:Nat}(h:n<=100):n<=sizeLine:=aaq h @_
def JE.imp{e:Expr}{t t':DE}(h:JE X R e t)(hi:∀ρ M q x,t' ρ M q x->t ρ M q x):JE X R e t':=.of h λσ H G L ρ M q x rl n ht hx=>⟨G,L,ρ,M,q,x,rl,n,hi _ _ _ _ ht,hx,λ_ _ f=>f⟩
def gE:∀(n:Nat) {e:Expr} {d:Dt},dF n e=some d->JE X R e (dC d)
 | 0,e,d,h=>by
  unfold dF at h;split at h
  ·cases h;exact ι
  ·cases h;exact av
  ·cases h
 | n +1,e,d,h=>by
  unfold dF at h;split at h
  ·cases h;exact ι
  ·cases h;exact av
  ·split at h
   ·rename_i es _ _ hl;cases hc:c_ (dF n) es with
    | none=>rw[hc]at h;cases h
    | some ds=>
     rw[hc]at h;cases h;exact(cn (mG (λe d=>gE n) es ds hc)).imp λρ M q x hq=>⟨wy (by rw[gm hc];exact hl),hq⟩
   ·cases h
  ·split at h
   ·rename_i es _ hl;cases hc:c_ (dF n) es with
    | none=>rw[hc]at h;cases h
    | some ds=>
     rw[hc]at h;cases h;exact(vR (mG (λe d=>gE n) es ds hc)).imp λρ M q x hq=>⟨wy (by rw[gm hc];exact hl),hq⟩
   ·cases h
  ·cases h
end
def w4:bootBuiltins "zip"=some (.type "zip"):=by decide+kernel
def Inv.CZ{X:Cx}{γ:List (Addr×Obj)}{σ:St}{H:Hp}{s:Shared}{h':Heap}{its:List Addr}{t':Nat}(I:Inv X γ σ H s)(k:∀b u,b∉its->s.heap.get? b=some u->h'.get? b=some u)(f:∀b∈its,mz X γ H b):
  Inv X γ σ H {s with heap:=h',toks:=t'}:=by
 have Jj:∀b u,H b=some u->b∉its:=λb u e z=>by rw[(f b z).1]at e;cases e
 refine I.call (ch:=its) (g':=s.gens) (d':=s.drawn) (t':=t') ⟨λb u q _ _ hb=>k b u hb q,λb u q _ _ hb=>⟨u.slots,k b u hb q⟩,λb u q n _=>n,λb u q hb=>⟨u,k b u hb q⟩,λb xs q=>q,λb u xs q=>q,λb ps q=>⟨#[],by rw[q];simp⟩⟩ (λb u e=>?_) I.bare λb hb=>?_
 ·refine(I.aE b u e).sh (λc v hc q=>k c v ?_ q) (λc q=>q) λc xs q=>q;rcases hc with z| z
  ·rw[z];exact Jj b u e
  ·exact Jj c _ z
 ·have⟨f0,f1,f2,f3,f4,f5⟩:=f b hb;exact⟨f3,f1,f4,f5⟩
def OH(K:fI)(l1 l2:Addr):It:=
 ⟨λi H=>∃xs ys x y,d9 K H l1 xs/\d9 K H l2 ys/\xs[i]? =some x/\ys[i]? =some y,
  λi H v H'=>∃p x y,H p=none/\v= .ref p/\H'=upd H p (.tup [x,y])/\(∀xs,d9 K H l1 xs->xs[i]? =some x)/\∀ys,d9 K H l2 ys->ys[i]? =some y,
  λi H=>∃xs ys,d9 K H l1 xs/\d9 K H l2 ys/\(xs.length<=i\/ys.length<=i)⟩
def ze{P:Program}{w:World}{K:fI}{elts:List Expr}{x1:Nat}{tp:Pos}{l1 l2 i1 i2 TI TO z:Addr}(D:ZipApart z TI TO i1 i2 l1 l2):qW P w K (.Tuple elts x1 tp) (OH K l1 l2) [z,TI,TO,i1,i2] z (λi h=>(∃a b,IsZip h z TI TO .none/\IsPair h TI (.ref i1) (.ref i2)/\IsPair h TO a b)/\h.IsListIter i1 l1 i/\h.IsListIter i2 l2 i) where
 mem:=by simp
 obj:=λi h st b hb=>by
  have⟨⟨a,c,hz,Av,Bx⟩,h1,h2⟩:=st;simp only[List.mem_cons,List.not_mem_nil,or_false]at hb;rcases hb with rfl| rfl| rfl| rfl| rfl
  ·exact⟨_,hz,λv z=>by
    have z':Data.fields _=Data.cell v:=z
    cases z'⟩
  ·exact⟨_,Av,λv z=>by
    have z':Data.seq _=Data.cell v:=z
    cases z'⟩
  ·exact⟨_,Bx,λv z=>by
    have z':Data.seq _=Data.cell v:=z
    cases z'⟩
  ·have⟨o,e,c,d⟩:=h1;exact⟨o,e,λv z=>by rw[d]at z;cases z⟩
  ·have⟨o,e,c,d⟩:=h2;exact⟨o,e,λv z=>by rw[d]at z;cases z⟩
 keep:=λi h h' st k=>by have⟨⟨a,c,hz,Av,Bx⟩,h1,h2⟩:=st;exact⟨⟨a,c,k z (by simp) _ hz,k TI (by simp) _ Av,k TO (by simp) _ Bx⟩,h1.at λo q=>k i1 (by simp) o q,h2.at λo q=>k i2 (by simp) o q⟩
 item:=by
  intro X hP hw hK hc i γ s σ H E I hf st hg;subst hP hw hK;have⟨⟨a,c,hz,Av,Bx⟩,h1,h2⟩:=st;have⟨xs,ys,x,y,KR,Kh,hx,hy⟩:=hg;have⟨NU,LJ,p1,_⟩:=I.list KR;have⟨u1,Sg,Sv⟩:=LJ.get hx;have⟨zk,Nk,p2,_⟩:=I.list Kh;have⟨u2,S8,P0⟩:=Nk.get hy;refine wpAny_pyNext_zip_item D hz Av Bx h1 h2 p1.isList p2.isList (x:=u1) (y:=u2) (by simpa using Sg) (by simpa using S8) λh' E9 LW Oh RL hT hsz hk=>?_;refine⟨_,rfl,wpAny_letOwnedTupleGo_zip (s:={s with heap:=h'}) E9 λh3 QG sb=>?_⟩;have sb:Heap.SameBut z h' h3:=sb;have Pa:z < s.heap.objs.size:=aah hz;have neT:s.heap.objs.size≠z:=abD Pa;have Q_:h3.get? s.heap.objs.size=some {cls:=.type "tuple",data:=.seq #[u1,u2]}:=(sb.2 _ neT).trans hT;have lt:∀b∈[z,TI,TO,i1,i2],b < s.heap.objs.size:=λb hb=>by
   simp only[List.mem_cons,List.not_mem_nil,or_false]at hb;rcases hb with rfl| rfl| rfl| rfl| rfl
   ·exact Pa
   ·exact aah Av
   ·exact aah Bx
   ·have⟨o,q,_⟩:=h1;exact aah q
   ·have⟨o,q,_⟩:=h2;exact aah q
  have I2:Inv X γ σ (upd H s.heap.objs.size (.tup [x,y])) {s with heap:=h3,toks:=s.toks}:=by
   refine I.og (its:=[z,TI,TO,i1,i2]) (λb o hb q=>?_) hf (aaj _) ?_
   ·simp only[List.mem_cons,List.not_mem_nil,or_false,not_or]at hb;have⟨b1,b2,b3,b4,b5⟩:=hb;exact(sb.2 b b1).trans (hk b o b1 b3 b4 b5 q)
   ·refine⟨by simp[sizeLine_eq],[u1,u2],.cons Sv (.cons P0 .nil),?_⟩;exact⟨_,Q_,rfl,0,rfl⟩
  refine⟨.ref s.heap.objs.size,_,I2,rfl,⟨s.heap.objs.size,x,y,I.aE.fresh (aaj _),rfl,rfl,λzs Ml=>by rw[I.i7 Ml KR];exact hx,λzs Ml=>by rw[I.i7 Ml Kh];exact hy⟩,⟨⟨u1,u2,QG,(sb.2 _ D.TIz).trans (hk _ _ D.TIz D.TITO D.TIi1 D.TIi2 Av),(sb.2 _ D.TOz).trans LW⟩,Oh.at λo q=>(sb.2 i1 D.i1z).trans q,RL.at λo q=>(sb.2 i2 D.i2z).trans q⟩,λb hb=>?_⟩;rw[ω (aaC (lt b hb))];exact(hf b hb).1
 done:=by intro X hP hw hK hc i γ s σ H E I hf st hg;subst hP hw hK;have⟨⟨a,c,hz,Av,Bx⟩,h1,h2⟩:=st;have⟨xs,ys,KR,Kh,hx⟩:=hg;have⟨NU,LJ,p1,_⟩:=I.list KR;have⟨zk,Nk,p2,_⟩:=I.list Kh;have NI:=LJ.length;have GQ:=Nk.length;refine wpAny_pyNext_zip_end (I.ok.hd hc) D hz Av Bx h1 h2 p1.isList p2.isList (by rcases hx with hx| hx;(left;simp;omega);(right;simp;omega)) λh' ext=>⟨rfl,I.CZ (t':=s.toks) (its:=[z,TI,TO,i1,i2]) (λb o hb q=>?_) hf⟩;simp only[List.mem_cons,List.not_mem_nil,or_false,not_or]at hb;have⟨b1,b2,b3,b4,b5⟩:=hb;exact ext b o b1 b3 b4 b5 q
 self:=λ_ _ _ _ _ st h=>by have⟨⟨a,c,hz,_,_⟩,_⟩:=st;exact wpAny_pyIter_zip hz h
def sf(xs ys:List Dt):List Dt:=(xs.zip ys).map λp=>.tup [p.1,p.2]
def Bk{xs ys:List Dt}{i:Nat}{d:Dt}(h:(sf xs ys)[i]? =some d):∃x y,xs[i]? =some x/\ys[i]? =some y/\d= .tup [x,y]:=by
 unfold sf at h;rw[aaB]at h;cases e:(xs.zip ys)[i]? with
 | none=>rw[e]at h;cases h
 | some p=>
  rw[e]at h;cases h;have⟨h1,h2⟩:=List.getElem?_zip_eq_some.mp e;exact⟨p.1,p.2,h1,h2,rfl⟩
def sO(xs ys:List Dt):(sf xs ys).length=min xs.length ys.length:=by unfold sf;rw[List.length_map,List.length_zip]
def Cf{K:fI}{G:Hp}{L:List Addr}{a b:Addr}{xs ys:List Dt}{ok G_:Ms->Prop}(s:Src K a xs ok G L)(s':Src K b ys G_ G L):FN K (OH K a b) (sf xs ys) (λM=>ok M/\G_ M) G L where
 go:=λi G1 L1 M1 H1 d g l r k e=>by have⟨vs,hs,n⟩:=s.at_ G1 L1 M1 H1 g l r k.1;have⟨KH,KW,n'⟩:=s'.at_ G1 L1 M1 H1 g l r k.2;have⟨x,y,ex,ey,rfl⟩:=Bk e;have⟨v,e1,n1⟩:=n.get ex;have⟨v',Oo,L6⟩:=n'.get ey;refine⟨⟨vs,KH,v,v',hs,KW,e1,Oo⟩,λw H' xz=>?_⟩;have⟨p,x2,y2,hp,ev,eH,hx,hy⟩:=xz;subst ev eH;have e2:=hx vs hs;rw[e1]at e2;cases e2;have e3:=hy KH KW;rw[Oo]at e3;cases e3;exact⟨_,r.Hg hp,r.Df hp,gJ (ds:=[x,y]) r hp ⟨_,_,rfl,n1,_,_,rfl,L6,rfl⟩⟩
 stop:=λi G1 L1 M1 H1 g l r k e=>by have⟨vs,hs,n⟩:=s.at_ G1 L1 M1 H1 g l r k.1;have⟨KH,KW,n'⟩:=s'.at_ G1 L1 M1 H1 g l r k.2;refine⟨vs,KH,hs,KW,?_⟩;rw[<-n.length,<-n'.length];rw[sO]at e;omega
def Iz(t:DA):DK:=λρ M q x=>t ρ M (λds M1=>∃d d' xs ys ok G_,ds=[d,d']/\gB M1 d=some (xs,ok)/\gB M1 d'=some (ys,G_)/\q (sf xs ys) (λM=>ok M/\G_ M) M1) x
def E8{X:Cx}{R:St->XK}{elts:List Expr}{x1:Nat}{tp:Pos}{a a':Expr}{t:DA}{p pos:Pos}(hm:X.mg "zip"=none)(ha:JA X R [a,a'] t)(hg:Gl X "zip":=by rfl)(hs:starEach [a,a'] X.env=(false,eval a X.env)::starEach [a'] X.env:=by rfl)(dI:(backTo pos (starEach [a'] X.env)).any (·.1)=false:=by rfl):JK X R (.Tuple elts x1 tp) (.Call (.Name "zip" p) [a,a'] [] pos) (Iz t):=by
 intro γ s σ H Q I ⟨G,L,ρ,M,q,x,rl,n,ht,hx,hQ⟩;refine Call_ (j9 I hg hm w4 (PyProof.Rows.callWith_type1 (ba (ha pos γ s σ H (Ds X.K G L H _) I ⟨G,L,ρ,M,_,x,rl,n,ht,hx,λ_ _ f=>f⟩) λus s1 xz=>?_) hs dI));have⟨vs,H1,I1,rv,ds,G1,L1,M1,e1,r1,n1,d,d',xs,ys,ok,G_,ed,hl,S5,h1⟩:=xz;subst ed;have⟨v,v',rfl,n2,RR⟩:=dD n1;have⟨b,ws,rfl,sq,sr,_⟩:=lF r1 n2 hl;have⟨b',Tz,rfl,R4,Pp,_⟩:=lF r1 RR S5;cases rv with
 | cons ru rv=>
  cases rv with
  | cons RT rv=>
   cases rv;cases ru;cases RT;have⟨its,_,pl,_⟩:=I1.list sq;have⟨its',_,Oy,_⟩:=I1.list R4;have Tb:b < s1.heap.objs.size:=by have⟨o,q,_⟩:=pl.isList;exact aah q
   have QK:b' < s1.heap.objs.size:=by have⟨o,q,_⟩:=Oy.isList;exact aah q
   refine call_zip_2 pl.isList Oy.isList λh' hz Av Bx hi Lp hsz hk=>?_;have I2:Inv X γ σ H1 {s1 with heap:=h'}:=I1.kept (t':=s1.toks) hk;have D:ZipApart (s1.heap.objs.size+4) (s1.heap.objs.size+2) (s1.heap.objs.size+3) s1.heap.objs.size (s1.heap.objs.size+1) b b':=by have ne:∀i j:Nat,i≠j->s1.heap.objs.size+i≠s1.heap.objs.size+j:=λi j h z=>h (Nat.add_left_cancel z);have n1:∀i:Nat,b≠s1.heap.objs.size+i:=λi=>aaC (aak Tb (abc _ _));have n2:∀i:Nat,b'≠s1.heap.objs.size+i:=λi=>aaC (aak QK (abc _ _));exact⟨ne 2 4 @_,ne 3 4 @_,ne 0 4 @_,ne 1 4 @_,ne 2 3 @_,ne 2 0 @_,ne 2 1 @_,ne 3 0 @_,ne 3 1 @_,ne 0 1 @_,n1 4,n1 3,n1 0,n1 1,n2 4,n2 3,n2 0,n2 1⟩
   refine wpAny_pyIter_zip (s:={s1 with heap:=h'}) hz ⟨s1.heap.objs.size+4,[s1.heap.objs.size+4,s1.heap.objs.size+2,s1.heap.objs.size+3,s1.heap.objs.size,s1.heap.objs.size+1],_,_,H1,rfl,I2,ze D,⟨⟨_,_,hz,Av,Bx⟩,hi,Lp⟩,λc hc=>?_,hQ _ _ ⟨_,_,G1,L1,M1,e1,r1,Cf sr Pp,h1⟩⟩;have hc:s1.heap.objs.size<=c:=by
    simp only[List.mem_cons,List.not_mem_nil,or_false]at hc;rcases hc with rfl| rfl| rfl| rfl| rfl
    ·exact abc _ _
    ·exact abc _ _
    ·exact abc _ _
    ·exact aaj _
    ·exact abc _ _
   have f:=I1.xw (H':=H1) hc (I1.aE.fresh hc);exact f
def oH(xs:List V)(k:Nat):rp xs (some (k:Int)) none=xs.drop k:=by
 unfold rp;rw[HT.vk,HT.zJ];by_cases h:k<=xs.length
 ·rw[Nat.min_eq_left h,abm (by rw[aba];omega)]
 ·rw[Nat.min_eq_right (),List.drop_eq_nil_of_le (Nat.le_refl _),List.drop_eq_nil_of_le ()];simp
def B3(te tl:DE):DE:=λρ M q x=>te ρ M (λd M1=>tl ρ M1 (λdi M2=>∃ds n,d= .tup ds/\di= .int (n:Nat)/\1<=n/\1<=ds.length/\q (.tup (ds.drop n)) M2) x) x
def j0{X:Cx}{R:St->XK}{e l:Expr}{te tl:DE}{pos p2:Pos}(he:JE X R e te)(hl:JE X R l tl):JE X R (.Subscript e (.Slice (some l) none none p2) pos) (B3 te tl):=
 .of (iW Ep he (ly hl) lB) λσ H G L ρ M q x rl n h hx=>by
  refine⟨G,L,ρ,M,_,x,rl,n,h,hx,λv H1 xz=>?_⟩;have⟨d1,G1,L1,M1,e1,r1,n1,h1⟩:=xz;refine⟨G1,L1,ρ,M1,_,x,r1,n.mono e1,h1,hx.on e1,λv2 H2 xz=>?_⟩;have⟨d2,G2,L2,M2,e2,r2,n2,ds,k,ed,ei,k1,l1,h2⟩:=xz;subst ed ei;have⟨a,vs,rfl,ea,m⟩:=Den.mono e2.g e2.l _ _ n1;have n2:v2= .int k:=n2;subst n2;have lv:=m.length;refine⟨k,rfl,a,vs,rfl,.of (r2.sub _ _ ea),λz=>?_,λp hp=>?_⟩
  ·rw[HT.vk]at z;omega
  ·rw[oH];exact cF (e1.trans e2) r2 hp (gJ r2 hp (Ζ.of (mS k m.pair))) h2
section
variable{κ:Type} [DecidableEq κ]
def kX(Χ:List (κ×V))(k:κ):Option V:=(Χ.find? λkv=>decide (kv.1=k)).map (·.2)
def ko(Χ:List (κ×V))(k:κ)(v:V):List (κ×V):=
 if (Χ.any λkv=>decide (kv.1=k))=true then Χ.map (λkv=>if kv.1=k then (kv.1,v) else kv) else Χ++[(k,v)]
def fQ{p:κ×V}{r:List (κ×V)}{k:κ}(e:p.1=k):kX (p::r) k=some p.2:=by simp[kX,List.find?_cons,e]
def fY{p:κ×V}{r:List (κ×V)}{k:κ}(e:¬p.1=k):kX (p::r) k=kX r k:=by simp[kX,List.find?_cons,e]
def l_(k:κ):∀Χ:List (κ×V),(Χ.any λkv=>decide (kv.1=k))=(kX Χ k).isSome
 | []=>rfl
 | p::r=>by
  rw[abh];by_cases e:p.1=k
  ·simp only[fQ e,decide_eq_true e,Bool.true_or,Option.isSome_some]
  ·rw[fY e,aau e,Bool.false_or];exact l_ k r
def kI(Χ:List (κ×V))(k:κ)(v:V):(ko Χ k v).length<=Χ.length+1:=by
 unfold ko;split
 ·rw[aac];omega
 ·rw[aab,aaA,List.length_nil];omega
def gS.eU{o:Option V}{u:Option Value}(r:gS o u):o.isSome=u.isSome:=by
 cases o with
 | none=>cases u with
  | none=>rfl
  | some _=>exact(show False from r).elim
 | some _=>cases u with
  | none=>exact(show False from r).elim
  | some _=>rfl
def KV.val{Χ:List (κ×V)}{vs:List (κ×Value)}(r:KV Χ vs)(k:κ):gS (kX Χ k) (valueAt vs k):=by
 unfold KV at r
 induction r with
 | nil=>exact True.intro
 | @cons p q ps qs h t ih=>
  have⟨h1,h2⟩:=h;by_cases e:p.1=k
  ·have e':q.1=k:=h1.symm.trans e;have b:valueAt (q::qs) k=some q.2:=by simp[valueAt,List.find?_cons,e']
   rw[fQ e,b];exact h2
  ·have e':¬q.1=k:=λz=>e (h1.trans z);have b:valueAt (q::qs) k=valueAt qs k:=by simp[valueAt,List.find?_cons,e']
   rw[fY e,b];exact ih
def KV.any{Χ:List (κ×V)}{vs:List (κ×Value)}(r:KV Χ vs)(k:κ):(Χ.any λkv=>decide (kv.1=k))=vs.any λkv=>decide (kv.1=k):=by
 unfold KV at r
 induction r with
 | nil=>rfl
 | cons h t ih=>rw[abh,abh,ih,h.1]
def KV.GJ{Χ:List (κ×V)}{vs:List (κ×Value)}(r:KV Χ vs)(k:κ){y:V}{u:Value}(ry:Ψ y u):
  KV (Χ.map λkv=>if kv.1=k then (kv.1,y) else kv) (vs.map λkv=>if kv.1=k then (kv.1,u) else kv):=by
 unfold KV at r⊢
 induction r with
 | nil=>exact .nil
 | @cons p q ps qs h t ih=>
  rw[aaL,aaL];refine .cons ?_ ih;have⟨h1,h2⟩:=h;by_cases e:p.1=k
  ·rw[aaN e,aaN (h1.symm.trans e)];exact⟨h1,ry⟩
  ·rw[aaH e,aaH (λz=>e (h1.trans z))];exact⟨h1,h2⟩
def KV.put{Χ:List (κ×V)}{vs:List (κ×Value)}(r:KV Χ vs)(k:κ){y:V}{u:Value}(ry:Ψ y u):KV (ko Χ k y) (stored vs k u):=by
 unfold ko stored;rw[r.any k];by_cases e:(vs.any λkv=>decide (kv.1=k))=true
 ·rw[aaN e,aaN e];exact r.GJ k ry
 ·rw[aaH e,aaH e];exact Paired.snoc r ⟨rfl,ry⟩
def KV.length{Χ:List (κ×V)}{vs:List (κ×Value)}(r:KV Χ vs):Χ.length=vs.length:=Paired.length r
end
def qY{P:Program}{w:World}{k:Key}{u:Value}(r:Ψ (kV k) u):(bA P w).is k u=true:=by
 cases k with
 | inl i=>have⟨t,e⟩:=(show∃t,u=Value.int i t from r);subst e;exact se P w i t
 | inr x=>have⟨t,e⟩:=(show∃t,u=Value.str x t from r);subst e;exact rW P w x t
def o5{P:Program}{w:World}:∀{ks:List Key} {us:List Value},Ν (ks.map kV) us->ItemsAre (bA P w) ks us
 | [],_,r=>by rw[List.map_nil]at r;cases r;exact .nil
 | k::ks,_,r=>by
  rw[aaL]at r;cases r with
  | cons h t=>exact .cons (qY h) (o5 t)
abbrev KT(H:Hp):List (List Key×V)->List (List Key×Addr×Value)->Prop:=Paired λp q=>p.1=q.1/\H q.2.1=some (.tup (p.1.map kV))/\Ψ p.2 q.2.2
def KT.val{H:Hp}{Χ:List (List Key×V)}{xs:List (List Key×Addr×Value)}(r:KT H Χ xs)(k:List Key):gS (kX Χ k) ((atKey xs k).map (·.2)):=by
 induction r with
 | nil=>exact True.intro
 | @cons p q ps qs h t ih=>
  have⟨h1,_,h2⟩:=h;by_cases e:p.1=k
  ·have e':q.1=k:=h1.symm.trans e;have b:atKey (q::qs) k=some q.2:=by simp[atKey,List.find?_cons,e']
   rw[fQ e,b];exact h2
  ·have e':¬q.1=k:=λz=>e (h1.trans z);have b:atKey (q::qs) k=atKey qs k:=by simp[atKey,List.find?_cons,e']
   rw[fY e,b];exact ih
def KT.GJ{H:Hp}{Χ:List (List Key×V)}{xs:List (List Key×Addr×Value)}(r:KT H Χ xs)(k:List Key){y:V}{u:Value}(ry:Ψ y u):
  KT H (Χ.map λkv=>if kv.1=k then (kv.1,y) else kv) (xs.map (putAt k u)):=by
 induction r with
 | nil=>exact .nil
 | @cons p q ps qs h t ih=>
  rw[aaL,aaL];refine .cons ?_ ih;have⟨h1,h2,h3⟩:=h;unfold putAt;by_cases e:p.1=k
  ·rw[aaN e,aaN (h1.symm.trans e)];exact⟨h1,h2,ry⟩
  ·rw[aaH e,aaH (λz=>e (h1.trans z))];exact⟨h1,h2,h3⟩
def KT.put{H:Hp}{Χ:List (List Key×V)}{xs:List (List Key×Addr×Value)}(r:KT H Χ xs)(k:List Key){b:Addr}{y:V}{u:Value}(hb:H b=some (.tup (k.map kV)))(ry:Ψ y u):
  KT H (ko Χ k y) (storedH xs k b u):=by
 have e:(Χ.any λkv=>decide (kv.1=k))=(atKey xs k).isSome:=by rw[l_,(r.val k).eU,Option.isSome_map]
 unfold ko storedH;rw[e];by_cases q:(atKey xs k).isSome=true
 ·rw[aaN q,aaN q];exact r.GJ k ry
 ·rw[aaH q,aaH q];exact Paired.snoc r ⟨rfl,hb,ry⟩
def KT.keeps{H H':Hp}{Χ:List (List Key×V)}{xs:List (List Key×Addr×Value)}(r:KT H Χ xs)(ht:∀b ys,H b=some (.tup ys)->H' b=some (.tup ys)):KT H' Χ xs:=
 Paired.Et r λ_ _ z=>⟨z.1,ht _ _ z.2.1,z.2.2⟩
section
variable{P:Program}{w:World}{H:Hp}{h:Heap}{a:Addr}
def DC{u:HO}(ok:g9 P w H h)(e:Rd H a u):aI P w H h a u:=e.ok ok
def sJ{Χ:List (Key×V)}(ok:g9 P w H h)(e:Rd H a (.dK Χ)):Χ.length<=sizeLine/\(a==sysModules)=false/\∃vs,KV Χ vs/\h.DictOf (bA P w) a vs:=
 show aI P w H h a (.dK Χ) from DC ok e
def J8{Χ:List (Key×V)}(ok:g9 P w H h)(e:H a=some (.dK Χ)):Χ.length<=sizeLine/\(a==sysModules)=false/\∃vs,KV Χ vs/\h.DictOf (bA P w) a vs:=sJ ok (.inl e)
def lN{ks:List Key}(ok:g9 P w H h)(e:H a=some (.tup (ks.map kV))):(tupleKind (bA P w)).is h ks a:=by have⟨_,its,r,o,h1,h2,n,h3⟩:=(show aI P w H h a (.tup (ks.map kV)) from ok a _ e);exact⟨o,its.toArray,n,h1,h2,h3,by simpa using o5 r⟩
def rY{Χ:List (List Key×V)}(ok:g9 P w H h)(e:Rd H a (.dT Χ)):Χ.length<=sizeLine/\(a==sysModules)=false/\
  ∃xs,KT H Χ xs/\h.DictOfH (tupleKind (bA P w)) a xs:=by
 have⟨z,y,xs,r,o,es,ep,h1,h2,h3,h4,h5⟩:=(show aI P w H h a (.dT Χ) from DC ok e);refine⟨z,y,xs,r,o,es,ep,h1,h2,h3,h4,λx hx=>?_,h5⟩;have all:∀{l:List (List Key×V)} {m:List (List Key×Addr×Value)},KT H l m->∀x∈m,(tupleKind (bA P w)).is h x.1 x.2.1:=by
  intro l m q
  induction q with
  | nil=>intro x hx;exact nomatch hx
  | @cons p q ps qs hq t ih=>
   intro x hx;rcases aay.mp hx with e| hx
   ·subst e;exact lN ok (by rw[<-hq.1];exact hq.2.1)
   ·exact ih x hx
 exact all r x hx
def HM{Χ:List (List Key×V)}(ok:g9 P w H h)(e:H a=some (.dT Χ)):Χ.length<=sizeLine/\(a==sysModules)=false/\
  ∃xs,KT H Χ xs/\h.DictOfH (tupleKind (bA P w)) a xs:=rY ok (.inl e)
end
def qU(H:Hp)(a:Addr)(y:V)(r:Option V):Prop:=
 (∃Χ k,Rd H a (.dK Χ)/\y=kV k/\r=kX Χ k)\/∃Χ k b,Rd H a (.dT Χ)/\y= .ref b/\H b=some (.tup (k.map kV))/\r=kX Χ k
def AM(H:Hp)(a:Addr)(y v:V)(H':Hp):Prop:=
 (∃Χ k,H a=some (.dK Χ)/\y=kV k/\Χ.length < sizeLine/\H'=upd H a (.dK (ko Χ k v)))\/
 ∃Χ k b,H a=some (.dT Χ)/\y= .ref b/\H b=some (.tup (k.map kV))/\Χ.length < sizeLine/\H'=upd H a (.dT (ko Χ k v))
def AM.k{H:Hp}{a:Addr}{Χ:List (Key×V)}{k:Key}{v:V}(e:H a=some (.dK Χ))(hl:Χ.length < sizeLine):AM H a (kV k) v (upd H a (.dK (ko Χ k v))):=.inl ⟨Χ,k,e,rfl,hl,rfl⟩
section
variable{X:Cx}{γ:List (Addr×Obj)}{σ:St}{H:Hp}{s:Shared}{a:Addr}{y v:V}{u r:Value}{o:Option V}{A:Around}{E:Value->Shared->Prop}
def Inv.big(I:Inv X γ σ H s):sysModules < s.heap.objs.size:=by have h:mainGlobals < s.heap.objs.size:=(I.mod.glob.keeps I.bk).lt;exact Nat.lt_trans @_ h
def xZ{Q:Value->Shared->Prop}(hu:A.units+1 < cLine)(I:Inv X γ σ H s)(g:qU H a y (some v))(ry:Ψ y u)(h:∀w' s',Inv X γ σ H s'->Ψ v w'->Q w' s'):
  wpAny (model X.prog X.w) A (getItem (.ref a) u) Q E s:=by
 rcases g with ⟨Χ,k,e,ey,l⟩| ⟨Χ,k,b,e,ey,eb,l⟩
 ·subst ey;have⟨z,hd,vs,rel,dd⟩:=sJ I.aE e;have⟨w',hw,zy⟩:=gS.some_of (v:=v) (o:=valueAt vs k) (by rw[l];exact rel.val k);exact wpAny_getItem_of (qY ry) dd.mapOf hw (h w' _ (I.tok _) zy)
 ·subst ey;cases(show u=Value.ref b from ry);have⟨z,hd,xs,rel,dd⟩:=rY I.aE e;have⟨w',hw,zy⟩:=gS.some_of (v:=v) (o:=(atKey xs k).map (·.2)) (by rw[l];exact rel.val k);have⟨p,hp,LN⟩:=Option.map_eq_some_iff.mp hw;refine wpAny_getItem_heap (tupleKind_room_in1 hu) (lN I.aE eb) dd hp ?_;rw[LN];exact h w' _ (I.tok _) zy
def Mm{Q:Value->Shared->Prop}(hu:A.units+1 < cLine)(I:Inv X γ σ H s)(g:qU H a y o)(ry:Ψ y u)(h:∀s',Inv X γ σ H s'->Q (.bool o.isSome) s'):
  wpAny (model X.prog X.w) A (compareOp .In u (.ref a)) Q E s:=by
 rcases g with ⟨Χ,k,e,ey,l⟩| ⟨Χ,k,b,e,ey,eb,l⟩
 ·subst ey;have⟨z,hd,vs,rel,dd⟩:=sJ I.aE e;refine wpAny_in_of (qY ry) hd dd.mapOf ?_;rw[<-(rel.val k).eU,<-l];exact h _ (I.tok _)
 ·subst ey;cases(show u=Value.ref b from ry);have⟨z,hd,xs,rel,dd⟩:=rY I.aE e;refine wpAny_in_heap (tupleKind_room_in1 hu) (lN I.aE eb) hd dd ?_;have q:=(rel.val k).eU;rw[Option.isSome_map]at q;rw[<-q,<-l];exact h _ (I.tok _)
def CF{Q:Value->Shared->Prop}(hu:A.units+1 < cLine)(I:Inv X γ σ H s)(g:qU H a y o)(ry:Ψ y u)(h:∀s',Inv X γ σ H s'->Q (.bool (!o.isSome)) s'):
  wpAny (model X.prog X.w) A (compareOp .NotIn u (.ref a)) Q E s:=by
 rcases g with ⟨Χ,k,e,ey,l⟩| ⟨Χ,k,b,e,ey,eb,l⟩
 ·subst ey;have⟨z,hd,vs,rel,dd⟩:=sJ I.aE e;refine wpAny_notIn_of (qY ry) hd dd.mapOf ?_;rw[<-(rel.val k).eU,<-l];exact h _ (I.tok _)
 ·subst ey;cases(show u=Value.ref b from ry);have⟨z,hd,xs,rel,dd⟩:=rY I.aE e;refine wpAny_notIn_heap (tupleKind_room_in1 hu) (lN I.aE eb) hd dd ?_;have q:=(rel.val k).eU;rw[Option.isSome_map]at q;rw[<-q,<-l];exact h _ (I.tok _)
def vo{h':Heap}{t':Nat}{ob:HO}(I:Inv X γ σ H s)(mu:J2 (H a))(hs:Heap.SameBut a s.heap h')(he:∃q,h'.get? a=some q)(new:aI X.prog X.w (upd H a ob) h' a ob):
  Inv X γ σ (upd H a ob) {s with heap:=h',toks:=t'}:=
 I.write (x:=a) (e:=a) mu (.inl rfl) (λb q hb z=>(hs.2 b hb).trans z) he new
def Ff{P:Program}{w:World}{H':Hp}{h':Heap}{Χ:List (Key×V)}{vs:List (Key×Value)}(z:Χ.length<=sizeLine)(hd:(a==sysModules)=false)(rel:KV Χ vs)(dd:h'.DictOf (bA P w) a vs):
  aI P w H' h' a (.dK Χ):=⟨z,hd,vs,rel,dd⟩
def xp{H':Hp}{Q:Unit->Shared->Prop}(hu:A.units+1 < cLine)(I:Inv X γ σ H s)(g:AM H a y v H')(ry:Ψ y u)(rv:Ψ v r)(h:∀s',Inv X γ σ H' s'->Q Unit.unit s'):
  wpAny (model X.prog X.w) A (setItem (.ref a) u r) Q E s:=by
 rcases g with ⟨Χ,k,e,ey,l,eH⟩| ⟨Χ,k,b,e,ey,eb,l,eH⟩
 ·subst ey eH;have⟨z,hd,vs,rel,dd⟩:=J8 I.aE e;have hz:vs.length<=sizeLine:=by rw[<-rel.length];exact z
  have hl:(ko Χ k v).length<=sizeLine:=by have:=kI Χ k v;omega
  refine wpAny_setItem_pairs (hsz:=hz) (qY ry) dd λh' KL hs=>h _ ?_;have he:∃q,h'.get? a=some q:=let ⟨q,_,_,hq,_⟩:=KL;⟨q,hq⟩
  exact vo I (by rw[e];exact True.intro) hs he (Ff hl hd (rel.put k rv) KL)
 ·subst ey eH;cases(show u=Value.ref b from ry);have⟨z,hd,xs,rel,dd⟩:=HM I.aE e;have hz:xs.length<=sizeLine:=by rw[<-Paired.length rel];exact z
  have hl:(ko Χ k v).length<=sizeLine:=by have:=kI Χ k v;omega
  refine wpAny_setItem_heap (hsz:=hz) (tupleKind_room_in1 hu) (lN I.aE eb) dd λh' KL hs=>h _ ?_;have⟨q,es,ep,hq,h2,h3,h4,_,h5⟩:=KL;refine vo I (by rw[e];exact True.intro) hs ⟨q,hq⟩ ⟨hl,hd,_,(rel.put k eb rv).keeps λc ys ec=>?_,q,es,ep,hq,h2,h3,h4,h5⟩;rw[ω (Hm ec e nofun)];exact ec
end
def Gp(i:Expr):Prop:=∀ov iv,subscripted i false ov iv=operate [ov,iv] (getItem ov iv)
def B9{prog:Program}{w:World}{A:Around}{E:Value->Shared->Prop}{s:Shared}{env:Env}{value slice:Expr}{pos:Pos}{T id:String}{Q:Value->Shared->Prop}
  (hl:typeLookup (.type T) "__getitem__"=pure (some (.builtin id))) (hs:Gp slice)
  (h:wpAny (model prog w) A (eval value env) (λo s₁=>wpAny (model prog w) A (eval slice env) (λi s₂=>s₂.TypeIs o T/\wpAny (model prog w) A (getItem o i) Q E s₂) E s₁) E s):
  wpAny (model prog w) A (eval (.Subscript value slice pos) env) Q E s:=by
 refine Subscript_ (abk h (λo s₁ h₁=>abk h₁ (λi s₂ h₂=>?_) λ_ _ x=>x) λ_ _ x=>x);have⟨hT,h₂⟩:=h₂;unfold subscriptTail;refine aag ?_;rw[getitemInPython_of_ne hT.not_modules];refine aag (wpAny_specialOf hT hl ?_);have fin:wpAny (model prog w) A (subscripted slice false o i) (λr s₃=>wpAny (model prog w) A (letTemporaryGo value o r >>= λ_=>pure r) Q E s₃) E s₂:=by rw[hs o i];exact wpAny_operating (abk h₂ (λr s₃ h₃=>aag (wpAny_letTemporaryGo (aaz h₃))) λ_ _ x=>x)
 first
  | exact aaz (aag fin)
  | exact aag (aaz (aag fin))
  | exact aag fin
def qX{X:Cx}{γ:List (Addr×Obj)}{σ:St}{H:Hp}{s:Shared}{a:Addr}{y:V}{o:Option V}(I:Inv X γ σ H s)(g:qU H a y o):s.TypeIs (.ref a) "dict":=by
 rcases g with ⟨Χ,k,e,_,_⟩| ⟨Χ,k,b,e,_,_,_⟩
 ·have⟨_,_,vs,_,dd⟩:=sJ I.aE e;exact dd.typeIs
 ·have⟨_,_,xs,_,dd⟩:=rY I.aE e;exact dd.typeIs
def Ib(td ty:TE):TE:=λσ H Q=>td σ H λx H1=>ty σ H1 λy H2=>∃a v,x= .ref a/\qU H2 a y (some v)/\Q v H2
def HQ(td ty tv:TE):TS:=λD σ H=>tv σ H λv H1=>td σ H1 λx H2=>ty σ H2 λy H3=>∃a H4,x= .ref a/\AM H3 a y v H4/\D.nx σ H4
section
variable{X:Cx}{o i e value:Expr}{pos pos' nC:Pos}{td ty tv:TE}
def BB(hu:X.A.units+1 < cLine)(ho:PE X o td)(hi:PE X i ty)(hs:Gp i):PE X (.Subscript o i pos) (Ib td ty):=by intro γ s σ H Q I h;refine B9 PySem.F.slot_dict_getitem.lookup hs (ba (ho γ s σ H _ I h) fun u s1 ⟨x,H1,I1,rx,q1⟩=>ba (hi γ s1 σ H1 _ I1 q1) λiv s2 xz=>?_);have⟨y,H2,I2,ry,a,v,ex,g,q2⟩:=xz;subst ex;obtain rfl:u=Value.ref a:=rx;exact⟨qX I2 g,xZ hu I2 g ry λw' s3 I3 zy=>⟨v,H2,I3,zy,q2⟩⟩
def C6(hu:X.A.units+1 < cLine)(ho:PE X o td)(hi:PE X i ty)(hv:PE X value tv)(hs:swapsWith value (some (.Subscript o i pos')) pos.line X.env=pure false):
  PS X (.Assign [.Subscript o i pos'] value pos) (HQ td ty tv):=by
 intro γ s σ H D I h;refine wpAny_Assign_Subscript (ba (hv γ s σ H _ I h) fun r s1 ⟨v,H1,I1,rv,q1⟩=>ba (ho γ s1 σ H1 _ I1 q1) fun u s2 ⟨x,H2,I2,rx,q2⟩=>ba (hi γ s2 σ H2 _ I2 q2) λiv s3 xz=>?_) hs;have⟨y,H3,I3,ry,a,H4,ex,g,q3⟩:=xz;subst ex;obtain rfl:u=Value.ref a:=rx;exact xp hu I3 g ry rv λs4 I4=>⟨σ,H4,I4,q3⟩
end
def zW{P:Program}{w:World}{H:Hp}(h:Heap)(hb:sysModules < h.objs.size):aI P w H (h.push {cls:=.type "dict",data:=.dict #[]}) h.objs.size (.dK []):=
 ⟨aaV _,beq_eq_false_iff_ne.mpr (Ne.symm (aaC hb)),[],.nil,Heap.DictOf.new h⟩
def Fn:TE:=λ_ H Q=>∀p,H p=none->Q (.ref p) (upd H p (.dK []))
section
variable{X:Cx}{pos:Pos}
def Ai:PE X (.Dict [] [] pos) Fn:=λγ s σ H Q I h=>
 wpAny_Dict_empty ⟨.ref s.heap.objs.size,_,I.laid (a:=s.heap.objs.size) (o:=.dK []) (t':=s.toks) (λ_ _ q=>aaf _ q) (aaj _) (zW s.heap I.big),rfl,h _ (I.aE.fresh (aaj _))⟩
end
end L2
namespace Att
open PySem PySem.W PySem.Calls PyProof.Rows
end Att
namespace L2
open PySem PySem.Spec PyProof.Rows
end L2
/- Pq Ld CI (shape;SO,My.* are IM):
  My.Pt:a structure of CK addresses Mz MS Jo names (classes,xI);My.Txt K t:a structure (Prop) of CK equations k7 K;
  My.vd:{K} {implicit addresses ..} (e1:nsIn K mainGlobals "law"=some (some (.ref f))) (e2:K.lookup f=some ⟨oc,od,.func (fnOf "law" "law" params body scope dV kV doc pm an aW ct),sl⟩) (e3:codeIn K aW "law"=true) .. :∃t,My.Txt K t
set_option maxRecDepth 100000 in
set_option maxHeartbeats 0 in
def PySem.Challenge.cw_LID_holds : PySem.Challenge.rw_LID.Holds := by
 w_on;o_law;k_head;(case hw=>w_witness2)
 k_fill
 refine L2.qo (l:=PySem.Challenge.rw_LID) (n:=63) (k:=40) (x:="script") (CX:=fun w=>..) (sp:=fun _=>My.EE) rfl @_ rfl ⟨rfl,@_,@_⟩ (fun w h Y=>PySem.W.kIn_of Y) ?F ?S ?C
 case F=>
  intro w mg fa h KX G C9;have T:∃t,My.Txt (L2.Ma KX) t:=by
   dsimp only[L2.Ma]
   refine' My.vd ?e1 ?e2 ?e3 ..
   (case e1=>PySem.W.k_is)
   (case e2=>PySem.W.k_is)
   ..
  have⟨t,T⟩:=T;have e0:=C9.symm.trans (PySem.W.mg_of KX G T.Sr);cases e0;exact⟨_,λs u=>.of_eq rfl,λbase kb nb=>My.uy T kb nb⟩
 case S=>exactλw H a ns hl hO hS=>..
 case C=>exact ..
(CK tactic k_is has no namespace:write k_is) -/
namespace L2
open PySem PySem.Spec PyProof.Rows
variable{L:List Addr}{X:Cx}{R:St->XK}{te:DE}{pos:Pos}{k':Nat}
def Aa:Dt->Option Key
 | .int i=>some (.inl i)
 | .str z=>some (.inr z)
 | _=>none
def eF(ks:List Key)(ds:List Dt)(k:Key):Option Dt:=((ks.zip ds).find? λp=>decide (p.1=k)).map (·.2)
def lu{K:fI}{G:Hp}{d:Dt}{v:V}{k:Key}(h:Aa d=some k)(n:Den K G L d v):v=kV k:=by
 cases d with
 | int i=>cases h;exact n
 | str z=>cases h;exact n
 | _=>cases h
def n9{K:fI}{G:Hp}{L:List Addr}{k:Key}:∀{ks:List Key} {ds:List Dt} {vs:List V} {d:Dt},Ζ K G L ds vs->eF ks ds k=some d->∃v,kX (ks.zip vs) k=some v/\Den K G L d v
 | [],_,_,_,_,h=>by cases h
 | _::_,[],_,_,_,h=>by cases h
 | c::ks,d0::ds,_,d,⟨v0,vs,e,n0,n⟩,h=>by
  subst e;rw[aaZ];by_cases hc:c=k
  ·have h':eF (c::ks) (d0::ds) k=some d0:=by unfold eF;rw[List.zip_cons_cons,List.find?_cons_of_pos (by simpa using hc)];rfl
   rw[h']at h;cases h;exact⟨v0,fQ hc,n0⟩
  ·have h':eF (c::ks) (d0::ds) k=eF ks ds k:=by unfold eF;rw[List.zip_cons_cons,List.find?_cons_of_neg (by simpa using hc)]
   rw[h']at h;have⟨v,h1,h2⟩:=n9 n h;exact⟨v,by rw[fY hc];exact h1,h2⟩
def DG(to ti:DE):DE:=λρ M q x=>to ρ M (λd M1=>ti ρ M1 (λdi M2=>∃k ks ds key v,d= .loc k/\M2[k]? =some (.tI ks ds)/\Aa di=some key/\eF ks ds key=some v/\q v M2) x) x
section
variable{o i e:Expr}{to ti:DE}{p:Pos}
def Gg(hr:bj k' X.A)(ho:JE X R o to)(hi:JE X R i ti)(hs:Gp i:=by intro _ _;rfl):JE X R (.Subscript o i pos) (DG to ti):=
 .of (BB (vD hr) ho hi hs) λσ H G L ρ M q x rl n h hx=>by refine⟨G,L,ρ,M,_,x,rl,n,h,hx,λv H1 xz=>?_⟩;have⟨d1,G1,L1,M1,e1,r1,n1,h1⟩:=xz;refine⟨G1,L1,ρ,M1,_,x,r1,n.mono e1,h1,hx.on e1,λv2 H2 xz=>?_⟩;have⟨d2,G2,L2,M2,e2,r2,n2,k,ks,ds,key,y,ed,hm,hk,hg,h2⟩:=xz;subst ed;have⟨a,rfl,HK⟩:=n1;have IZ:=e2.l.get HK;have⟨_,vs,hH,hl,dn⟩:=r2.gv k a _ IZ hm;have⟨u,hu,du⟩:=n9 dn hg;refine⟨a,u,rfl,.inl ⟨_,key,.inl hH,lu hk n2,hu.symm⟩,fin_same (e1.trans e2) r2 du h2⟩
end
def yn(M:Ms):Dt->Option (List Dt)
 | .lst xs=>some xs
 | .mh ns=>some (ns.map .int)
 | .loc k=>match M[k]? with
  | some (.lst xs)=>some xs
  | _=>none
 | _=>none
def qt{K:fI}{G:Hp}{M:Ms}{H:Hp}{d:Dt}{v:V}{xs:List Dt}(r:Rl K G L M H)(n:Den K G L d v)(h:yn M d=some xs):∃a vs,v= .ref a/\d9 K H a vs/\Ζ K G L xs vs:=by
 cases d with
 | lst ds=>cases h;have⟨a,vs,rfl,e,m⟩:=n;exact⟨a,vs,rfl,.of (r.sub _ _ e),m⟩
 | mh ns=>cases h;have⟨a,rfl,e⟩:=n;exact⟨a,_,rfl,r.sub.seq e,dc⟩
 | loc k=>
  have⟨a,rfl,e⟩:=n;have h:(match M[k]? with| some (.lst xs)=>some xs| _=>none)=some xs:=h;split at h
  ·rename_i ys hm;cases h;have⟨_,vs,e1,m1⟩:=r.gv k a _ e hm;exact⟨a,vs,rfl,.of e1,m1⟩
  ·cases h
 | _=>cases h
section
variable{a b e l u:Expr}{ta tb tl tu:DE}{t:DA}{p p2:Pos}
def GW(te tl:DE):DE:=λρ M q x=>te ρ M (λd M1=>tl ρ M1 (λdi M2=>∃ds n,yn M2 d=some ds/\di= .int (n:Nat)/\q (.loc M2.length) (M2++[.lst (ds.drop n)])) x) x
def oq(he:JE X R e te)(hl:JE X R l tl):JE X R (.Subscript e (.Slice (some l) none none p2) pos) (GW te tl):=
 .of (iW BF he (ly hl) lB) λσ H G L ρ M q x rl n h hx=>by refine⟨G,L,ρ,M,_,x,rl,n,h,hx,λv H1 xz=>?_⟩;have⟨d1,G1,L1,M1,e1,r1,n1,h1⟩:=xz;refine⟨G1,L1,ρ,M1,_,x,r1,n.mono e1,h1,hx.on e1,λv2 H2 xz=>?_⟩;have⟨d2,G2,L2,M2,e2,r2,n2,ds,k,ed,ei,h2⟩:=xz;subst ei;have⟨a,vs,rfl,sq,m⟩:=qt r2 (Den.mono e2.g e2.l _ _ n1) ed;have n2:v2= .int k:=n2;subst n2;refine⟨k,rfl,a,vs,rfl,sq,λp hp=>?_⟩;rw[oH];exact qa (e1.trans e2) r2 hp (Ζ.of (mS k m.pair)) h2
end
open PySem PySem.SeqAt
def Gk(M:Ms):Dt->Option (List Dt)
 | .lst xs=>some xs
 | .loc k=>match M[k]? with
  | some (.lst xs)=>some xs
  | _=>none
 | _=>none
def vm{K:fI}{G:Hp}{M:Ms}{H:Hp}{d:Dt}{v:V}{xs:List Dt}(r:Rl K G L M H)(n:Den K G L d v)(h:Gk M d=some xs):∃a vs,v= .ref a/\H a=some (.lst vs)/\Ζ K G L xs vs:=by
 cases d with
 | lst ds=>cases h;have⟨a,vs,rfl,e,m⟩:=n;exact⟨a,vs,rfl,r.sub _ _ e,m⟩
 | loc k=>
  have⟨a,rfl,e⟩:=n;have h:(match M[k]? with| some (.lst xs)=>some xs| _=>none)=some xs:=h;split at h
  ·rename_i ys hm;cases h;have⟨_,vs,e1,m1⟩:=r.gv k a _ e hm;exact⟨a,vs,rfl,e1,m1⟩
  ·cases h
 | _=>cases h
def DW:Dt->Dt->Ms->DQ->Prop:=λd e M q=>∃xs ys,Gk M d=some xs/\Gk M e=some ys/\xs.length+ys.length<=sizeLine/\q (.lst (xs++ys)) M
def Jg{K:fI}:jD K Es DW:=by intro G0 L0 H0 G L M H v1 v2 d1 d2 q e r n1 n2 ⟨xs,ys,h1,h2,hz,hq⟩;have⟨p1,w1,rfl,e1,m1⟩:=vm r n1 h1;have⟨p2,w2,rfl,e2,m2⟩:=vm r n2 h2;refine⟨p1,p2,w1,w2,rfl,rfl,e1,e2,by rw[<-m1.length,<-m2.length];exact hz,λp hp=>?_⟩;exact cF e r hp (gF r hp (m1.app m2)) hq
section
variable{a b:Expr}{ta tb:DE}
def ug(ja:JE X R a ta)(jb:JE X R b tb):JE X R (.BinOp a .Add b pos) (cQ DW ta tb):=qd yN Jg ja jb
end
def tD(g:Dt->En->(En->Prop)->Prop)(te:DE)(ρ0:En)(ok:Ms->Prop):List Dt->List Dt->Ms->(List Dt->Ms->Prop)->Prop
 | [],Μ,M,k=>ok M/\k Μ M
 | x::xs,Μ,M,k=>ok M/\g x ρ0 λρ'=>te ρ' M (λd M2=>tD g te ρ0 ok xs (Μ++[d]) M2 k) gP
def vf(n:Nat)(ti:DK)(g:Dt->En->(En->Prop)->Prop)(te:DE)(Α:List Nat):DE:=λρ M q x=>ti ρ M (λxs ok M1=>xs.length<=sizeLine/\tD g te (List.replicate n none++kg Α ρ) ok xs [] M1 (λys M2=>q (.lst ys) M2)) x
def v8{g:Dt->En->(En->Prop)->Prop}{te:DE}{cs:En}{ok:Ms->Prop}:∀xs,tD g te cs ok xs=fU g m_ te cs ok xs
 | []=>rfl
 | x::xs=>funext λΜ=>funext λM=>funext λk=>by show(ok M/\g x cs λρ'=>te ρ' M (λd M1=>tD g te cs ok xs (Μ++[d]) M1 k) gP)=(ok M/\g x cs λρ'=>te ρ' M (λd M1=>fU g m_ te cs ok xs (Μ++[d]) M1 k) gP);rw[v8 xs]
def y4(ks:List Key)(k:Key):Bool:=ks.any λc=>decide (c=k)
def jk{k:Key}:∀{ks:List Key} {vs:List V},ks.length=vs.length->(kX (ks.zip vs) k).isSome=y4 ks k
 | [],[],_=>rfl
 | c::ks,v::vs,h=>by
  have h:ks.length=vs.length:=by simpa using h
  rw[aaZ];by_cases e:c=k
  ·rw[fQ e];subst e;simp[y4]
  ·rw[fY e,jk h];unfold y4;rw[abh,aau e,Bool.false_or]
section
variable{o i e a b:Expr}{to ti ta tb:DE}{p:Pos}
def FW:JE X R (.Dict [] [] pos) (λ_ M q _=>q (.loc M.length) (M++[.tI [] []])):=
 .of Ai λσ H G L ρ M q x rl n h hx=>by intro p hp;exact⟨.loc M.length,G,L++[p],_,rl.Mf hp,rl.GG (m:=.tI [] []) hp ⟨[],Ω,rfl,rfl⟩,⟨p,rfl,by rw[<-rl.len,List.getElem?_append_right (Nat.le_refl _)];simp⟩,h⟩
def Hh:Dt->Dt->Ms->DQ->Prop:=λdi d M q=>∃k ks ds key,d= .loc k/\M[k]? =some (.tI ks ds)/\Aa di=some key/\q (.bl (y4 ks key)) M
def Gm(hu:X.A.units+1 < cLine):fm X (compareOp .In) (λy x H Q=>∃a o,x=V.ref a/\qU H a y o/\Q (.bl o.isSome) H):=by intro γ s σ H x y u v Q I rx ry ⟨a,o,ex,g,q⟩;subst ex;obtain rfl:v=Value.ref a:=ry;exact Mm hu I g rx λs3 I3=>⟨.bl o.isSome,H,I3,rfl,q⟩
def Li{K:fI}:jD K (λy x H Q=>∃a o,x=V.ref a/\qU H a y o/\Q (.bl o.isSome) H) Hh:=by intro G0 L0 H0 G L M H v1 v2 d1 d2 q e r n1 n2 ⟨k,ks,ds,key,ed,hm,hk,h⟩;subst ed;have⟨a,rfl,HK⟩:=n2;have⟨_,vs,hH,hl,dn⟩:=r.gv k a _ HK hm;refine⟨a,_,rfl,.inl ⟨_,key,.inl hH,lu hk n1,rfl⟩,?_⟩;have GQ:ks.length=vs.length:=hl.trans dn.length;rw[jk GQ];exact ag e r h
def GV(hr:bj k' X.A)(ja:JE X R a ta)(jb:JE X R b tb)(hm:behindInMarks .In b=false:=by rfl):JT X R (.Compare a [.In] [b] pos) (jA (cQ Hh ta tb)):=eC (Gm (vD hr)) Li ja jb hm
end
def oQ(ks:List Key)(k:Key):List Key:=if y4 ks k=true then ks else ks++[k]
def ku{α:Type}(k:Key)(v:α):List Key->List α->List α
 | c::ks,x::xs=>(if c=k then v else x)::ku k v ks xs
 | _,_=>[]
def kR{α:Type}(ks:List Key)(k:Key)(xs:List α)(v:α):List α:=if y4 ks k=true then ku k v ks xs else xs++[v]
def oB{α:Type}{k:Key}{v:α}:∀{ks:List Key} {xs:List α},ks.length=xs.length->(ku k v ks xs).length=ks.length
 | [],[],_=>rfl
 | _::ks,_::xs,h=>by
  have h:ks.length=xs.length:=by simpa using h
  show(ku k v ks xs).length+1=ks.length+1;rw[oB h]
def oM{k:Key}{v:V}:∀{ks:List Key} {vs:List V},ks.length=vs.length->(ks.zip vs).map (λkv=>if kv.1=k then (kv.1,v) else kv)=ks.zip (ku k v ks vs)
 | [],[],_=>rfl
 | c::ks,x::vs,h=>by
  have h:ks.length=vs.length:=by simpa using h
  rw[aaZ,aaL,oM h];show _=(c,if c=k then v else x)::ks.zip (ku k v ks vs)
  congr 1
  show(if c=k then (c,v) else (c,x))=_;split <;> rfl
def oj{K:fI}{G:Hp}{L:List Addr}{k:Key}{d:Dt}{v:V}(n:Den K G L d v):∀{ks:List Key} {ds:List Dt} {vs:List V},Ζ K G L ds vs->ks.length=ds.length->Ζ K G L (ku k d ks ds) (ku k v ks vs)
 | [],[],_,h,_=>by cases h;rfl
 | c::ks,x::ds,_,⟨y,vs,e,n0,ns⟩,hl=>by
  subst e;have hl:ks.length=ds.length:=by simpa using hl
  refine⟨_,_,rfl,?_,oj n ns hl⟩;show Den K G L (if c=k then d else x) (if c=k then v else y);split
  ·exact n
  ·exact n0
def FA{k:Key}{v:V}{ks:List Key}{vs:List V}(h:ks.length=vs.length):ko (ks.zip vs) k v=(oQ ks k).zip (kR ks k vs v):=by
 unfold ko oQ kR;rw[l_,jk h];split
 ·exact oM h
 ·rw[List.zip_append h];rfl
def Gz(to ti tv:DE):DS:=λDn ρ M=>tv ρ M (λy M1=>to ρ M1 (λd M2=>ti ρ M2 (λdi M3=>∃k ks ds key,d= .loc k/\M3[k]? =some (.tI ks ds)/\Aa di=some key/\ks.length < 1000/\Dn.nx ρ (M3.set k (.tI (oQ ks key) (kR ks key ds y)))) Dn.x) Dn.x) Dn.x
section
variable{o i value:Expr}{to ti tv:DE}{pos':Pos}
def CA(hr:bj k' X.A)(ho:JE X R o to)(hi:JE X R i ti)(hv:JE X R value tv)(hs:swapsWith value (some (.Subscript o i pos')) pos.line X.env=pure false:=by rfl):JS X R (.Assign [.Subscript o i pos'] value pos) (Gz to ti tv):=
 .of (C6 (vD hr) ho hi hv hs) λσ H G L ρ M Dn rl n h hx=>by
  refine⟨G,L,ρ,M,_,_,rl,n,h,hx,λv H1 xz=>?_⟩;have⟨dv,G1,L1,M1,e1,r1,n1,h1⟩:=xz;refine⟨G1,L1,ρ,M1,_,_,r1,n.mono e1,h1,hx.on e1,λov H2 xz=>?_⟩;have⟨d,G2,L2,M2,e2,r2,n2,h2⟩:=xz;refine⟨G2,L2,ρ,M2,_,_,r2,(n.mono e1).mono e2,h2,(hx.on e1).on e2,λiv H3 xz=>?_⟩;have⟨di,G3,L3,M3,e3,r3,n3,k,ks,ds,key,ed,hm,hk,hlen,h3⟩:=xz;subst ed;have⟨a,rfl,Qa⟩:=n2;have C3:=e3.l.get Qa;have⟨_,vs,hH,hl,dn⟩:=r3.gv k a _ C3 hm;have JV:=e2.trans e3;have Kb:=Den.mono JV.g JV.l _ _ n1;have GQ:ks.length=vs.length:=hl.trans dn.length;obtain rfl:iv=kV key:=lu hk n3;have z:(ks.zip vs).length < sizeLine:=by rw[abo];exact aa3 (Nat.min_le_left _ _) (Nat.lt_trans hlen @_)
  refine⟨a,_,rfl,AM.k hH z,ρ,G3,L3,_,((e1.trans e2).trans e3).trans (r3.Ge C3),r3.setM (m:=.tI (oQ ks key) (kR ks key ds dv)) C3 ⟨kR ks key vs v,by rw[Ω,FA GQ],?_,?_⟩,(((n.mono e1).mono e2).mono e3).mono (r3.Ge (o:=.own a) C3),h3⟩
  ·unfold oQ kR;split
   ·rw[oB hl]
   ·rw[aab,aab,hl];rfl
  ·unfold kR;split
   ·exact oj Kb dn hl
   ·exact dn.app ⟨_,_,rfl,Kb,rfl⟩
end
section
variable{o i e f a b v1 v2:Expr}{to ti ta tb tx t1 t2:DE}{t:DA}{p apos af:Pos}
def wg:Dt->Dt->Ms->DQ->Prop:=λdi d M q=>∃k ks ds key,d= .loc k/\M[k]? =some (.tI ks ds)/\Aa di=some key/\q (.bl (!y4 ks key)) M
def xn(hu:X.A.units+1 < cLine):fm X (compareOp .NotIn) (λy x H Q=>∃a o,x=V.ref a/\qU H a y o/\Q (.bl (!o.isSome)) H):=by intro γ s σ H x y u v Q I rx ry ⟨a,o,ex,g,q⟩;subst ex;obtain rfl:v=Value.ref a:=ry;exact CF hu I g rx λs3 I3=>⟨.bl (!o.isSome),H,I3,rfl,q⟩
def CO{K:fI}:jD K (λy x H Q=>∃a o,x=V.ref a/\qU H a y o/\Q (.bl (!o.isSome)) H) wg:=by intro G0 L0 H0 G L M H v1 v2 d1 d2 q e r n1 n2 ⟨k,ks,ds,key,ed,hm,hk,h⟩;subst ed;have⟨a,rfl,HK⟩:=n2;have⟨_,vs,hH,hl,dn⟩:=r.gv k a _ HK hm;refine⟨a,_,rfl,.inl ⟨_,key,.inl hH,lu hk n1,rfl⟩,?_⟩;have GQ:ks.length=vs.length:=hl.trans dn.length;rw[jk GQ];exact ag e r h
def xv(hr:bj k' X.A)(ja:JE X R a ta)(jb:JE X R b tb)(hm:behindInMarks .NotIn b=false:=by rfl):JT X R (.Compare a [.NotIn] [b] pos) (jA (cQ wg ta tb)):=eC (xn (vD hr)) CO ja jb hm
end
section
variable{elt iter:Expr}{x z:Str}{px pz tp:Pos}{scope:Scope}{ti:DK}{ys:List Str}{Α:List Nat}{kk:Nat}
def rV{i:Nat}{y:Str}{py je:Pos}(hN:X.N.Nodup)(Cv:X.N[i]? =some y)(hy:Loc X.env.scope y)(S:Θ X scope [x,z] ys Α)(hi:JK X R (.Tuple [.Name x px,.Name z pz] kk tp) iter ti)(he:∀C s H fp,JE (Cx.comp X (x::z::ys) scope C s H fp) (λ_=>E0) elt te)(hc:X.calm=true:=by rfl)(Dm:swapsWith (.ListComp elt [⟨.Tuple [.Name x px,.Name z pz] kk tp,iter,[],0⟩] scope pos) (some (.Name y py)) je.line X.env=pure true:=by rfl)(hs:∀x,foldedSetIterable iter X.env x=pure x:=by intro _;rfl)(hf:X.fn y=true\/X.env.scope.names.lookup y=some .local:=by first| exact .inl rfl| exact .inr rfl| assumption):JS X R (.Assign [.Name y py] (.ListComp elt [⟨.Tuple [.Name x px,.Name z pz] kk tp,iter,[],0⟩] scope pos) je) (xx i (vf 2 ti (g2 0 1) te Α)):=LP false S hi (Cs hc S) ve (xh (Nat.zero_lt_succ 1) (Nat.lt_succ_self 1)) (λ_ _ _ _=>fq) he hc hs hN Cv hy Dm hf λρ M q x h=>by unfold vf at h;simp only[v8]at h;exact h
end
def Θ.inner{scope:Scope}{xs ys:List Str}{Α:List Nat}(_:Θ X scope xs ys Α){C:Addr}{s:Shared}{H:Hp}{fp:List Addr}{sc:Scope}{zs:List Str}(_:X.env.scope.kind= .function)(kind:sc.kind= .function)(h:(∀p∈sc.names,p.2≠ .cell/\p.2≠ .free/\(p.2= .local->sc.names.lookup p.1=some .local))/\(∀x∈zs,sc.names.lookup x=some .local)/\(zs++[]).Nodup:=by decide+kernel):Θ (Cx.comp X (xs++ys) scope C s H fp) sc zs [] []:=
 ⟨kind,λp hp=>(h.1 p hp).1,λp hp=>(h.1 p hp).2.2,h.2.1,λp hp z=>aaE z (h.1 p hp).2.1,h.2.2,(λ_ z=>nomatch z),rfl⟩
def oR:∀{zs:List Str} {us:List Value},Ν (zs.map V.str) us->∃l:List (Str×Tok),us=strValues l/\l.map (·.1)=zs
 | [],_,h=>by cases h;exact⟨[],rfl,rfl⟩
 | z::zs,_,.cons r t=>by have⟨k,rfl⟩:=r;have⟨l,rfl,e⟩:=oR t;exact⟨(z,k)::l,rfl,by rw[aaL,e]⟩
section
def Em(K:fI):V->List V->Hp->VK->Prop:=λx xs H Q=>∃z p zs,x= .str z/\xs=[V.ref p]/\d9 K H p (zs.map V.str)/\JoinOk z zs=true/\Q (.str (Txt.join z zs)) H
def C_:Ew X "str.join" (Em X.K):=by intro γ s σ H x xs v us Q I rx rs h;have⟨z,p,zs,rfl,rfl,sq,ok,q⟩:=h;have⟨t,rfl⟩:=rx;have⟨u,rfl,ru⟩:=dY rs;cases ru;have⟨its,rv,pl,hz⟩:=I.list sq;have⟨l,rfl,el⟩:=oR rv;exact SC.join pl.isList el ok λt' k=>⟨.str _,H,I.tok k,⟨t',rfl⟩,q⟩
def vn:V->List V->Hp->VK->Prop:=λx xs H Q=>∃(z y:Str) (k:Int),x= .str z/\xs=[.str y,.int k]/\(y.length==0)=false/\z.length+2<=sizeLine/\0<=k/\k < 1000/\∀p,H p=none->Q (.ref p) (upd H p (.lst ((Txt.splitMax z y k).map V.str)))
def uw(x y:Str)(k:Int)(h:x.length+2<=sizeLine):(Txt.splitMax x y k).length<=sizeLine:=by
 unfold Txt.splitMax;split
 ·exact Nat.le_trans (by simp) (Nat.le_trans (Nat.le_add_left 2 x.length) h)
 ·split
  ·exact Nat.le_trans (by simp) (Nat.le_trans (Nat.le_add_left 2 x.length) h)
  ·have e1:=StrLaws.occ_length_le_len x y 0 x.length (limitOf x k);rw[length_partsBetween];omega
def ye:Ew X "str.split" vn:=by
 intro γ s σ H x xs v us Q I rx rs h;have⟨z,y,k,rfl,rfl,hy,hz,k0,k1,q⟩:=h;have⟨t,rfl⟩:=rx;have⟨w,w2,rfl,⟨u,rfl⟩,⟨u2,rfl⟩⟩:=Bq rs
 have fin:∀(l:List (Str×Tok)) (tk:Nat),l.map (·.1)=Txt.splitMax z y k->EP X γ σ Q (.ref s.heap.objs.size) {s with heap:=s.heap.push {cls:=.type "list",data:=.seq (strValues l).toArray},toks:=tk}:=λl tk e=>
  ⟨.ref _,_,I.A0 (t':=tk) (ys:=(Txt.splitMax z y k).map V.str) (by rw[<-e];exact jX l) (by rw[aac];exact uw z y k hz),rfl,q _ I.fresh⟩
 have hk:(decide (k < -(2 ^ 63:Int))|| decide (k ≥ 2 ^ 63))=false:=by rw[aau (),aau ()];rfl
 have hn:(Builtin.Str.partsBetween z (Builtin.Str.occurrences z y 0 z.length (limitOf z k)) y.length).length<=sizeLine:=by have e1:=StrLaws.occ_length_le_len z y 0 z.length (limitOf z k);rw[length_partsBetween];omega
 cases h1:(decide (z.length < y.length)|| decide (Builtin.Str.strKind z < Builtin.Str.strKind y))
 ·cases hf:(Builtin.Str.occurrences z y 0 z.length (limitOf z k)).isEmpty
  ·refine call_meets F.slot_str_split (typeIs_str _ _ _) F.entry_str_split (F.args_str_split_3 _ _ _) (meets_str_split_sep_max z y k t u u2 hk h1 hy hf () hn) ?_;show wants _ _ _ {s with toks:=_,heap:=s.heap.push {cls:=.type "list",data:=.seq (strsFrom s.toks (Builtin.Str.partsBetween z (Builtin.Str.occurrences z y 0 z.length (limitOf z k)) y.length)).toArray}};rw[strsFrom_eq];exact fin (numbered s.toks _) _ ((numbered_texts _ _).trans ((aaH (ne_true_of_eq_false h1)).trans (aaH (ne_true_of_eq_false hf))).symm)
  ·exact call_meets F.slot_str_split (typeIs_str _ _ _) F.entry_str_split (F.args_str_split_3 _ _ _) (meets_str_split_max_not_found z y k t u u2 hk h1 hy hf) (fin [(z,t)] s.toks ((aaH (ne_true_of_eq_false h1)).trans (aaN hf)).symm)
 ·exact call_meets F.slot_str_split (typeIs_str _ _ _) F.entry_str_split (F.args_str_split_3 _ _ _) (meets_str_split_max_cannot_occur z y k t u u2 hk h1) (fin [(z,t)] s.toks (aaN h1).symm)
def qk(n:Nat)(z:Str):Str:=⟨(List.replicate n z.cps).foldl (· ++ ·) #[]⟩
def mw(c:Array Nat):∀(k:Nat) (a:Array Nat),((List.replicate k c).foldl (· ++ ·) a).toList=a.toList++(List.replicate k c.toList).flatten
 | 0,a=>by simp
 | k+1,a=>by rw[List.replicate_succ,List.foldl_cons,mw c k,List.replicate_succ,List.flatten_cons];simp
def rF(n:Nat)(z:Str):(qk n z).cps.toList=(List.replicate n z.cps.toList).flatten:=by show((List.replicate n z.cps).foldl (· ++ ·) #[]).toList=_;rw[mw];simp
def Ec:R2:=λx y H Q=>∃(z:Str) (n:Int),x= .str z/\y= .int n/\1<=n/\n<=100/\z.length<=100/\z.length≠0/\Q (.str (qk n.toNat z)) H
def CU:fm X (binaryOp .Mult) Ec:=by
 intro γ s σ H x y v u Q I rx ry h;have⟨z,n,rfl,rfl,n1,n2,hz,K3,q⟩:=h;have⟨t,rfl⟩:=rx;have⟨t',rfl⟩:=ry;have le:z.length * n.toNat<=sizeLine:=aaq (Nat.mul_le_mul hz (show n.toNat<=100 by omega)) @_;refine PySem.P.mul_str (by rw[aau (),aau ()];rfl) (λ_ _=>?_) (λ_ _=>?_) ?_
 ·have h1:(100:Int)<=(2 ^ 63 - 1) / n:=by refine Int.le_ediv_of_mul_le () ?_;omega
  omega
 ·unfold PySem.Builtin.Str.tooLong;exact aau ()
 rw[aaH (show¬n < 1 by omega)];have z1:(z.length==0)=false:=beq_eq_false_iff_ne.mpr K3;rw[z1,Bool.or_false];cases e:(n==1)
 ·rw[aaH @_];refine⟨?_,⟨.str _,H,I.tok _,⟨_,rfl⟩,q⟩⟩;show(qk n.toNat z).length<=sizeLine;have:(qk n.toNat z).length=n.toNat * z.length:=by show(qk n.toNat z).cps.size=_;rw[<-aaT,rF,List.length_flatten];simp only[List.map_replicate,List.sum_replicate_nat];rw[aaT];rfl
  rw[this,Nat.mul_comm];exact le
 ·rw[aaN rfl];have e:n=1:=eq_of_beq e;subst e;have ez:qk (1:Int).toNat z=z:=by show(⟨#[]++z.cps⟩:Str)=z;rw[Array.empty_append]
  rw[ez]at q;exact⟨.str z,H,I,⟨t,rfl⟩,q⟩
end
def om:Dt->List Dt->Ms->DQ->Prop
 | .str z,[e],M,q=>∃zs:List Str,yn M e=some (zs.map Dt.str)/\JoinOk z zs=true/\q (.str (Txt.join z zs)) M
 | _,_,_,_=>False
def lz:Dt->List Dt->Ms->DQ->Prop
 | .str z,[.str y,.int k],M,q=>((y.length==0)=false/\z.length+2<=sizeLine/\0<=k/\k < 1000)/\q (.lst ((Txt.splitMax z y k).map Dt.str)) M
 | _,_,_,_=>False
def vz:Dt->Dt->Ms->DQ->Prop
 | .str z,.int i,M,q=>(1<=i/\i<=100/\z.length<=100/\z.length≠0)/\q (.str (qk i.toNat z)) M
 | _,_,_,_=>False
def y8:List Dt->Ms->DQ->Prop
 | [d],M,q=>∃xs,yn M d=some xs/\q (.tup xs) M
 | _,_,_=>False
section
variable{K:fI}
def l9{G:Hp}{L:List Addr}:∀{zs:List Str} {vs:List V},Ζ K G L (zs.map Dt.str) vs->vs=zs.map V.str
 | [],_,h=>h
 | z::zs,_,h=>by have⟨v,vs,rfl,h1,h2⟩:=h;rw[l9 h2,show v=V.str z from h1];rfl
def HA:JG K "str" (Em K) om:=by
 intro G0 L0 H0 G L M H v d vs ds q e r n ns h;unfold om at h;split at h
 ·rename_i z y;have⟨u,rfl,n2⟩:=ai ns;have⟨zs,h1,h2,h3⟩:=h;cases n;have⟨a,us,rfl,sq,dn⟩:=qt r n2 h1;rw[l9 dn]at sq;exact⟨z,a,zs,rfl,rfl,sq,h2,ag e r h3⟩
 ·exact h.elim
def B4:JG K "str" vn lz:=by
 intro G0 L0 H0 G L M H v d vs ds q e r n ns h;unfold lz at h;split at h
 ·rename_i z y k;have⟨u,u2,rfl,n2,n3⟩:=dD ns;cases n;cases n2;cases n3;exact⟨z,y,k,rfl,rfl,h.1.1,h.1.2.1,h.1.2.2.1,h.1.2.2.2,λp hp=>cF e r hp (gF r hp gG) h.2⟩
 ·exact h.elim
def JH:jD K Ec vz:=by
 intro G0 L0 H0 G L M H v1 v2 d1 d2 q e r n1 n2 h;unfold vz at h;split at h
 ·cases n1;cases n2;exact⟨_,_,rfl,rfl,h.1.1,h.1.2.1,h.1.2.2.1,h.1.2.2.2,ag e r h.2⟩
 ·exact h.elim
def JM:vy K (λxs H Q=>∃p ys,xs=[.ref p]/\((d9 K H p ys/\∀l,H l=none->Q (.ref l) (upd H l (.tup ys)))\/(iR K H p ys/\Q (.ref p) H))) y8:=by
 intro G0 L0 H0 G L M H vs ds q e r n h;unfold y8 at h;split at h
 ·have⟨v,rfl,n1⟩:=ai n;have⟨xs,h1,h2⟩:=h;have⟨a,us,rfl,sq,dn⟩:=qt r n1 h1;exact⟨a,us,rfl,.inl ⟨sq,λl hl=>cF e r hl (gJ r hl dn) h2⟩⟩
 ·exact h.elim
end
section
variable{e e2 o:Expr}{t:DA}{to ta tb:DE}{a b:Expr}{p apos af:Pos}
def dq(ho:JE X R o to)(ha:JA X R [e] t)(eP:attributeBase o "join" X.env (eval o X.env)=eval o X.env:=by rfl)
  (ke:((backTo af (starEach [e] X.env)).all (λx=> !x.1)&&(backToKw af (keywordEach [] X.env)).all (λx=>x.1.isSome)
   &&decide (([e]:List Expr).length+([]:List Keyword).length+(if ([]:List Keyword).isEmpty then 0 else 1) < 30))=true:=by rfl)
  (e6:(apos.endLine==af.line)=true:=by rfl) (hs:starEach [e] X.env=(false,eval e X.env)::starEach [] X.env:=by rfl) (cu:(backTo af (starEach [] X.env)).any (·.1)=false:=by rfl):
  JE X R (.Call (.Attribute o "join" apos) [e] [] af) (Cj om to t):=
 lC PySem.F.slot_str_join PySem.F.type_str_join C_ HA (λd ds M q h=>by unfold om at h;split at h <;> first| exact⟨_,rfl⟩| exact h.elim) ho ha eP ke e6 hs cu
def vb(ho:JE X R o to)(ha:JA X R [e,e2] t)(eP:attributeBase o "split" X.env (eval o X.env)=eval o X.env:=by rfl)
  (ke:((backTo af (starEach [e,e2] X.env)).all (λx=> !x.1)&&(backToKw af (keywordEach [] X.env)).all (λx=>x.1.isSome)
   &&decide (([e,e2]:List Expr).length+([]:List Keyword).length+(if ([]:List Keyword).isEmpty then 0 else 1) < 30))=true:=by rfl)
  (e6:(apos.endLine==af.line)=true:=by rfl) (hs:starEach [e,e2] X.env=(false,eval e X.env)::starEach [e2] X.env:=by rfl) (cu:(backTo af (starEach [e2] X.env)).any (·.1)=false:=by rfl):
  JE X R (.Call (.Attribute o "split" apos) [e,e2] [] af) (Cj lz to t):=
 lC PySem.F.slot_str_split PySem.F.type_str_split ye B4 (λd ds M q h=>by unfold lz at h;split at h <;> first| exact⟨_,rfl⟩| exact h.elim) ho ha eP ke e6 hs cu
def Bl(ja:JE X R a ta)(jb:JE X R b tb):JE X R (.BinOp a .Mult b pos) (cQ vz ta tb):=qd CU JH ja jb
def CN(hm:X.mg "tuple"=none)(ha:JA X R [e] t)(he:starEach [e] X.env=(false,eval e X.env)::starEach [] X.env:=by rfl)(dI:(backTo pos (starEach [] X.env)).any (·.1)=false:=by rfl)(hg:Gl X "tuple":=by rfl):JE X R (.Call (.Name "tuple" p) [e] [] pos) (tw y8 t):=
 i_ nr JM hm b9 ha hg @_ @_ he dI
end
end L2
namespace Fr0
variable{b t:Int}
def g(a b:Int):Int:=(Int.gcd a b:Nat)
def rP{a:Int}(h:b≠0):0 < g a b:=by have:=Int.gcd_pos_of_ne_zero_right a h;unfold g;omega
def z4{a:Int}(h:0<=a):g a 0=a:=by unfold g;rw[Int.gcd_zero_right];omega
def AB{a:Int}(hb:0 < b):g b (a.fmod b)=g a b:=by
 unfold g;rw[aa8 a (aaM hb),Int.gcd_comm a b]
 congr 1
 refine Int.gcd_right_eq_iff.mpr λc hc=>?_;rw[Int.emod_def];constructor
 ·intro h;have:=Int.dvd_add h (Int.dvd_mul_of_dvd_left (c:=a / b) hc);rwa[Int.sub_add_cancel]at this
 ·intro h;exact Int.dvd_sub h (Int.dvd_mul_of_dvd_left (c:=a / b) hc)
def Ej(a b:Int):g (if a < 0 then -a else a) (if b < 0 then -b else b)=g a b:=by unfold g;split <;> split <;> simp
def dv(t b:Int):Int:=if b < 0 then -(g t b) else g t b
def aw(t b:Int):Int×Int:=(t.fdiv (dv t b),b.fdiv (dv t b))
def wI(h:b≠0):dv t b≠0:=by have:=rP (a:=t) h;unfold dv;split <;> omega
def sU{k p:Int}(h:k≠0):(k * p).fdiv k=p:=by rw[abp];exact Int.mul_fdiv_cancel p h
def za(h:b≠0):∃p q:Int,t=dv t b * p/\b=dv t b * q/\0 < q/\Int.gcd p q=1:=by
 have hg:=rP (a:=t) h;have h0:0 < Int.gcd t b:=Int.gcd_pos_of_ne_zero_right t h;have⟨p,hp⟩:=Int.gcd_dvd_left t b;have⟨q,hq⟩:=Int.gcd_dvd_right t b;have hc:Int.gcd p q=1:=by
  have e:=Int.gcd_ediv_gcd_ediv_gcd h0;have n0:(Int.gcd t b:Int)≠0:=()
  have e1:t / (Int.gcd t b:Int)=p:=by
   conv=>lhs;arg 1;rw[hp]
   exact abx p n0
  have e2:b / (Int.gcd t b:Int)=q:=by
   conv=>lhs;arg 1;rw[hq]
   exact abx q n0
  rwa[e1,e2]at e
 have IW:t=g t b * p:=hp;have fK:b=g t b * q:=hq;by_cases hb:b < 0
 ·have hd:dv t b= -(g t b):=by unfold dv;rw[if_pos hb]
  refine⟨-p,-q,?_,?_,?_,?_⟩
  ·rw[hd,Int.neg_mul_neg];exact IW
  ·rw[hd,Int.neg_mul_neg];exact fK
  ·have:g t b * q < 0:=by rw[<-fK];exact hb
   by_cases q0:0<=q
   ·exact aaE (Int.mul_nonneg (aaM hg) q0) ()
   ·omega
  ·simpa using hc
 ·have hd:dv t b=g t b:=by unfold dv;rw[if_neg hb]
  refine⟨p,q,by rw[hd];exact IW,by rw[hd];exact fK,?_,hc⟩;have:0 < g t b * q:=by rw[<-fK];omega
  exact Int.pos_of_mul_pos_right this hg
def da  (h : b ≠ 0) : ∃p q : Int,aw t b = (p,q) /\ 0 < q /\ Int.gcd p q = 1 /\ t = dv t b * p /\ b = dv t b * q :=by
  obtain⟨p,q,hp,hq,h0,hc⟩ :=za (t :=t) h;have n0 :=wI (t :=t) h;refine⟨p,q,?_,h0,hc,hp,hq⟩;unfold aw
  have e1 : t.fdiv (dv t b) = p := by conv => lhs; arg 1; rw [hp]
                                      exact sU n0
  have e2 : b.fdiv (dv t b) = q := by conv => lhs; arg 1; rw [hq]
                                      exact sU n0
  rw[e1,e2]
def fh(h:b≠0):t * (aw t b).2=b * (aw t b).1:=by
 have⟨p,q,e,_,_,hp,hq⟩:=da (t:=t) h;rw[e];show t * q=b * p
 calc t * q=dv t b * p * q:=by rw[<-hp]
  _=dv t b * q * p:=by rw[Int.mul_assoc,abp p q,<-Int.mul_assoc]
  _=b * p:=by rw[<-hq]
def bQ(h:b≠0):0 < (aw t b).2:=by have⟨p,q,e,h0,_⟩:=da (t:=t) h;rw[e];exact h0
def e_(h:b≠0):Int.gcd (aw t b).1 (aw t b).2=1:=by have⟨p,q,e,_,hc,_⟩:=da (t:=t) h;rw[e];exact hc
def kN{k m n:Int}(h:k∣m * n)(hc:Int.gcd k m=1):k∣n:=by have:=(Int.dvd_gcd_mul_iff_dvd_mul (k:=k) (n:=m) (m:=n)).mpr h;rw[hc]at this;simpa using this
def tO{p q p' q':Int}(hq:0 < q)(fK:0 < q')(h:Int.gcd p q=1)(h':Int.gcd p' q'=1)(e:p * q'=p' * q):p=p'/\q=q':=by
 have d1:q∣q':=by have:q∣p * q':=⟨p',by rw[e,abp]⟩;exact kN this (by rw[Int.gcd_comm];exact h)
 have d2:q'∣q:=by have:q'∣p' * q:=⟨p,by rw[<-e,abp]⟩;exact kN this (by rw[Int.gcd_comm];exact h')
 have eq:q=q':=Int.le_antisymm (Int.le_of_dvd fK d1) (Int.le_of_dvd hq d2);subst eq;exact⟨Int.eq_of_mul_eq_mul_right () e,rfl⟩
def BZ{p q:Int}(h:b≠0)(hq:0 < q)(hc:Int.gcd p q=1)(e:t * q=b * p):aw t b=(p,q):=by
 have h1:=fh (t:=t) h;have h2:=bQ (t:=t) h;have h3:=e_ (t:=t) h;have h4:(aw t b).1 * q=p * (aw t b).2:=by
  have:b * ((aw t b).1 * q)=b * (p * (aw t b).2):=by rw[<-Int.mul_assoc,<-h1,Int.mul_right_comm,e,Int.mul_assoc]
  exact abu h this
 have:=tO h2 hq h3 hc h4;exact Prod.ext this.1 this.2
def oF{p q:Int}(hq:0 < q)(hc:Int.gcd p q=1):aw p q=(p,q):=BZ () hq hc (abp _ _)
def qR(h:b≠0):(dv t b).natAbs<=b.natAbs:=by
 have e:(dv t b).natAbs=Int.gcd t b:=by unfold dv g;split <;> omega
 rw[e];exact Int.gcd_le_natAbs_right t h
def l7  (h : b ≠ 0) : (aw t b).1.natAbs <= t.natAbs :=by
  obtain⟨p,q,e,_,_,hp,_⟩ :=da (t :=t) h;have n0 :=wI (t :=t) h;rw[e];show p.natAbs <= t.natAbs
  have : t.natAbs = (dv t b).natAbs * p.natAbs := by conv => lhs; rw [hp]
                                                     exact Int.natAbs_mul _ _
  rw[this];exact Nat.le_mul_of_pos_left _ ()
def jq  (h : b ≠ 0) : (aw t b).2.natAbs <= b.natAbs :=by
  obtain⟨p,q,e,_,_,_,hq⟩ :=da (t :=t) h;have n0 :=wI (t :=t) h;rw[e];show q.natAbs <= b.natAbs
  have : b.natAbs = (dv t b).natAbs * q.natAbs := by conv => lhs; rw [hq]
                                                     exact Int.natAbs_mul _ _
  rw[this];exact Nat.le_mul_of_pos_left _ ()
def BM(h:0 < b):aw t b=(t.fdiv (g t b),b.fdiv (g t b)):=by unfold aw dv;rw[aaH ()]
end Fr0
namespace Tx
open PySem PySem.NumText
variable{n c:Nat}{x:Str}{tl:List Nat}{ps:List (List Nat)}
def dig(n:Nat):List Nat:=(Nat.toDigits 10 n).map Char.toNat
def zK:∀d:Nat,d < 10->(Nat.digitChar d).toNat=48+d:=@_
def e7(h:n < 10):dig n=[48+n]:=by unfold dig;rw[Nat.toDigits_of_lt_base h,aaL,List.map_nil,zK n h]
def lE(h:10<=n):dig n=dig (n / 10)++[48+n % 10]:=by have hm:n % 10 < 10:=Nat.mod_lt n @_;have t:Nat.toDigits 10 (n / 10)++Nat.toDigits 10 (n % 10)=Nat.toDigits 10 (10 * (n / 10)+n % 10):=Nat.toDigits_append_toDigits @_ () hm;rw[Nat.div_add_mod]at t;unfold dig;rw[<-t,List.map_append,Nat.toDigits_of_lt_base hm,aaL,List.map_nil,zK _ hm]
def gD(n:Nat):AllDigits (dig n):=by
 induction n using Nat.strongRecOn with
 | _ n ih=>
  by_cases h:n < 10
  ·rw[e7 h];intro c hc;have:c=48+n:=by simpa using hc
   omega
  ·rw[lE ()];intro c hc;rcases aaI.mp hc with z| z
   ·exact ih (n / 10) () c z
   ·have:c=48+n % 10:=by simpa using z
    omega
def EB(n:Nat):dig n≠[]:=by
 by_cases h:n < 10
 ·rw[e7 h];simp
 ·rw[lE ()];simp
def B1(n:Nat):digitsVal (dig n)=n:=PySem.W.KIN.val_back n
def iY:∀(k n:Nat),n < 10 ^ (k+1)->(dig n).length<=k+1
 | 0,n,h=>by rw[e7 (by simpa using h)];simp
 | k+1,n,h=>by
  by_cases MG:n < 10
  ·rw[e7 MG];simp
  ·rw[lE (),aab]
   have:=iY k (n / 10) (by
    rw[Nat.pow_succ]at h
    omega)
   simp only[List.length_cons,List.length_nil];omega
def zr(h:n≠0):∃c r,dig n=c::r/\c≠48:=by
 induction n using Nat.strongRecOn with
 | _ n ih=>
  by_cases MG:n < 10
  ·exact⟨48+n,[],e7 MG,()⟩
  ·have⟨c,r,e,hc⟩:=ih (n / 10) () ();exact⟨c,r++[48+n % 10],by rw[lE (),e];rfl,hc⟩
def sg(i:Int):List Nat:=if i < 0 then [45] else []
def str_int(i:Int):(Str.ofString (toString i)).cps.toList=sg i++dig i.natAbs:=by
 cases i with
 | ofNat m=>exact PySem.W.KIN.signs_num m
 | negSucc m=>
  rw[show sg (Int.negSucc m)=[45] from aaN (Int.negSucc_lt_zero m)];have e:(Str.ofString (toString (Int.negSucc m))).cps.toList=(toString (Int.negSucc m)).toList.map Char.toNat:=PyProof.Rows.signs_ofString _;rw[e];have e2:toString (Int.negSucc m)="-"++toString (m+1):=rfl;rw[e2,String.toList_append,List.map_append];have e3:(toString (m+1)).toList.map Char.toNat=dig (m+1):=by show(Nat.repr (m+1)).toList.map Char.toNat=_;rw[Nat.toList_repr];rfl
  rw[e3];rfl
def mk(cs:List Nat):Str:=⟨cs.toArray⟩
def b_(cs:List Nat):(mk cs).cps.toList=cs:=rfl
def ξ(cs:List Nat):(mk cs).length=cs.length:=by simp[mk,Str.length]
def eW{z:Str}{cs:List Nat}(h:z.cps.toList=cs):z=mk cs:=by
 cases z with
 | mk a=>
  have:a.toList=cs:=h;subst this;rfl
def Η(a b:List Nat):mk a++mk b=mk (a++b):=eW (by show(a.toArray++b.toArray).toList=a++b;simp)
def fG(i:Int):Str.ofString (toString i)=mk (sg i++dig i.natAbs):=eW (str_int i)
def vA{c:Nat}:∀{p q X Y:List Nat},c∉p->c∉q->p++c::X=q++c::Y->p=q/\X=Y
 | [],[],X,Y,_,_,e=>⟨rfl,by simpa using e⟩
 | [],b::q,X,Y,_,hq,e=>by
  have:c=b:=by simpa using(List.cons.inj e).1
  exact aaE (by rw[this];exact aad) hq
 | a::p,[],X,Y,hp,_,e=>by
  have:a=c:=by simpa using(List.cons.inj e).1
  exact aaE (by rw[<-this];exact aad) hp
 | a::p,b::q,X,Y,hp,hq,e=>by have e1:=(List.cons.inj e).1;have e2:=(List.cons.inj e).2;have⟨h1,h2⟩:=vA (λz=>hp (aae _ z)) (λz=>hq (aae _ z)) e2;exact⟨by rw[e1,h1],h2⟩
def eY(s x y:Str)(r:List Str):(Str.join s (x::y::r)).cps.toList=x.cps.toList++(s.cps.toList++(Str.join s (y::r)).cps.toList):=by show((x.cps++s.cps)++(Str.join s (y::r)).cps).toList=_;simp
def wH{y:Str}(h:x.cps.toList=y.cps.toList):x=y:=(eW h).trans (eW rfl).symm
def sH{c:Nat}:∀(ps qs:List Str),ps≠[]->qs≠[]->(∀p∈ps,c∉p.cps.toList)->(∀p∈qs,c∉p.cps.toList)->(Str.join ⟨#[c]⟩ ps).cps.toList=(Str.join ⟨#[c]⟩ qs).cps.toList->ps=qs
 | [],_,h,_,_,_,_=>aaE rfl h
 | _,[],_,h,_,_,_=>aaE rfl h
 | [p],[q],_,_,_,_,e=>by rw[wH (x:=p) (y:=q) e]
 | [p],q::q'::r,_,_,hp,_,e=>by rw[eY]at e;have e:p.cps.toList=q.cps.toList++([c]++_):=e;exact absurd (by rw[e];simp) (hp p List.mem_cons_self)
 | p::p'::r,[q],_,_,_,hq,e=>by rw[eY]at e;have e:p.cps.toList++([c]++_)=q.cps.toList:=e;exact absurd (by rw[<-e];simp) (hq q List.mem_cons_self)
 | p::p'::r,q::q'::s,_,_,hp,hq,e=>by rw[eY,eY]at e;have⟨h1,h2⟩:=vA (c:=c) (hp p aad) (hq q aad) e;rw[wH h1,sH (p'::r) (q'::s) (by simp) (by simp) (λx hx=>hp x (List.mem_cons_of_mem _ hx)) (λx hx=>hq x (List.mem_cons_of_mem _ hx)) h2]
def rR(x y:Str):Txt.split x y≠[]:=by
 unfold Txt.split;split
 ·simp
 ·split
  ·simp
  ·rw[StrLaws.partsBetween_eq];have⟨p,r,e⟩:=StrLaws.partsFrom_ne x y.length 0 (Builtin.Str.occurrences x y 0 x.length (x.length+1));rw[e];simp
def jo{ps:List Str}(hn:ps≠[])(hf:∀p∈ps,c∉p.cps.toList)(hj:(Str.join ⟨#[c]⟩ ps).cps.toList=x.cps.toList):Txt.split x ⟨#[c]⟩=ps:=
 sH _ _ (rR x _) hn (StrLaws.split_free x c) hf (by rw[StrLaws.join_split];exact hj.symm)
def A'{cs:List Nat}(h:c∉cs):Txt.split (mk cs) ⟨#[c]⟩=[mk cs]:=jo (by simp) (λp hp=>by
 have:p=mk cs:=by simpa using hp
 rw[this];exact h) rfl
def zF{a b:List Nat}(ha:c∉a)(hb:c∉b):Txt.split (mk (a++c::b)) ⟨#[c]⟩=[mk a,mk b]:=jo (by simp) (λp hp=>by
 have:p=mk a\/p=mk b:=by simpa using hp
 rcases this with e| e <;> rw[e] <;> assumption) (by rw[eY];rfl)
def G9(cs:List Nat):Prop:=cs≠[]/\cs.length<=60/\AllDigits cs/\(cs.head?=some 48->cs=[48])
instance (cs:List Nat):Decidable (AllDigits cs):=by unfold AllDigits;infer_instance
instance (cs:List Nat):Decidable (G9 cs):=by unfold G9;infer_instance
def gM(cs:List Nat):Option Nat:=if G9 cs then some (digitsVal cs) else none
def mj(cs:List Nat):Option Int:=match cs with
 | 45::r=>(match gM r with
  | some n=>if n=0 then none else some (-(n:Int))
  | none=>none)
 | _=>(match gM cs with
  | some n=>some (n:Int)
  | none=>none)
def lV(h:n < 10 ^ 60):gM (dig n)=some n:=by
 have hk:G9 (dig n):=by
  refine⟨EB n,iY 59 n h,gD n,λe=>?_⟩;by_cases h0:n=0
  ·rw[h0];rfl
  ·have⟨c,r,e1,hc⟩:=zr h0;rw[e1]at e;exact aaE (aan e) hc
 unfold gM;rw[aaN hk,B1]
def sy{i:Int}(h:i.natAbs < 10 ^ 60):mj (sg i++dig i.natAbs)=some i:=by
 by_cases hi:i < 0
 ·have e:sg i++dig i.natAbs=45::dig i.natAbs:=by unfold sg;rw[if_pos hi];rfl
  rw[e];unfold mj;simp only[lV h];rw[aaH ()]
  congr 1
  omega
 ·have e:sg i++dig i.natAbs=dig i.natAbs:=by unfold sg;rw[if_neg hi];rfl
  rw[e];unfold mj;have hd:=gD i.natAbs;split
  ·rename_i r er;have:=hd 45 (by rw[er];exact aad);omega
  ·simp only[lV h]
   congr 1
   omega
def wr(p b:Int):List Nat:=sg p++dig p.natAbs++(if b=1 then [] else 47::dig b.natAbs)
def Jd(i:Int):47∉sg i++dig i.natAbs:=λh=>by
 rcases aaI.mp h with z| z
 ·unfold sg at z;split at z
  ·have:(47:Nat)=45:=by simpa using z
   omega
  ·cases z
 ·have:=gD i.natAbs 47 z;omega
def Hk(n:Nat):47∉dig n:=λz=>by have:=gD n 47 z;omega
def rd(z:Str):Option (Int×Int):=match Txt.split z ⟨#[47]⟩ with
 | [a]=>(match mj a.cps.toList with
  | some t=>some (Fr0.aw t 1)
  | none=>none)
 | [a,b]=>(match mj a.cps.toList with
  | some t=>(match gM b.cps.toList with
   | some n=>if n < 2 then none else if (Fr0.aw t n).2=n then some (Fr0.aw t n) else none
   | none=>none)
  | none=>none)
 | _=>none
def Jx{p b:Int}(hb:0 < b)(hc:Int.gcd p b=1)(h1:p.natAbs < 10 ^ 60)(h2:b.natAbs < 10 ^ 60):rd (mk (wr p b))=some (p,b):=by
 unfold rd wr;by_cases yD:b=1
 ·subst yD;rw[aaN rfl,aa2,A' (Jd p)];simp only[b_,sy h1];rw[Fr0.oF @_ hc]
 ·rw[aaH yD,zF (Jd p) (Hk _)];simp only[b_,sy h1,lV h2];have e:((b.natAbs:Nat):Int)=b:=()
  rw[aaH (),e,Fr0.oF hb hc,aaN rfl]
def yL{p b:Int}(h1:p.natAbs < 10 ^ 60)(h2:b.natAbs < 10 ^ 60):(wr p b).length<=122:=by unfold wr sg;have:=iY 59 _ h1;have:=iY 59 _ h2;simp only[List.length_append];split <;> split <;> simp <;> omega
def A9(z:Str)(c:Nat):(!(Builtin.Str.occurrences z ⟨#[c]⟩ 0 z.length 1).isEmpty)=decide (c∈z.cps.toList):=StrLaws.found_one z c
def dg{i:Int}(h:i.natAbs < 10 ^ 60):i.natAbs.log2 < 1920:=by
 by_cases h0:i.natAbs=0
 ·rw[h0];decide
 ·exact(Nat.log2_lt h0).mpr (aak h (by decide+kernel))
open PySem PySem.StrLaws PySem.Builtin.Str
def jP(s sub:Str)(hi limit lo:Nat)(hw:1<=sub.length):∀(m cur:Nat) (st:Array Nat×Nat),ChainG s sub hi lo st.fst.toList st.snd->st.fst.size<=limit->(st.fst.size=limit\/∀k,st.snd<=k->k < cur->¬At s sub hi k)->
  ChainG s sub hi lo (forIn (List.range' cur m) st (occBody s sub hi limit)).run.fst.toList (forIn (List.range' cur m) st (occBody s sub hi limit)).run.snd/\(forIn (List.range' cur m) st (occBody s sub hi limit)).run.fst.size<=limit/\
  ((forIn (List.range' cur m) st (occBody s sub hi limit)).run.fst.size=limit\/∀k,(forIn (List.range' cur m) st (occBody s sub hi limit)).run.snd<=k->k < cur+m->¬At s sub hi k)
 | 0,cur,st,h,hl,hn=>⟨h,hl,hn⟩
 | m+1,cur,st,h,hl,hn=>by
  rw[List.range'_succ,List.forIn_cons];unfold occBody;have e:cur+(m+1)=(cur+1)+m:=()
  rw[e];split
  ·rename_i hc;have vC:∀k,st.snd<=k->k < cur->¬At s sub hi k:=hn.resolve_left (by have:=hc.1.1.1;omega);refine jP s sub hi limit lo hw m (cur+1) _ ?_ ?_ (.inr ?_)
   ·show ChainG s sub hi lo (st.fst.push cur).toList (cur+sub.length);rw[Array.toList_push];exact chainG_snoc h hc.1.1.2 ⟨hc.1.2,hc.2⟩ vC
   ·show(st.fst.push cur).size<=limit;rw[Array.size_push];have:=hc.1.1.1;omega
   ·intro k h1 h2;have Oh:cur+sub.length<=k:=h1;omega
  ·rename_i hc;refine jP s sub hi limit lo hw m (cur+1) _ h hl ?_;by_cases hz:st.fst.size=limit
   ·exact .inl hz
   have vC:=hn.resolve_left hz;refine .inr λk h1 h2 hA=>?_;by_cases hk:k < cur
   ·exact vC k h1 hk hA
   ·have ek:k=cur:=()
    subst ek;exact hc ⟨⟨⟨(),h1⟩,hA.1⟩,hA.2⟩
def v_(x y:Str)(limit:Nat)(hw:1<=y.length):∃f,ChainG x y x.length 0 (occurrences x y 0 x.length limit) f/\(occurrences x y 0 x.length limit).length<=limit/\((occurrences x y 0 x.length limit).length=limit\/∀k,f<=k->¬At x y x.length k):=by
 rw[occ_eq];have key:=jP x y x.length limit 0 hw (x.length+1 - 0) 0 ((#[]:Array Nat),0) rfl (aaV _) (.inr λk _ h=>());refine⟨_,key.1,key.2.1,?_⟩;rcases key.2.2 with h| h
 ·exact .inl h
 ·exact .inr λk hk hA=>h k hk (by have:=hA.1;omega) hA
inductive ue(c:Nat)(tl:List Nat):Nat->List Nat->List (List Nat)->Prop
 | last {l:Nat} {p:List Nat} (h:l=0\/c∉p):ue c tl l p [p]
 | more {l:Nat} {p r:List Nat} {ps:List (List Nat)} (h:c∉p) (t:ue c tl l r ps):ue c tl (l+1) (p++(c::tl++r)) (p::ps)
def uL{k:Nat}:At x (mk (c::tl)) x.length k↔∃r,x.cps.toList.drop k=c::tl++r:=by
 unfold At;rw[subAt_eq];have hl:x.cps.toList.length=x.length:=aaT;rw[b_,ξ];constructor
 ·rintro⟨h1,h2⟩;have h2:(x.cps.toList.drop k).take (c::tl).length=c::tl:=eq_of_beq h2;refine⟨(x.cps.toList.drop k).drop (c::tl).length,?_⟩;have:=List.take_append_drop (c::tl).length (x.cps.toList.drop k);rw[h2]at this;exact this.symm
 ·rintro⟨r,e⟩;have e2:=aaX List.length e;rw[aba,aab]at e2;refine⟨by simp only[List.length_cons]at e2⊢;omega,?_⟩;rw[e,abv];exact List.take_left' rfl
def eQ{l:Nat}{t:List Nat}(h:ue c tl l t ps):∀{a:Nat} {sx:List Nat} {f:Nat},a<=x.length->x.cps.toList.drop a=t->ChainG x (mk (c::tl)) x.length a sx f->sx.length<=l->(sx.length=l\/∀k,f<=k->¬At x (mk (c::tl)) x.length k)->partsFrom x (mk (c::tl)).length a sx=ps.map mk:=by
 have hl:x.cps.toList.length=x.length:=aaT;have whole:∀a,strSub x a x.length=mk (x.cps.toList.drop a):=λa=>eW (by rw[strSub_toList];exact abm (by rw[aba];omega))
 induction h with
 | last h=>
  rename_i l p;intro a sx f ha e hc hle hn;cases sx with
  | nil=>show[strSub x a x.length]=_;rw[whole,e];rfl
  | cons d r=>
   exfalso;have hm:c∉p:=h.resolve_left (by simp only[List.length_cons]at hle;omega);have⟨r',er⟩:=uL.mp hc.2.1;have ad:=hc.1;have e3:x.cps.toList.drop d=p.drop (d - a):=by rw[<-e,abC];congr 1;omega
   refine hm (List.mem_of_mem_drop (i:=d - a) ?_);rw[<-e3,er];simp
 | more h t ih=>
  rename_i l p r ps;intro a sx f ha e hc hle hn;have hA:At x (mk (c::tl)) x.length (a+p.length):=uL.mpr ⟨r,by rw[<-abC,e,List.drop_left' rfl]⟩;have hb:=hA.1;cases sx with
  | nil=>
   exfalso;have ef:f=a:=hc;rcases hn with hn| hn
   ·simp at hn
   ·exact hn _ () hA
  | cons d r'=>
   have hd:d=a+p.length:=by
    rcases Nat.lt_trichotomy d (a+p.length) with z| z| z
    ·exfalso;have⟨r2,er⟩:=uL.mp hc.2.1;have ad:=hc.1;have e2:x.cps.toList.drop d=(p.drop (d - a))++(c::tl++r):=by
      rw[show d=a+(d - a) by omega,<-abC,e,List.drop_append_of_le_length ()]
      congr 2;omega
     rw[er]at e2;cases hp:p.drop (d - a) with
     | nil=>have:=congrArg List.length hp;rw[List.length_drop]at this;simp at this;omega
     | cons y ys=>
      rw[hp]at e2;have:c=y:=by simpa using(List.cons.inj e2).1
      exact h (List.mem_of_mem_drop (i:=d - a) (by rw[hp,this];exact aad))
    ·exact z
    ·exact aaE hA (hc.2.2.1 _ () z)
   subst hd;show strSub x a (a+p.length)::partsFrom x (mk (c::tl)).length (a+p.length+(mk (c::tl)).length) r'=mk p::ps.map mk;have e1:strSub x a (a+p.length)=mk p:=eW (by rw[strSub_toList,e,show a+p.length - a=p.length by omega];exact List.take_left' rfl);rw[e1,ih hb ?_ hc.2.2.2 (by simp only[List.length_cons]at hle;omega) ?_]
   ·rw[Nat.add_assoc,<-abC,e,<-abC,List.drop_left' rfl,ξ,List.drop_left' rfl]
   ·rcases hn with hn| hn
    ·exact .inl (by simp only[List.length_cons]at hn;omega)
    ·exact .inr hn
def rN(x:Str):¬Builtin.Str.strKind x < 1:=by
 unfold Builtin.Str.strKind;split
 ·omega
 ·split <;> omega
def DL{y:Str}(h:x.length < y.length)(k:Nat):¬At x y x.length k:=λz=>by have:=z.1;omega
def rj{l:Nat}(hk:Builtin.Str.strKind (mk (c::tl))=1)(hl:x.length+1<=l)(h:ue c tl l x.cps.toList ps):Txt.split x (mk (c::tl))=ps.map mk:=by
 have hw:1<=(mk (c::tl)).length:=by rw[ξ];simp
 have one:partsFrom x (mk (c::tl)).length 0 []=[x]:=by show[strSub x 0 x.length]=_;rw[sub_whole]
 unfold Txt.split;split
 ·rename_i hc;rw[Bool.or_eq_true,decide_eq_true_eq,decide_eq_true_eq,hk]at hc;have hc:=hc.resolve_right (rN x);rw[<-one];exact eQ h (aaV _) rfl rfl (aaV _) (.inr λk _=>DL hc k)
 ·have⟨f,hG,hle,hn⟩:=v_ x (mk (c::tl)) (x.length+1) hw;have vC:∀k,f<=k->¬At x (mk (c::tl)) x.length k:=by
   have⟨f',Qq,vC⟩:=occ_tight x (mk (c::tl)) hw;have uq:∀(l:List Nat) (a f g:Nat),ChainG x (mk (c::tl)) x.length a l f->ChainG x (mk (c::tl)) x.length a l g->f=g:=by
    intro l
    induction l with
    | nil=>intro a f g h1 h2;exact(show f=a from h1).trans (show g=a from h2).symm
    | cons d r ih=>intro a f g h1 h2;exact ih _ _ _ h1.2.2.2 h2.2.2.2
   rw[uq _ _ _ _ hG Qq];exact vC
  split
  ·rename_i he;have e0:occurrences x (mk (c::tl)) 0 x.length (x.length+1)=[]:=List.isEmpty_iff.mp he;rw[e0]at hG;rw[<-one];exact eQ h (aaV _) rfl hG (aaV _) (.inr vC)
  ·rw[partsBetween_eq];exact eQ h (aaV _) rfl hG (aaq hle hl) (.inr vC)
def mE{l:Nat}(hk:Builtin.Str.strKind (mk (c::tl))=1)(h:ue c tl l x.cps.toList ps):Txt.splitMax x (mk (c::tl)) (l:Int)=ps.map mk:=by
 have hw:1<=(mk (c::tl)).length:=by rw[ξ];simp
 have one:partsFrom x (mk (c::tl)).length 0 []=[x]:=by show[strSub x 0 x.length]=_;rw[sub_whole]
 have el:limitOf x (l:Int)=l:=by unfold limitOf;rw[if_neg ()];rfl
 unfold Txt.splitMax;rw[el];split
 ·rename_i hc;rw[Bool.or_eq_true,decide_eq_true_eq,decide_eq_true_eq,hk]at hc;have hc:=hc.resolve_right (rN x);rw[<-one];exact eQ h (aaV _) rfl rfl (aaV _) (.inr λk _=>DL hc k)
 ·have⟨f,hG,hle,hn⟩:=v_ x (mk (c::tl)) l hw;split
  ·rename_i he;have e0:occurrences x (mk (c::tl)) 0 x.length l=[]:=List.isEmpty_iff.mp he;rw[e0]at hG hn;rw[<-one];exact eQ h (aaV _) rfl hG (aaV _) hn
  ·rw[partsBetween_eq];exact eQ h (aaV _) rfl hG hle hn
def jn(s:List Nat):List (List Nat)->List Nat
 | []=>[]
 | [p]=>p
 | p::q::r=>p++(s++jn s (q::r))
def wF(s:List Nat):∀ps:List (List Nat),Str.join (mk s) (ps.map mk)=mk (jn s ps)
 | []=>rfl
 | [p]=>rfl
 | p::q::r=>by refine eW ?_;show(Str.join (mk s) (mk p::mk q::r.map mk)).cps.toList=_;rw[eY];have:=wF s (q::r);rw[show Str.join (mk s) (mk q::r.map mk)=mk (jn s (q::r)) from this];rfl
def vE{c:Nat}{tl:List Nat}:∀{ps:List (List Nat)} {l:Nat},ps≠[]->(∀p∈ps,c∉p)->ps.length<=l+1->ue c tl l (jn (c::tl) ps) ps
 | [],_,h,_,_=>aaE rfl h
 | [p],_,_,hf,_=>.last (.inr (hf p aad))
 | p::q::r,l,_,hf,hl=>by
  cases l with
  | zero=>simp at hl
  | succ l=>exact .more (hf p List.mem_cons_self) (vE (by simp) (λy hy=>hf y (List.mem_cons_of_mem _ hy)) (by simp only[List.length_cons]at hl⊢;omega))
def zL{c:Nat}{tl:List Nat}:∀{ps:List (List Nat)},ps.length<=(jn (c::tl) ps).length+1
 | []=>by simp
 | [p]=>by simp
 | p::q::r=>by have:=zL (c:=c) (tl:=tl) (ps:=q::r);show _<=(p++(c::tl++jn (c::tl) (q::r))).length+1;rw[aab,aab];simp only[List.length_cons]at this⊢;omega
def A6(hk:Builtin.Str.strKind (mk (c::tl))=1)(hn:ps≠[])(hf:∀p∈ps,c∉p):Txt.split (mk (jn (c::tl) ps)) (mk (c::tl))=ps.map mk:=
 rj (l:=(jn (c::tl) ps).length+1) hk (by rw[ξ];exact aaj _) (by rw[b_];exact vE hn hf (aaq zL (Nat.le_succ _)))
def B5(s:List Nat)(ps:List (List Nat)):Txt.join (mk s) (ps.map mk)=mk (jn s ps):=by show glued (mk s) (ps.map mk)=_;rw[StrLaws.glued_eq_join,wF]
def yx{s:List Nat}{m:Nat}(hl:ps.length<=n)(hp:∀p∈ps,p.length+s.length<=m)(hb:n * m<=sizeLine):JoinOk (mk s) (ps.map mk)=true:=by
 unfold JoinOk;have key:∀(qs:List (List Nat)) (a:Nat),(∀p∈qs,p.length+s.length<=m)->(qs.map mk).foldl (λa (z:Str)=>a+z.length+(mk s).length) a<=a+qs.length * m:=by
  intro qs
  induction qs with
  | nil=>intro a _;simp
  | cons p qs ih=>
   intro a h;have h1:=h p aad;have h2:=ih (a+(mk p).length+(mk s).length) λy hy=>h y (aae _ hy);rw[aaL,abz];refine aaq h2 ?_;rw[ξ,ξ,aaA,Nat.succ_mul];omega
 have k:=key ps 0 hp;have:ps.length * m<=n * m:=Nat.mul_le_mul_right _ hl;rw[Bool.not_eq_true'];unfold tooLong;refine aau ?_;rw[List.foldl_toArray];omega
end Tx
seal L2.JE L2.JT L2.JW L2.JA L2.JS L2.xE L2.JI L2.JK
local macro_rules| `(tactic| walk_at "vc")=>`(tactic| dsimp only[L2.gN,L2.HL,L2.A1,L2.HR,L2.Jk,L2.Ea,L2.OB,L2.IU,L2.xx,L2.DR,L2.zU,L2.lX,L2.tw,L2.cQ,L2.HV,L2.a_,L2.dC,L2.ff,L2.bW,L2.Js,L2.JU,L2.jA,L2.HF,L2.O7,L2.JJ,L2.Ja,L2.JF,L2.OX,L2.Cj,L2.jU,List.map_cons,List.map_nil,List.length_cons,List.length_nil,List.cons_append,List.nil_append,List.replicate,List.getElem?_cons_zero,List.getElem?_cons_succ,List.set_cons_zero,List.set_cons_succ,Nat.reduceSub,Nat.reduceAdd,Nat.zero_add])
namespace Pg
open PySem L2
variable{mg:Str->Option Value}{f dQ bO dt bL:Addr}{fd dX bN dr bP:FuncData}{i j b:Int}{M:Ms}{d:Dt}{xs:List Dt}{n c:Nat}{ns ps:List (List Nat)}{st:List Nat}
def top(i:Nat):Stmt:=PySem.Challenge.pw_chanceduel_k09_floors_written.main.body.getD i (.Pass ⟨0,0,0,0⟩)
def cls(i j:Nat):Stmt:=match top i with
 | .ClassDef _ _ _ b _ _ _ _ _ _ _=>b.getD j (.Pass ⟨0,0,0,0⟩)
 | _=>.Pass ⟨0,0,0,0⟩
abbrev dJ:Stmt:=top 9
abbrev jG:Stmt:=top 10
abbrev mX:Stmt:=top 15
abbrev jW:Stmt:=top 16
abbrev eu:Stmt:=top 17
abbrev fE:Stmt:=top 18
abbrev iF:Stmt:=top 19
abbrev lG:Stmt:=top 20
abbrev ie:Stmt:=top 21
abbrev iI:Stmt:=top 25
abbrev eA:Stmt:=top 30
abbrev fC:Stmt:=top 31
abbrev ma:Stmt:=top 32
abbrev eI:Stmt:=top 33
abbrev jK:Stmt:=top 37
abbrev hV:Stmt:=top 38
abbrev iL:Stmt:=top 39
abbrev pP:Stmt:=top 40
abbrev jN:Stmt:=top 41
abbrev ij:Stmt:=top 42
abbrev j6:Stmt:=top 43
abbrev me:Stmt:=top 44
abbrev iq:Stmt:=top 45
abbrev ia:Stmt:=top 46
abbrev eL:Stmt:=top 47
abbrev fk:Stmt:=top 48
abbrev h9:Stmt:=top 49
abbrev pV:Stmt:=top 51
abbrev jZ:Stmt:=top 52
abbrev p_:Stmt:=top 53
abbrev hW:Stmt:=top 54
abbrev qD:Stmt:=top 55
abbrev iy:Stmt:=top 56
abbrev pT:Stmt:=top 57
abbrev mn:Stmt:=top 58
abbrev j7:Stmt:=top 59
abbrev eT:Stmt:=top 60
abbrev jT:Stmt:=top 61
abbrev fD:Stmt:=top 62
abbrev lZ:Stmt:=top 63
abbrev ml:Stmt:=top 64
abbrev GN:Stmt:=top 65
abbrev iD:Stmt:=cls 26 0
abbrev gf:Stmt:=cls 26 2
abbrev il:Stmt:=cls 26 6
open PySem L2 Fr0 Tx
abbrev VB:List Value:=[.type "ValueError",.type "Exception",.type "BaseException",.type "object"]
structure Ev(K:fI)(mg:Str->Option Value)(Cl CT:Addr):Prop where
 aY:mg "len"=none
 kH:mg "abs"=none
 ψ:mg "isinstance"=none
 kJ:mg "int"=none
 mq:mg "bool"=none
 gs:mg "str"=none
 cY:mg "tuple"=none
 fB:mg "list"=none
 bq:mg "range"=none
 cP:mg "enumerate"=none
 sL:mg "any"=none
 o3:mg "all"=none
 sM:mg "sum"=none
 vi:mg "zip"=none
 ib:PySem.W.kitOne K (.type "int") (.type "bool")=some false
 K2:PySem.W.kitOne K (.type "int") (.type "str")=some false
 N7:PySem.W.kitOne K (.type "tuple") (.type "str")=some false
 OT:PySem.W.kitOne K (.type "tuple") (.type "int")=some false
 Oc:PySem.W.kitOne K (.type "list") (.type "str")=some false
 O2:PySem.W.kitOne K (.type "list") (.type "int")=some false
 NT:PySem.W.kitOne K (.type "tuple") (.type "list")=some false
 klt:PySem.W.kitOne K (.type "list") (.type "tuple")=some false
 bB:mg "NoText"=some (.ref CT)
 bC:jE K CT VB "ValueError.__new__"
 fR:yi K Cl
 fw:eK K Cl "kept_rows"
 eB:eK K Cl "kept_share"
 uX:∃a o its n,mg "HANDS"=some (.ref a)/\K.lookup a=some o/\o.cls= .type "tuple"/\o.data= .seq its n/\its.size<=sizeLine/\Paired (λ(z:Str) (u:Value)=>∃tk,u= .str z tk) ["one","other"] its.toList
 sF:∃tk,mg "FIGURES"=some (.str "0123456789" tk)
 r6:∃tk,mg "LETTERS"=some (.str "abcdefghijklmnopqrstuvwxyz" tk)
 hJ:∃tk,mg "MOST_FIGURES"=some (.int 60 tk)
 hI:∃tk,mg "MOST_LETTERS"=some (.int 8 tk)
 v9:mg "min"=none
 kQ:∃tk,mg "MOST_DOORS"=some (.int 6 tk)
 fA:∃tk,mg "MOST_BOTTOM"=some (.int 1000000 tk)
 jf:∃tk,mg "MOST_PLACES"=some (.int 12 tk)
 dk:∃tk,mg "MOST_SHARE_BOTTOM"=some (.int 1000 tk)
def cB{K:fI}{T:String}:PySem.W.kitOne K (.type T) (.type T)=some true:=by unfold PySem.W.kitOne;rw[aaN (beq_self_eq_true _)]
section
variable{P:Program}{w:World}{K:fI}{base:Heap}{Cl CT:Addr}
def qm:DF:=λds M q _=>match ds with
 | [.int a,.int b]=>q (.int (g a b)) M
 | _=>False
def aM:χ ["one","other","great","small","rest"] ["one","other"] (ν dJ):=.of rfl
def j4(F:cj K "common_divisor" "common_divisor" dJ f fd)(E:Ev K mg Cl CT):Φ P w K mg base (bE P w) 1 f fd ["one","other"] (cm K qm):=by
 refine F.dZ aM (λds M q x h=>?_) (λaW A outer s H E' hr=>⟨_,(ε (υ 2 aM.nd (sI E.kH (Ι (jv 0) δ)))
   (ε (υ 3 aM.nd (sI E.kH (Ι (jv 1) δ)))
   (ε (rT (eh hr (jv 3) ι) (ε (υ 4 aM.nd (ao (jv 2) (jv 3)))
   (ε (υ 2 aM.nd (jv 3))
   (η (υ 3 aM.nd (jv 4))))))
   (η (ο (jv 2)))))),λds M q x h=>?_⟩)
 ·unfold qm at h;split at h;· rfl
  ·exact h.elim
 ·unfold qm at h;split at h
  ·rename_i a b;refine⟨λm ρ M'=>M'=M/\∃(x y:Int) (r:Option Dt),ρ=[some (.int a),some (.int b),some (.int x),some (.int y),r]/\0<=x/\0<=y/\g x y=g a b/\m=y.toNat,⟨_,rfl,_,_,_,rfl,by split <;> omega,by split <;> omega,Ej a b,rfl⟩,?_⟩;rintro m ρ M' ⟨rfl,x,y,r,rfl,hx,hy,e,rfl⟩;refine⟨λhb=>?_,λhb=>?_⟩
   ·have E4:y≠0:=by simpa using hb
    refine⟨_,λρ' M2 h2=>h2,?_⟩;refine⟨(),(x % y).toNat,?_,rfl,y,x % y,_,rfl,hy,aaK _ E4,?_,rfl⟩
    ·have:=aaF x (show 0 < y by omega);have:=aaK x E4;omega
    ·rw[<-aa8 x hy,AB ()];exact e
   ·have E4:y=0:=by simpa using hb
    subst E4;rw[z4 hx]at e;subst e;exact h
  ·exact h.elim
def xF(h:g8 j)(l:i.natAbs<=j.natAbs):g8 i:=aa3 l h
def vQ:DF:=λds M q _=>match ds with
 | [.int t,.int b]=>g8 b/\(b=0->False)/\(b≠0->q (.tup [.int (aw t b).1,.int (aw t b).2]) M)
 | _=>False
def iJ:χ ["top","bottom","divisor"] ["top","bottom"] (ν jG):=.of rfl
def rn(F:cj K "fraction" "fraction" jG f fd)(E:Ev K mg Cl CT){dH:Addr}{dN:FuncData}(aL:aq P w K mg base 1 "common_divisor" ["one","other"] qm dH dN):Φ P w K mg base (bE P w) 2 f fd ["top","bottom"] (cm K vQ):=by
 refine F.dZ iJ (λds M q x h=>?_) (λaW A outer s H E' hr=>⟨_,(ε (Ε (bw hr (jv 1) ι) (η dz) τ)
   (ε (υ 2 iJ.nd (Ρ aL hr π (Ι (jv 0) (Ι (jv 1) δ))))
   (ε (l0 (Ε (kE (jv 1) ι) (η (υ 2 iJ.nd (Ee (jv 2)))) τ))
   (η (ο (cn (ζ (Ah (jv 0) (jv 2)) (ζ (Ah (jv 1) (jv 2)) δ aN) aN))))))),λds M q x h=>?_⟩)
 ·unfold vQ at h;split at h;· rfl
  ·exact h.elim
 ·unfold vQ at h;split at h
  ·rename_i t b;have⟨hB,h0,h1⟩:=h;refine⟨λhb=>?_,λhb=>?_⟩
   ·exact h0 (by simpa using hb)
   ·have yP:b≠0:=by simpa using hb
    refine⟨λρ M'=>M'=M/\ρ=[some (.int t),some (.int b),some (.int (dv t b))],⟨λhn=>?_,λhn=>?_⟩,?_⟩
    ·have vC:b < 0:=by simpa using hn
     exact⟨rfl,by unfold dv;rw[if_pos vC];rfl⟩
    ·have vC:¬b < 0:=by simpa using hn
     exact⟨rfl,by unfold dv;rw[if_neg vC];rfl⟩
    ·rintro ρ M' ⟨rfl,rfl⟩;have hd:=wI (t:=t) yP;have Oz:g8 (dv t b):=xF hB (qR yP);exact⟨⟨hd,Oz⟩,⟨hd,Oz⟩,gV,h1 yP⟩
  ·exact h.elim
abbrev Fr:=Int×Int
def aV(p:Fr):Dt:=.tup [.int p.1,.int p.2]
def bf(p:Fr):Bool:=decide ((if p.1 < 0 then -p.1 else p.1)<=10 ^ 30)&&decide (p.2<=1000000)
def lR:DF:=λds M q _=>∃p,ds=[aV p]/\q (.bl (bf p)) M
def w_:χ ["pay"] ["pay"] (ν mX):=.of rfl
def tT(F:cj K "fits_pay" "fits_pay" mX f fd)(E:Ev K mg Cl CT):Φ P w K mg base (bE P w) 1 f fd ["pay"] (cm K lR):=by
 refine F.dZ w_ (λds M q x h=>?_) (λaW A outer s H E' hr=>⟨_,(η (ο (bG (qe (sI E.kH (ζ (Δ (jv 0) ι) δ ak)) (kM ι ι)) (dP (qe (Δ (jv 0) ι) (iP E.fA)))))),λds M q x h=>?_⟩)
 ·have⟨p,rfl,_⟩:=h;rfl
 ·have⟨p,rfl,h⟩:=h;refine⟨⟨@_,@_,@_⟩,λh1=>?_,λh1=>?_⟩
  ·have e:bf p=decide (p.2<=1000000):=by unfold bf;rw[show decide ((if p.1 < 0 then -p.1 else p.1)<=10 ^ 30)=true from h1];rfl
   rw[e]at h;exact h
  ·have e:bf p=false:=by unfold bf;rw[show decide ((if p.1 < 0 then -p.1 else p.1)<=10 ^ 30)=false from h1];rfl
   rw[e]at h;exact h
def lA{ok:Ms->Prop}(h:gB M d=some (xs,ok)):ok M:=by
 cases d with
 | lst ds=>cases h;trivial
 | mh ns=>cases h;trivial
 | loc k=>
  have h:(match M[k]? with| some (.lst xs)=>some (xs,λM':Ms=>M'[k]? =some (.lst xs))| _=>none)=some (xs,ok):=h;split at h
  ·rename_i ys hm;cases h;exact hm
  ·cases h
 | _=>cases h
def lY{ok:Ms->Prop}(h:gB M d=some (xs,ok)):lO M d=some (xs,ok):=by
 cases d with
 | lst ds=>cases h;rfl
 | mh ns=>cases h;rfl
 | loc k=>exact h
 | _=>cases h
def cq{i:Nat}{ρ:En}{ok:Ms->Prop}{q:List Dt->(Ms->Prop)->Ms->Prop}{x:DX}(hv:ρ[i]? =some (some d))(hl:gB M d=some (xs,ok))(h:q xs ok M):cJ (a_ i) ρ M q x:=by unfold cJ a_;rw[hv];show(match lO M d with| some (xs,ok)=>q xs ok M| none=>False);rw[lY hl];exact h
def bg{n:Int}{k:Nat}(h:n.natAbs < 2 ^ k)(hk:k<=8000:=by decide):g8 n:=aak h (Nat.pow_le_pow_right @_ hk)
def ay(t:Int)(p:Fr)(size:Int):Bool:=decide (0<=t)&&(decide (t < size)&&bf p)
def n_:DF:=λds M q _=>∃t p r size,ds=[.tup (.int t::aV p::r),.int size]/\q (.bl (ay t p size)) M
def tZ:χ ["door","size"] ["door","size"] (ν jW):=.of rfl
def sQ(F:cj K "fits_door" "fits_door" jW f fd)(E:Ev K mg Cl CT){mD:Addr}{l':FuncData}(df:aq P w K mg base 1 "fits_pay" ["pay"] lR mD l'):Φ P w K mg base (bE P w) 2 f fd ["door","size"] (cm K n_):=by
 refine F.dZ tZ (λds M q x h=>?_) (λaW A outer s H E' hr=>⟨_,(η (ο (bG (qe ι (Δ (jv 0) ι)) (bG (Iu (Δ (jv 0) ι) (jv 1)) (dP (Ρ df hr π (ζ (Δ (jv 0) ι) δ ak))))))),λds M q x h=>?_⟩)
 ·have⟨t,p,r,size,rfl,_⟩:=h;rfl
 ·have⟨t,p,r,size,rfl,h⟩:=h;walk_at "vc";refine Γ rfl cc ?_;refine⟨λh1=>?_,λh1=>?_⟩
  ·refine Γ rfl cc ⟨λh2=>?_,λh2=>?_⟩
   ·refine Γ rfl (az (j:=1) rfl) ⟨p,rfl,?_⟩;have e:ay t p size=bf p:=by unfold ay;rw[h1,h2];rfl
    rw[<-e];exact h
   ·have e:ay t p size=false:=by unfold ay;rw[h1,h2];rfl
    rw[<-e];exact h
  ·have e:ay t p size=false:=by unfold ay;rw[h1];rfl
   rw[<-e];exact h
abbrev oz:=Int×Fr×List Fr
def dh(d:oz):Dt:=.tup (.int d.1::aV d.2.1::d.2.2.map aV)
def Ξ(ds:List oz)(size:Int):Bool:=decide (1<=ds.length)&&decide (ds.length<=6)&&ds.all λd=>ay d.1 d.2.1 size
def mU:DF:=λas M q _=>∃d size ds ok,as=[d,.int size]/\gB M d=some (ds.map dh,ok)/\ds.length<=100/\q (.bl (Ξ ds size)) M
def ky:χ ["doors","size"] ["doors","size"] (ν iF):=.of rfl
def qC(F:cj K "fits_doors" "fits_doors" iF f fd)(E:Ev K mg Cl CT){xy:Addr}{xr:FuncData}(iE:aq P w K mg base 2 "fits_door" ["door","size"] n_ xy xr):Φ P w K mg base (bE P w) 3 f fd ["doors","size"] (cm K mU):=by
 refine F.dZ ky (λds M q x h=>?_) (λaW A outer s H E' hr=>⟨_,(ε (Ε (JW.jt (gr (kE (bp E.aY (Ι (jv 0) δ)) ι) (eD (sC (bp E.aY (Ι (jv 0) δ)) (iP E.kQ))))) (η (ο yG)) τ)
   (η (ο (y9 E.o3 (ζ (br (ys:=["size"]) (Α:=[1]) (.of ky rfl rfl rfl) (aZ (jv 0)) (λC s H fp=>(Ρ iE hr (aK (P:=P) (w:=w)) (Ι (jv 0) (Ι (jv 1) δ))))) δ))))),λds M q x h=>?_⟩)
 ·have⟨d,size,ds,ok,rfl,_⟩:=h;rfl
 ·have⟨d,size,ds,ok,rfl,hl,hz,h⟩:=h;have hs:=jy hl;walk_at "vc";refine aP hs ⟨λh1=>?_,λh1=>?_⟩
  ·refine⟨λ_=>?_,nofun⟩;have e:Ξ ds size=false:=by
    have:(ds.length:Int) < 1:=by simpa using h1
    unfold Ξ;rw[aau ()];rfl
   rw[<-e];exact h
  ·have h1:¬(ds.length:Int) < 1:=by simpa using h1
   refine aP hs ⟨λh2=>?_,λh2=>?_⟩
   ·have e:Ξ ds size=false:=by
     have:6 < (ds.length:Int):=by simpa using h2
     unfold Ξ;rw[aau (p:=ds.length<=6) (),Bool.and_false];rfl
    rw[<-e];exact h
   ·have h2:¬6 < (ds.length:Int):=by simpa using h2
    refine cq rfl hl ⟨by rw[aac];exact aaq hz @_,?_⟩;refine cp (f:=λd=>.bl (match d with| .tup (.int t:: .tup [.int a,.int b]::_)=>ay t (a,b) size| _=>false)) (lA hl) (λx hx q hq=>?_) ?_
    ·have⟨y,_,rfl⟩:=aam.mp hx;exact⟨y.1,y.2.1,y.2.2.map aV,size,rfl,hq⟩
    ·refine⟨ds.map λd=>ay d.1 d.2.1 size,?_,?_⟩
     ·rw[aat,aap,aat];rfl
     ·have e:Ξ ds size=(ds.map λd=>ay d.1 d.2.1 size).all id:=by unfold Ξ;rw[aar (show 1<=ds.length by omega),aar (show ds.length<=6 by omega),List.all_map];rfl
      rw[<-e];exact h
def jj(cs:List Fr):Int:=cs.foldl (λb c=>b * c.2 / g b c.2) 1
def iV{c:Int}(hb:0 < b)(hc:0 < c):0 < b * c / g b c/\b * c / g b c<=b * c/\0 < g b c/\g b c<=c:=by
 have hg:0 < g b c:=rP ();have RK:0 < b * c:=Int.mul_pos hb hc;have hd:g b c∣c:=Int.gcd_dvd_right ..;have hle:g b c<=c:=Int.le_of_dvd hc hd;have h1:c<=b * c:=by have:=Int.mul_le_mul_of_nonneg_right (show 1<=b by omega) (show 0<=c by omega);simpa using this
 refine⟨Int.ediv_pos_of_pos_of_dvd RK () (Int.dvd_mul_of_dvd_right hd),?_,hg,hle⟩;exact Int.ediv_le_self _ ()
def Hf(cs:List Fr):Prop:=cs.length<=12/\∀c∈cs,0 < c.2/\c.2 < 2 ^ 200/\c.1.natAbs < 2 ^ 200
def jI:∀(cs:List Fr) (b:Int) (k:Nat),0 < b->b<=2 ^ (200 * k)->(∀c∈cs,0 < c.2/\c.2 < 2 ^ 200)->0 < cs.foldl (λb c=>b * c.2 / g b c.2) b/\cs.foldl (λb c=>b * c.2 / g b c.2) b<=2 ^ (200 * (k+cs.length))
 | [],b,k,h0,h1,_=>⟨h0,h1⟩
 | c::cs,b,k,h0,h1,hc=>by
  have⟨c0,c1⟩:=hc c aad;have⟨s0,s1,_⟩:=iV h0 c0;have RE:b * c.2 / g b c.2<=2 ^ (200 * (k+1)):=by refine Int.le_trans s1 ?_;rw[show 200 * (k+1)=200 * k+200 by omega,Int.pow_add];exact Int.mul_le_mul h1 (aaM c1) (aaM c0) (aaM (Int.pow_pos @_))
  have:=jI cs _ (k+1) s0 RE λd hd=>hc d (aae _ hd);rw[abz,aaA,show k+(cs.length+1)=k+1+cs.length by omega];exact this
def HP{n:Int}{k:Nat}(h0:0<=n)(h:n<=2 ^ k)(hk:k < 8000):g8 n:=by
 refine bg (k:=k+1) ?_ hk;have:(n.natAbs:Int) < ((2 ^ (k+1):Nat):Int):=by rw[abr h0,Int.natCast_pow,Int.pow_succ];have:(0:Int) < 2 ^ k:=Int.pow_pos @_;show n < 2 ^ k * 2;omega
 exact Int.ofNat_lt.mp this
def gW:∀(cs:List Fr) (b:Int),0 < b->(∀c∈cs,0 < c.2)->0 < cs.foldl (λb c=>b * c.2 / g b c.2) b
 | [],_,h0,_=>h0
 | c::cs,b,h0,hc=>gW cs _ (iV h0 (hc c aad)).1 λd hd=>hc d (aae _ hd)
def yR{n:Int}{k:Nat}(h0:0<=n)(h:n < 2 ^ k)(hk:k<=8000):g8 n:=by
 refine bg (k:=k) ?_ hk;have:(n.natAbs:Int) < ((2 ^ k:Nat):Int):=by rw[abr h0,Int.natCast_pow];exact h
 exact Int.ofNat_lt.mp this
def g7:DF:=λds M q _=>∃cs:List Fr,ds=[.lst (cs.map aV)]/\Hf cs/\q (.int (jj cs)) M
def cf:χ ["chances","bottom","chance"] ["chances"] (ν eu):=.of rfl
def kY(F:cj K "common_bottom" "common_bottom" eu f fd)(E:Ev K mg Cl CT){dH:Addr}{dN:FuncData}(aL:aq P w K mg base 1 "common_divisor" ["one","other"] qm dH dN):Φ P w K mg base (bE P w) 2 f fd ["chances"] (cm K g7):=by
 refine F.dZ cf (λds M q x h=>?_) (λaW A outer s H E' hr=>⟨_,(ε (υ 1 cf.nd ι)
   (ε (qb (aZ (jv 0)) (cb (i:=2) cf.nd rfl (Or.inl rfl)) cD (η (υ 1 cf.nd (bx (e9 (jv 1) (Δ (jv 2) ι)) (Ρ aL hr π (Ι (jv 1) (ζ (Δ (jv 2) ι) δ ak)))))))
   (η (ο (jv 1))))),λds M q x h=>?_⟩)
 ·have⟨cs,rfl,_⟩:=h;rfl
 ·have⟨cs,rfl,⟨hz,hc⟩,h⟩:=h;walk_at "vc";refine cq (i:=0) rfl rfl ?_;refine jl (λxs ρ M'=>M'=M/\∃A_ aC r,cs=A_++aC/\xs=aC.map aV/\ρ=[some (.lst (cs.map aV)),some (.int (jj A_)),r]) (λ_ _ _ _=>trivial) (λx xs ρ M' hj xP=>?_) (λρ M' hj=>?_) _ _ _ ⟨rfl,[],cs,none,rfl,rfl,rfl⟩
  ·have⟨rfl,A_,aC,r,e,ex,rfl⟩:=hj;cases aC with
   | nil=>cases ex
   | cons c aC=>
    cases ex;have hd:∀d∈A_,0 < d.2/\d.2 < 2 ^ 200:=λd hd=>by have⟨a,b,_⟩:=hc d (by rw[e];exact List.mem_append_left _ hd);exact⟨a,b⟩
    have⟨c0,c1,_⟩:=hc c (by rw[e];exact aas _ aad);have⟨b0,b1⟩:=jI A_ 1 0 @_ @_ hd;have hl:A_.length<=12:=by have:=aaX List.length e;rw[aab]at this;omega
    have⟨s0,s1,g0,g1⟩:=iV b0 c0;refine⟨⟨HP (aaM b0) b1 (),yR (aaM c0) c1 @_⟩,⟨g0,yR (aaM g0) (Int.lt_of_le_of_lt g1 c1) @_⟩,?_⟩;refine xP _ _ ⟨rfl,A_++[c],aC,some (aV c),by rw[e];simp,rfl,?_⟩;have e2:jj (A_++[c])=jj A_ * c.2 / g (jj A_) c.2:=by unfold jj;rw[List.foldl_append];rfl
    rw[e2];rfl
  ·have⟨rfl,A_,aC,r,e,ex,rfl⟩:=hj;cases aC with
   | nil=>rw[aa2]at e;subst e;exact h
   | cons c aC=>cases ex
def Ο(cs:List Fr):Bool:= !(cs.any λc=>decide (c.1<=0))&&(decide ((cs.map λc=>c.1 * (jj cs / c.2)).sum=jj cs)&&decide (jj cs<=1000000))
def jg:DF:=λds M q _=>∃cs:List Fr,ds=[.lst (cs.map aV)]/\Hf cs/\q (.bl (Ο cs)) M
def bI:χ ["chances","bottom","whole"] ["chances"] (ν fE):=.of rfl
def mK(F:cj K "fits_chances" "fits_chances" fE f fd)(E:Ev K mg Cl CT){nO:Addr}{nM:FuncData}(dw:aq P w K mg base 2 "common_bottom" ["chances"] g7 nO nM):Φ P w K mg base (bE P w) 3 f fd ["chances"] (cm K jg):=by
 refine F.dZ bI (λds M q x h=>?_) (λaW A outer s H E' hr=>⟨_,(ε (Ε (bu (Ed E.sL (ζ (br (ys:=[]) (Α:=[]) (.of bI rfl rfl rfl) (aZ (jv 0)) (λC s H fp=>(qe (Δ (jv 0) ι) ι))) δ))) (η (ο yG)) τ)
   (ε (υ 1 bI.nd (Ρ dw hr π (Ι (jv 0) δ)))
   (ε (υ 2 bI.nd (Dx E.sM (ζ (br (ys:=["bottom"]) (Α:=[1]) (.of bI rfl rfl rfl) (aZ (jv 0)) (λC s H fp=>(e9 (Δ (jv 0) ι) (bx (jv 1) (Δ (jv 0) ι))))) δ)))
   (η (ο (bG (zA hr (jv 2) (jv 1)) (dP (qe (jv 1) (iP E.fA))))))))),λds M q x h=>?_⟩)
 ·have⟨cs,rfl,_⟩:=h;rfl
 ·have⟨cs,rfl,KC,h⟩:=h;have⟨hz,hc⟩:=id KC;have Pc:(cs.map aV).length<=sizeLine:=by rw[aac];exact aaq hz @_
  have⟨b0,b1⟩:=jI cs 1 0 @_ @_ λc h=>⟨(hc c h).1,(hc c h).2.1⟩;walk_at "vc";refine cq (i:=0) rfl rfl ⟨Pc,?_⟩;refine cp (f:=λd=>.bl (match d with| .tup [.int a,.int b]=>decide (a<=0)| _=>false)) trivial (λx hx q hq=>?_) ?_
  ·have⟨y,_,rfl⟩:=aam.mp hx;exact hq
  ·refine⟨cs.map λc=>decide (c.1<=0),by rw[aat,aap,aat];rfl,λ_ z=>(nomatch z),λ_ z=>(nomatch z),?_⟩;have ea:(cs.map λc=>decide (c.1<=0)).any id=cs.any λc=>decide (c.1<=0):=by rw[List.any_map];rfl
   rw[ea];refine⟨λh1=>?_,λh1=>?_⟩
   ·have e:Ο cs=false:=by unfold Ο;rw[h1];rfl
    rw[<-e];exact h
   ·refine⟨cs,rfl,KC,?_⟩;walk_at "vc";refine cq (i:=0) rfl rfl ⟨Pc,?_⟩;refine cp (f:=λd=>.int (match d with| .tup [.int a,.int b]=>a * (jj cs / b)| _=>0)) trivial (λx hx q hq=>?_) ?_
    ·have⟨y,hy,rfl⟩:=aam.mp hx;have⟨y0,y1,y2⟩:=hc y hy;refine⟨⟨y0,yR (aaM y0) y1 @_⟩,⟨bg y2,?_⟩,hq⟩;refine HP (k:=200 * (0+cs.length)) (Int.ediv_nonneg (aaM b0) (aaM y0)) (Int.le_trans (Int.ediv_le_self _ (aaM b0)) b1) ()
    ·refine⟨cs.map λc=>c.1 * (jj cs / c.2),by rw[aat,aap,aat];rfl,⟨_,_,rfl⟩,?_⟩;refine⟨λh2=>?_,λh2=>?_⟩
     ·have e:Ο cs=decide (jj cs<=1000000):=by unfold Ο;rw[h1,h2];rfl
      rw[e]at h;exact h
     ·have e:Ο cs=false:=by unfold Ο;rw[h1,h2];rfl
      rw[<-e];exact h
inductive Rw where
 | fin (p:Fr)
 | Λ (k:Str) (ds:List oz)
def aJ(d:oz):Fr:=d.2.2.headD (0,1)
def cV:Rw->Prop
 | .fin p=>0 < p.2
 | .Λ k ds=>k≠"end"/\ds.length<=12/\(k="chance"->(∀d∈ds,d.2.2=[aJ d])/\Hf (ds.map aJ))/\∀d∈ds,d.2.2.length<=1/\0 < d.2.1.2
def gp(M:Ms)(d:Dt):Rw->Prop
 | .fin p=>d= .tup [.str "end",aV p]
 | .Λ k ds=>∃e ok,d= .tup [.str k,e]/\gB M e=some (ds.map dh,ok)
def ar:Rw->Dt
 | .fin p=>.tup [.str "end",aV p]
 | .Λ k ds=>.tup [.str k,.lst (ds.map dh)]
def wz(M:Ms)(r:Rw):gp M (ar r) r:=by
 cases r with
 | fin p=>rfl
 | Λ k ds=>exact⟨_,_,rfl,rfl⟩
def iG(p:Fr):(aV p).under n:=⟨trivial,trivial,trivial⟩
def wa{n:Nat}:∀(ps:List Fr),Dt.bc n (ps.map aV)
 | []=>trivial
 | p::ps=>⟨iG p,wa ps⟩
def EM(d:oz):(dh d).under n:=⟨trivial,iG _,wa _⟩
def k_{n:Nat}:∀(ds:List oz),Dt.bc n (ds.map dh)
 | []=>trivial
 | d::ds=>⟨EM d,k_ ds⟩
def vB(r:Rw):(ar r).under n:=by
 cases r with
 | fin p=>exact⟨trivial,iG p,trivial⟩
 | Λ k ds=>exact⟨trivial,k_ ds,trivial⟩
def gb{n:Nat}:∀(rs:List Rw),Dt.bc n (rs.map ar)
 | []=>trivial
 | r::rs=>⟨vB r,gb rs⟩
def cR(k:Str):Bool:=k=="one"|| k=="other"
def d6(r:Rw)(size:Int):Bool:=match r with
 | .fin p=>bf p
 | .Λ k ds=>if cR k then Ξ ds size else if k="chance" then Ξ ds size&&Ο (ds.map aJ) else false
def zD{i:Nat}{ρ:En}{ds:List Dt}{ok:Ms->Prop}{q:List Dt->(Ms->Prop)->Ms->Prop}{x:DX}(hv:ρ[i]? =some (some (.tup ds)))(hj:ik ds j=some d)(hl:gB M d=some (xs,ok))(h:q xs ok M):cJ (cQ gT (a_ i) (dC (.int j))) ρ M q x:=by unfold cJ cQ a_;rw[hv];show gT (.tup ds) (.int j) M (λd M1=>match lO M1 d with| some (xs,ok)=>q xs ok M1| none=>False);refine Γ rfl hj ?_;show(match lO M d with| some (xs,ok)=>q xs ok M| none=>False);rw[lY hl];exact h
def rH{k:Str}:Fj (.str k) [.str "one",.str "other"]=cR k:=by show((("one":Str)==k)|| ((("other":Str)==k)|| false))=(k=="one"|| k=="other");rw[Bool.or_false,BEq.comm (a:=("one":Str)),BEq.comm (a:=("other":Str))]
def rq:DF:=λas M q _=>∃d r size,as=[d,.int size]/\gp M d r/\cV r/\q (.bl (d6 r size)) M
def j1:χ ["row","size","kind"] ["row","size"] (ν lG):=.of rfl
def uf   (F:cj K "fits_row" "fits_row" lG f fd) (E:Ev K mg Cl CT) {mD:Addr} {l':FuncData} (df:aq P w K mg base 1 "fits_pay" ["pay"] lR mD l') {tR:Addr} {tY:FuncData} (d8:aq P w K mg base 3 "fits_doors" ["doors","size"] mU tR tY) {pD:Addr} {o9:FuncData} (eG:aq P w K mg base 3 "fits_chances" ["chances"] jg pD o9):Φ P w K mg base (bE P w) 4 f fd ["row","size"] (cm K rq):=by
 refine F.dZ j1 (λds M q x h=>?_) (λaW A outer s H E' hr=>⟨_,(ε (υ 2 j1.nd (Δ (jv 0) ι))
   (ε (Ε (bw hr (jv 2) av) (η (ο (Ρ df hr π (ζ (Δ (jv 0) ι) δ ak)))) τ)
   (ε (Ε (Ay (jv 2) (Dz E.uX)) (η (ο (Ρ d8 hr π (ζ (Δ (jv 0) ι) (Ι (jv 1) δ) ak)))) τ)
   (ε (Ε (bw hr (jv 2) av) (η (ο (bG (Ρ d8 hr π (ζ (Δ (jv 0) ι) (Ι (jv 1) δ) ak)) (dP (Ρ eG hr π (ζ (br (ys:=[]) (Α:=[]) (.of j1 rfl rfl rfl) (aZ (Δ (jv 0) ι)) (λC s H fp=>(Δ (jv 0) ι))) δ)))))) τ)
   (η (ο yG)))))),λds M q x h=>?_⟩)
 ·have⟨d,r,size,rfl,_⟩:=h;rfl
 ·have⟨d,r,size,rfl,ra,ro,h⟩:=h;cases r with
  | fin p=>
   have ra:d= .tup [.str "end",aV p]:=ra;subst ra;exact⟨λ_=>⟨p,rfl,h⟩,nofun⟩
  | Λ k ds=>
   have⟨e,ok,rfl,hl⟩:=ra;have⟨hk,hz,vZ,_⟩:=ro;refine⟨λz=>aaE (aaQ z) hk,λ_=>?_⟩;refine⟨.str k,[.str "one",.str "other"],[.str "one",.str "other"],rfl,rfl,rfl,?_⟩;rw[rH];refine⟨λh1=>?_,λh1=>?_⟩
   ·refine⟨e,size,ds,ok,rfl,hl,(),?_⟩;have e1:d6 (.Λ k ds) size=Ξ ds size:=by show(if cR k then _ else _)=_;rw[aaN h1]
    rw[<-e1];exact h
   ·have e1:d6 (.Λ k ds) size=if k="chance" then Ξ ds size&&Ο (ds.map aJ) else false:=by show(if cR k then _ else _)=_;rw[aaH (by rw[h1];decide)]
    rw[e1]at h;refine⟨λh2=>?_,λh2=>?_⟩
    ·have h2:k="chance":=aaQ h2;rw[aaN h2]at h;have⟨HW,KC⟩:=vZ h2;refine⟨e,size,ds,ok,rfl,hl,(),λh3=>?_,λh3=>?_⟩
     ·rw[h3,Bool.true_and]at h;show cJ _ _ _ _ _;refine zD (i:=0) (j:=1) (ds:=[.str k,e]) rfl (az (j:=1) rfl) hl ⟨by rw[aac];exact aaq hz @_,?_⟩;refine cp (f:=λd=>match d with| .tup [_,_,c]=>c| _=>.aR) (lA hl) (λx hx q hq=>?_) ?_
      ·have⟨y,hy,rfl⟩:=aam.mp hx;have ey:dh y= .tup [.int y.1,aV y.2.1,aV (aJ y)]:=by unfold dh;rw[HW y hy];rfl
       rw[ey]at hq⊢;exact hq
      ·refine⟨ds.map aJ,?_,KC,h⟩;rw[aap,aat,aat];have:∀y∈ds,((λd=>match d with| Dt.tup [_,_,c]=>c| _=>Dt.aR) ∘ dh) y=(aV ∘ aJ) y:=λy hy=>by
        have ey:dh y= .tup [.int y.1,aV y.2.1,aV (aJ y)]:=by unfold dh;rw[HW y hy];rfl
        show(match dh y with| Dt.tup [_,_,c]=>c| _=>Dt.aR)=aV (aJ y);rw[ey]
       rw[aa7 this]
     ·rw[h3,Bool.false_and]at h;exact h
    ·have h2:k≠"chance":=aa0 h2;rw[aaH h2]at h;exact h
def iB:DF:=λas M q _=>∃d r,as=[d]/\gp M d r/\cV r/\match r with
 | .fin p=>q (.tup [.str "end",aV p]) M
 | .Λ k ds=>q (.tup [.str k,.loc M.length]) (M++[.lst (ds.map dh)])
def rz:χ ["row"] ["row"] (ν ie):=.of rfl
def pE(F:cj K "copied_row" "copied_row" ie f fd)(E:Ev K mg Cl CT):Φ P w K mg base (bE P w) 1 f fd ["row"] (cm K iB):=by
 refine F.dZ rz (λds M q x h=>?_) (λaW A outer s H E' hr=>⟨_,(ε (Ε (bw hr (Δ (jv 0) ι) av) (η (ο (cn (ζ (Δ (jv 0) ι) (ζ (Δ (jv 0) ι) δ ak) ak)))) τ)
   (η (ο (cn (ζ (Δ (jv 0) ι) (ζ (Bm E.fB (ζ (Δ (jv 0) ι) δ ak)) δ bZ) ak))))),λds M q x h=>?_⟩)
 ·have⟨d,r,rfl,_⟩:=h;rfl
 ·have⟨d,r,rfl,ra,ro,h⟩:=h;cases r with
  | fin p=>
   have ra:d= .tup [.str "end",aV p]:=ra;subst ra;exact⟨λ_=>⟨gV,h⟩,nofun⟩
  | Λ k ds=>
   have⟨e,ok,rfl,hl⟩:=ra;refine⟨λz=>aaE (aaQ z) ro.1,λ_=>?_⟩;show(match i9 M e with| some xs=>_| none=>False);rw[jy hl];exact⟨gV,h⟩
def bY(p:Fr):Bool:=decide (0<=p.1)&&(decide (p.1 < p.2)&&decide (p.2<=1000))
def lH:DF:=λas M q _=>∃p,as=[aV p]/\q (.bl (bY p)) M
def r9:χ ["share"] ["share"] (ν iI):=.of rfl
def qN(F:cj K "fits_share" "fits_share" iI f fd)(E:Ev K mg Cl CT):Φ P w K mg base (bE P w) 1 f fd ["share"] (cm K lH):=by
 refine F.dZ r9 (λds M q x h=>?_) (λaW A outer s H E' hr=>⟨_,(η (ο (bG (qe ι (Δ (jv 0) ι)) (bG (Iu (Δ (jv 0) ι) (Δ (jv 0) ι)) (dP (qe (Δ (jv 0) ι) (iP E.dk))))))),λds M q x h=>?_⟩)
 ·have⟨p,rfl,_⟩:=h;rfl
 ·have⟨p,rfl,h⟩:=h;unfold bY at h;refine⟨λh1=>⟨λh2=>?_,λh2=>?_⟩,λh1=>?_⟩
  ·rw[show decide (0<=p.1)=true from h1,show decide (p.1 < p.2)=true from h2]at h;exact h
  ·rw[show decide (0<=p.1)=true from h1,show decide (p.1 < p.2)=false from h2]at h;exact h
  ·rw[show decide (0<=p.1)=false from h1]at h;exact h
def Du{c S:Int}(hb:b∣S)(hc:c∣S)(yP:0 < b)(Rp:0 < c):b * c / g b c∣S/\b∣b * c / g b c/\c∣b * c / g b c:=by
 have e:b * c / g b c=(Int.lcm b c:Nat):=by
  have h:=Int.gcd_mul_lcm b c;have hg:0 < g b c:=rP ();have h2:((Int.gcd b c:Nat):Int) * ((Int.lcm b c:Nat):Int)=b * c:=by rw[<-Int.natCast_mul,h,Int.natCast_mul,abr (aaM yP),abr (aaM Rp)]
  rw[<-h2];exact Int.mul_ediv_cancel_left _ (by unfold g at hg;omega)
 rw[e];exact⟨Int.coe_lcm_dvd hb hc,Int.dvd_lcm_left ..,Int.dvd_lcm_right ..⟩
def rB:∀(cs:List Fr) (b S:Int),0 < b->b∣S->(∀c∈cs,0 < c.2/\c.2∣S)->cs.foldl (λb c=>b * c.2 / g b c.2) b∣S/\b∣cs.foldl (λb c=>b * c.2 / g b c.2) b/\∀c∈cs,c.2∣cs.foldl (λb c=>b * c.2 / g b c.2) b
 | [],b,S,_,h,_=>⟨h,Int.dvd_refl b,λc hc=>nomatch hc⟩
 | c::cs,b,S,h0,h,hc=>by
  have⟨c0,cS⟩:=hc c aad;have⟨d1,d2,d3⟩:=Du h cS h0 c0;have⟨i1,i2,i3⟩:=rB cs _ S (iV h0 c0).1 d1 λx hx=>hc x (aae _ hx);rw[abz];refine⟨i1,Int.dvd_trans d2 i2,λx hx=>?_⟩;rcases aay.mp hx with rfl| hx
  ·exact Int.dvd_trans d3 i2
  ·exact i3 x hx
def kF(m:Int)(f:Int->Int):∀(ws:List Int),(ws.map λw=>m * f w).sum=m * (ws.map f).sum
 | []=>by simp
 | w::ws=>by simp only[List.map_cons,List.sum_cons];rw[kF m f ws,Int.mul_add]
def zp{t:Int}(h:0 < b):(aw t b).2∣b:=by have⟨p,q,e,_,_,_,eb⟩:=da (t:=t) (show b≠0 by omega);rw[e];exact⟨dv t b,by show b=q * dv t b;rw[abp];exact eb⟩
def sj{t:Int}(ht:0 < t)(h:0 < b):0 < (aw t b).1:=by have hc:=fh (t:=t) (show b≠0 by omega);have hp:=bQ (t:=t) (show b≠0 by omega);have h1:0 < t * (aw t b).2:=Int.mul_pos ht hp;rw[hc]at h1;exact Int.pos_of_mul_pos_right h1 h|> λz=>z
def uA{ws:List Int}{S:Int}(hS:ws.sum=S)(hw:∀w∈ws,0 < w)(hn:ws≠[])(TL:S<=1000000)(hz:ws.length<=12):Ο (ws.map λw=>aw w S)=true/\Hf (ws.map λw=>aw w S):=by
 have pos:∀{l:List Int},(∀w∈l,0 < w)->0<=l.sum/\(l≠[]->0 < l.sum)/\∀w∈l,w<=l.sum:=by
  intro l
  induction l with
  | nil=>exactλ_=>⟨by simp,λz=>absurd rfl z,λw hw=>nomatch hw⟩
  | cons a l ih=>
   intro h;have⟨i1,i2,i3⟩:=ih λw hw=>h w (aae _ hw);have:=h a aad;rw[List.sum_cons];refine⟨(),λ_=>(),λw hw=>?_⟩;rcases aay.mp hw with rfl| hw
   ·omega
   ·have:=i3 w hw;omega
 have⟨_,p2,p3⟩:=pos hw;have S0:0 < S:=by rw[<-hS];exact p2 hn
 have Hb:S≠0:=()
 have hd:∀c∈ws.map (λw=>aw w S),0 < c.2/\c.2∣S:=λc hc=>by have⟨w,_,rfl⟩:=aam.mp hc;exact⟨bQ Hb,zp S0⟩
 have⟨⟨m,hm⟩,_,hB⟩:=rB (ws.map λw=>aw w S) 1 S @_ (Int.one_dvd _) hd;have B0:0 < jj (ws.map λw=>aw w S):=by refine(gW (ws.map λw=>aw w S) 1 @_ λc hc=>(hd c hc).1)
 generalize LU:jj (ws.map λw=>aw w S)=B at *
 have hm:S=B * m:=by rw[<-LU];exact hm
 have m0:0 < m:=by
  rcases Int.lt_trichotomy m 0 with h| h| h
  ·have:=Int.mul_neg_of_pos_of_neg B0 h;omega
  ·rw[h,Int.mul_zero]at hm;omega
  ·exact h
 have key:((ws.map λw=>aw w S).map λc=>c.1 * (B / c.2)).sum=B:=by
  have e1:∀w∈ws,m * ((aw w S).1 * (B / (aw w S).2))=w:=λw hw=>by
   have hb:(aw w S).2∣B:=by rw[<-LU];exact hB _ (aam.mpr ⟨w,hw,rfl⟩)
   have⟨k,hk⟩:=hb;have q0:=bQ (t:=w) Hb;have e2:B / (aw w S).2=k:=by rw[hk];exact abx _ ()
   have hc:=fh (t:=w) Hb;rw[e2];have Pw:S=(aw w S).2 * k * m:=by rw[<-hk];exact hm
   generalize (aw w S).1=x at *
   generalize (aw w S).2=y at *
   have e4:S * x=y * (m * (x * k)):=by rw[Pw];simp only[Int.mul_assoc,Int.mul_comm,Int.mul_left_comm]
   have e3:y * (m * (x * k))=y * w:=by rw[<-e4,<-hc,abp]
   exact abu () e3
  have e5:m * ((ws.map λw=>aw w S).map λc=>c.1 * (B / c.2)).sum=m * B:=by rw[aat];show m * (ws.map λw=>(aw w S).1 * (B / (aw w S).2)).sum=m * B;rw[<-kF,aa7 e1,List.map_id',hS,hm,abp]
  exact abu () e5
 refine⟨?_,⟨by rw[aac];exact hz,λc hc=>?_⟩⟩
 ·unfold Ο;rw[LU,key];have ha:((ws.map λw=>aw w S).any λc=>decide (c.1<=0))=false:=by rw[List.any_eq_false];intro c hc;have⟨w,KP,rfl⟩:=aam.mp hc;have:=sj (hw w KP) S0;simpa using this
  have hle:B<=S:=by have:=Int.mul_le_mul_of_nonneg_left (show 1<=m by omega) (aaM B0);rw[Int.mul_one,<-hm]at this;exact this
  rw[ha,aar rfl,aar (show B<=1000000 by omega)];rfl
 ·have⟨w,KP,rfl⟩:=aam.mp hc;have q0:=bQ (t:=w) Hb;have l1:=l7 (t:=w) Hb;have l2:=jq (t:=w) Hb;have:=p3 w KP;have w0:=hw w KP;have big:(1000000:Int) < 2 ^ 200:=@_
  have Qc:1000000 < 2 ^ 200:=@_
  exact⟨q0,(),()⟩
def au{α:Type}{te:DE}{cs:En}{ok:Ms->Prop}{F:Dt->α->Prop}{f:α->Dt}{M:Ms}{k:List Dt->Ms->Prop}(ho:ok M)(ht:∀x a,F x a->∀q:DQ,q (f a) M->te (some x::cs) M q gP):∀{xs:List Dt} {as:List α} {Μ:List Dt},Paired F xs as->k (Μ++as.map f) M->ck te cs ok xs Μ M k
 | _,_,Μ,.nil,h=>⟨ho,by simpa using h⟩
 | _,_,Μ,.cons r t,h=>⟨ho,ht _ _ r _ (au ho ht t (by simpa using h))⟩
def sZ{k:Nat}{C C':Addr}{ns ns':List Str}{xs':List Dt}{e:Dt}{ys:List Dt}{ok:Ms->Prop}(hk:M[k]? =some (.ins C ns xs))(h:gB M e=some (ys,ok)):gB (M.set k (.ins C' ns' xs')) e=some (ys,ok):=by
 cases e with
 | lst ds=>exact h
 | mh ns=>exact h
 | loc j=>
  have h:(match M[j]? with| some (.lst xs)=>some (xs,λM':Ms=>M'[j]? =some (.lst xs))| _=>none)=some (ys,ok):=h;have ne:k≠j:=λz=>by subst z;rw[hk]at h;cases h
  show(match (M.set k (.ins C' ns' xs'))[j]? with| some (.lst xs)=>some (xs,λM':Ms=>M'[j]? =some (.lst xs))| _=>none)=some (ys,ok);rw[aa4 ne];exact h
 | _=>cases h
def x6{k:Nat}{C C':Addr}{ns ns':List Str}{xs':List Dt}{r:Rw}(hk:M[k]? =some (.ins C ns xs))(h:gp M d r):gp (M.set k (.ins C' ns' xs')) d r:=by
 cases r with
 | fin p=>exact h
 | Λ k' ds=>
  have⟨e,ok,h1,h2⟩:=h;exact⟨e,ok,h1,sZ hk h2⟩
def xG{C:Addr}{f:Str}{i:Nat}{ρ:En}{v:Dt}{ns:List Str}{ds:List Dt}{ok:Ms->Prop}{q:List Dt->(Ms->Prop)->Ms->Prop}{x:DX}(hv:ρ[i]? =some (some d))(ho:BA C M d ns ds)(hf:(ns.zip ds).lookup f=some v)(hl:gB M v=some (xs,ok))(h:q xs ok M):cJ (F_ C f (a_ i)) ρ M q x:=by unfold cJ F_ a_;rw[hv];refine⟨ns,ds,v,ho,hf,?_⟩;show(match lO M v with| some (xs,ok)=>q xs ok M| none=>False);rw[lY hl];exact h
def ip(C:Addr)(μ:Fr)(θ:List Rw):Dt:=.obj C ["kept_share","kept_rows"] [aV μ,.lst (θ.map ar)]
def zf(Cl:Addr):DF:=λas M q _=>∃k d μ ds θ ok,as=[.loc k,aV μ,d]/\M[k]? =some (.ins Cl [] [])/\gB M d=some (ds,ok)/\Paired (gp M) ds θ/\bY μ=true/\1<=θ.length/\θ.length<=12/\
 (∀r∈θ,cV r/\d6 r θ.length=true)/\q .aR (M.set k (.ins Cl ["kept_share","kept_rows"] [aV μ,.lst (θ.map ar)]))
def eg:χ ["self","share","rows","place","row"] ["self","share","rows"] (ν iD):=.of rfl
def qH(F:cj K "__init__" "Floor.__init__" iD f fd)(E:Ev K mg Cl CT){uv:Addr}{uQ:FuncData}(gi:aq P w K mg base 1 "fits_share" ["share"] lH uv uQ){yO:Addr}{AA:FuncData}(j_:aq P w K mg base 4 "fits_row" ["row","size"] rq yO AA){iw:Addr}{iN:FuncData}(b6:aq P w K mg base 1 "copied_row" ["row"] iB iw iN):Φ P w K mg base (bE P w) 5 f fd ["self","share","rows"] (cm K (zf Cl)):=by
 refine F.dZ eg (λds M q x h=>?_) (λaW A outer s H E' hr=>⟨_,(ε (Ε (dM (bu (Ρ gi hr π (Ι (jv 1) δ)))) (η dz) τ)
   (ε (Ε (JW.jt (gr (kE (bp E.aY (Ι (jv 2) δ)) ι) (eD (sC (bp E.aY (Ι (jv 2) δ)) (iP E.jf))))) (η dz) τ)
   (ε (qb (v7 E.cP (Ι (jv 2) δ)) (qM rfl (cK (cb (i:=3) eg.nd rfl (Or.inl rfl)) (cK (cb (i:=4) eg.nd rfl (Or.inl rfl)) k9))) ve (η (Ε (dM (bu (Ρ j_ hr π (Ι (jv 4) (ζ (bp E.aY (Ι (jv 2) δ)) δ bZ))))) (η dz) τ)))
   (ε (vM E.fR E.eB (jv 0) (jv 1))
   (η (vM E.fR E.fw (jv 0) (br (ys:=[]) (Α:=[]) (.of eg rfl rfl rfl) (aZ (jv 2)) (λC s H fp=>(fH (Ρ b6 hr (aK (P:=P) (w:=w)) (Ι (jv 0) δ))))))))))),λds M q x h=>?_⟩)
 ·have⟨k,d,μ,ds,θ,ok,rfl,_⟩:=h;rfl
 ·have⟨k,d,μ,ds,θ,ok,rfl,hk,hl,hp,hs,h1,SA,Lm,h⟩:=h;have hlen:ds.length=θ.length:=Paired.length hp;walk_at "vc";refine⟨μ,rfl,λz=>?_,λ_=>?_⟩
  ·rw[hs]at z;exact nomatch z
  have Ls:=jy hl;refine aP Ls ⟨λz=>?_,λ_=>?_⟩
  ·have:(ds.length:Int) < 1:=by simpa using z
   omega
  refine aP Ls ⟨λz=>?_,λ_=>?_⟩
  ·have:12 < (ds.length:Int):=by simpa using z
   omega
  refine⟨d,ds,ok,rfl,hl,?_⟩;refine jl (λxs ρ M'=>M'=M/\∃n yH vp a b,xs=gk n yH/\Paired (gp M) yH vp/\(∀r∈vp,r∈θ)/\ρ=[some (.loc k),some (aV μ),some d,a,b]) (λxs ρ M' hj=>by have⟨rfl,_⟩:=hj;exact lA hl) (λx xs ρ M' hj xP=>?_) (λρ M' hj=>?_) _ _ _ ⟨rfl,0,ds,θ,none,none,rfl,hp,λ_ h=>h,rfl⟩
  ·have⟨rfl,n,yH,vp,a,b,ex,IW,Hc,rfl⟩:=hj;cases IW with
   | nil=>cases ex
   | cons ra t=>
    rename_i d1 r1 Ts HB;cases ex;refine aP Ls ⟨d1,r1,ds.length,rfl,ra,(Lm r1 (Hc r1 aad)).1,λz=>?_,λ_=>?_⟩
    ·rw[hlen,(Lm r1 (Hc r1 aad)).2]at z;exact nomatch z
    ·exact xP _ _ ⟨rfl,n+1,Ts,HB,_,_,rfl,t,λr hr=>Hc r (aae _ hr),rfl⟩
  ·have⟨rfl,n,yH,vp,a,b,ex,IW,Hc,rfl⟩:=hj;have Ro:k < M'.length:=(aai.mp hk).1;refine⟨k,[],[],rfl,hk,(nofun),@_,?_⟩;have NI:=sZ (C':=Cl) (ns':=["kept_share"]) (xs':=[aV μ]) hk hl;dsimp only[DV,List.nil_append];show cJ _ _ _ _ _;refine cq (i:=2) rfl NI ⟨by rw[hlen];exact aaq SA @_,?_⟩;have LN:Paired (λx a=>gp (M'.set k (.ins Cl ["kept_share"] [aV μ])) x a/\cV a) ds θ:=by
    have:∀{xs:List Dt} {rs:List Rw},Paired (gp M') xs rs->(∀r∈rs,cV r)->Paired (λx a=>gp (M'.set k (.ins Cl ["kept_share"] [aV μ])) x a/\cV a) xs rs:=by
     intro xs rs hp
     induction hp with
     | nil=>exactλ_=>.nil
     | cons r t ih=>exactλh=>.cons ⟨x6 hk r,h _ aad⟩ (ih λy hy=>h y (aae _ hy))
    exact this hp λr hr=>(Lm r hr).1
   refine au (f:=ar) (lA NI) (λx a ha q' hq=>?ht) LN ?fin
   case ht=>
    have⟨ha,ho⟩:=ha;refine⟨x,a,rfl,ha,ho,?_⟩;cases a with
    | fin p=>exact C4 ⟨trivial,iG p,trivial⟩ hq
    | Λ k2 QA=>exact fv (.tup (.cons (.old trivial) (.cons (.qw (Nat.le_refl _) (by simp) (cN.old (k_ QA))) .nil))) hq
   case fin=>
    refine⟨k,["kept_share"],[aV μ],rfl,by rw[aa1 Ro],@_,@_,?_⟩;rw[List.set_set];exact h
def kindOf:Rw->Str
 | .fin _=>"end"
 | .Λ k _=>k
def iT:Nat->List Rw->List Dt
 | _,[]=>[]
 | n,.fin p::r=>.tup [.str "end",aV p]::iT n r
 | n,.Λ k _::r=>.tup [.str k,.loc n]::iT (n+1) r
def g6:List Rw->Ms
 | []=>[]
 | .fin _::r=>g6 r
 | .Λ _ ds::r=>.lst (ds.map dh)::g6 r
def tV(C:Addr):DF:=λas M q _=>∃μ θ,as=[ip C μ θ]/\q (aV μ) M
def pX:χ ["self"] ["self"] (ν gf):=.of rfl
def nN(F:cj K "share" "Floor.share" gf f fd)(E:Ev K mg Cl CT):Φ P w K mg base (bE P w) 1 f fd ["self"] (cm K (tV Cl)):=by
 refine F.dZ pX (λds M q x h=>?_) (λaW A outer s H E' hr=>⟨_,(η (ο (D6 E.fR E.eB (jv 0)))),λds M q x h=>?_⟩)
 ·have⟨μ,θ,rfl,_⟩:=h;rfl
 ·have⟨μ,θ,rfl,h⟩:=h;exact⟨_,_,_,.inl rfl,rfl,h⟩
def mV{te:DE}{cs:En}{k:List Dt->Ms->Prop} (ht:∀r M (q:DQ),cV r->(match r with
  | .fin p=>q (.tup [.str "end",aV p]) M
  | .Λ k ds=>q (.tup [.str k,.loc M.length]) (M++[.lst (ds.map dh)]))->te (some (ar r)::cs) M q gP):∀(θ:List Rw) (Μ:List Dt) (M:Ms),(∀r∈θ,cV r)->k (Μ++iT M.length θ) (M++g6 θ)->ck te cs (λ_=>True) (θ.map ar) Μ M k
 | [],Μ,M,_,h=>⟨trivial,by simpa [iT,g6] using h⟩
 | r::θ,Μ,M,ho,h=>by
  refine⟨trivial,ht r M _ (ho r aad) ?_⟩;cases r with
  | fin p=>
   refine mV ht θ _ M (λr hr=>ho r (aae _ hr)) ?_;simpa [iT,g6] using h
  | Λ k' ds=>
   refine mV ht θ _ _ (λr hr=>ho r (aae _ hr)) ?_;simpa [iT,g6] using h
def vV(C:Addr):DF:=λas M q _=>∃μ θ,as=[ip C μ θ]/\θ.length<=12/\(∀r∈θ,cV r)/\q (.loc (M.length+(g6 θ).length)) (M++g6 θ++[.lst (iT M.length θ)])
def kz:χ ["self"] ["self"] (ν il):=.of rfl
def qS(F:cj K "rows" "Floor.rows" il f fd)(E:Ev K mg Cl CT){iw:Addr}{iN:FuncData}(b6:aq P w K mg base 1 "copied_row" ["row"] iB iw iN):Φ P w K mg base (bE P w) 2 f fd ["self"] (cm K (vV Cl)):=by
 refine F.dZ kz (λds M q x h=>?_) (λaW A outer s H E' hr=>⟨_,(η (ο (AR (ys:=[]) (Α:=[]) (.of kz rfl rfl rfl) (aZ (D6 E.fR E.fw (jv 0))) (λC s H fp=>(Ρ b6 hr (aK (P:=P) (w:=w)) (Ι (jv 0) δ)))))),λds M q x h=>?_⟩)
 ·have⟨μ,θ,rfl,_⟩:=h;rfl
 ·have⟨μ,θ,rfl,hz,ho,h⟩:=h;walk_at "vc";refine xG (i:=0) (d:=ip Cl μ θ) rfl (.inl rfl) rfl rfl ⟨by rw[aac];exact aaq hz @_,?_⟩;refine mV (λr M q hr hq=>⟨ar r,r,rfl,wz M r,hr,by cases r <;> exact hq⟩) θ [] M ho ?_;rw[aap,aab];exact h
def Fo(ns:List Int)(k:Int):Int:=ns.getD k.toNat 0
def Aw:DF:=λds M q _=>match ds with
 | [.mh ns,.int k]=>0<=k/\q (.int (Fo ns k)) M
 | _=>False
def Am:χ ["_law_script","_law_k"] ["_law_script","_law_k"] (ν pV):=.of rfl
def wW(F:cj K "_law_nth" "_law_nth" pV f fd)(E:Ev K mg Cl CT):Φ P w K mg base (bE P w) 1 f fd ["_law_script","_law_k"] (cm K Aw):=by
 refine F.dZ Am (λds M q x h=>?_) (λaW A outer s H E' hr=>⟨_,(η (ο (D4 (kE (jv 1) (bp E.aY (Ι (jv 0) δ))) (Δ (jv 0) (jv 1)) ι))),λds M q x h=>?_⟩)
 ·unfold Aw at h;split at h;· rfl
  ·exact h.elim
 ·unfold Aw at h;split at h
  ·rename_i ns k;have⟨hk,h⟩:=h;refine⟨λh1=>?_,λh1=>?_⟩
   ·have h2:k < (ns.length:Int):=by simpa using h1
    have Nb:ik (ns.map Dt.int) k=some (.int (Fo ns k)):=by
     have e:(ns.map Dt.int)[k.toNat]? =some (.int (Fo ns k)):=by rw[aaB,aaa (show k.toNat < ns.length by omega)];unfold Fo;rw[aaO,aaa (show k.toNat < ns.length by omega)];rfl
     have:=az e;rwa[show((k.toNat:Nat):Int)=k by omega]at this
    show(match ik (ns.map Dt.int) k with| some y=>q y M| none=>False);rw[Nb];exact h
   ·have h2:¬k < (ns.length:Int):=by simpa using h1
    have e:Fo ns k=0:=by unfold Fo;rw[aaO,List.getElem?_eq_none ()];rfl
    rw[e]at h;exact h
  ·exact h.elim
def jx:χ ["_law_one","_law_other","_law_found","_law_rest"] ["_law_one","_law_other"] (ν p_):=.of rfl
def yt(F:cj K "_law_gcd" "_law_gcd" p_ f fd)(E:Ev K mg Cl CT):Φ P w K mg base (bE P w) 1 f fd ["_law_one","_law_other"] (cm K qm):=by
 refine F.dZ jx (λds M q x h=>?_) (λaW A outer s H E' hr=>⟨_,(ε (υ 2 jx.nd (sI E.kH (Ι (jv 0) δ)))
   (ε (υ 3 jx.nd (sI E.kH (Ι (jv 1) δ)))
   (ε (rT (sC (jv 3) ι) (η (Fg (i:=2) (j:=3) jx.nd rfl rfl (Ι (jv 3) (ζ (ao (jv 2) (jv 3)) δ aN)))))
   (η (ο (jv 2)))))),λds M q x h=>?_⟩)
 ·unfold qm at h;split at h;· rfl
  ·exact h.elim
 ·unfold qm at h;split at h
  ·rename_i a b;refine⟨λm ρ M'=>M'=M/\∃(x y:Int),ρ=[some (.int a),some (.int b),some (.int x),some (.int y)]/\0<=x/\0<=y/\g x y=g a b/\m=y.toNat,⟨_,rfl,_,_,rfl,by split <;> omega,by split <;> omega,Ej a b,rfl⟩,?_⟩;rintro m ρ M' ⟨rfl,x,y,rfl,hx,hy,e,rfl⟩;refine⟨λhb=>?_,λhb=>?_⟩
   ·have E4:0 < y:=by simpa using hb
    refine⟨_,λρ' M2 h2=>h2,?_⟩;refine⟨(),(x % y).toNat,?_,rfl,y,x % y,rfl,hy,aaK _ (),?_,rfl⟩
    ·have:=aaF x (show 0 < y by omega);have:=aaK x (show y≠0 by omega);omega
    ·rw[<-aa8 x hy,AB ()];exact e
   ·have E4:y=0:=by
     have:¬0 < y:=by simpa using hb
     omega
    subst E4;rw[z4 hx]at e;subst e;exact h
  ·exact h.elim
def iZ{g:Dt->En->(En->Prop)->Prop}{tb:DS}{Dn:kO}(J:List Dt->En->Ms->Prop)
  (step:∀x xs ρ M,J (x::xs) ρ M->(∀ρ M,J xs ρ M->nG g tb Dn xs ρ M)->g x ρ λρ'=>tb {Dn with nx:=nG g tb Dn xs,ct:=nG g tb Dn xs,bk:=Dn.nx} ρ' M)
  (fin:∀ρ M,J [] ρ M->Dn.nx ρ M):∀(xs:List Dt) (ρ:En) (M:Ms),J xs ρ M->nG g tb Dn xs ρ M
 | [],ρ,M,h=>fin _ _ h
 | x::xs,ρ,M,h=>step x xs ρ M h λρ' M' h'=>iZ J step fin xs ρ' M' h'
def Ent(x:Int):Prop:=0<=x/\x < 715827855
def jH{lo:Int}{x:Dt}(h:x::xs=d4 lo n):∃m,n=m+1/\x= .int lo/\xs=d4 (lo+1) m:=by
 cases n with
 | zero=>exact nomatch h
 | succ m=>
  unfold d4 at h;rw[abl,aaL,aat]at h;cases h;refine⟨m,rfl,by simp,?_⟩;unfold d4;apply aa7;intro k _;show Dt.int (lo+((k+1:Nat):Int))=Dt.int (lo+1+(k:Int))
  congr 1
  omega
def zO:DF:=λas M q _=>∃cell Κ,as=[.int cell,.int (Κ:Nat)]/\Κ<=100/\∀xs:List Int,xs.length=Κ->(∀x∈xs,Ent x)->q (.loc M.length) (M++[.lst (xs.map .int)])
def bT:χ ["_law_cell","_law_many","_law_found","_law_seed","_law_rest","_law_k"] ["_law_cell","_law_many"] (ν jZ):=.of rfl
def so(F:cj K "_law_mixed" "_law_mixed" jZ f fd)(E:Ev K mg Cl CT):Φ P w K mg base (bE P w) 1 f fd ["_law_cell","_law_many"] (cm K zO):=by
 refine F.dZ bT (λds M q x h=>?_) (λaW A outer s H E' hr=>⟨_,(ε (υ 2 bT.nd (AX δ))
   (ε (υ 3 bT.nd (aa (ao (jv 0) ι) ι))
   (ε (υ 4 bT.nd (jv 0))
   (ε (uW (bz E.bq (Ι (jv 1) δ)) (cb (i:=5) bT.nd rfl (Or.inl rfl)) cD (ε (υ 3 bT.nd (ao (aa (e9 (jv 3) (aa ι (e9 ι (jv 5)))) ι) ι))
   (η (Ε (JW.jt (gr (kE (jv 0) ι) (eD (Jb (jv 0) (kM ι ι))))) (ε (iU (fX (jv 2) (ζ (ao (jv 4) ι) δ aN)))
   (η (υ 4 bT.nd (bx (jv 4) ι)))) (η (iU (fX (jv 2) (ζ (bx (jv 3) ι) δ aN))))))))
   (η (ο (jv 2))))))),λds M q x h=>?_⟩)
 ·have⟨cell,Κ,rfl,_⟩:=h;rfl
 ·have⟨cell,Κ,rfl,hm,h⟩:=h;refine⟨@_,@_,⟨(),()⟩,?_⟩;refine iZ (λxs ρ M'=>∃(n k:Nat) (ys:List Int) (sS aC:Int) (a:Option Dt),xs=d4 k n/\k+n=Κ/\ys.length=k/\(∀y∈ys,Ent y)/\(0<=sS/\sS < 2 ^ 32)/\M'=M++[MO.lst (ys.map Dt.int)]/\ρ=[some (.int cell),some (.int Κ),some (.loc M.length),some (.int sS),some (.int aC),a]) (λx xs ρ M' hj xP=>?_) (λρ M' hj=>?_) _ _ _ ⟨Κ,0,[],cell % 2147483629+11,cell,none,by simp,by simp,rfl,λ_ z=>(nomatch z),⟨?_,?_⟩,rfl,rfl⟩
  ·have⟨n,k,ys,sS,aC,a,ex,JQ,K_,hy,⟨s0,s1⟩,rfl,rfl⟩:=hj;have⟨m,rfl,rfl,rfl⟩:=jH ex;have k1:(k:Int)<=100:=()
   refine⟨⟨bg (k:=2) @_,bg (k:=32) ()⟩,⟨bg (k:=40) (),bg (k:=40) ()⟩,@_,?_⟩;have KS:=aaK (sS * (40014+2 * (k:Int))+12345) (show(2147483563:Int)≠0 by decide);have N9:=aaF (sS * (40014+2 * (k:Int))+12345) (show(0:Int) < 2147483563 by decide);have pB:(M++[MO.lst (ys.map Dt.int)])[M.length]? =some (.lst (ys.map Dt.int)):=by simp
   have setM:∀y:Int,(M++[MO.lst (ys.map Dt.int)]).set M.length (.lst (ys.map Dt.int++[Dt.int y]))=M++[.lst ((ys++[y]).map Dt.int)]:=λy=>by simp
   have lt:(ys.map Dt.int).length < sizeLine:=by rw[aac,K_];exact aa3 (show k<=100 by omega) @_
   have Af:∀(y zH:Int) (a:Option Dt),Ent y->nG (gN 5) _ _ (d4 (k+1) m) [some (.int cell),some (.int Κ),some (.loc M.length),some (.int ((sS * (40014+2 * (k:Int))+12345) % 2147483563)),some (.int zH),some (.int k)] (M++[.lst ((ys++[y]).map Dt.int)]):=λy zH a PJ=>xP _ _ ⟨m,k+1,ys++[y],_,zH,_,by simp,(),by simp[K_],λz hz=>by
    rcases aaI.mp hz with hz| hz
    ·exact hy z hz
    ·have:z=y:=by simpa using hz
     rw[this];exact PJ,⟨KS,()⟩,rfl,rfl⟩
   have big:∀b:Bool,b=true->Ent (aC % 715827855):=λ_ _=>⟨aaK _ @_,aaF _ @_⟩;have first:∃k' xs',Dt.loc M.length= .loc k'/\(M++[MO.lst (ys.map Dt.int)])[k']? =some (.lst xs'):=⟨_,_,rfl,pB⟩
   have Tv:∀(ρ:En),True:=λ_=>trivial;refine⟨λh1=>⟨λ_=>?_,nofun⟩,λh1=>⟨⟨@_,@_,@_⟩,λh2=>?_,λh2=>?_⟩⟩
   ·refine⟨first,@_,⟨_,_,_,rfl,rfl,pB,lt,?_⟩⟩;rw[setM];exact⟨⟨@_,bg (k:=32) @_⟩,Af _ _ none (big true rfl)⟩
   ·refine⟨first,@_,⟨_,_,_,rfl,rfl,pB,lt,?_⟩⟩;rw[setM];exact⟨⟨@_,bg (k:=32) @_⟩,Af _ _ none (big true rfl)⟩
   ·refine⟨first,⟨@_,bg (k:=32) @_⟩,⟨_,_,_,rfl,rfl,pB,lt,?_⟩⟩;rw[setM];exact Af _ _ none ⟨(),()⟩
  ·have⟨n,k,ys,sS,aC,a,ex,JQ,K_,hy,_,rfl,rfl⟩:=hj;have hn:n=0:=by have:=aaX List.length ex;unfold d4 at this;simpa using this.symm
   exact h ys () hy
  ·have:=aaK cell (show(2147483629:Int)≠0 by decide);omega
  ·have:=aaF cell (show(0:Int) < 2147483629 by decide);omega
def Lw(p:Fr):Prop:=p.1.natAbs < 10 ^ 60/\0 < p.2/\p.2.natAbs < 10 ^ 60/\Int.gcd p.1 p.2=1
def Aq{p:Fr}(h:bf p=true)(h0:0 < p.2)(hg:Int.gcd p.1 p.2=1):Lw p:=by
 unfold bf at h;rw[aax,aaR,aaR]at h;have⟨h1,h2⟩:=h;have e1:(10:Nat) ^ 30 < 10 ^ 60:=@_
 refine⟨?_,h0,?_,hg⟩
 ·have:p.1.natAbs<=10 ^ 30:=by split at h1 <;> omega
  omega
 ·have:p.2.natAbs<=10 ^ 30:=()
  omega
def zQ{p:Fr}(h:bY p=true)(hg:Int.gcd p.1 p.2=1):Lw p:=by unfold bY at h;rw[aax,aax,aaR,aaR,aaR]at h;exact⟨(),(),(),hg⟩
def Jm:Rw->Prop
 | .fin p=>Lw p
 | .Λ k ds=>(∀d∈ds,Lw d.2.1/\∀c∈d.2.2,Lw c)/\(k≠"chance"->∀d∈ds,d.2.2=[])
def Dv{a:Int}(h1: -(10 ^ 30)<=a)(h2:a<=10 ^ 30)(h3:b<=1000000):bf (a,b)=true:=by
 unfold bf;have:(if a < 0 then -a else a)<=10 ^ 30:=by split <;> omega
 show(decide ((if a < 0 then -a else a)<=10 ^ 30)&&decide (b<=1000000))=true;rw[aar this,aar h3];rfl
def pR{t:Int}(h1: -(10 ^ 30)<=t)(h2:t<=10 ^ 30)(h0:0 < b)(h3:b<=1000000):bf (aw t b)=true:=by
 have l1:=l7 (t:=t) (show b≠0 by omega);have l2:=jq (t:=t) (show b≠0 by omega);generalize aw t b=f at *
 have⟨x,y⟩:=f;have l1:x.natAbs<=t.natAbs:=l1;have l2:y.natAbs<=b.natAbs:=l2;exact Dv () () ()
def lI{a b c:Dt}(h0:0<=j)(h1:j < 4):∃y,ik [a,b,c,d] j=some y/\(y=a\/y=b\/y=c\/y=d):=by
 have:j=0\/j=1\/j=2\/j=3:=()
 rcases this with rfl| rfl| rfl| rfl
 ·exact⟨a,az (j:=0) rfl,.inl rfl⟩
 ·exact⟨b,az (j:=1) rfl,.inr (.inl rfl)⟩
 ·exact⟨c,az (j:=2) rfl,.inr (.inr (.inl rfl))⟩
 ·exact⟨d,az (j:=3) rfl,.inr (.inr (.inr rfl))⟩
def cZ{xs:List Int}(h:∀x∈xs,Ent x)(h0:0<=j)(h1:j < xs.length):∃y,ik (xs.map Dt.int) j=some (.int y)/\Ent y:=by
 have hj:j.toNat < xs.length:=()
 refine⟨xs[j.toNat],?_,h _ (aaS hj)⟩;have e:(xs.map Dt.int)[j.toNat]? =some (.int xs[j.toNat]):=by rw[aaB,aaa hj];rfl
 have:=az e;rwa[show((j.toNat:Nat):Int)=j by omega]at this
def b4:g8 4:=bg (k:=4) @_
def B':DF:=λas M q _=>∃t b:Int,as=[.int t,.int b]/\0 < b/\g8 b/\q (aV (aw t b)) M
def kK:χ ["_law_top","_law_bottom","_law_common"] ["_law_top","_law_bottom"] (ν hW):=.of rfl
def pC(F:cj K "_law_lowest" "_law_lowest" hW f fd)(E:Ev K mg Cl CT){CL:Addr}{BJ:FuncData}(mF:aq P w K mg base 1 "_law_gcd" ["_law_one","_law_other"] qm CL BJ):Φ P w K mg base (bE P w) 2 f fd ["_law_top","_law_bottom"] (cm K B'):=by
 refine F.dZ kK (λds M q x h=>?_) (λaW A outer s H E' hr=>⟨_,(ε (υ 2 kK.nd (Ρ mF hr π (Ι (jv 0) (Ι (jv 1) δ))))
   (η (ο (cn (ζ (bx (jv 0) (jv 2)) (ζ (bx (jv 1) (jv 2)) δ aN) aN))))),λds M q x h=>?_⟩)
 ·have⟨t,b,rfl,_⟩:=h;rfl
 ·have⟨t,b,rfl,h0,h1,h⟩:=h;have hg:0 < g t b:=rP ();have hle:g t b<=b:=Int.le_of_dvd h0 (Int.gcd_dvd_right ..);have hb:g8 (g t b):=aa3 (show(g t b).natAbs<=b.natAbs by omega) h1;have e:aw t b=(t / g t b,b / g t b):=by rw[BM h0,abq _ (aaM hg),abq _ (aaM hg)]
  rw[e]at h;exact⟨⟨hg,hb⟩,⟨hg,hb⟩,gV,h⟩
def D0:DF:=λas M q _=>∃n o:Int,as=[.int n,.int o]/\Ent n/\Ent o/\∀p,bf p=true->0 < p.2->Int.gcd p.1 p.2=1->q (aV p) M
def AZ:χ ["_law_number","_law_other"] ["_law_number","_law_other"] (ν qD):=.of rfl
def xB(F:cj K "_law_pay" "_law_pay" qD f fd)(E:Ev K mg Cl CT)(ax:aq P w K mg base 2 "_law_lowest" ["_law_top","_law_bottom"] B' dQ dX):Φ P w K mg base (bE P w) 3 f fd ["_law_number","_law_other"] (cm K D0):=by
 refine F.dZ AZ (λds M q x h=>?_) (λaW A outer s H E' hr=>⟨_,(ε (Ε (bw hr (ao (jv 0) ι) ι) (η (ο (cn (ζ (r8 (ao (bx (jv 0) ι) ι) ι) (ζ ι δ aG) aN)))) τ)
   (ε (Ε (bw hr (ao (jv 0) ι) ι) (η (ο (Ρ ax hr π (ζ (r8 (ao (bx (jv 0) ι) ι) ι) (ζ (aa ι (ao (jv 1) (kM ι ι))) δ aN) aN)))) τ)
   (ε (Ε (bw hr (ao (jv 0) ι) ι) (η (ο (Ρ ax hr π (ζ (r8 (ao (e9 (jv 0) (kM (jv 1) ι)) (aa (e9 ι (kM ι ι)) ι)) (kM ι ι)) (ζ (aa ι (ao (jv 1) (kM ι ι))) δ aN) aN)))) τ)
   (η (ο (Ρ ax hr π (ζ (r8 (ao (bx (jv 0) ι) ι) ι) (ζ (aa ι (ao (bx (jv 0) ι) ι)) δ aN) aN))))))),λds M q x h=>?_⟩)
 ·have⟨n,o,rfl,_⟩:=h;rfl
 ·have⟨n,o,rfl,⟨n0,n1⟩,⟨o0,o1⟩,h⟩:=h;have p6:xW 10 6:=⟨@_,@_,@_⟩;have O1:xW 10 30:=⟨@_,@_,@_⟩;have Dy:0 < 1+o % 10 ^ (6:Int).toNat/\1+o % 10 ^ (6:Int).toNat<=1000000:=by show 0 < 1+o % 1000000/\1+o % 1000000<=1000000;omega
  have N4:g8 (1+o % 10 ^ (6:Int).toNat):=yR (k:=20) (aaM Dy.1) (Int.lt_of_le_of_lt Dy.2 @_) @_;refine⟨@_,λ_=>?_,λ_=>⟨@_,λ_=>?_,λ_=>⟨@_,λ_=>?_,λ_=>?_⟩⟩⟩
  ·exact⟨⟨@_,b4⟩,@_,gV,h (n / 4 % 13 - 6,1) (Dv () () @_) (by show(0:Int) < 1;decide) (by show Int.gcd _ 1=1;simp)⟩
  ·exact⟨⟨@_,b4⟩,@_,p6,(by show(0:Int) < 1000000;decide),_,_,rfl,Dy.1,N4,h _ (pR () () Dy.1 Dy.2) (bQ ()) (e_ ())⟩
  ·have bn:g8 n:=bg (k:=40) ();have bo:g8 (o ^ (3:Int).toNat):=by
    have h3:o ^ 3<=(715827855:Int) ^ 3:=by
     have e:∀z:Int,z ^ 3=z * z * z:=λz=>by rw[Int.pow_succ,Int.pow_succ,Int.pow_succ,Int.pow_zero,Int.one_mul]
     rw[e,e];exact Int.mul_le_mul (Int.mul_le_mul () () () @_) () () @_
    have h4:0<=o ^ 3:=Int.pow_nonneg o0;exact yR (k:=100) h4 (Int.lt_of_le_of_lt h3 @_) @_
   have Rt:g8 ((10:Int) ^ (30:Int).toNat):=bg (k:=110) @_;have m0:(0:Int) < 2 * 10 ^ (30:Int).toNat+1:=@_
   have LA:=aaK (n * o ^ (3:Int).toNat) (show(2 * 10 ^ (30:Int).toNat+1:Int)≠0 by decide);have Ol:=aaF (n * o ^ (3:Int).toNat) m0;refine⟨⟨@_,@_,()⟩,⟨bn,bo⟩,O1,⟨bg (k:=4) @_,Rt⟩,m0,O1,p6,(by show(0:Int) < 1000000;decide),_,_,rfl,Dy.1,N4,h _ (pR ?_ ?_ Dy.1 Dy.2) (bQ ()) (e_ ())⟩
   ·show -(10 ^ 30)<=n * o ^ (3:Int).toNat % (2 * 10 ^ (30:Int).toNat+1) - 10 ^ 30;omega
   ·have e:(10:Int) ^ (30:Int).toNat=10 ^ 30:=rfl;rw[e]at Ol;show n * o ^ (3:Int).toNat % (2 * 10 ^ 30+1) - 10 ^ 30<=10 ^ 30;omega
  ·exact⟨⟨@_,b4⟩,@_,⟨@_,bg (k:=5) @_⟩,@_,_,_,rfl,(),bg (k:=10) (),h _ (pR () () () ()) (bQ ()) (e_ ())⟩
def dm{α:Type}{te:DE}{cs:En}{M:Ms}{f:α->Dt}(G:α->Prop){k:List Dt->Ms->Prop}:∀(xs:List Dt) (Μ:List α),(∀a∈Μ,G a)->(∀x∈xs,∀q:DQ,(∀a,G a->q (f a) M)->te (some x::cs) M q gP)->
  (∀as:List α,as.length=Μ.length+xs.length->(∀a∈as,G a)->k (as.map f) M)->mP te cs xs (Μ.map f) M k
 | [],Μ,ha,_,h=>h Μ (by simp) ha
 | x::xs,Μ,ha,ht,h=>ht x aad _ λa hg=>by
  have e:Μ.map f++[f a]=(Μ++[a]).map f:=by simp
  rw[e];refine dm G xs (Μ++[a]) (λb hb=>?_) (λy hy=>ht y (List.mem_cons_of_mem _ hy)) λas hl Sx=>h as (by rw[hl];simp;omega) Sx;rcases aaI.mp hb with hb| hb
  ·exact ha b hb
  ·have:b=a:=by simpa using hb
   rw[this];exact hg
def b3:g8 3:=bg (k:=4) @_
def cg{lo:Int}{x:Dt}(h:x∈d4 lo n):∃k:Nat,k < n/\x= .int (lo+k):=by unfold d4 at h;have⟨k,hk,rfl⟩:=aam.mp h;exact⟨k,List.mem_range.mp hk,rfl⟩
def aH{lo:Int}:(d4 lo n).length=n:=by unfold d4;simp
def vq{n:Nat}:∀(xs:List Int),Dt.bc n (xs.map Dt.int)
 | []=>trivial
 | _::xs=>⟨trivial,vq xs⟩
def yT{m:Int}:∀{l:List Int},(∀w∈l,w<=m)->l.sum<=l.length * m
 | [],_=>by simp
 | a::l,h=>by have i:=yT (l:=l) λw hw=>h w (aae _ hw);have:=h a aad;rw[List.sum_cons,aaA,Int.natCast_add,Int.add_mul];omega
def vI:DF:=λas M q _=>∃(xs:List Int) (Κ:Nat),as=[.lst (xs.map .int),.int Κ]/\xs.length=28/\(∀x∈xs,Ent x)/\1<=Κ/\Κ<=6/\∀cs:List Fr,cs.length=Κ->Ο cs=true->Hf cs->(∀c∈cs,Lw c)->q (.lst (cs.map aV)) M
def cH:χ ["_law_xs","_law_many","_law_most","_law_weights"] ["_law_xs","_law_many"] (ν iy):=.of rfl
def qK(F:cj K "_law_shares" "_law_shares" iy f fd)(E:Ev K mg Cl CT)(ax:aq P w K mg base 2 "_law_lowest" ["_law_top","_law_bottom"] B' dQ dX):Φ P w K mg base (bE P w) 3 f fd ["_law_xs","_law_many"] (cm K vI):=by
 refine F.dZ cH (λds M q x h=>?_) (λaW A outer s H E' hr=>⟨_,(ε (υ 2 cH.nd (Δ (gE 3 (d:=.lst [.int 1,.int 2,.int 6,.int 160000]) (by rfl)) (ao (bx (Δ (jv 0) ι) ι) ι)))
   (ε (υ 3 cH.nd (gq (ys:=["_law_most","_law_xs"]) (Α:=[2,0]) (.of cH rfl rfl rfl) (bz E.bq (Ι (jv 1) δ)) (λC s H fp=>(aa ι (ao (Δ (jv 2) (aa ι (e9 ι (jv 0)))) (jv 1))))))
   (η (ο (br (ys:=["_law_weights"]) (Α:=[3]) (.of cH rfl rfl rfl) (aZ (jv 3)) (λC s H fp=>(Ρ ax hr (aK (P:=P) (w:=w)) (Ι (jv 0) (ζ (Dx E.sM (Ι (jv 1) δ)) δ bZ))))))))),λds M q x h=>?_⟩)
 ·have⟨xs,Κ,rfl,_⟩:=h;rfl
 ·have⟨xs,Κ,rfl,hl,hx,m1,m6,h⟩:=h;walk_at "vc";have⟨y1,IP,R9,QH⟩:=cZ hx (j:=1) @_ ();refine Γ rfl IP ⟨⟨@_,bg (k:=10) @_⟩,@_,?_⟩;have⟨d,ed,hd⟩:=lI (a:=.int 1) (b:=.int 2) (c:=.int 6) (d:=.int 160000) (j:=y1 / 256 % 4) () ();refine Γ rfl ed ?_;obtain⟨m,rfl,LA,Ol⟩:∃m:Int,d= .int m/\0 < m/\m<=160000:=by
   rcases hd with rfl| rfl| rfl| rfl
   ·exact⟨_,rfl,@_,@_⟩
   ·exact⟨_,rfl,@_,@_⟩
   ·exact⟨_,rfl,@_,@_⟩
   ·exact⟨_,rfl,@_,@_⟩
  refine⟨⟨(),()⟩,by rw[aH];exact aaq (show _<=6 by omega) @_,?_⟩;refine dm (f:=Dt.int) (λw=>0 < w/\w<=160000) _ [] (λ_ z=>(nomatch z)) (λx rL q' hq=>?_) λws vx hw=>?_
  ·have⟨k,hk,rfl⟩:=cg rL;have QL:(k:Int) < 6:=()
   have⟨y,ey,y0,y1⟩:=cZ hx (j:=5+4 * (0+(k:Int))) () ();refine⟨⟨b4,bg (k:=10) ()⟩,?_⟩;dsimp only[kZ];refine Γ (d:=.lst (xs.map .int)) rfl ey ?_;refine⟨LA,hq _ ?_⟩;have e0:=aaK y (show m≠0 by omega);have e1:=aaF y LA;omega
  ·have vx:ws.length=Κ:=by rw[vx,aH];simp
   have hS:ws.sum<=960000:=by have:=yT λw EI=>(hw w EI).2;rw[vx]at this;omega
   have hn:ws≠[]:=λz=>by rw[z]at vx;simp at vx;omega
   have⟨c1,c2⟩:=uA (S:=ws.sum) rfl (λw EI=>(hw w EI).1) hn () ();have LH:0 < ws.sum:=by
    have⟨c,hc⟩:=List.exists_mem_of_ne_nil _ hn;have:=(c2.2 (aw c ws.sum) (aam.mpr ⟨c,hc,rfl⟩));have hp:∀{l:List Int},(∀w∈l,0 < w)->l≠[]->0 < l.sum:=by
     intro l
     induction l with
     | nil=>exactλ_ z=>aaE rfl z
     | cons a l ih=>
      intro h _;have:=h a aad;rw[List.sum_cons];cases l with
      | nil=>simpa using this
      | cons b l=>
       have:=ih (λw hw=>h w (List.mem_cons_of_mem _ hw)) (by simp);omega
    exact hp (λw EI=>(hw w EI).1) hn
   show cJ _ _ _ _ _;refine cq (i:=3) (d:=.lst (ws.map .int)) rfl rfl ⟨by rw[aac,vx];exact aaq m6 @_,?_⟩;refine cp (f:=λd=>match d with| .int w=>aV (aw w ws.sum)| _=>.aR) trivial (λx hx q' hq=>?_) ?_
   ·have⟨y,hy,rfl⟩:=aam.mp hx;exact⟨ws,rfl,⟨_,_,rfl⟩,y,ws.sum,rfl,LH,bg (k:=20) (),hq⟩
   ·have:=h (ws.map λw=>aw w ws.sum) (by rw[aac,vx]) c1 c2 λc hc=>by
     have⟨w,EI,rfl⟩:=aam.mp hc;have w1:=hw w EI;have l1:=l7 (t:=w) (show ws.sum≠0 by omega);have l2:=jq (t:=w) (show ws.sum≠0 by omega);have e1:1000000 < 10 ^ 60:=@_
     exact⟨(),bQ (),(),e_ ()⟩
    rw[aat]at this;rw[aap,aat];exact this
def wj:DF:=λas M q _=>∃cell:Int,as=[.int cell]/\∀p,bY p=true->Int.gcd p.1 p.2=1->q (aV p) M
def mC:χ ["_law_cell","_law_bottom"] ["_law_cell"] (ν j7):=.of rfl
def r_(F:cj K "_law_share" "_law_share" j7 f fd)(E:Ev K mg Cl CT)(ax:aq P w K mg base 2 "_law_lowest" ["_law_top","_law_bottom"] B' dQ dX):Φ P w K mg base (bE P w) 3 f fd ["_law_cell"] (cm K wj):=by
 refine F.dZ mC (λds M q x h=>?_) (λaW A outer s H E' hr=>⟨_,(ε (Ε (bw hr (ao (jv 0) ι) ι) (η (ο (Δ (gE 3 (d:=.lst [.tup [.int 0,.int 1],.tup [.int 1,.int 2],.tup [.int 999,.int 1000],.tup [.int 2,.int 3]]) (by rfl)) (ao (bx (jv 0) ι) ι)))) τ)
   (ε (υ 1 mC.nd (aa ι (ao (bx (jv 0) ι) ι)))
   (η (ο (Ρ ax hr π (ζ (ao (bx (jv 0) ι) (jv 1)) (Ι (jv 1) δ) aN)))))),λds M q x h=>?_⟩)
 ·have⟨cell,rfl,_⟩:=h;rfl
 ·have⟨cell,rfl,h⟩:=h;walk_at "vc";refine⟨@_,λ_=>?_,λ_=>?_⟩
  ·refine⟨⟨@_,b3⟩,@_,?_⟩;have⟨d,ed,hd⟩:=lI (a:=aV (0,1)) (b:=aV (1,2)) (c:=aV (999,1000)) (d:=aV (2,3)) (j:=cell / 3 % 4) () ();refine Γ rfl ed ?_;rcases hd with rfl| rfl| rfl| rfl
   ·exact h (0,1) @_ @_
   ·exact h (1,2) @_ @_
   ·exact h (999,1000) @_ @_
   ·exact h (2,3) @_ @_
  ·have yP:0 < 1+cell / 3 % 1000:=()
   have yD:1+cell / 3 % 1000<=1000:=()
   refine⟨⟨@_,b3⟩,@_,⟨@_,bg (k:=20) @_⟩,yP,_,_,rfl,yP,bg (k:=10) (),h _ ?_ (e_ ())⟩;generalize D':1+cell / 3 % 1000=b at *
   have t0:=aaK (cell / 3000) (show b≠0 by omega);have t1:=aaF (cell / 3000) yP;generalize cell / 3000 % b=t at *
   have l2:=jq (t:=t) (show b≠0 by omega);have q0:=bQ (t:=t) (show b≠0 by omega);have hc:=fh (t:=t) (show b≠0 by omega);generalize aw t b=f at *
   have⟨x,y⟩:=f;have l2:y.natAbs<=b.natAbs:=l2;have q0:0 < y:=q0;have hc:t * y=b * x:=hc;have x0:0<=x:=by
    rcases Int.lt_or_le x 0 with z| z
    ·have:=Int.mul_neg_of_pos_of_neg yP z;have:=Int.mul_nonneg t0 (aaM q0);omega
    ·exact z
   have x1:x < y:=by
    rcases Int.lt_or_le x y with z| z
    ·exact z
    ·have h3:b * y<=b * x:=Int.mul_le_mul_of_nonneg_left z (aaM yP);have h4:t * y < b * y:=Int.mul_lt_mul_of_pos_right t1 q0;omega
   unfold bY;show(decide (0<=x)&&(decide (x < y)&&decide (y<=1000)))=true;rw[aar x0,aar x1,aar (show y<=1000 by omega)];rfl
def fb(Κ:Int)(r:Rw):Prop:=cV r/\d6 r Κ=true
def CD{k:Str}{ds:List oz}{Κ:Int}(hk:cR k=true)(hz:1<=ds.length)(Mc:ds.length<=6)(hd:∀d∈ds,ay d.1 d.2.1 Κ=true)(hs:∀d∈ds,d.2.2=[]/\0 < d.2.1.2):fb Κ (.Λ k ds):=by
 have fd:Ξ ds Κ=true:=by unfold Ξ;rw[aar hz,aar Mc,List.all_eq_true.mpr hd];rfl
 have ne:k≠"end"/\k≠"chance":=by refine⟨λz=>?_,λz=>?_⟩ <;> (subst z;exact aaE hk @_)
 refine⟨⟨ne.1,(),λz=>aaE z ne.2,λd h=>⟨by rw[(hs d h).1];exact aaV _,(hs d h).2⟩⟩,?_⟩;show(if cR k then _ else _)=true;rw[aaN hk];exact fd
def w8{ds:List oz}{Κ:Int}(hz:1<=ds.length)(Mc:ds.length<=6)(hd:∀d∈ds,ay d.1 d.2.1 Κ=true)(h1:∀d∈ds,d.2.2=[aJ d])(hc:Ο (ds.map aJ)=true)(ho:Hf (ds.map aJ))(hp:∀d∈ds,0 < d.2.1.2):fb Κ (.Λ "chance" ds):=by
 have fd:Ξ ds Κ=true:=by unfold Ξ;rw[aar hz,aar Mc,List.all_eq_true.mpr hd];rfl
 refine⟨⟨@_,(),λ_=>⟨h1,ho⟩,λd h=>⟨by rw[h1 d h];exact aaj _,hp d h⟩⟩,?_⟩;have e:d6 (.Λ "chance" ds) Κ=(Ξ ds Κ&&Ο (ds.map aJ)):=by dsimp only[d6];rw[aaH @_,aaN rfl]
 rw[e,fd,hc];rfl
def BH{t Κ:Int}{p:Fr}(h0:0<=t)(h1:t < Κ)(hp:bf p=true):ay t p Κ=true:=by unfold ay;rw[aar h0,aar h1,hp];rfl
def Hi:DF:=λas M q _=>∃cell Κ:Int,as=[.int cell,.int Κ]/\1<=Κ/\Κ<=12/\∀r,fb Κ r->Jm r->q (ar r) M
def bJ:χ ["_law_cell","_law_many","_law_xs","_law_kind","_law_size","_law_doors","_law_some"] ["_law_cell","_law_many"] (ν pT):=.of rfl
def yp(F:cj K "_law_row" "_law_row" pT f fd)(E:Ev K mg Cl CT){xj:Addr}{xS:FuncData}(hX:aq P w K mg base 1 "_law_mixed" ["_law_cell","_law_many"] zO xj xS){CP:Addr}{CQ:FuncData}(i5:aq P w K mg base 3 "_law_pay" ["_law_number","_law_other"] D0 CP CQ){uC:Addr}{uZ:FuncData}(fP:aq P w K mg base 3 "_law_shares" ["_law_xs","_law_many"] vI uC uZ):Φ P w K mg base (bE P w) 4 f fd ["_law_cell","_law_many"] (cm K Hi):=by
 refine F.dZ bJ (λds M q x h=>?_) (λaW A outer s H E' hr=>⟨_,(ε (υ 2 bJ.nd (fH (Ρ hX hr π (Ι (jv 0) (ζ ι δ aG)))))
   (ε (υ 3 bJ.nd (Δ (gE 3 (d:=.lst [.str "one",.str "other",.str "chance",.str "end"]) (by rfl)) (ao (Δ (jv 2) ι) ι)))
   (ε (Ε (bw hr (jv 3) av) (η (ο (cn (Ι (jv 3) (ζ (Ρ i5 hr π (ζ (Δ (jv 2) ι) (ζ (Δ (jv 2) ι) δ ak) ak)) δ bZ))))) τ)
   (ε (υ 4 bJ.nd (aa ι (ao (Δ (jv 2) ι) ι)))
   (ε (l0 (Ε (bw hr (ao (bx (Δ (jv 2) ι) ι) ι) ι) (η (υ 4 bJ.nd (aa ι (ao (bx (Δ (jv 2) ι) ι) ι)))) τ))
   (ε (υ 5 bJ.nd (gq (ys:=["_law_many","_law_xs"]) (Α:=[1,2]) (.of bJ rfl rfl rfl) (bz E.bq (Ι (jv 4) δ)) (λC s H fp=>(cn (ζ (ao (Δ (jv 2) (aa ι (e9 ι (jv 0)))) (jv 1)) (ζ (Ρ i5 hr (aK (P:=P) (w:=w)) (ζ (Δ (jv 2) (aa ι (e9 ι (jv 0)))) (ζ (Δ (jv 2) (aa ι (e9 ι (jv 0)))) δ ak) ak)) δ bZ) aN)))))
   (ε (l0 (Ε (bw hr (jv 3) av) (ε (υ 6 bJ.nd (Ρ fP hr π (Ι (jv 2) (Ι (jv 4) δ))))
   (η (υ 5 bJ.nd (gq (ys:=["_law_doors","_law_some"]) (Α:=[5,6]) (.of bJ rfl rfl rfl) (bz E.bq (Ι (jv 4) δ)) (λC s H fp=>(aa (Δ (jv 1) (jv 0)) (cn (ζ (Δ (jv 2) (jv 0)) δ ak)))))))) τ))
   (η (ο (cn (Ι (jv 3) (Ι (jv 5) δ)))))))))))),λds M q x h=>?_⟩)
 ·have⟨cell,Κ,rfl,_⟩:=h;rfl
 ·have⟨cell,Κ,rfl,m1,Kd,h⟩:=h;refine⟨cell,28,rfl,@_,λxs hl hx=>fv (.qw (Nat.le_refl _) (by simp) (cN.old (vq xs))) ?_⟩;walk_at "vc";have⟨y0,Tq,TJ,Tw⟩:=cZ hx (j:=0) @_ ();have⟨y1,IP,R9,QH⟩:=cZ hx (j:=1) @_ ();have⟨y2,Qd,KO⟩:=cZ hx (j:=2) @_ ();have⟨y3,Rb,Sl⟩:=cZ hx (j:=3) @_ ();refine Γ rfl Tq ⟨@_,?_⟩;have⟨d,ed,hd⟩:=lI (a:=.str "one") (b:=.str "other") (c:=.str "chance") (d:=.str "end") (j:=y0 % 4) () ();refine Γ rfl ed ?_;obtain⟨kd,rfl,hk⟩:∃kd:Str,d= .str kd/\(cR kd=true\/kd="chance"\/kd="end"):=by
   rcases hd with rfl| rfl| rfl| rfl
   ·exact⟨_,rfl,.inl @_⟩
   ·exact⟨_,rfl,.inl @_⟩
   ·exact⟨_,rfl,.inr (.inl rfl)⟩
   ·exact⟨_,rfl,.inr (.inr rfl)⟩
  refine⟨λz=>?_,λz=>?_⟩
  ·have z:kd="end":=aaQ z;subst z;refine Γ rfl Qd (Γ rfl Rb ⟨y2,y3,rfl,KO,Sl,λp hp hb hg=>?_⟩);exact⟨gV,h (.fin p) ⟨hb,hp⟩ (Aq hp hb hg)⟩
  have hk:cR kd=true\/kd="chance":=by
   rcases hk with hk| hk| hk
   ·exact .inl hk
   ·exact .inr hk
   ·exact aaE hk (aa0 z)
  refine(Γ (d:=.lst (xs.map .int)) rfl IP ?_:gT (.lst (xs.map .int)) (.int 1) M _);refine⟨@_,?_⟩;refine⟨λρ M'=>M'=M/\∃n:Nat,1<=n/\n<=6/\ρ=[some (.int cell),some (.int Κ),some (.lst (xs.map .int)),some (.str kd),some (.int n),none,none],?_,?_⟩
  ·walk_at "vc";refine(Γ (d:=.lst (xs.map .int)) rfl IP ?_:gT (.lst (xs.map .int)) (.int 1) M _);refine⟨⟨@_,b3⟩,@_,λ_=>?_,λ_=>?_⟩
   ·refine(Γ (d:=.lst (xs.map .int)) rfl IP ?_:gT (.lst (xs.map .int)) (.int 1) M _);refine⟨⟨@_,bg (k:=5) @_⟩,@_,?_⟩;refine⟨rfl,(1+y1 / 24 % 6).toNat,(),(),?_⟩;rw[show(((1+y1 / 24 % 6).toNat:Nat):Int)=1+y1 / 24 % 6 by omega];rfl
   ·refine⟨rfl,(1+y1 % 3).toNat,(),(),?_⟩;rw[show(((1+y1 % 3).toNat:Nat):Int)=1+y1 % 3 by omega];rfl
  rintro ρ' M' ⟨rfl,n,n1,n6,rfl⟩;walk_at "vc";refine⟨⟨(),()⟩,by rw[aH];exact aaq (show _<=6 by omega) @_,?_⟩;refine dm (f:=dh) (λd=>(ay d.1 d.2.1 Κ=true/\d.2.2=[]/\0 < d.2.1.2)/\Lw d.2.1) _ [] (λ_ z=>(nomatch z)) (λx rL q' hq=>?_) λds vx NF=>?_
  ·have⟨k,yz,rfl⟩:=cg rL;have QL:(k:Int) < 6:=()
   have bk:g8 (0+(k:Int)):=bg (k:=10) ();have⟨a1,RZ,Kf,OS⟩:=cZ hx (j:=2+4 * (0+(k:Int))) () ();have⟨a2,Ru,Rh⟩:=cZ hx (j:=3+4 * (0+(k:Int))) () ();have⟨a3,SV,SD⟩:=cZ hx (j:=4+4 * (0+(k:Int))) () ();refine⟨⟨b4,bk⟩,?_⟩;dsimp only[kZ];refine Γ (d:=.lst (xs.map .int)) rfl RZ ?_;refine⟨(),⟨b4,bk⟩,?_⟩;dsimp only[kZ];refine Γ (d:=.lst (xs.map .int)) rfl Ru ?_;refine⟨⟨b4,bk⟩,?_⟩;dsimp only[kZ];refine Γ (d:=.lst (xs.map .int)) rfl SV ?_;refine⟨a2,a3,rfl,Rh,SD,λp hp hb hg=>⟨gV,hq (a1 % Κ,p,[]) ⟨⟨BH (aaK _ ()) (aaF _ ()) hp,rfl,hb⟩,Aq hp hb hg⟩⟩⟩
  have hw:=λd hd=>(NF d hd).1;have vx:ds.length=n:=by rw[vx,aH];simp
  refine⟨λρ M2=>M2=M'/\∃yH a,(fb Κ (.Λ kd yH)/\Jm (.Λ kd yH))/\ρ=[some (.int cell),some (.int Κ),some (.lst (xs.map .int)),some (.str kd),some (.int n),some (.lst (yH.map dh)),a],⟨λhc=>?_,λhc=>?_⟩,?_⟩
  ·have hc:kd="chance":=aaQ hc;subst hc;refine⟨xs,n,rfl,hl,hx,n1,n6,λcs Qn P5 PD Ob=>?_⟩;refine⟨⟨(),()⟩,by rw[aH];exact aaq (show _<=6 by omega) @_,?_⟩
   let zd:Nat->oz:=λj=>((ds.getD j (0,(0,1),[])).1,(ds.getD j (0,(0,1),[])).2.1,[cs.getD j (0,1)])
   refine cy (f:=λx=>match x with| .int j=>dh (zd j.toNat)| _=>.aR) _ _ (λx rL q' hq=>?_) ?_
   ·have⟨k,yz,rfl⟩:=cg rL;have MK:k < ds.length:=()
    have kc:k < cs.length:=()
    have e1:ik (ds.map dh) (0+(k:Int))=some (dh ds[k]):=by rw[aby];exact az (by rw[aaB,aaa MK];rfl)
    have e2:ik (cs.map aV) (0+(k:Int))=some (aV cs[k]):=by rw[aby];exact az (by rw[aaB,aaa kc];rfl)
    have K3:=(hw ds[k] (aaS MK)).2.1;have ez:zd (0+(k:Int)).toNat=(ds[k].1,ds[k].2.1,[cs[k]]):=by rw[show(0+(k:Int)).toNat=k by omega];show((ds.getD k (0,(0,1),[])).1,(ds.getD k (0,(0,1),[])).2.1,[cs.getD k (0,1)])=_;rw[aaO,aaa MK,aaO,aaa kc];rfl
    have hq:q' (dh (zd (0+(k:Int)).toNat)) M':=hq;rw[ez]at hq;walk_at "vc";refine(Γ (d:=.lst (ds.map dh)) rfl e1 ?_:gT (.lst (ds.map dh)) (.int (0+(k:Int))) M' _);refine(Γ (d:=.lst (cs.map aV)) rfl e2 ?_:gT (.lst (cs.map aV)) (.int (0+(k:Int))) M' _);refine⟨by show 1<=sizeLine;decide,?_⟩;have ed:dh ds[k]= .tup [.int ds[k].1,aV ds[k].2.1]:=by unfold dh;rw[K3];rfl
    rw[ed];exact⟨⟨by simp,by show 3<=sizeLine;decide⟩,hq⟩
   ·refine⟨rfl,(List.range n).map zd,some (.lst (cs.map aV)),?_,?_⟩
    ·have hlen:((List.range n).map zd).length=n:=by simp
     have get:∀d∈(List.range n).map zd,∃k,∃(h1:k < ds.length) (h2:k < cs.length),d=(ds[k].1,ds[k].2.1,[cs[k]]):=λd hd=>by have⟨k,yz,rfl⟩:=aam.mp hd;have yz:=List.mem_range.mp yz;refine⟨k,(),(),?_⟩;show((ds.getD k (0,(0,1),[])).1,(ds.getD k (0,(0,1),[])).2.1,[cs.getD k (0,1)])=_;rw[aaO,aaa (show k < ds.length by omega),aaO,aaa (show k < cs.length by omega)];rfl
     have ON:((List.range n).map zd).map aJ=cs:=by
      rw[aat];apply List.ext_getElem
      ·simp[Qn]
      ·intro i h1 h2;simp only[List.getElem_map,List.getElem_range,Function.comp];show cs.getD i (0,1)=cs[i];rw[aaO,aaa h2];rfl
     refine⟨?_,⟨λd hd=>by
      have⟨k,h1,h2,rfl⟩:=get d hd;refine⟨(NF ds[k] (aaS h1)).2,λc hc=>?_⟩;have hc:c∈[cs[k]]:=hc;rw[List.mem_singleton.mp hc]
      exact Ob _ (aaS h2),λz=>aaE rfl z⟩⟩
     refine w8 () () (λd hd=>?_) (λd hd=>?_) (by rw[ON];exact P5) (by rw[ON];exact PD) (λd hd=>?_)
     ·have⟨k,h1,h2,rfl⟩:=get d hd;exact(hw ds[k] (aaS h1)).1
     ·have⟨k,h1,h2,rfl⟩:=get d hd;rfl
     ·have⟨k,h1,h2,rfl⟩:=get d hd;exact(hw ds[k] (aaS h1)).2.2
    ·have ef:(d4 0 ((n:Int).toNat)).map (λx=>match x with| .int j=>dh (zd j.toNat)| _=>.aR)=((List.range n).map zd).map dh:=by unfold d4;rw[aat,aat,show(n:Int).toNat=n by omega];apply aa7;intro k _;show dh (zd (0+(k:Int)).toNat)=dh (zd k);rw[show(0+(k:Int)).toNat=k by omega]
     rw[aap,ef];rfl
  ·have hc:kd≠"chance":=aa0 hc;have hh:cR kd=true:=hk.resolve_right hc;exact⟨rfl,ds,none,⟨CD hh () () (λd hd=>(hw d hd).1) λd hd=>(hw d hd).2,⟨λd hd=>⟨(NF d hd).2,λc hc=>by rw[(hw d hd).2.1]at hc;cases hc⟩,λ_ d hd=>(hw d hd).2.1⟩⟩,rfl⟩
  ·rintro ρ2 M2 ⟨rfl,yH,a,hg,rfl⟩;exact⟨gV,h _ hg.1 hg.2⟩
def An:DF:=λas M q _=>∃(ns:List Int) (a:Int) (Κ:Nat),as=[.mh ns,.int a,.int Κ]/\0<=a/\1<=Κ/\Κ<=12/\∀θ:List Rw,θ.length=Κ->(∀r∈θ,fb Κ r/\Jm r)->q (.lst (θ.map ar)) M
def oU:χ ["_law_script","_law_at","_law_many"] ["_law_script","_law_at","_law_many"] (ν mn):=.of rfl
def uS(F:cj K "_law_rows" "_law_rows" mn f fd)(E:Ev K mg Cl CT){Cr:Addr}{Cn:FuncData}(lW:aq P w K mg base 4 "_law_row" ["_law_cell","_law_many"] Hi Cr Cn){qQ:Addr}{pv:FuncData}(dj:aq P w K mg base 1 "_law_nth" ["_law_script","_law_k"] Aw qQ pv):Φ P w K mg base (bE P w) 5 f fd ["_law_script","_law_at","_law_many"] (cm K An):=by
 refine F.dZ oU (λds M q x h=>?_) (λaW A outer s H E' hr=>⟨_,(η (ο (gq (ys:=["_law_many","_law_script","_law_at"]) (Α:=[2,0,1]) (.of oU rfl rfl rfl) (bz E.bq (Ι (jv 2) δ)) (λC s H fp=>(Ρ lW hr (aK (P:=P) (w:=w)) (ζ (aa (Ρ dj hr (aK (P:=P) (w:=w)) (Ι (jv 2) (ζ (aa (jv 3) (jv 0)) δ aN))) (e9 (e9 ι (jv 0)) (jv 0))) (Ι (jv 1) δ) aN)))))),λds M q x h=>?_⟩)
 ·have⟨ns,a,Κ,rfl,_⟩:=h;rfl
 ·have⟨ns,a,Κ,rfl,a0,m1,Kd,h⟩:=h;walk_at "vc";refine⟨⟨(),()⟩,by rw[aH];exact aaq (show _<=12 by omega) @_,?_⟩;refine dm (f:=ar) (λr=>fb Κ r/\Jm r) _ [] (λ_ z=>(nomatch z)) (λx rL q' hq=>?_) λθ vx hw=>?_
  ·have⟨k,yz,rfl⟩:=cg rL;have hk:(k:Int) < 12:=()
   refine⟨(),⟨bg (k:=20) @_,bg (k:=10) ()⟩,⟨bg (k:=40) (),bg (k:=10) ()⟩,_,_,rfl,(),(),λr a b=>hq r ⟨a,b⟩⟩
  ·exact h θ (by rw[vx,aH];simp) hw
def Pl:Nat->Dt->Prop
 | _,.aR=>True
 | _,.int _=>True
 | _,.str _=>True
 | n+1,.tup ds=>ds.length<=100/\∀d∈ds,Pl n d
 | n+1,.lst ds=>ds.length<=100/\∀d∈ds,Pl n d
 | _,_=>False
def jY(n:Nat):DF:=λas M q _=>∃d e,as=[d,e]/\Pl n e/\qf 0 M d e/\q (.bl true) M
def mI{n:Nat}{E:Ms}:∀{ds es:List Dt} {i:Nat} {e:Dt},cN n E ds es->es[i]? =some e->∃d,ds[i]? =some d/\qf n E d e
 | _,_,_,_,.nil,h=>by simp at h
 | _,_,0,_,.cons f _,h=>by simp at h;subst h;exact⟨_,rfl,f⟩
 | _,_,i+1,e,.cons _ t,h=>by have⟨d,h1,h2⟩:=mI (i:=i) (e:=e) t (by simpa using h);exact⟨d,by simpa using h1,h2⟩
def vj(h:qf 0 M d .aR):d= .aR:=by cases h;rfl
def vO(h:qf 0 M d (.int i)):d= .int i:=by cases h;rfl
def wB{z:Str}(h:qf 0 M d (.str z)):d= .str z:=by cases h;rfl
def Dp{es:List Dt}(h:qf 0 M d (.tup es)):∃ds,d= .tup ds/\cN 0 M ds es:=by
 cases h with
 | old u=>exact⟨es,rfl,cN.old u⟩
 | tup h=>exact⟨_,rfl,h⟩
def Cq{es:List Dt}(h:qf 0 M d (.lst es)):∃ds,i9 M d=some ds/\Ac M d=some (.type "list")/\cN 0 M ds es:=by
 cases h with
 | old u=>exact⟨es,rfl,rfl,cN.old u⟩
 | lst h=>exact⟨_,rfl,rfl,h⟩
 | qw hk e h=>
  rename_i k ds;have e:M[k]? =some (.lst ds):=e;refine⟨ds,?_,?_,h⟩
  ·show(match M[k]? with| some (.lst xs)=>some xs| _=>none)=some ds;rw[e]
  ·show(match M[k]? with| some (.lst _)=>some (Value.type "list")| _=>none)=some (Value.type "list");rw[e]
def hZ:χ ["_law_found","_law_due"] ["_law_found","_law_due"] (ν eT):=.of rfl
def u_(F:cj K "_law_alike" "_law_alike" eT f fd)(E:Ev K mg Cl CT)(aA:aq P w K mg base (n+1) "_law_alike" ["_law_found","_law_due"] (jY n) f fd):Φ P w K mg base (bE P w) (n+2) f fd ["_law_found","_law_due"] (cm K (jY (n+1))):=by
 refine F.dZ hZ (λds M q x h=>?_) (λaW A outer s H E' hr=>⟨_,(ε (Ε (Au (jv 1) BK) (η (ο (Dw (jv 0) BK))) τ)
   (ε (Ε (bu (bb K E.ψ (Ι (jv 1) (Ι (fo E.gs eR) δ)))) (η (ο (bG (bb K E.ψ (Ι (jv 0) (Ι (fo E.gs eR) δ))) (dP (zA hr (jv 0) (jv 1)))))) τ)
   (ε (Ε (bu (bb K E.ψ (Ι (jv 1) (Ι (fo E.kJ eS) δ)))) (η (ο (bG (bb K E.ψ (Ι (jv 0) (Ι (fo E.kJ eS) δ))) (bG (zu (bb K E.ψ (Ι (jv 0) (Ι (fo E.mq mi) δ)))) (dP (zA hr (jv 0) (jv 1))))))) τ)
   (ε (Ε (JW.jt (gr (eh hr (bb K E.ψ (Ι (jv 1) (Ι (fo E.cY b9) δ))) (bb K E.ψ (Ι (jv 0) (Ι (fo E.cY b9) δ)))) (eD (eh hr (bb K E.ψ (Ι (jv 1) (Ι (fo E.fB dE) δ))) (bb K E.ψ (Ι (jv 0) (Ι (fo E.fB dE) δ))))))) (η (ο yG)) τ)
   (ε (Ε (eh hr (bp E.aY (Ι (jv 0) δ)) (bp E.aY (Ι (jv 1) δ))) (η (ο yG)) τ)
   (η (ο (y9 E.o3 (ζ (gq (ys:=["_law_found","_law_due"]) (Α:=[0,1]) (.of hZ rfl rfl rfl) (bz E.bq (ζ (bp E.aY (Ι (jv 1) δ)) δ bZ)) (λC s H fp=>(Ρ aA hr (aK (P:=P) (w:=w)) (ζ (Δ (jv 1) (jv 0)) (ζ (Δ (jv 2) (jv 0)) δ ak) ak) (hk:=aaj _)))) δ))))))))),λds M q x h=>?_⟩)
 ·have⟨d,e,rfl,_⟩:=h;rfl
 ·have⟨d,e,rfl,hp,hf,h⟩:=h;walk_at "vc";cases e with
  | aR=>
   cases vj hf;exact⟨λ_=>h,nofun⟩
  | int i=>
   cases vO hf;refine⟨nofun,λ_=>⟨_,_,_,_,false,rfl,rfl,rfl,E.K2,nofun,λ_=>⟨_,_,_,_,true,rfl,rfl,rfl,cB,λ_=>⟨_,_,_,_,true,rfl,rfl,rfl,cB,λ_=>⟨_,_,_,_,false,rfl,rfl,rfl,E.ib,λ_=>?_,nofun⟩,nofun⟩,nofun⟩⟩⟩;show q (.bl (decide (i=i))) M;rw[aar rfl];exact h
  | str z0=>
   cases wB hf;refine⟨nofun,λ_=>⟨_,_,_,_,true,rfl,rfl,rfl,cB,λ_=>⟨_,_,_,_,true,rfl,rfl,rfl,cB,λ_=>?_,nofun⟩,nofun⟩⟩;show q (.bl (decide (z0=z0))) M;rw[aar rfl];exact h
  | tup es=>
   have⟨ds,rfl,S4⟩:=Dp hf;clear hf;have hf:=S4;have Ln:ds.length=es.length:=hf.length;have D9:=hp.1;refine⟨nofun,λ_=>⟨_,_,_,_,false,rfl,rfl,rfl,E.N7,nofun,λ_=>⟨_,_,_,_,false,rfl,rfl,rfl,E.OT,nofun,λ_=>⟨_,_,_,_,true,rfl,rfl,rfl,cB,_,_,_,_,true,rfl,rfl,rfl,cB,λz=>aaE z @_,λ_=>⟨_,_,_,_,false,rfl,rfl,rfl,E.NT,_,_,_,_,false,rfl,rfl,rfl,E.NT,λz=>aaE z @_,λ_=>?_⟩⟩⟩⟩⟩;refine aP rfl (aP rfl ⟨λz=>?_,λ_=>?_⟩)
   ·have z:(!decide ((ds.length:Int)=es.length))=true:=z;rw[Ln,aar rfl]at z;exact nomatch z
   dsimp only[vN,A1,bW,ff,tw,a_];refine(aP (d:=.tup es) (xs:=es) rfl ?_:nE [.tup es] M _);refine⟨⟨(),()⟩,by rw[aH];exact aaq (show _<=100 by omega) @_,?_⟩;refine cy (f:=λ_=>.bl true) _ _ (λx rL q' hq=>?_) ?_
   ·have⟨k,yz,rfl⟩:=cg rL;have hk:k < es.length:=()
    have ee:es[k]? =some es[k]:=aaa hk;have⟨d1,Mv,MZ⟩:=mI hf ee;have a1:ik ds (0+(k:Int))=some d1:=by rw[aby];exact az Mv
    have a2:ik es (0+(k:Int))=some es[k]:=by rw[aby];exact az ee
    dsimp only[lX,bW,ff,cQ,a_];refine(Γ (d:=.tup ds) rfl a1 ?_:gT (.tup ds) (.int (0+(k:Int))) M _);refine(Γ (d:=.tup es) rfl a2 ?_:gT (.tup es) (.int (0+(k:Int))) M _);exact⟨d1,es[k],rfl,hp.2 _ (aaS hk),MZ,hq⟩
   ·refine⟨List.replicate es.length true,?_,?_⟩
    ·rw[aap,List.map_replicate];apply List.ext_getElem
     ·simp[aH]
     ·intro i h1 h2;simp
    ·have:(List.replicate es.length true).all id=true:=by simp
     rw[this];exact h
  | lst es=>
   have⟨ds,hs,hk,hf⟩:=Cq hf;have Ln:ds.length=es.length:=hf.length;have D9:=hp.1;refine⟨nofun,λ_=>⟨_,_,_,_,false,rfl,rfl,rfl,E.Oc,nofun,λ_=>⟨_,_,_,_,false,rfl,rfl,rfl,E.O2,nofun,λ_=>⟨_,_,_,_,false,rfl,rfl,rfl,E.klt,_,_,_,_,false,rfl,hk,rfl,E.klt,λz=>aaE z @_,λ_=>⟨_,_,_,_,true,rfl,rfl,rfl,cB,_,_,_,_,true,rfl,hk,rfl,cB,λz=>aaE z @_,λ_=>?_⟩⟩⟩⟩⟩;refine aP hs (aP rfl ⟨λz=>?_,λ_=>?_⟩)
   ·have z:(!decide ((ds.length:Int)=es.length))=true:=z;rw[Ln,aar rfl]at z;exact nomatch z
   dsimp only[vN,A1,bW,ff,tw,a_];refine(aP (d:=.lst es) (xs:=es) rfl ?_:nE [.lst es] M _);refine⟨⟨(),()⟩,by rw[aH];exact aaq (show _<=100 by omega) @_,?_⟩;refine cy (f:=λ_=>.bl true) _ _ (λx rL q' hq=>?_) ?_
   ·have⟨k,yz,rfl⟩:=cg rL;have hk:k < es.length:=()
    have ee:es[k]? =some es[k]:=aaa hk;have⟨d1,Mv,MZ⟩:=mI hf ee;have a1:ik ds (0+(k:Int))=some d1:=by rw[aby];exact az Mv
    have a2:ik es (0+(k:Int))=some es[k]:=by rw[aby];exact az ee
    dsimp only[lX,bW,ff,cQ,a_];refine(Γ (d:=d) hs a1 ?_:gT d (.int (0+(k:Int))) M _);refine(Γ (d:=.lst es) rfl a2 ?_:gT (.lst es) (.int (0+(k:Int))) M _);exact⟨d1,es[k],rfl,hp.2 _ (aaS hk),MZ,hq⟩
   ·refine⟨List.replicate es.length true,?_,?_⟩
    ·rw[aap,List.map_replicate];apply List.ext_getElem
     ·simp[aH]
     ·intro i h1 h2;simp
    ·have:(List.replicate es.length true).all id=true:=by simp
     rw[this];exact h
  | _=>exact hp.elim
def uU(F:cj K "_law_alike" "_law_alike" eT f fd)(E:Ev K mg Cl CT):Φ P w K mg base (bE P w) 1 f fd ["_law_found","_law_due"] (cm K (jY 0)):=by
 refine F.dZ hZ (λds M q x h=>?_) (λaW A outer s H E' hr=>⟨_,(ε (Ε (Au (jv 1) BK) (η (ο (Dw (jv 0) BK))) τ)
   (ε (Ε (bu (bb K E.ψ (Ι (jv 1) (Ι (fo E.gs eR) δ)))) (η (ο (bG (bb K E.ψ (Ι (jv 0) (Ι (fo E.gs eR) δ))) (dP (zA hr (jv 0) (jv 1)))))) τ)
   (ε (Ε (bu (bb K E.ψ (Ι (jv 1) (Ι (fo E.kJ eS) δ)))) (η (ο (bG (bb K E.ψ (Ι (jv 0) (Ι (fo E.kJ eS) δ))) (bG (zu (bb K E.ψ (Ι (jv 0) (Ι (fo E.mq mi) δ)))) (dP (zA hr (jv 0) (jv 1))))))) τ)
   (ε (Ε (JW.jt (gr (eh hr (bb K E.ψ (Ι (jv 1) (Ι (fo E.cY b9) δ))) (bb K E.ψ (Ι (jv 0) (Ι (fo E.cY b9) δ)))) (eD (eh hr (bb K E.ψ (Ι (jv 1) (Ι (fo E.fB dE) δ))) (bb K E.ψ (Ι (jv 0) (Ι (fo E.fB dE) δ))))))) (η (ο yG)) τ)
   (ε (Ε (eh hr (bp E.aY (Ι (jv 0) δ)) (bp E.aY (Ι (jv 1) δ))) (η (ο yG)) τ)
   (η dz)))))),λds M q x h=>?_⟩)
 ·have⟨d,e,rfl,_⟩:=h;rfl
 ·have⟨d,e,rfl,hp,hf,h⟩:=h;walk_at "vc";cases e with
  | aR=>
   cases vj hf;exact⟨λ_=>h,nofun⟩
  | int i=>
   cases vO hf;refine⟨nofun,λ_=>⟨_,_,_,_,false,rfl,rfl,rfl,E.K2,nofun,λ_=>⟨_,_,_,_,true,rfl,rfl,rfl,cB,λ_=>⟨_,_,_,_,true,rfl,rfl,rfl,cB,λ_=>⟨_,_,_,_,false,rfl,rfl,rfl,E.ib,λ_=>?_,nofun⟩,nofun⟩,nofun⟩⟩⟩;show q (.bl (decide (i=i))) M;rw[aar rfl];exact h
  | str z0=>
   cases wB hf;refine⟨nofun,λ_=>⟨_,_,_,_,true,rfl,rfl,rfl,cB,λ_=>⟨_,_,_,_,true,rfl,rfl,rfl,cB,λ_=>?_,nofun⟩,nofun⟩⟩;show q (.bl (decide (z0=z0))) M;rw[aar rfl];exact h
  | _=>exact hp.elim
def kx{f:Addr}{fd:FuncData}(F:cj K "_law_alike" "_law_alike" eT f fd)(E:Ev K mg Cl CT)(b:fJ K fd ["_law_found","_law_due"] [])(hm:mg "_law_alike"=some (.ref f))(hk:PySem.W.keepIn K (.ref f)=true):∀n,Φ P w K mg base (bE P w) (n+1) f fd ["_law_found","_law_due"] (cm K (jY n))
 | 0=>uU F E
 | n+1=>u_ F E ⟨kx F E b hm hk n,b,hm,hk⟩
def vX(p:Fr):Pl (n+1) (aV p):=by refine⟨by show 2<=100;decide,λd hd=>?_⟩;have hd:d∈[Dt.int p.1,Dt.int p.2]:=hd;simp at hd;rcases hd with rfl| rfl <;> (cases n <;> trivial)
def E1{d:oz}(h:d.2.2.length<=1):Pl (n+2) (dh d):=by
 refine⟨?_,λe he=>?_⟩
 ·show(d.2.2.map aV).length+1+1<=100;rw[aac];omega
 ·have he:e∈Dt.int d.1::aV d.2.1::d.2.2.map aV:=he;rcases aay.mp he with rfl| he
  ·exact trivial
  rcases aay.mp he with rfl| he
  ·exact vX _
  ·have⟨p,_,rfl⟩:=aam.mp he;exact vX p
def Dc{ds:List oz}(hz:ds.length<=12)(h:∀d∈ds,d.2.2.length<=1):Pl (n+3) (.lst (ds.map dh)):=by refine⟨by rw[aac];omega,λe he=>?_⟩;have⟨d,hd,rfl⟩:=aam.mp he;exact E1 (h d hd)
def EK{r:Rw}(h:cV r):Pl (n+4) (ar r):=by
 cases r with
 | fin p=>
  refine⟨by show 2<=100;decide,λe he=>?_⟩;have he:e∈[Dt.str "end",aV p]:=he;simp only[List.mem_cons,List.not_mem_nil,or_false]at he;rcases he with rfl| rfl
  ·exact trivial
  ·exact vX p
 | Λ k ds=>
  refine⟨by show 2<=100;decide,λe he=>?_⟩;have he:e∈[Dt.str k,Dt.lst (ds.map dh)]:=he;simp only[List.mem_cons,List.not_mem_nil,or_false]at he;rcases he with rfl| rfl
  ·exact trivial
  ·exact Dc h.2.1 λd hd=>(h.2.2.2 d hd).1
def vt{θ:List Rw}(hz:θ.length<=12)(h:∀r∈θ,cV r):Pl (n+5) (.lst (θ.map ar)):=by refine⟨by rw[aac];omega,λe he=>?_⟩;have⟨r,hr,rfl⟩:=aam.mp he;exact EK (h r hr)
def ph{q:DQ}{ds:List Dt}(u:Dt.bc M.length ds)(h:q (.lst ds) M):sY M q (.loc M.length) (M++[.lst ds]):=fv (.qw (aaj _) (by rw[Nat.sub_self];rfl) (cN.old u)) h
def aX{α:Type}(f:α->Dt):∀(xs ys:List α),(∀x∈xs,x∈ys)->Paired (λx a=>x=f a/\a∈ys) (xs.map f) xs
 | [],_,_=>.nil
 | x::xs,ys,h=>.cons ⟨rfl,h x aad⟩ (aX f xs ys λy hy=>h y (aae _ hy))
def km{E:Ms}{n:Nat}:∀(θ:List Rw) (j:Nat),(∀i m,(g6 θ)[i]? =some m->E[j+i]? =some m)->cN n E (iT (n+j) θ) (θ.map ar)
 | [],_,_=>.nil
 | .fin p::r,j,h=>.cons (.old (vB (.fin p))) (km r j h)
 | .Λ k ds::r,j,h=>.cons (.tup (.cons (.old trivial) (.cons (.qw (abc _ _) (by rw[Nat.add_sub_cancel_left];exact h 0 _ rfl) (cN.old (k_ ds))) .nil))) (km r (j+1) λi m e=>by rw[show j+1+i=j+(i+1) by omega];exact h (i+1) m e)
def lP(θ:List Rw)(M:Ms)(x:MO):cN M.length (g6 θ++[x]) (iT M.length θ) (θ.map ar):=
 km θ 0 λi m e=>by rw[Nat.zero_add,aav (aai.mp e).1];exact e
def pA(M:Ms):∀rs:List Rw,Paired (gp M) (rs.map ar) rs
 | []=>.nil
 | r::rs=>.cons (wz _ r) (pA M rs)
def oN:DF:=λds M q _=>match ds with
 | [.tup [.int p,.int b]]=>(p.natAbs < 10 ^ 60/\0 < b/\b.natAbs < 10 ^ 60)/\q (.str (mk (wr p b))) M
 | _=>False
def OD{p:Int}(h:b=1):Str.ofString (toString p)=mk (wr p b):=by rw[fG];unfold wr;rw[aaN h,aa2]
def ED(h:0 < b):sg b=[]:=aaH ()
def ou:(Str.ofString "/")=mk [47]:=by decide+kernel
def emp:Str.empty=mk []:=rfl
def Nw{p:Int}(hb:0 < b)(h:b≠1):mk (sg p++dig p.natAbs)++mk [47]++mk (sg b++dig b.natAbs)=mk (wr p b):=by rw[Η,Η,ED hb];unfold wr;rw[aaH h,aap,aaW];rfl
def lj{p:Int}(h:p.natAbs < 10 ^ 60):(sg p++dig p.natAbs).length<=61:=by have:=iY 59 _ h;unfold sg;split <;> simp <;> omega
def dR:χ ["one","top","bottom"] ["one"] (ν eA):=.of rfl
def kS(F:cj K "show_fraction" "show_fraction" eA f fd)(E:Ev K mg Cl CT):Φ P w K mg base (bE P w) 1 f fd ["one"] (cm K oN):=by
 refine F.dZ dR (λds M q x h=>?_) (λaW A outer s H E' hr=>⟨_,(ε (υ 1 dR.nd (Δ (jv 0) ι))
   (ε (υ 2 dR.nd (Δ (jv 0) ι))
   (ε (Ε (bw hr (jv 2) ι) (η (ο (wo E.gs (Ι (jv 1) δ)))) τ)
   (η (ο (uI (.cons (oy (jv 1)) (.cons av (.cons (oy (jv 2)) .nil))))))))),λds M q x h=>?_⟩)
 ·unfold oN at h;split at h;· rfl
  ·exact h.elim
 ·unfold oN at h;split at h
  ·rename_i p b;have⟨⟨h1,h2,h3⟩,h⟩:=h;refine⟨λhb=>?_,λhb=>?_⟩
   ·have yD:b=1:=by simpa using hb
    rw[<-OD yD]at h;exact⟨dg h1,h⟩
   ·have yD:b≠1:=by simpa using hb
    have l1:=lj h1;have l2:=lj h3;have e1:Str.empty++Str.ofString (toString p)=mk (sg p++dig p.natAbs):=by rw[fG,emp,Η];rfl
    have big:(200:Nat)<=sizeLine:=@_
    refine⟨dg h1,?_,?_,dg h3,?_,?_⟩
    ·show(Str.empty++Str.ofString (toString p)).length<=sizeLine;rw[e1,ξ];omega
    ·show(Str.empty++Str.ofString (toString p)++Str.ofString "/").length<=sizeLine;rw[e1,ou,Η,ξ,aab];simp only[List.length_cons,List.length_nil];omega
    ·show(Str.empty++Str.ofString (toString p)++Str.ofString "/"++Str.ofString (toString b)).length<=sizeLine;rw[e1,ou,fG,Nw h2 yD,ξ];have:=yL h1 h3;omega
    ·show q (.str (Str.empty++Str.ofString (toString p)++Str.ofString "/"++Str.ofString (toString b))) M;rw[e1,ou,fG,Nw h2 yD];exact h
  ·exact h.elim
def rD(CT:Addr):DF:=λds M q x=>match ds with
 | [.str z]=>z.length<=1000/\(match gM z.cps.toList with
  | some n=>q (.int n) M
  | none=>x CT [] M)
 | _=>False
def pf:(1002:Nat)<=sizeLine:=@_
def M7:(Str.ofString "0123456789").cps.toList=[48,49,50,51,52,53,54,55,56,57]:=by decide+kernel
def pI:(Str.ofString "0")=mk [48]:=by decide+kernel
def CS(c:Nat):c∈(Str.ofString "0123456789").cps.toList↔48<=c/\c<=57:=by rw[M7];simp only[List.mem_cons,List.not_mem_nil,or_false];omega
def ur(d:Dt):Dt:=match d with
 | .str y=>.bl (!(!(Builtin.Str.occurrences (Str.ofString "0123456789") y 0 (Str.ofString "0123456789").length 1).isEmpty))
 | _=>.aR
def va(c:Nat):ur (.str ⟨#[c]⟩)= .bl (!decide (48<=c/\c<=57)):=by show Dt.bl (!(!(Builtin.Str.occurrences (Str.ofString "0123456789") ⟨#[c]⟩ 0 (Str.ofString "0123456789").length 1).isEmpty))=_;rw[A9,decide_eq_decide.mpr (CS c)]
def u7(z:Str):(et z).map ur=(z.cps.toList.map λc=> !decide (48<=c/\c<=57)).map Dt.bl:=by unfold et;rw[aat,aat];exact aa7 λc _=>va c
def g_:χ ["text"] ["text"] (ν fC):=.of rfl
def lT   (F:cj K "read_figures" "read_figures" fC f fd) (E:Ev K mg Cl CT):Φ P w K mg base (bE P w) 1 f fd ["text"] (cm K (rD CT)):=by
 refine F.dZ g_ (λds M q x h=>?_) (λaW A outer s H E' hr=>⟨_,(ε (Ε (JW.jt (gr (kE (bp E.aY (Ι (jv 0) δ)) ι) (eD (sC (bp E.aY (Ι (jv 0) δ)) (iP E.hJ))))) (η (bh bR aaw E.bC E.bB (ζ av δ aG))) τ)
   (ε (Ε (bu (Ed E.sL (ζ (gq (ys:=[]) (Α:=[]) (.of g_ rfl rfl rfl) (zx (jv 0)) (λC s H fp=>(CJ (jv 0) (zN E.sF)))) δ))) (η (bh bR aaw E.bC E.bB (ζ av δ aG))) τ)
   (ε (Ε (JW.jt (Gn (bw hr (Δ (jv 0) ι) av) (BI (eh hr (jv 0) av)))) (η (bh bR aaw E.bC E.bB (ζ av δ aG))) τ)
   (η (ο (Je E.kJ (Ι (jv 0) δ))))))),λds M q x h=>?_⟩)
 ·unfold rD at h;split at h;· rfl
  ·exact h.elim
 ·unfold rD at h;split at h
  ·rename_i z;have⟨hz,h⟩:=h;have big:=pf;have E9:z.length<=sizeLine:=()
   have hlen:z.cps.toList.length=z.length:=aaT;have bad:¬G9 z.cps.toList->x CT [] M:=λhn=>by have e:gM z.cps.toList=none:=aaH hn;rw[e]at h;exact h
   refine⟨E9,λh1=>⟨λ_=>⟨@_,bad λhk=>?_⟩,nofun⟩,λh1=>⟨E9,λh2=>⟨@_,bad λhk=>?_⟩,λh2=>?_⟩⟩
   ·have:(z.length:Int) < 1:=by simpa using h1
    exact hk.1 (abj ())
   ·have:(60:Int) < z.length:=by simpa using h2
    have:=hk.2.1;omega
   ·have l1:¬(z.length:Int) < 1:=by simpa using h1
    have l2:¬(60:Int) < z.length:=by simpa using h2
    refine⟨by unfold et;rw[List.length_map];omega,cy (f:=ur) _ [] (λd hd q hq=>?_) ?_⟩
    ·have⟨c,_,rfl⟩:=aam.mp hd;exact hq
    ·rw[aap,u7];refine⟨_,rfl,(λk e=>nomatch e),(λk e=>nomatch e),λh3=>⟨@_,bad λhk=>?_⟩,λh3=>?_⟩
     ·have⟨b,hb,Sq⟩:=List.any_eq_true.mp h3;have⟨c,hc,rfl⟩:=aam.mp hb;have h4:c < 48\/57 < c:=by simpa using Sq
      have h5:=hk.2.2.1 c hc;omega
     ·have hd:NumText.AllDigits z.cps.toList:=λc hc=>by have h4:=List.any_eq_false.mp h3 _ (aam.mpr ⟨c,hc,rfl⟩);simpa using h4
      obtain⟨c0,r,Ho⟩:∃c0 r,z.cps.toList=c0::r:=by
       cases hq:z.cps.toList with
       | nil=>rw[hq]at hlen;simp at hlen;omega
       | cons c0 r=>exact⟨c0,r,rfl⟩
      have fin:(c0=48->z.cps.toList=[48])->q (.int (NumText.digitsVal z.cps.toList:Nat)) M:=λhh=>by have hk:G9 z.cps.toList:=⟨by rw[Ho];simp,(),hd,λe=>hh (by rw[Ho]at e;exact Option.some.inj e)⟩;have e:gM z.cps.toList=some (NumText.digitsVal z.cps.toList):=aaN hk;rw[e]at h;exact h
      have aC:(c0=48->z.cps.toList=[48])->zq [.str z] M q:=λhh=>zg () (intText_digits hd (by rw[Ho];simp) ()) (fin hh);refine⟨E9,?_⟩;have Nb:ik z.cps.toList 0=some c0:=by rw[Ho];exact cc
      rw[Nb];refine⟨λh4=>⟨λh5=>⟨@_,bad λhk=>?_⟩,λh5=>aC λ_=>?_⟩,λh4=>⟨nofun,λ_=>aC λe=>?_⟩⟩
      ·have e4:(⟨#[c0]⟩:Str)=mk [48]:=by rw[<-pI];simpa using h4
       have e5:z≠mk [48]:=by rw[<-pI];simpa using h5
       have:c0=48:=by have:=aaX (λy:Str=>y.cps.toList) e4;simpa [mk] using this
       exact e5 (eW (hk.2.2.2 (by rw[Ho,this];rfl)))
      ·have e5:z=mk [48]:=by rw[<-pI];simpa using h5
       rw[e5];rfl
      ·have e4:(⟨#[c0]⟩:Str)≠mk [48]:=by rw[<-pI];simpa using h4
       exact aaE (by rw[e];rfl) e4
  ·exact h.elim
def z7{z:Str}{r:List Nat}(h:z.cps.toList=c::r):Txt.slice z (some 1) none=mk r:=by have e:Txt.slice z (some 1) none=StrLaws.sliceText z (some 1) none:=rfl;rw[e,StrLaws.sliceText_from (by rw[h];simp;omega),h];refine eW ?_;simp
def Ck:(Str.ofString "-")=mk [45]:=by decide+kernel
def ji(z:Str):Txt.startswith z (Str.ofString "-")=decide (z.cps.toList.head?=some 45):=by
 rw[Ck];unfold Txt.startswith;rw[StrLaws.subAt_eq];have hl:z.cps.toList.length=z.length:=aaT;have h1:(mk [45]).length=1:=rfl;rw[h1,b_];cases h:z.cps.toList with
 | nil=>rw[h]at hl;simp at hl;simp[<-hl]
 | cons c r=>
  rw[h]at hl;simp at hl;have:(0+1<=z.length):=()
  simp[this];rw[abd];simp
def BQ(CT:Addr):DF:=λds M q x=>match ds with
 | [.str z]=>z.length<=1000/\(match mj z.cps.toList with
  | some n=>q (.int n) M
  | none=>x CT [] M)
 | _=>False
def n4:χ ["text","size"] ["text"] (ν ma):=.of rfl
def uM(F:cj K "read_top" "read_top" ma f fd)(E:Ev K mg Cl CT){fg:Addr}{fe:FuncData}(aT:aq P w K mg base 1 "read_figures" ["text"] (rD CT) fg fe):Φ P w K mg base (bE P w) 2 f fd ["text"] (cm K (BQ CT)):=by
 refine F.dZ n4 (λds M q x h=>?_) (λaW A outer s H E' hr=>⟨_,(ε (Ε (dM (bu (lM (jv 0) (ζ av δ aG)))) (η (ο (Ρ aT hr π (Ι (jv 0) δ)))) τ)
   (ε (υ 1 n4.nd (Ρ aT hr π (ζ (sd (jv 0) ι) δ ak)))
   (ε (Ε (bw hr (jv 1) ι) (η (bh bR aaw E.bC E.bB (ζ av δ aG))) τ)
   (η (ο (Ee (jv 1))))))),λds M q x h=>?_⟩)
 ·unfold BQ at h;split at h;· rfl
  ·exact h.elim
 ·unfold BQ at h;split at h
  ·rename_i z;have⟨hz,h⟩:=h;have big:=pf;have E9:z.length<=sizeLine:=()
   refine⟨⟨z,rfl⟩,λh1=>⟨hz,?_⟩,λh1=>?_⟩
   ·have h2:¬z.cps.toList.head?=some 45:=by rw[ji]at h1;simpa using h1
    have e:mj z.cps.toList=(gM z.cps.toList).map λn:Nat=>(n:Int):=by
     unfold mj;split
     ·rename_i r er;rw[er]at h2;exact aaE rfl h2
     ·cases gM z.cps.toList <;> rfl
    rw[e]at h;cases hf:gM z.cps.toList with
    | none=>rw[hf]at h;exact h
    | some n=>rw[hf]at h;exact h
   ·have h2:z.cps.toList.head?=some 45:=by rw[ji]at h1;simpa using h1
    obtain⟨r,bU⟩:∃r,z.cps.toList=45::r:=by
     cases hq:z.cps.toList with
     | nil=>rw[hq]at h2;cases h2
     | cons c r=>rw[hq]at h2;exact⟨r,by rw[show c=45 from aan h2]⟩
    have hl:z.cps.toList.length=z.length:=aaT;rw[bU]at hl h;refine⟨E9,?_,?_⟩
    ·rw[z7 bU,ξ];simp at hl;omega
    rw[z7 bU,b_];have e:mj (45::r)=(match gM r with| some n=>if n=0 then none else some (-(n:Int))| none=>none):=rfl;rw[e]at h;cases hf:gM r with
    | none=>rw[hf]at h;exact h
    | some n=>
     rw[hf]at h;refine⟨λh3=>⟨@_,?_⟩,λh3=>?_⟩
     ·have h4:n=0:=by
       have:(n:Int)=0:=by simpa using h3
       omega
      simp only[h4]at h;exact h
     ·have h4:n≠0:=by
       have:¬(n:Int)=0:=by simpa using h3
       omega
      simp only[if_neg h4]at h;exact h
  ·exact h.elim
def yM:∀(cs:List Nat) (Μ k:Nat),NumText.AllDigits cs->Μ < 10 ^ k->cs.foldl (λΜ c=>Μ * 10+(c - 48)) Μ < 10 ^ (k+cs.length)
 | [],Μ,k,_,h=>by simpa using h
 | c::cs,Μ,k,hd,h=>by have hc:=hd.head;have:=yM cs (Μ * 10+(c - 48)) (k+1) hd.tail (by rw[Nat.pow_succ];omega);rw[abz,aaA];rw[show k+(cs.length+1)=k+1+cs.length by omega];exact this
def Bz{cs:List Nat}(h:gM cs=some n):n < 10 ^ 60:=by
 unfold gM at h;split at h
 ·rename_i hk;cases h;have:=yM cs 0 0 hk.2.2.1 @_;refine aak this (Nat.pow_le_pow_right @_ ?_);have:=hk.2.1;omega
 ·cases h
def Gf:(Str.ofString "/")=⟨#[47]⟩:=by decide+kernel
def Hq(h:i.natAbs < 10 ^ 60):g8 i:=Nat.lt_trans h (aak (show 10 ^ 60 < 2 ^ 200 by decide+kernel) (Nat.pow_le_pow_right @_ @_))
def lL(CT:Addr):DF:=λds M q x=>match ds with
 | [.str z]=>z.length<=1000/\(match rd z with
  | some (t,b)=>q (.tup [.int t,.int b]) M
  | none=>x CT [] M)
 | _=>False
def bt:χ ["text","pieces","top","bottom","told"] ["text"] (ν eI):=.of rfl
def k6(F:cj K "read_fraction" "read_fraction" eI f fd)(E:Ev K mg Cl CT){zt:Addr}{Ak:FuncData}(j8:aq P w K mg base 2 "read_top" ["text"] (BQ CT) zt Ak){x3:Addr}{xm:FuncData}(fi:aq P w K mg base 2 "fraction" ["top","bottom"] vQ x3 xm){fg:Addr}{fe:FuncData}(aT:aq P w K mg base 1 "read_figures" ["text"] (rD CT) fg fe):Φ P w K mg base (bE P w) 3 f fd ["text"] (cm K (lL CT)):=by
 refine F.dZ bt (λds M q x h=>?_) (λaW A outer s H E' hr=>⟨_,(ε (υ 1 bt.nd (de (jv 0) (ζ av δ aG)))
   (ε (Ε (sC (bp E.aY (Ι (jv 1) δ)) ι) (η (bh bR aaw E.bC E.bB (ζ av δ aG))) τ)
   (ε (υ 2 bt.nd (Ρ j8 hr π (ζ (Δ (jv 1) ι) δ ak)))
   (ε (Ε (bw hr (bp E.aY (Ι (jv 1) δ)) ι) (η (ο (Ρ fi hr π (Ι (jv 2) (ζ ι δ aG))))) τ)
   (ε (υ 3 bt.nd (Ρ aT hr π (ζ (Δ (jv 1) ι) δ ak)))
   (ε (Ε (kE (jv 3) ι) (η (bh bR aaw E.bC E.bB (ζ av δ aG))) τ)
   (ε (υ 4 bt.nd (Ρ fi hr π (Ι (jv 2) (Ι (jv 3) δ))))
   (ε (Ε (eh hr (Δ (jv 4) ι) (jv 3)) (η (bh bR aaw E.bC E.bB (ζ av δ aG))) τ)
   (η (ο (jv 4))))))))))),λds M q x h=>?_⟩)
 ·unfold lL at h;split at h;· rfl
  ·exact h.elim
 ·unfold lL at h;split at h
  ·rename_i z;have⟨hz,h⟩:=h;have big:=pf;refine⟨⟨z,rfl⟩,⟨@_,()⟩,?_⟩;have hp:∀a∈Txt.split z (Str.ofString "/"),a.length<=1000:=λa ha=>aaq (PyProof.Rows.part_short ha) hz;have By:=rR z (Str.ofString "/");unfold rd at h;rw[<-Gf]at h;generalize Txt.split z (Str.ofString "/")=ps at h hp By⊢
   match ps,h,hp,By with
   | [],_,_,By=>exact aaE rfl By
   | [a],h,hp,_=>
    refine⟨λh1=>absurd h1 (by simp),λ_=>⟨hp a (by simp),?_⟩⟩;cases ht:mj a.cps.toList with
    | none=>simp only[ht]at h;exact h
    | some t=>
     simp only[ht]at h;refine⟨λ_=>⟨by unfold g8;decide,(λz=>absurd z @_),λ_=>h⟩,λh1=>absurd h1 (by simp)⟩
   | [a,b],h,hp,_=>
    refine⟨λh1=>absurd h1 (by simp),λ_=>⟨hp a (by simp),?_⟩⟩;cases ht:mj a.cps.toList with
    | none=>simp only[ht]at h;exact h
    | some t=>
     simp only[ht]at h;refine⟨λh1=>absurd h1 (by simp),λ_=>⟨hp b (by simp),?_⟩⟩;cases hf:gM b.cps.toList with
     | none=>simp only[hf]at h;exact h
     | some n=>
      simp only[hf]at h;have hn:=Bz hf;refine⟨λh2=>⟨@_,?_⟩,λh2=>⟨Hq (),λe=>?_,λ_=>⟨λh3=>⟨@_,?_⟩,λh3=>?_⟩⟩⟩
      ·have:(n:Int) < 2:=by simpa using h2
       rw[aaN ()]at h;exact h
      ·have:¬(n:Int) < 2:=by simpa using h2
       omega
      ·have h4:¬(n:Int) < 2:=by simpa using h2
       have h5:¬(aw t n).2=n:=by simpa using h3
       rw[aaH (),aaH h5]at h;exact h
      ·have h4:¬(n:Int) < 2:=by simpa using h2
       have h5:(aw t n).2=n:=by simpa using h3
       rw[aaH (),aaN h5]at h;exact h
   | a::b::c::r,h,_,_=>
    refine⟨λ_=>⟨@_,h⟩,λh1=>aaE h1 ?_⟩;simp;omega
  ·exact h.elim
def fr(p:Fr):List Nat:=wr p.1 p.2
def sD(n:List Nat):Dt:=.str (mk n)
def nP(n:List Nat):Prop:=1<=n.length/\n.length<=8/\∀c∈n,97<=c/\c<=122
def cW(ns:List (List Nat)):Prop:=ns.length<=12/\∀n∈ns,nP n
def cL(ns:List (List Nat))(i:Int):List Nat:=ns.getD i.toNat []
def Υ(d:oz):List Fr:=d.2.1::d.2.2
def bH(ns:List (List Nat))(d:oz):List Nat:=jn [32] (cL ns d.1::(Υ d).map fr)
def rJ(ns:List (List Nat))(d:oz):Prop:=(0<=d.1/\d.1 < ns.length)/\(∀p∈Υ d,Lw p)/\d.2.2.length<=1
def b8:Rw->List Nat
 | .fin _=>[101,110,100]
 | .Λ k _=>k.cps.toList
def fM(ns:List (List Nat)):Rw->List Nat
 | .fin p=>fr p
 | .Λ _ ds=>jn [44,32] (ds.map (bH ns))
def yC(ns:List (List Nat)):Rw->Prop
 | .fin p=>Lw p
 | .Λ k ds=>(k="one"\/k="other"\/k="chance")/\1<=ds.length/\ds.length<=6/\∀d∈ds,rJ ns d
def aD(ns:List (List Nat))(n:List Nat)(r:Rw):List Nat:=n++(32::(b8 r++(32::fM ns r)))
def ir:List Nat:=[115,104,97,114,101,32]
def aB(μ:Fr)(ns:List (List Nat))(θ:List Rw):List (List Nat):=(ir++fr μ)::(ns.zip θ).map λp=>aD ns p.1 p.2
def iC(μ:Fr)(ns:List (List Nat))(θ:List Rw):List Nat:=jn [59,32] (aB μ ns θ)
def i8(h:cW ns)(h0:0<=i)(h1:i < ns.length):nP (cL ns i)/\ik (ns.map sD) i=some (sD (cL ns i)):=by
 have hi:i.toNat < ns.length:=()
 have e:cL ns i=ns[i.toNat]:=by unfold cL;rw[List.getD_eq_getElem?_getD,List.getElem?_eq_getElem hi];rfl
 rw[e];refine⟨h.2 _ (aaS hi),?_⟩;have:=az (xs:=ns.map sD) (j:=i.toNat) (by rw[aaB,aaa hi];rfl);rwa[show((i.toNat:Nat):Int)=i by omega]at this
def fN{p:Fr}(h:Lw p):(fr p).length<=122:=yL h.1 h.2.2.1
def wk{s:List Nat}{m:Nat}:∀{ps:List (List Nat)},(∀p∈ps,p.length+s.length<=m)->(jn s ps).length<=ps.length * m
 | [],_=>by simp[jn]
 | [p],h=>by have:=h p aad;show p.length<=1 * m;omega
 | p::q::r,h=>by have h1:=h p aad;have h2:=wk (ps:=q::r) λy hy=>h y (aae _ hy);show(p++(s++jn s (q::r))).length<=_;rw[aab,aab];rw[show(p::q::r).length * m=(q::r).length * m+m by rw[aaA,Nat.succ_mul]];omega
def iz{d:oz}(h:cW ns)(hd:rJ ns d):∀p∈cL ns d.1::(Υ d).map fr,p.length+1<=123:=λp hp=>by
 rcases aay.mp hp with rfl| hp
 ·have:=(i8 h hd.1.1 hd.1.2).1.2.1;omega
 ·have⟨q,hq,rfl⟩:=aam.mp hp;have:=fN (hd.2.1 q hq);omega
def gz{d:oz}(h:cW ns)(hd:rJ ns d):(bH ns d).length<=369:=by have:=wk (s:=[32]) (m:=123) (iz h hd);have hl:=hd.2.2;refine aaq this ?_;show(((Υ d).map fr).length+1) * 123<=369;rw[aac];show(d.2.2.length+1+1) * 123<=369;omega
def lq{r:Rw}(h:cW ns)(hr:yC ns r):(fM ns r).length<=2300:=by
 cases r with
 | fin p=>have:=fN (p:=p) hr;show(fr p).length<=_;omega
 | Λ k ds=>
  have:=wk (s:=[44,32]) (m:=371) (ps:=ds.map (bH ns)) λp hp=>by have⟨d,hd,rfl⟩:=aam.mp hp;have:=gz h (hr.2.2.2 d hd);show _+2<=_;omega
  rw[aac]at this;have h6:=hr.2.2.1;have:ds.length * 371<=6 * 371:=Nat.mul_le_mul_right _ h6;show(jn [44,32] (ds.map (bH ns))).length<=_;omega
def nh{r:Rw}(hr:yC ns r):(b8 r).length<=6:=by
 cases r with
 | fin p=>show 3<=6;decide
 | Λ k ds=>rcases hr.1 with rfl| rfl| rfl <;> (show(Str.cps _).toList.length<=6;decide+kernel)
def kq{n:List Nat}{r:Rw}(h:cW ns)(hn:nP n)(hr:yC ns r):(aD ns n r).length<=2400:=by have a:=lq h hr;have b:=nh hr;have c:=hn.2.1;unfold aD;simp only[List.length_append,List.length_cons];omega
def h_:(Str.ofString " ")=mk [32]:=by decide+kernel
def EU:(Str.ofString ", ")=mk [44,32]:=by decide+kernel
def EO:(Str.ofString "; ")=mk [59,32]:=by decide+kernel
def shr:(Str.ofString "share ")=mk ir:=by decide+kernel
def Β(h:n<=16777216):n<=sizeLine:=aaq h @_
def DU(ps:List (List Nat)):ps.map sD=(ps.map mk).map Dt.str:=by rw[aat];rfl
def Jp:Rw->Dt
 | .fin p=>aV p
 | .Λ _ ds=>.lst (ds.map dh)
def yQ(r:Rw):ar r= .tup [.str (kindOf r),Jp r]:=by cases r <;> rfl
def Np:(Str.ofString "end").cps.toList=[101,110,100]:=by decide+kernel
def wb(r:Rw):kindOf r=mk (b8 r):=by
 cases r with
 | fin p=>exact eW Np
 | Λ k ds=>rfl
def lJ{α:Type}{g:Dt->En->(En->Prop)->Prop}{te:DE}{ρ0:En}{ok:Ms->Prop}{F:Dt->α->Prop}{f:α->Dt}{M:Ms}{k:List Dt->Ms->Prop}(ho:ok M)(ht:∀x a,F x a->∀q:DQ,q (f a) M->g x ρ0 λρ'=>te ρ' M q gP):∀{xs:List Dt} {as:List α} {Μ:List Dt},Paired F xs as->k (Μ++as.map f) M->tD g te ρ0 ok xs Μ M k
 | _,_,Μ,.nil,h=>⟨ho,by simpa using h⟩
 | _,_,Μ,.cons r t,h=>⟨ho,ht _ _ r _ (lJ ho ht t (by simpa using h))⟩
def dU{s:Str}{sl:List Nat}{e:Dt}{q:DQ}(hs:s=mk sl)(he:yn M e=some (ps.map sD))(n m:Nat)(hl:ps.length<=n)(hp:∀p∈ps,p.length+sl.length<=m)(hb:n * m<=16777216)(h:q (sD (jn sl ps)) M):om (.str s) [e] M q:=by subst hs;refine⟨ps.map mk,by rw[he,DU],yx hl hp (Β hb),?_⟩;rw[B5];exact h
def oE:DF:=λas M q _=>∃d ns,as=[dh d,.lst (ns.map sD)]/\cW ns/\rJ ns d/\q (sD (bH ns d)) M
def lU:χ ["door","names"] ["door","names"] (ν jK):=.of rfl
def tF(F:cj K "show_door" "show_door" jK f fd)(E:Ev K mg Cl CT)(ae:aq P w K mg base 1 "show_fraction" ["one"] oN bO bN):Φ P w K mg base (bE P w) 2 f fd ["door","names"] (cm K oE):=by
 refine F.dZ lU (λds M q x h=>?_) (λaW A outer s H E' hr=>⟨_,(η (ο (dq av (ζ (ug (vR (ζ (Δ (jv 1) (Δ (jv 0) ι)) δ ak)) (br (ys:=[]) (Α:=[]) (.of lU rfl rfl rfl) (aZ (j0 (jv 0) ι)) (λC s H fp=>(Ρ ae hr (aK (P:=P) (w:=w)) (Ι (jv 0) δ))))) δ aN)))),λds M q x h=>?_⟩)
 ·have⟨d,ns,rfl,_⟩:=h;rfl
 ·have⟨d,ns,rfl,hn,hd,h⟩:=h;have⟨n1,n2⟩:=i8 hn hd.1.1 hd.1.2;walk_at "vc";refine⟨⟨_,rfl⟩,?_⟩;refine(Γ (d:=dh d) (xs:=.int d.1::aV d.2.1::d.2.2.map aV) rfl cc ?_:gT (dh d) (.int 0) M _);refine(Γ (d:=.lst (ns.map sD)) rfl n2 ?_:gT (.lst (ns.map sD)) (.int d.1) M _);refine⟨by show 1<=sizeLine;decide,?_⟩;dsimp only[cT,cJ,B3,a_,dC];refine⟨_,1,rfl,rfl,@_,by simp,?_⟩;have lf:(Υ d).length<=2:=by have:=hd.2.2;show d.2.2.length+1<=2;omega
  show(((Υ d).map aV).length<=sizeLine/\ck _ _ _ ((Υ d).map aV) [] M _);refine⟨by rw[aac];exact Β (),?_⟩;refine au (F:=λx a=>x=aV a/\a∈Υ d) (f:=λp=>sD (fr p)) trivial (λx a ha q' fK=>?_) (aX aV (Υ d) (Υ d) λ_ h=>h) ?_
  ·have⟨rfl,ha⟩:=ha;have:=hd.2.1 a ha;exact⟨⟨this.1,this.2.1,this.2.2.1⟩,fK⟩
  rw[aap];refine⟨_,_,rfl,rfl,?_,?_⟩
  ·rw[aac];exact Β (by show 1+_<=_;omega)
  refine dU (ps:=cL ns d.1::(Υ d).map fr) h_ ?_ 3 123 (by rw[aaA,aac];omega) (iz hn hd) @_ h;show some (sD (cL ns d.1)::(Υ d).map λp=>sD (fr p))=_;rw[aaL,aat];rfl
def mW:DF:=λas M q _=>∃n r ns,as=[sD n,ar r,.lst (ns.map sD)]/\cW ns/\nP n/\yC ns r/\q (sD (aD ns n r)) M
def cI:χ ["name","row","names","kind","told"] ["name","row","names"] (ν hV):=.of rfl
def qv(F:cj K "show_place" "show_place" hV f fd)(E:Ev K mg Cl CT)(ae:aq P w K mg base 1 "show_fraction" ["one"] oN bO bN){xc:Addr}{xM:FuncData}(ic:aq P w K mg base 2 "show_door" ["door","names"] oE xc xM):Φ P w K mg base (bE P w) 3 f fd ["name","row","names"] (cm K mW):=by
 refine F.dZ cI (λds M q x h=>?_) (λaW A outer s H E' hr=>⟨_,(ε (υ 3 cI.nd (Δ (jv 1) ι))
   (ε (l0 (Ε (bw hr (jv 3) av) (η (υ 4 cI.nd (Ρ ae hr π (ζ (Δ (jv 1) ι) δ ak)))) (η (υ 4 cI.nd (dq av (ζ (br (ys:=["names"]) (Α:=[2]) (.of cI rfl rfl rfl) (aZ (Δ (jv 1) ι)) (λC s H fp=>(Ρ ic hr (aK (P:=P) (w:=w)) (Ι (jv 0) (Ι (jv 1) δ))))) δ))))))
   (η (ο (uI (.cons (oy (jv 0)) (.cons av (.cons (oy (jv 3)) (.cons av (.cons (oy (jv 4)) .nil)))))))))),λds M q x h=>?_⟩)
 ·have⟨n,r,ns,rfl,_⟩:=h;rfl
 ·have⟨n,r,ns,rfl,hn,h1,bU,h⟩:=h;have big:=lq hn bU;have bk:=nh bU;have bn:=h1.2.1;rw[yQ];walk_at "vc";refine⟨λρ M'=>M'=M/\ρ=[some (sD n),some (.tup [.str (kindOf r),Jp r]),some (.lst (ns.map sD)),some (.str (kindOf r)),some (sD (fM ns r))],?_,?_⟩
  ·cases r with
   | fin p=>exact⟨λ_=>⟨⟨bU.1,bU.2.1,bU.2.2.1⟩,rfl,rfl⟩,nofun⟩
   | Λ k ds=>
    have ne:k≠"end":=by rcases bU.1 with rfl| rfl| rfl <;> decide
    refine⟨λz=>aaE (aaQ z) ne,λ_=>?_⟩;refine⟨⟨_,rfl⟩,?_⟩;show((ds.map dh).length<=sizeLine/\ck _ _ _ (ds.map dh) [] M _);have h6:=bU.2.2.1;refine⟨by rw[aac];exact Β (),?_⟩;refine au (F:=λx a=>x=dh a/\a∈ds) (f:=λd=>sD (bH ns d)) trivial (λx a ha q' fK=>?_) (aX dh ds ds λ_ h=>h) ?_
    ·have⟨rfl,ha⟩:=ha;exact⟨a,ns,rfl,hn,bU.2.2.2 a ha,fK⟩
    rw[aap];walk_at "vc";refine dU (ps:=ds.map (bH ns)) EU (by show some _=_;rw[aat];rfl) 6 400 (by rw[aac];exact h6) (λp hp=>?_) @_ ⟨rfl,rfl⟩;have⟨d,hd,rfl⟩:=aam.mp hp;have:=gz hn (bU.2.2.2 d hd);show _+2<=400;omega
  rintro ρ' M' ⟨rfl,rfl⟩;rw[wb];have e0:Str.empty++mk n=mk n:=by show mk []++mk n=_;rw[Η];rfl
  have ln:∀a:List Nat,a.length<=3000->(mk a).length<=sizeLine:=λa h=>by rw[ξ];exact Β ()
  have e1:Str.empty++mk n++Str.ofString " "=mk (n++[32]):=by rw[e0,h_,Η]
  have e2:Str.empty++mk n++Str.ofString " "++mk (b8 r)=mk (n++[32]++b8 r):=by rw[e1,Η]
  have e3:Str.empty++mk n++Str.ofString " "++mk (b8 r)++Str.ofString " "=mk (n++[32]++b8 r++[32]):=by rw[e2,h_,Η]
  have e4:Str.empty++mk n++Str.ofString " "++mk (b8 r)++Str.ofString " "++mk (fM ns r)=mk (aD ns n r):=by rw[e3,Η];unfold aD;simp only[List.append_assoc,List.cons_append,List.nil_append]
  refine⟨ln _ (),(by show(Str.empty++mk n).length<=sizeLine;rw[e0];exact ln _ ()),(by show(Str.empty++mk n++Str.ofString " ").length<=sizeLine;rw[e1];exact ln _ (by simp;omega)),ln _ (),(by show(Str.empty++mk n++Str.ofString " "++mk (b8 r)).length<=sizeLine;rw[e2];exact ln _ (by simp;omega)),(by show(Str.empty++mk n++Str.ofString " "++mk (b8 r)++Str.ofString " ").length<=sizeLine;rw[e3];exact ln _ (by simp;omega)),ln _ (),?_,?_⟩
  ·show(Str.empty++mk n++Str.ofString " "++mk (b8 r)++Str.ofString " "++mk (fM ns r)).length<=sizeLine;rw[e4];exact ln _ (by have:=kq hn h1 bU;omega)
  ·show q (.str (Str.empty++mk n++Str.ofString " "++mk (b8 r)++Str.ofString " "++mk (fM ns r))) M';rw[e4];exact h
def EC(μ:Fr)(ns:List (List Nat))(θ:List Rw):Prop:=Lw μ/\cW ns/\θ.length=ns.length/\∀r∈θ,yC ns r/\cV r
def mO{μ:Fr}{θ:List Rw}(h:EC μ ns θ):∀p∈aB μ ns θ,p.length+2<=2402:=λp hp=>by
 rcases aay.mp hp with rfl| hp
 ·have:=fN h.1;rw[aab];show 6+_+2<=_;omega
 ·have⟨⟨n,r⟩,hq,rfl⟩:=aam.mp hp;have:=kq h.2.1 (h.2.1.2 n (aaY hq).1) (h.2.2.2 r (aaY hq).2).1;show(aD ns n r).length+2<=_;omega
def gj{μ:Fr}{θ:List Rw}(h:EC μ ns θ):(aB μ ns θ).length=ns.length+1:=by unfold aB;rw[aaA,aac,abo,h.2.2.1,Nat.min_self]
def m7(C:Addr):DF:=λas M q _=>∃μ ns θ,as=[ip C μ θ,.lst (ns.map sD)]/\EC μ ns θ/\q (sD (iC μ ns θ)) M
def ej:χ ["floor","names","share","places"] ["floor","names"] (ν iL):=.of rfl
def qg(F:cj K "show_floor" "show_floor" iL f fd)(E:Ev K mg Cl CT)(ae:aq P w K mg base 1 "show_fraction" ["one"] oN bO bN){gc:Addr}{gw:FuncData}(bD:tE P w K mg base 1 Cl "share" ["self"] (tV Cl) gc gw)(aQ:tE P w K mg base 2 Cl "rows" ["self"] (vV Cl) dt dr){u3:Addr}{tS:FuncData}(gh:aq P w K mg base 3 "show_place" ["name","row","names"] mW u3 tS):Φ P w K mg base (bE P w) 4 f fd ["floor","names"] (cm K (m7 Cl)):=by
 refine F.dZ ej (λds M q x h=>?_) (λaW A outer s H E' hr=>⟨_,(ε (υ 2 ej.nd (Ρ ae hr π (ζ (jB bD hr π (jv 0)) δ bZ)))
   (ε (rV (i:=3) ej.nd rfl (Or.inl rfl) (ys:=["names"]) (Α:=[1]) (.of ej rfl rfl rfl) (E8 E.vi (Ι (jv 1) (ζ (fH (jB aQ hr π (jv 0))) δ bZ))) (λC s H fp=>(Ρ gh hr (aK (P:=P) (w:=w)) (Ι (jv 0) (Ι (jv 1) (Ι (jv 2) δ))))))
   (η (ο (dq av (ζ (ug (vR (ζ (uI (.cons av (.cons (oy (jv 2)) .nil))) δ)) (jv 3)) δ aN)))))),λds M q x h=>?_⟩)
 ·have⟨μ,ns,θ,rfl,_⟩:=h;rfl
 ·have⟨μ,ns,θ,rfl,hf,h⟩:=h;have uK:=hf.2.1.1;have rl:=hf.2.2.1;walk_at "vc";refine⟨⟨_,_,.inl rfl,rfl⟩,μ,θ,rfl,⟨hf.1.1,hf.1.2.1,hf.1.2.2.1⟩,?_⟩;dsimp only[vf,Iz,bW,ff,a_,HR,DD];refine⟨⟨_,_,.inl rfl,rfl⟩,μ,θ,rfl,(),λr hr=>(hf.2.2.2 r hr).2,?_⟩;rw[aaW];refine fv (d':=.lst (θ.map ar)) (.qw (Nat.le_add_right _ _) (by simp) (lP θ M _)) ?_;refine⟨_,_,ns.map sD,θ.map ar,_,_,rfl,rfl,rfl,?_⟩;have ez:sf (ns.map sD) (θ.map ar)=(ns.zip θ).map λp=>.tup [sD p.1,ar p.2]:=by unfold sf;rw[List.zip_map,aat];rfl
  rw[ez];refine⟨by rw[aac,abo];exact Β (),?_⟩;refine lJ (F:=λx a=>x= .tup [sD a.1,ar a.2]/\a∈ns.zip θ) (f:=λp=>sD (aD ns p.1 p.2)) ⟨trivial,trivial⟩ (λx a ha q' fK=>?_) (aX _ (ns.zip θ) (ns.zip θ) λ_ h=>h) ?_
  ·have⟨rfl,ha⟩:=ha;have m:=aaY ha;exact⟨a.1,a.2,ns,rfl,hf.2.1,hf.2.1.2 _ m.1,(hf.2.2.2 _ m.2).1,fK⟩
  rw[aap];have lf:=fN hf.1;have ln:∀a:List Nat,a.length<=3000->(mk a).length<=sizeLine:=λa h=>by rw[ξ];exact Β ()
  have e1:Str.empty++Str.ofString "share "=mk ir:=by decide+kernel
  have e2:Str.empty++Str.ofString "share "++mk (fr μ)=mk (ir++fr μ):=by rw[e1,Η]
  refine⟨⟨_,rfl⟩,(by show(Str.empty++Str.ofString "share ").length<=sizeLine;rw[e1];exact ln _ @_),ln _ (by show(fr μ).length<=_;omega),(by show(Str.empty++Str.ofString "share "++mk (fr μ)).length<=sizeLine;rw[e2];exact ln _ (by rw[aab];show 6+_<=_;omega)),by show 1<=sizeLine;decide,_,_,rfl,rfl,?_,?_⟩
  ·rw[aac,abo];exact Β (by show 1+_<=_;omega)
  refine dU (ps:=aB μ ns θ) EO ?_ 13 2402 (by rw[gj hf];omega) (mO hf) @_ h;show some (.str (Str.empty++Str.ofString "share "++mk (fr μ))::(ns.zip θ).map λp=>sD (aD ns p.1 p.2))=_;rw[e2];unfold aB;rw[aaL,aat];rfl
def vK{p:Fr}(h:c∈fr p):45<=c/\c<=57:=by
 unfold fr wr at h;rcases aaI.mp h with h| h
 ·rcases aaI.mp h with h| h
  ·unfold sg at h;split at h
   ·have:c=45:=by simpa using h
    omega
   ·cases h
  ·have:=gD _ c h;omega
 ·split at h
  ·cases h
  ·rcases aay.mp h with h| h
   ·omega
   ·have:=gD _ c h;omega
def tU{s:List Nat}{c:Nat}:∀{ps:List (List Nat)},c∈jn s ps->c∈s\/∃p∈ps,c∈p
 | [],h=>nomatch h
 | [p],h=>.inr ⟨p,aad,h⟩
 | p::q::r,h=>by
  have h:c∈p++(s++jn s (q::r)):=h;rcases aaI.mp h with h| h
  ·exact .inr ⟨p,aad,h⟩
  ·rcases aaI.mp h with h| h
   ·exact .inl h
   ·rcases tU h with h| ⟨y,hy,h⟩
    ·exact .inl h
    ·exact .inr ⟨y,aae _ hy,h⟩
def ju{d:oz}(h:cW ns)(hd:rJ ns d){p:List Nat}(hp:p∈cL ns d.1::(Υ d).map fr)(hc:c∈p):45<=c/\c<=57\/97<=c/\c<=122:=by
 rcases aay.mp hp with rfl| hp
 ·exact .inr ((i8 h hd.1.1 hd.1.2).1.2.2 c hc)
 ·have⟨q,_,rfl⟩:=aam.mp hp;exact .inl (vK hc)
def wm{d:oz}(h:cW ns)(hd:rJ ns d)(hc:c∈bH ns d):c=32\/45<=c/\c<=57\/97<=c/\c<=122:=by
 rcases tU hc with hc| ⟨p,hp,hc⟩
 ·exact .inl (by simpa using hc)
 ·exact .inr (ju h hd hp hc)
def vY{r:Rw}(hr:yC ns r)(hc:c∈b8 r):97<=c/\c<=122:=by
 cases r with
 | fin p=>
  have hc:c=101\/c=110\/c=100:=by simpa [b8] using hc
  omega
 | Λ k ds=>
  have one:(Str.ofString "one").cps.toList=[111,110,101]:=by decide+kernel
  have other:(Str.ofString "other").cps.toList=[111,116,104,101,114]:=by decide+kernel
  have FC:(Str.ofString "chance").cps.toList=[99,104,97,110,99,101]:=by decide+kernel
  have hc:c∈k.cps.toList:=hc;rcases hr.1 with rfl| rfl| rfl
  ·rw[one]at hc;simp only[List.mem_cons,List.not_mem_nil,or_false]at hc;omega
  ·rw[other]at hc;simp only[List.mem_cons,List.not_mem_nil,or_false]at hc;omega
  ·rw[FC]at hc;simp only[List.mem_cons,List.not_mem_nil,or_false]at hc;omega
def EY{r:Rw}(h:cW ns)(hr:yC ns r)(hc:c∈fM ns r):c=32\/c=44\/45<=c/\c<=57\/97<=c/\c<=122:=by
 cases r with
 | fin p=>have:=vK (p:=p) hc;omega
 | Λ k ds=>
  rcases tU (ps:=ds.map (bH ns)) hc with hc| ⟨p,hp,hc⟩
  ·have:c=44\/c=32:=by simpa using hc
   omega
  ·have⟨d,hd,rfl⟩:=aam.mp hp;have:=wm h (hr.2.2.2 d hd) hc;omega
def C2{μ:Fr}{θ:List Rw}(h:EC μ ns θ):∀p∈aB μ ns θ,59∉p:=λp hp hc=>by
 rcases aay.mp hp with rfl| hp
 ·rcases aaI.mp hc with hc| hc
  ·exact aaE hc @_
  ·have:=vK hc;omega
 ·have⟨⟨n,r⟩,hq,rfl⟩:=aam.mp hp;have hn:=h.2.1.2 n (aaY hq).1;have hr:=(h.2.2.2 r (aaY hq).2).1;have hc:59∈n++(32::(b8 r++(32::fM ns r))):=hc;rcases aaI.mp hc with hc| hc
  ·have:=hn.2.2 _ hc;omega
  rcases aay.mp hc with hc| hc
  ·omega
  rcases aaI.mp hc with hc| hc
  ·have:=vY hr hc;omega
  rcases aay.mp hc with hc| hc
  ·omega
  ·have:=EY h.2.1 hr hc;omega
def gI{s:Str}{tl:List Nat}{q:DQ}(hs:s=mk (c::tl))(hk:Builtin.Str.strKind (mk (c::tl))=1)(hn:ps≠[])(hf:∀p∈ps,c∉p)(hl:(jn (c::tl) ps).length<=100000)(h:q (.lst (ps.map sD)) M):eE (.str (mk (jn (c::tl) ps))) [.str s] M q:=by subst hs;refine⟨⟨rfl,by rw[ξ];exact Β ()⟩,?_⟩;rw[A6 hk hn hf,<-DU];exact h
def Nm:Builtin.Str.strKind (mk [32])=1:=by decide+kernel
def Qk:Builtin.Str.strKind (mk [44,32])=1:=by decide+kernel
def Qx:Builtin.Str.strKind (mk [59,32])=1:=by decide+kernel
def DJ:(Str.ofString "abcdefghijklmnopqrstuvwxyz").cps.toList=(List.range 26).map (97+ ·):=by decide+kernel
def CG(c:Nat):c∈(Str.ofString "abcdefghijklmnopqrstuvwxyz").cps.toList↔97<=c/\c<=122:=by
 rw[DJ];simp only[List.mem_map,List.mem_range];constructor
 ·rintro⟨a,h,rfl⟩;omega
 ·intro h;exact⟨c - 97,(),()⟩
def Eo(d:Dt):Dt:=match d with
 | .str y=>.bl (!(Builtin.Str.occurrences (Str.ofString "abcdefghijklmnopqrstuvwxyz") y 0 (Str.ofString "abcdefghijklmnopqrstuvwxyz").length 1).isEmpty)
 | _=>.aR
def yf{n:List Nat}(h:∀c∈n,97<=c/\c<=122):(et (mk n)).map Eo=(List.replicate n.length true).map Dt.bl:=by unfold et;rw[aat,b_,List.map_replicate,List.eq_replicate_iff];refine⟨by simp,λb hb=>?_⟩;have⟨c,hc,rfl⟩:=aam.mp hb;show Dt.bl (!(Builtin.Str.occurrences (Str.ofString "abcdefghijklmnopqrstuvwxyz") ⟨#[c]⟩ 0 (Str.ofString "abcdefghijklmnopqrstuvwxyz").length 1).isEmpty)=_;rw[A9,aar ((CG c).mpr (h c hc))]
def wu:DF:=λas M q _=>∃n,as=[sD n]/\nP n/\q (.bl true) M
def sX:χ ["text"] ["text"] (ν pP):=.of rfl
def xC(F:cj K "is_name" "is_name" pP f fd)(E:Ev K mg Cl CT):Φ P w K mg base (bE P w) 1 f fd ["text"] (cm K wu):=by
 refine F.dZ sX (λds M q x h=>?_) (λaW A outer s H E' hr=>⟨_,(η (ο (bG (qe ι (bp E.aY (Ι (jv 0) δ))) (bG (qe (bp E.aY (Ι (jv 0) δ)) (iP E.hI)) (dP (y9 E.o3 (ζ (gq (ys:=[]) (Α:=[]) (.of sX rfl rfl rfl) (zx (jv 0)) (λC s H fp=>(Nj (jv 0) (zN E.r6)))) δ))))))),λds M q x h=>?_⟩)
 ·have⟨n,rfl,_⟩:=h;rfl
 ·have⟨n,rfl,hn,h⟩:=h;have l1:(mk n).length<=sizeLine:=by rw[ξ];exact Β (by have:=hn.2.1;omega)
  have el:((mk n).length:Int)=n.length:=by rw[ξ]
  have h1:=hn.1;have h8:=hn.2.1;refine⟨l1,λ_=>⟨l1,λ_=>?_,λz=>?_⟩,λz=>?_⟩
  ·refine⟨by unfold et;rw[List.length_map,b_];exact Β (),cy (f:=Eo) _ [] (λd hd q hq=>?_) ?_⟩
   ·have⟨c,_,rfl⟩:=aam.mp hd;exact hq
   rw[aap,yf hn.2.2];refine⟨_,rfl,?_⟩;have:(List.replicate n.length true).all id=true:=by simp
   rw[this];exact h
  ·have z:¬((mk n).length:Int)<=8:=aa0 z;omega
  ·have z:¬1<=((mk n).length:Int):=aa0 z;omega
def jO:DF:=λas M q _=>∃n,as=[sD n]/\nP n/\q (sD n) M
def uu:χ ["text"] ["text"] (ν jN):=.of rfl
def sV(F:cj K "read_name" "read_name" jN f fd)(E:Ev K mg Cl CT){CM:Addr}{Cp:FuncData}(mR:aq P w K mg base 1 "is_name" ["text"] wu CM Cp):Φ P w K mg base (bE P w) 2 f fd ["text"] (cm K jO):=by
 refine F.dZ uu (λds M q x h=>?_) (λaW A outer s H E' hr=>⟨_,(ε (Ε (dM (bu (Ρ mR hr π (Ι (jv 0) δ)))) (η (bh bR aaw E.bC E.bB (ζ av δ aG))) τ)
   (η (ο (jv 0)))),λds M q x h=>?_⟩)
 ·have⟨n,rfl,_⟩:=h;rfl
 ·have⟨n,rfl,hn,h⟩:=h;exact⟨n,rfl,hn,nofun,λ_=>h⟩
def Iv{p:Fr}(h:Lw p):rd (mk (fr p))=some p:=Jx h.2.1 h.2.2.2 h.1 h.2.2.1
def pW{CT:Addr}{p:Fr}{q:DQ}{x:LX}(h:Lw p)(hq:q (aV p) M):lL CT [sD (fr p)] M q x:=by refine⟨by rw[ξ];have:=fN h;omega,?_⟩;rw[Iv h];exact hq
def lQ:DF:=λas M q _=>∃p,as=[sD (ir++fr p)]/\Lw p/\q (aV p) M
def kG:χ ["text","words"] ["text"] (ν ij):=.of rfl
def qr(F:cj K "read_share" "read_share" ij f fd)(E:Ev K mg Cl CT)(ah:aq P w K mg base 3 "read_fraction" ["text"] (lL CT) bL bP):Φ P w K mg base (bE P w) 4 f fd ["text"] (cm K lQ):=by
 refine F.dZ kG (λds M q x h=>?_) (λaW A outer s H E' hr=>⟨_,(ε (υ 1 kG.nd (de (jv 0) (ζ av δ aG)))
   (ε (Ε (JW.jt (gr (eh hr (bp E.aY (Ι (jv 1) δ)) ι) (eD (eh hr (Δ (jv 1) ι) av)))) (η (bh bR aaw E.bC E.bB (ζ av δ aG))) τ)
   (η (ο (Ρ ah hr π (ζ (Δ (jv 1) ι) δ ak)))))),λds M q x h=>?_⟩)
 ·have⟨p,rfl,_⟩:=h;rfl
 ·have⟨p,rfl,hp,h⟩:=h;have lf:=fN hp;walk_at "vc";refine⟨⟨_,rfl⟩,?_⟩;refine(gI (c:=32) (tl:=[]) (ps:=[[115,104,97,114,101],fr p]) h_ Nm (by simp) (λy hy=>?_) ?_ ?_:eE (sD (ir++fr p)) [.str (Str.ofString " ")] M _)
  ·have hy:y=[115,104,97,114,101]\/y=fr p:=by simpa using hy
   rcases hy with rfl| rfl
   ·decide
   ·intro z;have:=vK z;omega
  ·show(ir++fr p).length<=_;rw[aab];show 6+_<=_;omega
  refine⟨nofun,λ_=>⟨λz=>aaE z (by decide+kernel),λ_=>pW hp h⟩⟩
def iK{n:Nat}:∀ps:List (List Nat),Dt.bc n (ps.map sD)
 | []=>trivial
 | _::ps=>⟨trivial,iK ps⟩
def yB(ns:List (List Nat))(d:oz):Dt:=.tup (sD (cL ns d.1)::(Υ d).map aV)
def jR:DF:=λas M q _=>∃d ns,as=[sD (bH ns d),.int (1+(Υ d).length:Nat)]/\cW ns/\rJ ns d/\q (yB ns d) M
def iA:χ ["text","length","words"] ["text","length"] (ν j6):=.of rfl
def rZ(F:cj K "read_door" "read_door" j6 f fd)(E:Ev K mg Cl CT){j':Addr}{j2:FuncData}(cv:aq P w K mg base 2 "read_name" ["text"] jO j' j2)(ah:aq P w K mg base 3 "read_fraction" ["text"] (lL CT) bL bP):Φ P w K mg base (bE P w) 4 f fd ["text","length"] (cm K jR):=by
 refine F.dZ iA (λds M q x h=>?_) (λaW A outer s H E' hr=>⟨_,(ε (υ 2 iA.nd (de (jv 0) (ζ av δ aG)))
   (ε (Ε (eh hr (bp E.aY (Ι (jv 2) δ)) (jv 1)) (η (bh bR aaw E.bC E.bB (ζ av δ aG))) τ)
   (η (ο (CN E.cY (ζ (ug (vR (ζ (Ρ cv hr π (ζ (Δ (jv 2) ι) δ ak)) δ bZ)) (br (ys:=[]) (Α:=[]) (.of iA rfl rfl rfl) (aZ (fH (oq (jv 2) ι))) (λC s H fp=>(Ρ ah hr (aK (P:=P) (w:=w)) (Ι (jv 0) δ))))) δ aN)))))),λds M q x h=>?_⟩)
 ·have⟨d,ns,rfl,_⟩:=h;rfl
 ·have⟨d,ns,rfl,hn,hd,h⟩:=h;have lf:(Υ d).length<=2:=by have:=hd.2.2;show d.2.2.length+1<=2;omega
  have⟨n1,n2⟩:=i8 hn hd.1.1 hd.1.2;walk_at "vc";refine⟨⟨_,rfl⟩,?_⟩;refine(gI (c:=32) (tl:=[]) (ps:=cL ns d.1::(Υ d).map fr) h_ Nm (by simp) (λy hy z=>?_) (by have:=gz hn hd;show(bH ns d).length<=_;omega) ?_:eE (sD (bH ns d)) [.str (Str.ofString " ")] M _)
  ·have:=ju hn hd hy z;omega
  have el:((((cL ns d.1::(Υ d).map fr).map sD).length:Nat):Int)=((1+(Υ d).length:Nat):Int):=by simp;omega
  refine(aP (d:=.lst ((cL ns d.1::(Υ d).map fr).map sD)) rfl ?_:nE [.lst ((cL ns d.1::(Υ d).map fr).map sD)] M _);refine⟨λz=>?_,λ_=>?_⟩
  ·have z:(!decide ((((cL ns d.1::(Υ d).map fr).map sD).length:Int)=((1+(Υ d).length:Nat):Int)))=true:=z;rw[aar el]at z;exact nomatch z
  refine(Γ (d:=.lst ((cL ns d.1::(Υ d).map fr).map sD)) rfl cc ?_:gT (.lst ((cL ns d.1::(Υ d).map fr).map sD)) (.int 0) M _);refine⟨cL ns d.1,rfl,n1,by show 1<=sizeLine;decide,?_⟩;dsimp only[cT,cJ,HR,GW,a_,dC];refine⟨_,1,rfl,rfl,?_⟩;refine ph (iK ((Υ d).map fr)) ?_;show(((Υ d).map fr).map sD).length<=sizeLine/\ck _ _ _ (((Υ d).map fr).map sD) [] M _;rw[aat];refine⟨by rw[aac];exact Β (),?_⟩;refine au (F:=λx a=>x=(sD ∘ fr) a/\a∈Υ d) (f:=aV) trivial (λx a ha q' fK=>?_) (aX (sD ∘ fr) (Υ d) (Υ d) λ_ h=>h) ?_
  ·have⟨rfl,ha⟩:=ha;exact pW (hd.2.1 a ha) fK
  rw[aap];exact⟨_,_,rfl,rfl,by rw[aac];exact Β (by show 1+_<=_;omega),_,rfl,h⟩
def gX(ns:List (List Nat)):Rw->Dt
 | .fin p=>.tup [.str "end",aV p]
 | .Λ k ds=>.tup [.str k,.lst (ds.map (yB ns))]
def JD:Rw->Prop
 | .fin _=>True
 | .Λ k ds=>∀d∈ds,d.2.2.length=if k="chance" then 1 else 0
def rA:DF:=λas M q _=>∃r ns,as=[sD (b8 r),sD (fM ns r)]/\cW ns/\yC ns r/\JD r/\q (gX ns r) M
def kj:χ ["kind","text"] ["kind","text"] (ν me):=.of rfl
def t_(F:cj K "read_row" "read_row" me f fd)(E:Ev K mg Cl CT)(ah:aq P w K mg base 3 "read_fraction" ["text"] (lL CT) bL bP){yg:Addr}{yo:FuncData}(fc:aq P w K mg base 4 "read_door" ["text","length"] jR yg yo):Φ P w K mg base (bE P w) 5 f fd ["kind","text"] (cm K rA):=by
 refine F.dZ kj (λds M q x h=>?_) (λaW A outer s H E' hr=>⟨_,(ε (Ε (bw hr (jv 0) av) (η (ο (cn (Ι (jv 0) (ζ (Ρ ah hr π (Ι (jv 1) δ)) δ bZ))))) τ)
   (ε (Ε (Ay (jv 0) (Dz E.uX)) (η (ο (cn (Ι (jv 0) (ζ (br (ys:=[]) (Α:=[]) (.of kj rfl rfl rfl) (aZ (de (jv 1) (ζ av δ aG))) (λC s H fp=>(Ρ fc hr (aK (P:=P) (w:=w)) (Ι (jv 0) (ζ ι δ aG))))) δ))))) τ)
   (ε (Ε (bw hr (jv 0) av) (η (ο (cn (Ι (jv 0) (ζ (br (ys:=[]) (Α:=[]) (.of kj rfl rfl rfl) (aZ (de (jv 1) (ζ av δ aG))) (λC s H fp=>(Ρ fc hr (aK (P:=P) (w:=w)) (Ι (jv 0) (ζ ι δ aG))))) δ))))) τ)
   (η (bh bR aaw E.bC E.bB (ζ av δ aG)))))),λds M q x h=>?_⟩)
 ·have⟨r,ns,rfl,_⟩:=h;rfl
 ·have⟨r,ns,rfl,hn,bU,hw,h⟩:=h;rw[show sD (b8 r)= .str (kindOf r) by rw[wb];rfl];cases r with
  | fin p=>
   walk_at "vc";exact⟨λ_=>pW (p:=p) bU ⟨gV,h⟩,nofun⟩
  | Λ k ds=>
   have ne:k≠"end":=by rcases bU.1 with rfl| rfl| rfl <;> decide
   have h6:=bU.2.2.1;have go:∀l:Nat,(∀d∈ds,1+(Υ d).length=l)->cT (cJ (Cj eE (a_ 1) (bW (dC (Dt.str (Str.ofString ", "))) ff))) (lX jR (bW (a_ 0) (bW (dC (Dt.int l)) ff))) [] [some (.str k),some (sD (fM ns (.Λ k ds)))] M (λQW M1=>2<=sizeLine/\q (Dt.tup [.str k,QW]) M1) (λ_=>x):=λl hl=>by
    dsimp only[cT,cJ,Cj,a_,dC,bW,ff,List.getElem?_cons_succ,List.getElem?_cons_zero];refine⟨⟨_,rfl⟩,?_⟩;refine(gI (c:=44) (tl:=[32]) (ps:=ds.map (bH ns)) EU Qk (λz=>by have z:=aaX List.length z;rw[aac]at z;have z:ds.length=0:=z;have:=bU.2.1;omega) (λy hy z=>?_) (by have:=lq hn bU;show(fM ns (.Λ k ds)).length<=_;omega) ?_:eE (sD (fM ns (.Λ k ds))) [.str (Str.ofString ", ")] M _)
    ·have⟨d,hd,rfl⟩:=aam.mp hy;have:=wm hn (bU.2.2.2 d hd) z;omega
    show((ds.map (bH ns)).map sD).length<=sizeLine/\ck _ _ _ ((ds.map (bH ns)).map sD) [] M _;rw[aat];refine⟨by rw[aac];exact Β (),?_⟩;refine au (F:=λx a=>x=(sD ∘ bH ns) a/\a∈ds) (f:=yB ns) trivial (λx a ha q' fK=>?_) (aX (sD ∘ bH ns) ds ds λ_ h=>h) ?_
    ·have⟨rfl,ha⟩:=ha;exact⟨a,ns,by rw[hl a ha];rfl,hn,bU.2.2.2 a ha,fK⟩
    rw[aap];exact⟨@_,h⟩
   walk_at "vc";refine⟨λz=>aaE (aaQ z) ne,λ_=>?_⟩;refine⟨.str k,[.str "one",.str "other"],[.str "one",.str "other"],rfl,rfl,rfl,?_⟩;rw[rH];refine⟨λhh=>go 2 λd hd=>?_,λhh=>?_⟩
   ·have nc:k≠"chance":=λe=>by rw[e]at hh;exact aaE hh @_
    have:=hw d hd;rw[aaH nc]at this;show 1+(d.2.2.length+1)=2;omega
   ·have kc:k="chance":=by
     rcases bU.1 with e| e| e
     ·rw[e]at hh;exact aaE hh @_
     ·rw[e]at hh;exact aaE hh @_
     ·exact e
    refine⟨λ_=>go 3 λd hd=>?_,λz=>aaE kc (aa0 z)⟩;have:=hw d hd;rw[aaN kc]at this;show 1+(d.2.2.length+1)=3;omega
def my:DF:=λas M q _=>∃n r ns,as=[sD (aD ns n r)]/\cW ns/\nP n/\yC ns r/\JD r/\q (.tup [sD n,gX ns r]) M
def kB:χ ["text","words"] ["text"] (ν iq):=.of rfl
def qj(F:cj K "read_place" "read_place" iq f fd)(E:Ev K mg Cl CT){zR:Addr}{Aj:FuncData}(j5:aq P w K mg base 5 "read_row" ["kind","text"] rA zR Aj){j':Addr}{j2:FuncData}(cv:aq P w K mg base 2 "read_name" ["text"] jO j' j2):Φ P w K mg base (bE P w) 6 f fd ["text"] (cm K my):=by
 refine F.dZ kB (λds M q x h=>?_) (λaW A outer s H E' hr=>⟨_,(ε (υ 1 kB.nd (vb (jv 0) (ζ av (ζ ι δ aG) aG)))
   (ε (Ε (eh hr (bp E.aY (Ι (jv 1) δ)) ι) (η (bh bR aaw E.bC E.bB (ζ av δ aG))) τ)
   (η (ο (cn (ζ (Ρ cv hr π (ζ (Δ (jv 1) ι) δ ak)) (ζ (Ρ j5 hr π (ζ (Δ (jv 1) ι) (ζ (Δ (jv 1) ι) δ ak) ak)) δ bZ) bZ)))))),λds M q x h=>?_⟩)
 ·have⟨n,r,ns,rfl,_⟩:=h;rfl
 ·have⟨n,r,ns,rfl,hn,h1,bU,hw,h⟩:=h;have lp:=kq hn h1 bU;have sp:(Txt.splitMax (mk (aD ns n r)) (Str.ofString " ") 2).map Dt.str=[sD n,sD (b8 r),sD (fM ns r)]:=by
   rw[h_]
   have:=mE (x:=mk (aD ns n r)) (c:=32) (tl:=[]) (l:=2) (ps:=[n,b8 r,fM ns r]) Nm (by
    rw[b_]
    exact .more (λz=>by have:=h1.2.2 _ z;omega) (.more (λz=>by have:=vY bU z;omega) (.last (.inl rfl))))
   rw[show((2:Nat):Int)=2 from rfl]at this;rw[this];rfl
  walk_at "vc";refine⟨⟨_,rfl⟩,⟨⟨by rw[h_];rfl,by rw[ξ];exact Β (),@_,@_⟩,?_⟩⟩;show _;rw[sp];refine⟨nofun,λ_=>?_⟩;exact⟨n,rfl,h1,r,ns,rfl,hn,bU,hw,gV,h⟩
def iQ(n:List Nat):Key:=Sum.inr (mk n)
def Fz(n:Nat):List Dt:=(List.range n).map λi:Nat=>Dt.int i
def gy(ns:List (List Nat)):MO:=.tI (ns.map iQ) (Fz ns.length)
def Bs{a b:List Nat}(h:mk a=mk b):a=b:=by have:=aaX (λz:Str=>z.cps.toList) h;exact this
def q_{a b:List Nat}(h:iQ a=iQ b):a=b:=Bs (Sum.inr.inj h)
def wO{n:List Nat}(ns:List (List Nat)):y4 (ns.map iQ) (iQ n)=decide (n∈ns):=by
 unfold y4;rw[abd,List.any_eq_true,aaR];constructor
 ·rintro⟨c,hc,e⟩;have⟨m,hm,rfl⟩:=aam.mp hc;rw[<-q_ (aaQ e)];exact hm
 ·intro h;exact⟨_,aam.mpr ⟨n,h,rfl⟩,aar rfl⟩
def yZ(j:Nat):Fz (j+1)=Fz j++[.int j]:=by unfold Fz;rw[List.range_succ,List.map_append];rfl
def rK{n:List Nat}{d:Dt}:∀{ns:List (List Nat)} {ds:List Dt} {i:Nat},ns.Nodup->ns.length=ds.length->ns[i]? =some n->ds[i]? =some d->eF (ns.map iQ) ds (iQ n)=some d
 | [],_,_,_,_,h,_=>by simp at h
 | _::_,[],_,_,h,_,_=>by simp at h
 | m::ns,e::ds,0,_,_,h,h'=>by cases h;cases h';unfold eF;rw[aaL,aaZ,List.find?_cons_of_pos (by exact aar rfl)];rfl
 | m::ns,e::ds,i+1,nd,hl,h,h'=>by have h:ns[i]? =some n:=h;have h':ds[i]? =some d:=h';have nd:=abe.mp nd;have ne:m≠n:=λz=>nd.1 (by rw[z];exact aaJ h);have ih:=rK (ns:=ns) (ds:=ds) (i:=i) nd.2 (by simpa using hl) h h';unfold eF at ih⊢;rw[List.map_cons,List.zip_cons_cons,List.find?_cons_of_neg (by simp only[decide_eq_true_eq];exactλz=>ne (q_ z))];exact ih
def s_:DF:=λas M q _=>∃k ns,as=[.loc k]/\M[k]? =some (.lst (ns.map sD))/\ns.Nodup/\ns.length<=12/\q (.loc M.length) (M++[gy ns])
def d7:χ ["names","numbers","number","name"] ["names"] (ν ia):=.of rfl
def qJ(F:cj K "numbers_of" "numbers_of" ia f fd)(E:Ev K mg Cl CT):Φ P w K mg base (bE P w) 1 f fd ["names"] (cm K s_):=by
 refine F.dZ d7 (λds M q x h=>?_) (λaW A outer s H E' hr=>⟨_,(ε (υ 1 d7.nd FW)
   (ε (qb (v7 E.cP (Ι (jv 0) δ)) (qM rfl (cK (cb (i:=2) d7.nd rfl (Or.inl rfl)) (cK (cb (i:=3) d7.nd rfl (Or.inl rfl)) k9))) ve (ε (Ε (GV hr (jv 3) (jv 1)) (η dz) τ)
   (η (CA hr (jv 1) (jv 3) (jv 2)))))
   (η (ο (jv 1))))),λds M q x h=>?_⟩)
 ·have⟨k,ns,rfl,_⟩:=h;rfl
 ·have⟨k,ns,rfl,hk,nd,uK,h⟩:=h;have kl:k < M.length:=(aai.mp hk).1;have yz:∀E:MO,(M++[E])[k]? =some (.lst (ns.map sD)):=λE=>by rw[aav kl];exact hk
  have pB:∀E:MO,(M++[E])[M.length]? =some E:=λE=>by simp
  walk_at "vc";dsimp only[DZ,Eg,bW,ff,a_];refine⟨.loc k,ns.map sD,λM':Ms=>M'[k]? =some (MO.lst (ns.map sD)),rfl,?_,?_⟩
  ·show(match (M++[MO.tI [] []])[k]? with| some (MO.lst xs)=>some (xs,λM':Ms=>M'[k]? =some (MO.lst xs))| _=>none)=_;rw[yz]
  refine jl (λxs ρ M'=>∃(done aC:List (List Nat)) (a b:Option Dt),xs=gk done.length (aC.map sD)/\ns=done++aC/\M'=M++[gy done]/\ρ=[some (.loc k),some (.loc M.length),a,b]) (λxs ρ M' hj=>by have⟨done,aC,a,b,_,_,rfl,_⟩:=hj;exact yz _) (λx xs ρ M' hj xP=>?_) (λρ M' hj=>?_) _ _ _ ⟨[],ns,none,none,rfl,rfl,rfl,rfl⟩
  ·have⟨done,aC,a,b,ex,e,rfl,rfl⟩:=hj;cases aC with
   | nil=>cases ex
   | cons n aC=>
    cases ex;have hn:n∉done:=λz=>by rw[e]at nd;exact(List.nodup_append.mp nd).2.2 n z n aad rfl
    have i0:y4 (done.map iQ) (iQ n)=false:=by rw[wO,aau hn]
    have dl:done.length < 1000:=by rw[e,aab]at uK;omega
    refine⟨M.length,_,_,iQ n,rfl,pB _,rfl,λz=>?_,λ_=>?_⟩
    ·rw[i0]at z;exact nomatch z
    refine⟨M.length,_,_,iQ n,rfl,pB _,rfl,by rw[aac];exact dl,?_⟩;refine xP _ _ ⟨done++[n],aC,_,_,by rw[aab];rfl,by rw[e,aaW];rfl,?_,rfl⟩;unfold oQ kR;rw[aaH (by rw[i0];decide),aaH (by rw[i0];decide)];unfold gy;rw[aab,show([n]:List (List Nat)).length=1 from rfl,yZ,List.map_append];simp
  ·have⟨done,aC,a,b,ex,e,rfl,rfl⟩:=hj;cases aC with
   | cons n aC=>cases ex
   | nil=>
    rw[aa2]at e;subst e;exact h
def su:DF:=λas M q _=>∃k ns d,as=[yB ns d,.loc k]/\M[k]? =some (gy ns)/\ns.Nodup/\(0<=d.1/\d.1 < ns.length)/\d.2.2.length<=1/\q (dh d) M
def mT:χ ["door","numbers"] ["door","numbers"] (ν eL):=.of rfl
def kU(F:cj K "numbered_door" "numbered_door" eL f fd)(E:Ev K mg Cl CT):Φ P w K mg base (bE P w) 1 f fd ["door","numbers"] (cm K su):=by
 refine F.dZ mT (λds M q x h=>?_) (λaW A outer s H E' hr=>⟨_,(ε (Ε (xv hr (Δ (jv 0) ι) (jv 1)) (η dz) τ)
   (η (ο (aa (cn (ζ (Gg hr (jv 1) (Δ (jv 0) ι)) δ ak)) (j0 (jv 0) ι))))),λds M q x h=>?_⟩)
 ·have⟨k,ns,d,rfl,_⟩:=h;rfl
 ·have⟨k,ns,d,rfl,hk,nd,⟨d0,d1⟩,l1,h⟩:=h;have hi:d.1.toNat < ns.length:=()
  have en:ns[d.1.toNat]? =some (cL ns d.1):=by unfold cL;rw[List.getD_eq_getElem?_getD,List.getElem?_eq_getElem hi];rfl
  have ed:(Fz ns.length)[d.1.toNat]? =some (.int d.1):=by unfold Fz;rw[aaB,List.getElem?_range hi,show(d.1:Int)=(d.1.toNat:Nat) by omega];rfl
  have gt:=rK nd (by unfold Fz;simp) en ed;have i1:y4 (ns.map iQ) (iQ (cL ns d.1))=true:=by rw[wO,aar (aaJ en)]
  walk_at "vc";refine(Γ (d:=yB ns d) rfl cc ?_:gT (yB ns d) (.int 0) M _);refine⟨k,_,_,iQ (cL ns d.1),rfl,hk,rfl,λz=>?_,λ_=>?_⟩
  ·rw[i1]at z;exact nomatch z
  dsimp only[DG,cQ,a_,dC];refine(Γ (d:=yB ns d) rfl cc ?_:gT (yB ns d) (.int 0) M _);refine⟨k,_,_,iQ (cL ns d.1),_,rfl,hk,rfl,gt,by show 1<=sizeLine;decide,?_⟩;refine⟨_,1,rfl,rfl,@_,by simp,⟨by simp,?_⟩,h⟩;show 1+((Υ d).map aV).length<=sizeLine;rw[aac];show 1+(d.2.2.length+1)<=sizeLine;exact Β ()
def wD:DF:=λas M q _=>∃k ns r,as=[gX ns r,.loc k]/\M[k]? =some (gy ns)/\ns.Nodup/\yC ns r/\q (ar r) M
def gU:χ ["row","numbers"] ["row","numbers"] (ν fk):=.of rfl
def mr(F:cj K "numbered_row" "numbered_row" fk f fd)(E:Ev K mg Cl CT){nA:Addr}{nK:FuncData}(dG:aq P w K mg base 1 "numbered_door" ["door","numbers"] su nA nK):Φ P w K mg base (bE P w) 2 f fd ["row","numbers"] (cm K wD):=by
 refine F.dZ gU (λds M q x h=>?_) (λaW A outer s H E' hr=>⟨_,(ε (Ε (bw hr (Δ (jv 0) ι) av) (η (ο (jv 0))) τ)
   (η (ο (cn (ζ (Δ (jv 0) ι) (ζ (br (ys:=["numbers"]) (Α:=[1]) (.of gU rfl rfl rfl) (aZ (Δ (jv 0) ι)) (λC s H fp=>(Ρ dG hr (aK (P:=P) (w:=w)) (Ι (jv 0) (Ι (jv 1) δ))))) δ) ak))))),λds M q x h=>?_⟩)
 ·have⟨k,ns,r,rfl,_⟩:=h;rfl
 ·have⟨k,ns,r,rfl,hk,nd,bU,h⟩:=h;cases r with
  | fin p=>exact⟨λ_=>h,nofun⟩
  | Λ kd ds=>
   have ne:kd≠"end":=by rcases bU.1 with rfl| rfl| rfl <;> decide
   walk_at "vc";refine⟨λz=>aaE (aaQ z) ne,λ_=>?_⟩;have h6:=bU.2.2.1;show((ds.map (yB ns)).length<=sizeLine/\ck _ _ _ (ds.map (yB ns)) [] M _);refine⟨by rw[aac];exact Β (),?_⟩;refine au (F:=λx a=>x=yB ns a/\a∈ds) (f:=dh) trivial (λx a ha q' fK=>?_) (aX (yB ns) ds ds λ_ h=>h) ?_
   ·have⟨rfl,ha⟩:=ha;have hd:=bU.2.2.2 a ha;exact⟨k,ns,a,rfl,hk,nd,hd.1,hd.2.2,fK⟩
   rw[aap];exact⟨gV,h⟩
structure ET(μ:Fr)(ns:List (List Nat))(θ:List Rw):Prop where
 t:EC μ ns θ
 w:∀r∈θ,JD r
 nd:ns.Nodup
 s:bY μ=true
 n1:1<=θ.length
 g:∀r∈θ,cV r/\d6 r θ.length=true
def l3(C:Addr):DF:=λas M q _=>∃μ ns θ,as=[sD (iC μ ns θ)]/\ET μ ns θ/\q (.tup [ip C μ θ,.loc M.length]) (M++[.lst (ns.map sD),gy ns])
def aF:χ ["text","parts","share","places","names","numbers","rows"] ["text"] (ν h9):=.of rfl
def qG(F:cj K "read_floor" "read_floor" h9 f fd)(E:Ev K mg Cl CT){uV:Addr}{uR:FuncData}(f_:aq P w K mg base 4 "read_share" ["text"] lQ uV uR){uk:Addr}{uD:FuncData}(fT:aq P w K mg base 6 "read_place" ["text"] my uk uD){u6:Addr}{u9:FuncData}(gx:aq P w K mg base 1 "numbers_of" ["names"] s_ u6 u9){qc:Addr}{pb:FuncData}(eN:aq P w K mg base 2 "numbered_row" ["row","numbers"] wD qc pb){hU:Addr}{ig:FuncData}(bX:Ca P w K mg base 5 "Floor" Cl ["self","share","rows"] (zf Cl) hU ig):Φ P w K mg base (bE P w) 7 f fd ["text"] (cm K (l3 Cl)):=by
 refine F.dZ aF (λds M q x h=>?_) (λaW A outer s H E' hr=>⟨_,(ε (υ 1 aF.nd (de (jv 0) (ζ av δ aG)))
   (ε (υ 2 aF.nd (Ρ f_ hr π (ζ (Δ (jv 1) ι) δ ak)))
   (ε (fW (i:=3) aF.nd rfl (Or.inl rfl) (ys:=[]) (Α:=[]) (.of aF rfl rfl rfl) (aZ (fH (oq (jv 1) ι))) (λC s H fp=>(Ρ fT hr (aK (P:=P) (w:=w)) (Ι (jv 0) δ))))
   (ε (iX (i:=4) aF.nd rfl (Or.inl rfl) (ys:=[]) (Α:=[]) (.of aF rfl rfl rfl) (aZ (jv 3)) (λC s H fp=>(Δ (jv 0) ι)))
   (ε (υ 5 aF.nd (Ρ gx hr π (Ι (jv 4) δ)))
   (ε (fW (i:=6) aF.nd rfl (Or.inl rfl) (ys:=["numbers"]) (Α:=[5]) (.of aF rfl rfl rfl) (aZ (jv 3)) (λC s H fp=>(Ρ eN hr (aK (P:=P) (w:=w)) (ζ (Δ (jv 0) ι) (Ι (jv 1) δ) ak))))
   (η (ο (cn (ζ (fH (zG bX hr π (Ι (jv 2) (Ι (jv 6) δ)))) (Ι (jv 4) δ) bZ)))))))))),λds M q x h=>?_⟩)
 ·have⟨μ,ns,θ,rfl,_⟩:=h;rfl
 ·have⟨μ,ns,θ,rfl,bU,h⟩:=h;have uK:=bU.t.2.1.1;have rl:=bU.t.2.2.1;have fl:(iC μ ns θ).length<=100000:=by have:=wk (s:=[59,32]) (m:=2402) (mO bU.t);rw[gj bU.t]at this;have:(ns.length+1) * 2402<=13 * 2402:=Nat.mul_le_mul_right _ ();show(jn [59,32] (aB μ ns θ)).length<=_;omega
  walk_at "vc";refine⟨⟨_,rfl⟩,?_⟩;refine(gI (c:=59) (tl:=[32]) (ps:=aB μ ns θ) EO Qx (by unfold aB;simp) (C2 bU.t) fl ?_:eE (sD (iC μ ns θ)) [.str (Str.ofString "; ")] M _);refine(Γ (d:=.lst ((aB μ ns θ).map sD)) rfl cc ?_:gT (.lst ((aB μ ns θ).map sD)) (.int 0) M _);refine⟨μ,rfl,bU.t.1,?_⟩;dsimp only[cT,cJ,HR,GW,a_,dC];refine⟨_,1,rfl,rfl,?_⟩;refine ph (iK ((ns.zip θ).map λp=>aD ns p.1 p.2)) ?_;show((((ns.zip θ).map λp=>aD ns p.1 p.2).map sD).length<=sizeLine/\ck _ _ _ (((ns.zip θ).map λp=>aD ns p.1 p.2).map sD) [] M _);have zl:(ns.zip θ).length<=sizeLine:=by rw[abo];exact Β ()
  rw[aat];refine⟨by rw[aac];exact zl,?_⟩;refine au (F:=λx a=>x=(sD ∘ λp:List Nat×Rw=>aD ns p.1 p.2) a/\a∈ns.zip θ) (f:=λp=>.tup [sD p.1,gX ns p.2]) trivial (λx a ha q' fK=>?_) (aX _ _ _ λ_ h=>h) ?_
  ·have⟨rfl,ha⟩:=ha;have m:=aaY ha;exact⟨a.1,a.2,ns,rfl,bU.t.2.1,bU.t.2.1.2 _ m.1,(bU.t.2.2.2 _ m.2).1,bU.w _ m.2,fK⟩
  rw[aap];show(((ns.zip θ).map λp=>Dt.tup [sD p.1,gX ns p.2]).length<=sizeLine/\ck _ _ _ ((ns.zip θ).map λp=>Dt.tup [sD p.1,gX ns p.2]) [] M _);refine⟨by rw[aac];exact zl,?_⟩;refine au (F:=λx a=>x=Dt.tup [sD a.1,gX ns a.2]/\a∈ns.zip θ) (f:=λp=>sD p.1) trivial (λx a ha q' fK=>?_) (aX _ _ _ λ_ h=>h) ?_
  ·have⟨rfl,ha⟩:=ha;exact fK
  rw[aap,show((ns.zip θ).map λp=>sD p.1)=ns.map sD by
   rw[show(λp:List Nat×Rw=>sD p.1)=sD ∘ Prod.fst from rfl,<-aat,List.map_fst_zip ()]]
  refine⟨M.length,ns,rfl,by simp,bU.nd,uK,?_⟩;show(((ns.zip θ).map λp=>Dt.tup [sD p.1,gX ns p.2]).length<=sizeLine/\ck _ _ _ ((ns.zip θ).map λp=>Dt.tup [sD p.1,gX ns p.2]) [] _ _);refine⟨by rw[aac];exact zl,?_⟩;refine au (F:=λx a=>x=Dt.tup [sD a.1,gX ns a.2]/\a∈ns.zip θ) (f:=λp=>ar p.2) trivial (λx a ha q' fK=>?_) (aX _ _ _ λ_ h=>h) ?_
  ·have⟨rfl,ha⟩:=ha;have m:=aaY ha;exact⟨_,ns,a.2,rfl,by simp,bU.nd,(bU.t.2.2.2 _ m.2).1,fK⟩
  rw[aap,show((ns.zip θ).map λp=>ar p.2)=θ.map ar by
   rw[show(λp:List Nat×Rw=>ar p.2)=ar ∘ Prod.snd from rfl,<-aat,List.map_snd_zip ()]]
  have eM:M++[MO.lst (ns.map sD)]++[gy ns]=M++[.lst (ns.map sD),gy ns]:=by simp
  rw[eM];generalize M++[MO.lst (ns.map sD),gy ns]=M2 at h;dsimp only[y_,bW,ff,a_];refine⟨M2.length,.lst (θ.map ar),μ,θ.map ar,θ,λ_=>True,rfl,by simp,rfl,pA _ _,bU.s,bU.n1,(),bU.g,rfl,?_⟩;rw[show(M2++[MO.ins Cl [] []]).set M2.length (.ins Cl ["kept_share","kept_rows"] [aV μ,.lst (θ.map ar)])=M2++[.ins Cl ["kept_share","kept_rows"] [aV μ,.lst (θ.map ar)]] by simp[List.set_append]];refine fv (d':=ip Cl μ θ) (.J1 (Nat.le_refl _) (by simp) (.cons (.old (iG μ)) (.cons (.old (gb θ)) .nil))) ?_;exact⟨gV,h⟩
def Ey(h0:0<=i)(h1:i < 26):ik (Str.ofString "abcdefghijklmnopqrstuvwxyz").cps.toList i=some (97+i.toNat):=by rw[DJ];have:=az (xs:=(List.range 26).map (97+ ·)) (j:=i.toNat) (v:=97+i.toNat) (by rw[aaB,List.getElem?_range ()];rfl);rwa[show((i.toNat:Nat):Int)=i by omega]at this
def pS{q:DQ}(h0:0<=i)(h1:i < 26)(h:q (sD [97+i.toNat]) M):gT (.str (Str.ofString "abcdefghijklmnopqrstuvwxyz")) (.int i) M q:=by refine⟨by show 26<=sizeLine;decide,?_⟩;rw[Ey h0 h1];exact h
def Cc(n c:Nat):qk n (mk [c])=mk (List.replicate n c):=eW (by
 rw[rF,b_]
 induction n with
 | zero=>rfl
 | succ n ih=>rw[aaU,aa5,ih,aaU];rfl)
def oO{g:Nat->List Nat}(h:∀i j,i < j->j < n->g i≠g j):((List.range n).map g).Nodup:=by refine List.pairwise_map.mpr (List.Pairwise.imp_of_mem (λ{a b} ha hb SI=>h a b SI (List.mem_range.mp hb)) List.pairwise_lt_range)
def oJ{n:List Nat}:∀{ns:List (List Nat)} {i:Nat},ns.Nodup->n∉ns->(ns.set i n).Nodup
 | [],_,h,_=>h
 | m::ns,0,h,hn=>abe.mpr ⟨λz=>hn (aae _ z),(abe.mp h).2⟩
 | m::ns,i+1,h,hn=>by
  have h:=abe.mp h;refine abe.mpr ⟨λz=>?_,oJ h.2 λz=>hn (aae _ z)⟩;rcases List.mem_or_eq_of_mem_set z with z| z
  ·exact h.1 z
  ·exact hn (by rw[<-z];exact aad)
def GF(Κ:Nat)(ns:List (List Nat)):Prop:=ns.length=Κ/\(∀n∈ns,nP n)/\ns.Nodup
def oG:∀ns:List (List Nat),dW (ns.map sD)=some (ns.map λn=>V.str (mk n))
 | []=>rfl
 | n::ns=>by show(match rS (sD n),dW (ns.map sD) with| some v,some vs=>some (v::vs)| _,_=>none)=_;rw[oG ns];rfl
def zB(n:List Nat)(ns:List (List Nat)):Fj (V.str (mk n)) (ns.map λn=>V.str (mk n))=decide (n∈ns):=by
 unfold Fj;rw[abd,List.any_eq_true,aaR];constructor
 ·rintro⟨c,hc,e⟩;have⟨m,hm,rfl⟩:=aam.mp hc;have e:(mk m==mk n)=true:=e;rw[<-Bs (eq_of_beq e)];exact hm
 ·intro h;refine⟨_,aam.mpr ⟨n,h,rfl⟩,?_⟩;show(mk n==mk n)=true;exact beq_self_eq_true _
def Bo{j:Nat}(h:j<=st.length):Txt.slice (mk st) none (some (j:Int))=mk (st.take j):=by have e:Txt.slice (mk st) none (some (j:Int))=StrLaws.sliceText (mk st) none (some (j:Int)):=rfl;rw[e,StrLaws.sliceText_to ⟨(),by rw[b_];omega⟩,b_];refine eW ?_;show(st.drop 0).take ((j:Int) - 0).toNat=_;rw[List.drop_zero,show((j:Int) - 0).toNat=j by omega]
def tX{j:Nat}(h:j<=st.length):Txt.slice (mk st) (some (j:Int)) none=mk (st.drop j):=by have e:Txt.slice (mk st) (some (j:Int)) none=StrLaws.sliceText (mk st) (some (j:Int)) none:=rfl;rw[e,StrLaws.sliceText_from ⟨(),by rw[b_];omega⟩,b_];refine eW ?_;show(st.drop (j:Int).toNat).take ((st.length:Int) - j).toNat=_;rw[abB];exact abm (by rw[aba];omega)
def zi:∀cs:List Nat,jn [] (cs.map λc=>[c])=cs
 | []=>rfl
 | [c]=>rfl
 | c::d::r=>by have:=zi (d::r);show[c]++([]++jn [] ((d::r).map λc=>[c]))=_;rw[this];rfl
def He(a b k:Nat):List Nat:=if k < 8 then List.replicate (k+1) a else List.replicate (k - 7) b
def Gw{a b:Nat}(ha:97<=a/\a<=122)(hb:97<=b/\b<=122)(ab:a≠b)(hn:n<=12):GF n ((List.range n).map (He a b)):=by
 refine⟨by simp,λy hy=>?_,oO λi j J0 hj e=>?_⟩
 ·have⟨k,hk,rfl⟩:=aam.mp hy;have hk:=List.mem_range.mp hk;unfold He;split
  ·refine⟨by rw[aao];omega,by rw[aao];omega,λc hc=>?_⟩;rw[(abA.mp hc).2];exact ha
  ·refine⟨by rw[aao];omega,by rw[aao];omega,λc hc=>?_⟩;rw[(abA.mp hc).2];exact hb
 ·unfold He at e;split at e <;> split at e
  ·have:=aaX List.length e;rw[aao,aao]at this;omega
  ·have h1:a∈List.replicate (i+1) a:=abA.mpr ⟨(),rfl⟩;rw[e]at h1;exact ab (abA.mp h1).2
  ·omega
  ·have:=aaX List.length e;rw[aao,aao]at this;omega
def y6(st:List Nat)(cut:Nat)(a:Int)(k:Nat):List Nat:=st.take cut++[97+((a+k) % 26).toNat]++st.drop cut
def GB{cut:Nat}{a:Int}(hs:∀c∈st,97<=c/\c<=122)(h7:st.length<=7)(hc:cut<=st.length)(hn:n<=12):GF n ((List.range n).map (y6 st cut a)):=by
 refine⟨by simp,λy hy=>?_,oO λi j J0 hj e=>?_⟩
 ·have⟨k,hk,rfl⟩:=aam.mp hy;have l:(y6 st cut a k).length=st.length+1:=by unfold y6;simp only[List.length_append,List.length_take,List.length_drop,List.length_cons,List.length_nil];omega
  refine⟨(),(),λc h=>?_⟩;unfold y6 at h;rcases aaI.mp h with h| h
  ·rcases aaI.mp h with h| h
   ·exact hs c (List.mem_of_mem_take h)
   ·have:c=97+((a+k) % 26).toNat:=by simpa using h
    omega
  ·exact hs c (List.mem_of_mem_drop h)
 ·unfold y6 at e;rw[aaW,aaW]at e;have e:=List.append_cancel_left e;have e:(97+((a+i) % 26).toNat)=97+((a+j) % 26).toNat:=(List.cons.inj e).1;omega
def LR(f:Nat->Dt)(x:Dt):Dt:=match x with
 | .int j=>f j.toNat
 | _=>.aR
def wc(f:Nat->Dt)(n:Nat):(d4 0 (n:Int).toNat).map (LR f)=(List.range n).map f:=by unfold d4;rw[aat,show(n:Int).toNat=n by omega];apply aa7;intro k _;show f (0+(k:Int)).toNat=f k;rw[show(0+(k:Int)).toNat=k by omega]
def sE{q:DQ}(e:i=(n:Nat))(h1:1<=n)(h2:n<=100)(h:q (sD (List.replicate n c)) M):vz (sD [c]) (.int i) M q:=by subst e;refine⟨⟨(),(),by rw[ξ];show 1<=100;decide,by rw[ξ];show 1≠0;decide⟩,?_⟩;show q (.str (qk (n:Int).toNat (mk [c]))) M;rw[abB,Cc];exact h
def GY{cut k:Nat}{cell:Int}{q:DQ}(s7:st.length<=7)(hc:cut<=st.length)(hq:q (sD (y6 st cut (cell / 64) k)) M):cQ kZ (cQ kZ (Bf (a_ 1) none (some (a_ 3))) (cQ gT (a_ 2) (cQ BG (cQ kZ (cQ Cg (a_ 4) (dC (.int 64))) (a_ 0)) (dC (.int 26))))) (Bf (a_ 1) (some (a_ 3)) none) [some (.int (0+(k:Int))),some (sD st),some (.str (Str.ofString "abcdefghijklmnopqrstuvwxyz")),some (.int cut),some (.int cell)] M q gP:=by
 have l1:(mk st).length<=sizeLine:=by rw[ξ];exact Β ()
 dsimp only[cQ,Bf,a_,dC,List.getElem?_cons_zero,List.getElem?_cons_succ,sD];refine⟨l1,⟨@_,bg (k:=10) @_⟩,@_,pS (aaK _ @_) (aaF _ @_) ?_⟩;rw[Bo hc,aby];refine⟨by rw[ξ,ξ,abi];exact Β (by show _+1<=_;omega),l1,?_⟩;rw[tX hc];refine⟨by rw[Η,ξ,ξ,aab,abi,aba];exact Β (by show _+1+_<=_;omega),?_⟩;show q (.str (mk (st.take cut)++mk [97+((cell / 64+(k:Int)) % 26).toNat]++mk (st.drop cut))) M;rw[Η,Η];exact hq
def eZ:List (List Nat):=[[115,104,97,114,101],[111,110,101],[111,116,104,101,114],[99,104,97,110,99,101],[101,110,100]]
def C5:[Dt.str (Str.ofString "share"),.str (Str.ofString "one"),.str (Str.ofString "other"),.str (Str.ofString "chance"),.str (Str.ofString "end")]=eZ.map sD:=by show _=[Dt.str (mk [115,104,97,114,101]),.str (mk [111,110,101]),.str (mk [111,116,104,101,114]),.str (mk [99,104,97,110,99,101]),.str (mk [101,110,100])];rw[show Str.ofString "share"=mk [115,104,97,114,101] by decide+kernel,show Str.ofString "one"=mk [111,110,101] by decide+kernel,show Str.ofString "other"=mk [111,116,104,101,114] by decide+kernel,show Str.ofString "chance"=mk [99,104,97,110,99,101] by decide+kernel,show Str.ofString "end"=mk [101,110,100] by decide+kernel]
def Cz:∀n∈eZ,nP n:=λn hn=>by
 have:∀n∈eZ,1<=n.length/\n.length<=8/\∀c∈n,97<=c/\c<=122:=@_
 exact this n hn
def C8{Κ i:Nat}{n:List Nat}(h:GF Κ ns)(hn:nP n)(h0:n∉ns):GF Κ (ns.set i n):=by
 refine⟨by rw[aa6];exact h.1,λy hy=>?_,oJ h.2.2 h0⟩;rcases List.mem_or_eq_of_mem_set hy with hy| rfl
 ·exact h.2.1 y hy
 ·exact hn
def zm:DF:=λas M q _=>∃(cell:Int) (Κ:Nat),as=[.int cell,.int Κ]/\0<=cell/\cell < 10 ^ 9/\1<=Κ/\Κ<=12/\∀ns,GF Κ ns->q (.loc M.length) (M++[.lst (ns.map sD)])
def aj:χ ["_law_cell","_law_many","_law_letters","_law_way","_law_sign","_law_other","_law_stem","_law_cut","_law_found","_law_some","_law_k"] ["_law_cell","_law_many"] (ν jT):=.of rfl
def sR(F:cj K "_law_names" "_law_names" jT f fd)(E:Ev K mg Cl CT):Φ P w K mg base (bE P w) 1 f fd ["_law_cell","_law_many"] (cm K zm):=by
 refine F.dZ aj (λds M q x h=>?_) (λaW A outer s H E' hr=>⟨_,(ε (υ 2 aj.nd av)
   (ε (υ 3 aj.nd (ao (jv 0) ι))
   (ε (υ 0 aj.nd (bx (jv 0) ι))
   (ε (Ε (bw hr (jv 3) ι) (ε (υ 4 aj.nd (Δ (jv 2) (ao (jv 0) ι)))
   (ε (υ 5 aj.nd (Δ (jv 2) (ao (aa (aa (jv 0) ι) (ao (bx (jv 0) ι) ι)) ι)))
   (η (ο (B2 (ys:=["_law_sign","_law_other"]) (Α:=[4,5]) (.of aj rfl rfl rfl) (bz E.bq (Ι (jv 1) δ)) (λC s H fp=>(D4 (kE (jv 0) ι) (Bl (jv 1) (aa (jv 0) ι)) (Bl (jv 2) (r8 (jv 0) ι))))))))) τ)
   (ε (υ 6 aj.nd (dq av (ζ (gq (ys:=["_law_letters","_law_cell"]) (Α:=[2,0]) (.of aj rfl rfl rfl) (bz E.bq (ζ (ao (jv 0) ι) δ aN)) (λC s H fp=>(Δ (jv 1) (ao (aa (bx (jv 2) ι) (e9 (jv 0) (ao (bx (jv 2) ι) ι))) ι)))) δ)))
   (ε (υ 7 aj.nd (ao (bx (jv 0) ι) (aa (bp E.aY (Ι (jv 6) δ)) ι)))
   (ε (iX (i:=8) aj.nd rfl (Or.inl rfl) (ys:=["_law_stem","_law_letters","_law_cut","_law_cell"]) (Α:=[6,2,7,0]) (.of aj rfl rfl rfl) (Ae (bz E.bq (Ι (jv 1) δ))) (λC s H fp=>(aa (aa (Gv (jv 1) (jv 3)) (Δ (jv 2) (ao (aa (bx (jv 4) ι) (jv 0)) ι))) (sd (jv 1) (jv 3)))))
   (ε (l0 (Ε (bw hr (jv 3) ι) (ε (υ 9 aj.nd (gE 3 (d:=.lst [.str "share",.str "one",.str "other",.str "chance",.str "end"]) (by rfl)))
   (η (uW (bz E.bq (ζ (IJ E.v9 (Ι (jv 1) (ζ ι δ aG))) δ bZ)) (cb (i:=10) aj.nd rfl (Or.inl rfl)) cD (η (Ε (xq (Δ (jv 9) (jv 10)) (jv 8)) (η (zX (jv 8) (ao (aa (jv 0) (jv 10)) (jv 1)) (Δ (jv 9) (jv 10)))) τ))))) τ))
   (η (ο (jv 8))))))))))),λds M q x h=>?_⟩)
 ·have⟨cell,Κ,rfl,_⟩:=h;rfl
 ·have⟨tj,Κ,rfl,c0,c1,m1,Kd,h⟩:=h;have c1:tj < 1000000000:=c1;walk_at "vc";refine⟨@_,⟨@_,b3⟩,?_⟩;generalize hw:tj % 3=way;have x0:0<=tj / 3:=()
  have x1:tj / 3 < 1000000000:=()
  generalize tj / 3=cell at x0 x1⊢;refine⟨λz=>?_,λz=>?_⟩
  ·refine⟨@_,pS () () ?_⟩;generalize ha:97+(cell % 26).toNat=a;refine⟨⟨@_,bg (k:=10) @_⟩,@_,@_,pS () () ?_⟩;generalize hb:97+((cell+1+cell / 26 % 25) % 26).toNat=b;refine⟨⟨(),()⟩,by rw[aH];exact Β (),?_⟩;refine cy (f:=LR λk=>sD (He a b k)) _ _ (λx rL q' hq=>?_) ?_
   ·have⟨k,yz,rfl⟩:=cg rL;have hq:q' (sD (He a b (0+(k:Int)).toNat)) M:=hq;rw[show(0+(k:Int)).toNat=k by omega]at hq;unfold He at hq;refine⟨λz=>?_,λz=>?_⟩
    ·have z:0+(k:Int) < 8:=aaQ z;rw[aaN ()]at hq;exact sE (n:=k+1) () () () hq
    ·have z:¬0+(k:Int) < 8:=aa0 z;rw[aaH ()]at hq;exact sE (n:=k - 7) () () () hq
   ·rw[aap,wc];have:=h _ (Gw (a:=a) (b:=b) (n:=Κ) () () () Kd);rw[aat]at this;exact this
  refine⟨⟨_,rfl⟩,@_,⟨(),()⟩,by rw[aH];exact Β (),?_⟩;refine dm (f:=λc:Nat=>sD [c]) (λc=>97<=c/\c<=122) _ [] (λ_ z=>(nomatch z)) (λx rL q' hq=>?_) λst vx Hr=>?_
  ·have⟨k,hk,rfl⟩:=cg rL;refine⟨⟨@_,bg (k:=10) @_⟩,⟨@_,bg (k:=10) @_⟩,@_,⟨bg (k:=20) (),bg (k:=10) ()⟩,@_,pS (aaK _ @_) (aaF _ @_) (hq _ ?_)⟩;have e0:=aaK (cell / 26+(0+(k:Int)) * (cell / 7 % 5)) (show(26:Int)≠0 by decide);have e1:=aaF (cell / 26+(0+(k:Int)) * (cell / 7 % 5)) (show(0:Int) < 26 by decide);omega
  have s7:st.length<=7:=by rw[vx,aH];simp;omega
  refine dU (sl:=[]) (ps:=st.map λc=>[c]) (by decide+kernel) (by show some _=_;rw[aat];rfl) 7 1 (by rw[aac];exact s7) (λp hp=>?_) @_ ?_
  ·have⟨c,_,rfl⟩:=aam.mp hp;exact aaj 1
  rw[zi];have l1:(mk st).length<=sizeLine:=by rw[ξ];exact Β ()
  have el:((mk st).length:Int)=st.length:=by rw[ξ]
  refine⟨⟨@_,bg (k:=10) @_⟩,l1,(by omega:(0:Int) < ((mk st).length:Int)+1),?_⟩;have m0:=aaK (cell / 8) (show((mk st).length:Int)+1≠0 by omega);have m2:=aaF (cell / 8) (show(0:Int) < ((mk st).length:Int)+1 by omega);obtain⟨cut,ec⟩:∃cut:Nat,cell / 8 % (((mk st).length:Int)+1)=cut:=⟨_,(Int.toNat_of_nonneg m0).symm⟩;rw[ec]at m2;rw[ec];have hc:cut<=st.length:=()
  dsimp only[jd,OU,A1,bW,ff,a_];refine⟨⟨(),()⟩,by rw[aH];exact Β (),?_⟩;refine cp (f:=LR λk=>sD (y6 st cut (cell / 64) k)) trivial (λx rL q' hq=>?_) ?_
  ·have⟨k,yz,rfl⟩:=cg rL;have hq:q' (sD (y6 st cut (cell / 64) (0+(k:Int)).toNat)) M:=hq;rw[show(0+(k:Int)).toNat=k by omega]at hq;exact GY s7 hc hq
  rw[aap,wc];have n0:=GB (a:=cell / 64) (n:=Κ) Hr s7 hc Kd;rw[show(λk=>sD (y6 st cut (cell / 64) k))=sD ∘ y6 st cut (cell / 64) from rfl,<-aat];generalize (List.range Κ).map (y6 st cut (cell / 64))=Oq at n0⊢;refine⟨λρ M'=>∃(ns:List (List Nat)) (a b:Option Dt),GF Κ ns/\M'=M++[.lst (ns.map sD)]/\ρ=[some (.int cell),some (.int Κ),some (.str (Str.ofString "abcdefghijklmnopqrstuvwxyz")),some (.int way),none,none,some (sD st),some (.int cut),some (.loc M.length),a,b],⟨λ_=>?_,λ_=>⟨Oq,none,none,n0,rfl,rfl⟩⟩,?_⟩
  ·walk_at "vc";rw[C5];refine⟨⟨by split <;> omega,by split <;> omega⟩,?_⟩;obtain⟨c,ec,c5⟩:∃c:Nat,(if (5:Int) < (Κ:Int) then (5:Int) else Κ).toNat=c/\c<=5:=⟨_,rfl,by split <;> omega⟩;rw[ec];refine iZ (λxs ρ M'=>∃(n k:Nat) (ns:List (List Nat)) (b:Option Dt),xs=d4 k n/\k+n=c/\GF Κ ns/\M'=M++[MO.lst (ns.map sD)]/\ρ=[some (.int cell),some (.int Κ),some (.str (Str.ofString "abcdefghijklmnopqrstuvwxyz")),some (.int way),none,none,some (sD st),some (.int cut),some (.loc M.length),some (.lst (eZ.map sD)),b]) (λx xs ρ M' hj xP=>?_) (λρ M' hj=>?_) _ _ _ ⟨c,0,Oq,none,rfl,(),n0,rfl,rfl⟩
   ·have⟨n,k,ns,b,ex,JQ,hn,rfl,rfl⟩:=hj;have⟨m,rfl,rfl,rfl⟩:=jH ex;have k5:k < eZ.length:=by show k < 5;omega
    have e5:ik (eZ.map sD) (k:Int)=some (sD eZ[k]):=az (by rw[aaB,aaa k5];rfl);have OY:=Cz eZ[k] (aaS k5);generalize eZ[k]=wd at e5 OY;have pB:(M++[MO.lst (ns.map sD)])[M.length]? =some (.lst (ns.map sD)):=by simp
    have sq:i9 (M++[MO.lst (ns.map sD)]) (.loc M.length)=some (ns.map sD):=by show(match (M++[MO.lst (ns.map sD)])[M.length]? with| some (MO.lst xs)=>some xs| _=>none)=_;rw[pB]
    have e1:((k:Int)+1)=((k+1:Nat):Int):=rfl;walk_at "vc";refine(Γ (d:=.lst (eZ.map sD)) rfl e5 ?_:gT (.lst (eZ.map sD)) (.int (k:Int)) _ _);refine⟨V.str (mk wd),ns.map sD,_,rfl,sq,oG ns,?_⟩;rw[zB];refine⟨λz=>?_,λz=>xP _ _ ⟨m,k+1,ns,_,rfl,(),hn,rfl,rfl⟩⟩;have h0:wd∉ns:=by have z:(!decide (wd∈ns))=true:=z;rw[Bool.not_eq_true',decide_eq_false_iff_not]at z;exact z
    dsimp only[Ao,cQ,a_];refine(Γ (d:=.lst (eZ.map sD)) rfl e5 ?_:gT (.lst (eZ.map sD)) (.int (k:Int)) _ _);have q0:=aaK (cell+k) (show(Κ:Int)≠0 by omega);have q1:=aaF (cell+k) (show(0:Int) < (Κ:Int) by omega);refine⟨(by omega:(0:Int) < (Κ:Int)),M.length,(cell+k) % Κ,ns.map sD,((cell+k) % Κ).toNat,rfl,rfl,pB,?_,?_⟩
    ·unfold Bw;rw[aac,hn.1,aaN q0,aaN q1]
    refine xP _ _ ⟨m,k+1,ns.set ((cell+k) % Κ).toNat wd,_,rfl,(),C8 hn OY h0,?_,rfl⟩;rw[List.map_set];simp
   ·have⟨n,k,ns,b,ex,JQ,hn,rfl,rfl⟩:=hj;exact⟨ns,_,_,hn,rfl,rfl⟩
  ·rintro ρ' M' ⟨ns,a,b,hn,rfl,rfl⟩;exact h ns hn
def Fb:DF:=λas M q _=>∃p,as=[aV p]/\Lw p/\q (sD (fr p)) M
def nF:χ ["_law_one"] ["_law_one"] (ν fD):=.of rfl
def mB(F:cj K "_law_fraction" "_law_fraction" fD f fd)(E:Ev K mg Cl CT):Φ P w K mg base (bE P w) 1 f fd ["_law_one"] (cm K Fb):=by
 refine F.dZ nF (λds M q x h=>?_) (λaW A outer s H E' hr=>⟨_,(ε (Ε (bw hr (Δ (jv 0) ι) ι) (η (ο (wo E.gs (ζ (Δ (jv 0) ι) δ ak)))) τ)
   (η (ο (aa (aa (wo E.gs (ζ (Δ (jv 0) ι) δ ak)) av) (wo E.gs (ζ (Δ (jv 0) ι) δ ak)))))),λds M q x h=>?_⟩)
 ·have⟨p,rfl,_⟩:=h;rfl
 ·have⟨p,rfl,⟨h1,h2,h3,_⟩,h⟩:=h;refine⟨λhb=>?_,λhb=>?_⟩
  ·have yD:p.2=1:=aaQ hb;have e:sD (fr p)= .str (Str.ofString (toString p.1)):=by unfold sD fr;rw[<-OD yD]
   rw[e]at h;exact⟨dg h1,h⟩
  ·have yD:p.2≠1:=aa0 hb;have l1:=lj h1;have l2:=lj h3;have e1:(Str.ofString (toString p.1)++Str.ofString "/").length<=62:=by rw[fG,ou,Η,ξ,aab];show _+1<=62;omega
   refine⟨dg h1,?_,dg h3,?_,?_⟩
   ·rw[fG,ou,ξ,ξ];exact Β (by show _+1<=_;omega)
   ·have:(Str.ofString (toString p.2)).length<=61:=by rw[fG,ξ];exact l2
    exact Β ()
   ·show q (.str (Str.ofString (toString p.1)++Str.ofString "/"++Str.ofString (toString p.2))) M;rw[fG,ou,fG,Nw h2 yD];exact h
def A4{d:oz}{q:DQ}(hn:cW ns)(hd:rJ ns d)(h:q (sD (bH ns d)) M):cQ kZ (cQ kZ (cQ gT (a_ 1) (cQ gT (a_ 0) (dC (.int 0)))) (dC (.str (Str.ofString " ")))) (Cj om (dC (.str (Str.ofString " "))) (bW (cT (cJ (B3 (a_ 0) (dC (.int 1)))) (lX Fb (bW (a_ 0) ff)) []) ff)) [some (dh d),some (.lst (ns.map sD))] M q gP:=by
 have⟨n1,n2⟩:=i8 hn hd.1.1 hd.1.2;have l8:=n1.2.1;have lf:(Υ d).length<=2:=by have:=hd.2.2;show d.2.2.length+1<=2;omega
 dsimp only[cQ,a_,dC,Cj,bW,ff,cT,cJ,B3,List.getElem?_cons_zero,List.getElem?_cons_succ];refine(Γ (d:=dh d) (xs:=.int d.1::aV d.2.1::d.2.2.map aV) rfl cc ?_:gT (dh d) (.int 0) M _);refine(Γ (d:=.lst (ns.map sD)) rfl n2 ?_:gT (.lst (ns.map sD)) (.int d.1) M _);refine⟨by rw[h_,ξ,ξ];exact Β (by show _+1<=_;omega),⟨_,rfl⟩,?_⟩;refine⟨_,1,rfl,rfl,@_,by simp,?_⟩;show(((Υ d).map aV).length<=sizeLine/\ck _ _ _ ((Υ d).map aV) [] M _);refine⟨by rw[aac];exact Β (),?_⟩;refine au (F:=λx a=>x=aV a/\a∈Υ d) (f:=λp=>sD (fr p)) trivial (λx a ha q' fK=>?_) (aX aV (Υ d) (Υ d) λ_ h=>h) ?_
 ·have⟨rfl,ha⟩:=ha;exact⟨a,rfl,hd.2.1 a ha,fK⟩
 rw[aap];have lp:∀p∈(Υ d).map fr,p.length+1<=123:=λp hp=>iz hn hd p (aae _ hp);have e:bH ns d=cL ns d.1++([32]++jn [32] ((Υ d).map fr)):=rfl;have ld:=gz hn hd;rw[e,aab,aab]at ld;refine dU (ps:=(Υ d).map fr) h_ (by show some _=_;rw[aat];rfl) 2 123 (by rw[aac];exact lf) lp @_ ?_;refine⟨?_,?_⟩
 ·show(mk (cL ns d.1)++Str.ofString " ").length+(mk (jn [32] ((Υ d).map fr))).length<=sizeLine;rw[h_,Η,ξ,ξ,aab];exact Β ()
 ·show q (.str (mk (cL ns d.1)++Str.ofString " "++mk (jn [32] ((Υ d).map fr)))) M;rw[h_,Η,Η,aaW];exact h
def yU{μ:Fr}{θ:List Rw}{k:Nat}(h:k < ns.length)(h':k < θ.length):(aB μ ns θ).take (k+1+1)=(aB μ ns θ).take (k+1)++[aD ns ns[k] θ[k]]:=by
 rw[List.take_succ (i:=k+1)];have e:(aB μ ns θ)[k+1]? =some (aD ns ns[k] θ[k]):=by show(((ns.zip θ).map λp=>aD ns p.1 p.2))[k]? =_;rw[aaB,List.getElem?_zip_eq_some (z:=(ns[k],θ[k]))|>.mpr ⟨aaa h,aaa h'⟩];rfl
 rw[e];rfl
def zC:(Str.ofString " end ")=mk (32::([101,110,100]++[32])):=by decide+kernel
def Ef:DF:=λas M q _=>∃μ ns θ,as=[aV μ,.lst (θ.map ar),.lst (ns.map sD)]/\EC μ ns θ/\∀E,q (sD (iC μ ns θ)) (M++[E])
def b7:χ ["_law_share_here","_law_rows_here","_law_names_here","_law_parts","_law_at","_law_kind","_law_told","_law_doors"] ["_law_share_here","_law_rows_here","_law_names_here"] (ν lZ):=.of rfl
def ub(F:cj K "_law_text" "_law_text" lZ f fd)(E:Ev K mg Cl CT){pY:Addr}{qA:FuncData}(bK:aq P w K mg base 1 "_law_fraction" ["_law_one"] Fb pY qA):Φ P w K mg base (bE P w) 2 f fd ["_law_share_here","_law_rows_here","_law_names_here"] (cm K Ef):=by
 refine F.dZ b7 (λds M q x h=>?_) (λaW A outer s H E' hr=>⟨_,(ε (υ 3 b7.nd (AX (ζ (aa av (Ρ bK hr π (Ι (jv 0) δ))) δ aN)))
   (ε (uW (bz E.bq (ζ (bp E.aY (Ι (jv 1) δ)) δ bZ)) (cb (i:=4) b7.nd rfl (Or.inl rfl)) cD (ε (Cw (Δ (jv 1) (jv 4)) (qM rfl (cK (cb (i:=5) b7.nd rfl (Or.inl rfl)) (cK (cb (i:=6) b7.nd rfl (Or.inl rfl)) k9))))
   (η (Ε (bw hr (jv 5) av) (η (iU (fX (jv 3) (ζ (aa (aa (Δ (jv 2) (jv 4)) av) (Ρ bK hr π (Ι (jv 6) δ))) δ aN)))) (ε (fW (i:=7) b7.nd rfl (Or.inl rfl) (ys:=["_law_names_here"]) (Α:=[2]) (.of b7 rfl rfl rfl) (aZ (jv 6)) (λC s H fp=>(aa (aa (Δ (jv 1) (Δ (jv 0) ι)) av) (dq av (ζ (br (ys:=[]) (Α:=[]) (.inner (xs:=["_law_way"]) (ys:=["_law_names_here"]) (Α:=[2]) (.of b7 rfl rfl rfl) rfl rfl) (aZ (j0 (jv 0) ι)) (λC s H fp=>(Ρ bK hr (aK (P:=P) (w:=w)) (Ι (jv 0) δ)))) δ)))))
   (η (iU (fX (jv 3) (ζ (aa (aa (aa (aa (Δ (jv 2) (jv 4)) av) (jv 5)) av) (dq av (Ι (jv 7) δ))) δ aN)))))))))
   (η (ο (dq av (Ι (jv 3) δ)))))),λds M q x h=>?_⟩)
 ·have⟨μ,ns,θ,rfl,_⟩:=h;rfl
 ·have⟨μ,ns,θ,rfl,hf,h⟩:=h;have lf:=fN hf.1;walk_at "vc";dsimp only[Eb,cQ,dC,lX,bW,ff,a_];refine⟨μ,rfl,hf.1,⟨by rw[shr,ξ,ξ];exact Β (by show 6+_<=_;omega),?_⟩⟩;have uK:=hf.2.1.1;have rl:=hf.2.2.1;rw[shr,Η];refine⟨by show 1<=sizeLine;decide,?_⟩;refine(aP (d:=.lst (θ.map ar)) (xs:=θ.map ar) rfl ?_:nE [.lst (θ.map ar)] _ _);rw[aac];refine⟨⟨(),()⟩,?_⟩;refine iZ (λxs ρ M'=>∃(n k:Nat) (a b c d:Option Dt),xs=d4 k n/\k+n=θ.length/\M'=M++[MO.lst (((aB μ ns θ).take (k+1)).map sD)]/\ρ=[some (aV μ),some (.lst (θ.map ar)),some (.lst (ns.map sD)),some (.loc M.length),a,b,c,d]) (λx xs ρ M' hj xP=>?_) (λρ M' hj=>?_) _ _ _ ⟨θ.length,0,none,none,none,none,by rw[abB];rfl,(),rfl,rfl⟩
  ·have⟨n,k,a,b,c,d,ex,JQ,rfl,rfl⟩:=hj;have⟨m,rfl,rfl,rfl⟩:=jH ex;have kr:k < θ.length:=()
   have kn:k < ns.length:=()
   have er:ik (θ.map ar) (k:Int)=some (ar θ[k]):=az (by rw[aaB,aaa kr];rfl);have en:ik (ns.map sD) (k:Int)=some (sD ns[k]):=az (by rw[aaB,aaa kn];rfl);have bU:=(hf.2.2.2 θ[k] (aaS kr)).1;have N_:=hf.2.1.2 ns[k] (aaS kn);have pa:=yU (μ:=μ) kn kr;have lt:(((aB μ ns θ).take (k+1)).map sD).length < sizeLine:=by rw[aac,abi];exact aa3 (show _<=13 by omega) @_
   generalize (aB μ ns θ).take (k+1)=ps at pa lt⊢;generalize θ[k]=r at er bU pa;generalize ns[k]=nm at en N_ pa;have pB:(M++[MO.lst (ps.map sD)])[M.length]? =some (.lst (ps.map sD)):=by simp
   have first:∃k' xs',Dt.loc M.length= .loc k'/\(M++[MO.lst (ps.map sD)])[k']? =some (.lst xs'):=⟨_,_,rfl,pB⟩
   have setM:(M++[MO.lst (ps.map sD)]).set M.length (.lst (ps.map sD++[sD (aD ns nm r)]))=M++[MO.lst (((aB μ ns θ).take (k+1+1)).map sD)]:=by rw[pa];simp
   have big:=lq hf.2.1 bU;have bk:=nh bU;have bn:=N_.2.1;rw[yQ]at er;walk_at "vc";dsimp only[DY];walk_at "vc";refine(Γ (d:=.lst (θ.map ar)) rfl er ?_:gT (.lst (θ.map ar)) (.int (k:Int)) _ _);cases r with
   | fin p=>
    refine⟨λ_=>?_,nofun⟩;dsimp only[Ez];walk_at "vc";refine⟨first,?_⟩;refine(Γ (d:=.lst (ns.map sD)) rfl en ?_:gT (.lst (ns.map sD)) (.int (k:Int)) _ _);have lp:=fN (p:=p) bU;have s1:mk nm++Str.ofString " end "=mk (nm++(32::([101,110,100]++[32]))):=by rw[zC,Η]
    have e:mk nm++Str.ofString " end "++mk (fr p)=mk (aD ns nm (.fin p)):=by rw[s1,Η];unfold aD b8 fM;simp only[List.append_assoc,List.cons_append,List.nil_append]
    refine⟨by rw[zC,ξ,ξ];exact Β (by show _+5<=_;omega),p,rfl,bU,⟨?_,M.length,_,_,rfl,rfl,pB,lt,?_⟩⟩
    ·show(mk nm++Str.ofString " end ").length+(mk (fr p)).length<=sizeLine;rw[s1,ξ,ξ,aab];exact Β (by show _+5+_<=_;omega)
    refine xP _ _ ⟨m,k+1,_,_,_,_,rfl,(),?_,rfl⟩;rw[<-setM];exact aaX (λz=>(M++[MO.lst (ps.map sD)]).set M.length (.lst (ps.map sD++[Dt.str z]))) e
   | Λ kd ds=>
    have ne:kd≠"end":=by rcases bU.1 with rfl| rfl| rfl <;> decide
    refine⟨λz=>aaE (aaQ z) ne,λ_=>?_⟩;have h6:=bU.2.2.1;show((ds.map dh).length<=sizeLine/\ck _ _ _ (ds.map dh) [] (M++[MO.lst (ps.map sD)]) _);refine⟨by rw[aac];exact Β (),?_⟩;refine au (F:=λx a=>x=dh a/\a∈ds) (f:=λd=>sD (bH ns d)) trivial (λx a ha q' fK=>?_) (aX dh ds ds λ_ h=>h) ?_
    ·have⟨rfl,ha⟩:=ha;exact A4 hf.2.1 (bU.2.2.2 a ha) fK
    rw[aap];dsimp only[Ez];walk_at "vc";refine⟨first,?_⟩;refine(Γ (d:=.lst (ns.map sD)) rfl en ?_:gT (.lst (ns.map sD)) (.int (k:Int)) _ _);have e1:mk nm++Str.ofString " "=mk (nm++[32]):=by rw[h_,Η]
    have e2:mk nm++Str.ofString " "++kd=mk (nm++[32]++kd.cps.toList):=by rw[e1];exact Η (nm++[32]) kd.cps.toList
    have e3:mk nm++Str.ofString " "++kd++Str.ofString " "=mk (nm++[32]++kd.cps.toList++[32]):=by rw[e2,h_,Η]
    have e4:mk nm++Str.ofString " "++kd++Str.ofString " "++mk (fM ns (.Λ kd ds))=mk (aD ns nm (.Λ kd ds)):=by rw[e3,Η];unfold aD;show _=mk (nm++32::(kd.cps.toList++32::fM ns (.Λ kd ds)));simp only[List.append_assoc,List.cons_append,List.nil_append]
    have lk:kd.length<=6:=by have:kd.cps.toList.length=kd.length:=aaT;have bk:kd.cps.toList.length<=6:=bk;omega
    have Tu:kd.cps.toList.length<=6:=bk;refine⟨by rw[h_,ξ,ξ];exact Β (by show _+1<=_;omega),?_,?_,⟨_,rfl⟩,?_⟩
    ·show(mk nm++Str.ofString " ").length+kd.length<=sizeLine;rw[e1,ξ,aab];exact Β (by show _+1+_<=_;omega)
    ·show(mk nm++Str.ofString " "++kd).length+(Str.ofString " ").length<=sizeLine;rw[e2,h_,ξ,ξ,aab,aab];exact Β (by show _+1+_+1<=_;omega)
    refine dU (ps:=ds.map (bH ns)) EU (by show some _=_;rw[aat];rfl) 6 400 (by rw[aac];exact h6) (λp hp=>?_) @_ ⟨?_,M.length,_,_,rfl,rfl,pB,lt,?_⟩
    ·have⟨d,hd,rfl⟩:=aam.mp hp;have:=gz hf.2.1 (bU.2.2.2 d hd);show _+2<=400;omega
    ·show(mk nm++Str.ofString " "++kd++Str.ofString " ").length+(mk (fM ns (.Λ kd ds))).length<=sizeLine;rw[e3,ξ,ξ];simp only[List.length_append];exact Β (by show _+1+_+1+_<=_;omega)
    refine xP _ _ ⟨m,k+1,_,_,_,_,rfl,(),?_,rfl⟩;rw[<-setM];exact aaX (λz=>(M++[MO.lst (ps.map sD)]).set M.length (.lst (ps.map sD++[Dt.str z]))) e4
  ·have⟨n,k,a,b,c,d,ex,JQ,rfl,rfl⟩:=hj;have hn:n=0:=by have:=aaX List.length ex;unfold d4 at this;simpa using this.symm
   subst hn;have el:=gj hf;rw[abm ()];have sq:yn (M++[MO.lst ((aB μ ns θ).map sD)]) (.loc M.length)=some ((aB μ ns θ).map sD):=by show(match (M++[MO.lst ((aB μ ns θ).map sD)])[M.length]? with| some (MO.lst xs)=>some xs| _=>none)=_;rw[show(M++[MO.lst ((aB μ ns θ).map sD)])[M.length]? =some (.lst ((aB μ ns θ).map sD)) by simp]
   exact⟨⟨_,rfl⟩,dU (ps:=aB μ ns θ) EO sq 13 2402 () (mO hf) @_ (h _)⟩
def si(h:ns.length<=12):Pl (n+1) (.lst (ns.map sD)):=by refine⟨by rw[aac];omega,λe he=>?_⟩;have⟨p,_,rfl⟩:=aam.mp he;cases n <;> trivial
def AS:DF:=λas M q _=>∃μ ns θ,as=[sD (iC μ ns θ),aV μ,.lst (θ.map ar),.lst (ns.map sD)]/\ET μ ns θ/\∀M',q (.bl true) M'
def oa:χ ["_law_text_here","_law_share_here","_law_rows_here","_law_names_here","_law_found"] ["_law_text_here","_law_share_here","_law_rows_here","_law_names_here"] (ν ml):=.of rfl
def uE(F:cj K "_law_read" "_law_read" ml f fd)(E:Ev K mg Cl CT){uG:Addr}{uY:FuncData}(fS:aq P w K mg base 7 "read_floor" ["text"] (l3 Cl) uG uY){kh:Addr}{ki:FuncData}(aA:aq P w K mg base 7 "_law_alike" ["_law_found","_law_due"] (jY 6) kh ki)(aQ:tE P w K mg base 2 Cl "rows" ["self"] (vV Cl) dt dr){gc:Addr}{gw:FuncData}(bD:tE P w K mg base 1 Cl "share" ["self"] (tV Cl) gc gw):Φ P w K mg base (bE P w) 8 f fd ["_law_text_here","_law_share_here","_law_rows_here","_law_names_here"] (cm K AS):=by
 refine F.dZ oa (λds M q x h=>?_) (λaW A outer s H E' hr=>⟨_,(ε (υ 4 oa.nd (Ρ fS hr π (Ι (jv 0) δ)))
   (ε (Ε (JW.jt (gr (dM (bu (bb K E.ψ (Ι (jv 4) (Ι (fo E.cY b9) δ))))) (eD (eh hr (bp E.aY (Ι (jv 4) δ)) ι)))) (η (ο yG)) τ)
   (ε (Ε (JW.jt (gr (dM (bu (Ρ aA hr π (ζ (jB bD hr π (Δ (jv 4) ι)) (Ι (jv 1) δ) bZ)))) (eD (dM (bu (Ρ aA hr π (ζ (fH (jB aQ hr π (Δ (jv 4) ι))) (Ι (jv 2) δ) bZ))))))) (η (ο yG)) τ)
   (ε (Ε (dM (bu (Ρ aA hr π (ζ (Δ (jv 4) ι) (Ι (jv 3) δ) ak)))) (η (ο yG)) τ)
   (ε (iU (fX (Δ (jv 4) ι) (ζ av δ aG)))
   (η (ο yG))))))),λds M q x h=>?_⟩)
 ·have⟨μ,ns,θ,rfl,_⟩:=h;rfl
 ·have⟨μ,ns,θ,rfl,bU,h⟩:=h;have uK:=bU.t.2.1.1;have rl:=bU.t.2.2.1;have OM:θ.length<=12:=()
  have N':∀r∈θ,cV r:=λr hr=>(bU.g r hr).1;walk_at "vc";refine⟨μ,ns,θ,rfl,bU,?_⟩;have pB:(M++[MO.lst (ns.map sD),gy ns])[M.length]? =some (.lst (ns.map sD)):=by simp
  generalize M++[MO.lst (ns.map sD),gy ns]=M2 at pB⊢;refine⟨_,_,_,_,true,rfl,rfl,rfl,cB,nofun,λ_=>?_⟩;refine⟨nofun,λ_=>?_⟩;refine⟨⟨_,_,.inl rfl,rfl⟩,μ,θ,rfl,aV μ,aV μ,rfl,vX μ,.old (iG μ),nofun,λ_=>?_⟩;refine⟨⟨_,_,.inl rfl,rfl⟩,μ,θ,rfl,OM,N',?_⟩;rw[aaW];refine fv (d':=.lst (θ.map ar)) (.qw (Nat.le_add_right _ _) (by simp) (lP θ M2 _)) ?_;refine⟨_,_,rfl,vt OM N',.old (gb _),nofun,λ_=>?_⟩;refine⟨.loc M.length,.lst (ns.map sD),rfl,si uK,.qw (aaV _) (by rw[Nat.sub_zero];exact pB) (cN.old (iK ns)),nofun,λ_=>?_⟩;exact⟨⟨_,_,rfl,pB⟩,M.length,_,_,rfl,rfl,pB,by rw[aac];exact aa3 uK @_,h _⟩
def rw_ok{θ:List Rw}(hl:θ.length=ns.length){r:Rw}(g:fb θ.length r)(l:Jm r):yC ns r/\JD r:=by
 have⟨ro,ft⟩:=g;cases r with
 | fin p=>exact⟨l,trivial⟩
 | Λ k ds=>
  obtain⟨l,lh⟩:(∀d∈ds,Lw d.2.1/\∀c∈d.2.2,Lw c)/\(k≠"chance"->∀d∈ds,d.2.2=[]):=l;have h5:(if cR k then Ξ ds θ.length else if k="chance" then Ξ ds θ.length&&Ο (ds.map aJ) else false)=true:=ft;have⟨_,_,vZ,RF⟩:=ro;have fd:(k="one"\/k="other"\/k="chance")/\Ξ ds θ.length=true:=by
   by_cases hk:cR k=true
   ·rw[aaN hk]at h5;unfold cR at hk;rw[Bool.or_eq_true]at hk;rcases hk with hk| hk
    ·exact⟨.inl (eq_of_beq hk),h5⟩
    ·exact⟨.inr (.inl (eq_of_beq hk)),h5⟩
   ·rw[aaH hk]at h5;by_cases hc:k="chance"
    ·rw[aaN hc,aax]at h5;exact⟨.inr (.inr hc),h5.1⟩
    ·rw[aaH hc]at h5;cases h5
  have⟨kk,fd⟩:=fd;unfold Ξ at fd;rw[aax,aax,aaR,aaR,List.all_eq_true]at fd;refine⟨⟨kk,fd.1.1,fd.1.2,λd hd=>⟨?_,λp hp=>?_,(RF d hd).1⟩⟩,λd hd=>?_⟩
  ·have:=fd.2 d hd;unfold ay at this;rw[aax,aax,aaR,aaR]at this;rw[<-hl];exact⟨this.1,this.2.1⟩
  ·rcases aay.mp hp with rfl| hp
   ·exact(l d hd).1
   ·exact(l d hd).2 p hp
  ·split
   ·rename_i hc;rw[(vZ hc).1 d hd];rfl
   ·rename_i hc;rw[lh hc d hd];rfl
def gY:χ ["_law_script","_law_first","_law_rows_here","_law_share_here","_law_names_here","_law_due","_law_floor","_law_handed","_law_text_here"] ["_law_script"] (ν GN):=.of rfl
def GX(F:cj K "law" "law" GN f fd)(E:Ev K mg Cl CT){qQ:Addr}{pv:FuncData}(dj:aq P w K mg base 1 "_law_nth" ["_law_script","_law_k"] Aw qQ pv){zZ:Addr}{AQ:FuncData}(kf:aq P w K mg base 5 "_law_rows" ["_law_script","_law_at","_law_many"] An zZ AQ){yh:Addr}{yk:FuncData}(iH:aq P w K mg base 3 "_law_share" ["_law_cell"] wj yh yk){xV:Addr}{xb:FuncData}(iM:aq P w K mg base 1 "_law_names" ["_law_cell","_law_many"] zm xV xb){AF:Addr}{Ab:FuncData}(jS:aq P w K mg base 2 "_law_text" ["_law_share_here","_law_rows_here","_law_names_here"] Ef AF Ab){hU:Addr}{ig:FuncData}(bX:Ca P w K mg base 5 "Floor" Cl ["self","share","rows"] (zf Cl) hU ig){uz:Addr}{vc:FuncData}(gu:aq P w K mg base 4 "show_floor" ["floor","names"] (m7 Cl) uz vc){kh:Addr}{ki:FuncData}(aA:aq P w K mg base 7 "_law_alike" ["_law_found","_law_due"] (jY 6) kh ki)(aQ:tE P w K mg base 2 Cl "rows" ["self"] (vV Cl) dt dr){yI:Addr}{zV:FuncData}(gC:aq P w K mg base 8 "_law_read" ["_law_text_here","_law_share_here","_law_rows_here","_law_names_here"] AS yI zV):Φ P w K mg base (bE P w) 9 f fd ["_law_script"] (cm K Fd):=by
 refine F.dZ gY (λds M q x h=>?_) (λaW A outer s H E' hr=>⟨_,(ε (υ 1 gY.nd (Ρ dj hr π (Ι (jv 0) (ζ ι δ aG))))
   (ε (υ 2 gY.nd (Ρ kf hr π (Ι (jv 0) (ζ ι (ζ (aa ι (ao (jv 1) ι)) δ aN) aG))))
   (ε (υ 3 gY.nd (Ρ iH hr π (ζ (bx (jv 1) ι) δ aN)))
   (ε (υ 4 gY.nd (fH (Ρ iM hr π (ζ (ao (Ρ dj hr π (Ι (jv 0) (ζ ι δ aG))) (kM ι ι)) (ζ (bp E.aY (Ι (jv 2) δ)) δ bZ) aN))))
   (ε (υ 5 gY.nd (fH (Ρ jS hr π (Ι (jv 3) (Ι (jv 2) (Ι (jv 4) δ))))))
   (ε (υ 6 gY.nd (fH (zG bX hr π (Ι (jv 3) (ζ (br (ys:=[]) (Α:=[]) (.of gY rfl rfl rfl) (aZ (jv 2)) (λC s H fp=>(cn (ζ (Δ (jv 0) ι) (ζ (Δ (jv 0) ι) δ ak) ak)))) δ)))))
   (ε (υ 7 gY.nd (fH (Bm E.fB (Ι (jv 4) δ))))
   (ε (υ 8 gY.nd (Ρ gu hr π (Ι (jv 6) (Ι (jv 7) δ))))
   (ε (Ε (JW.jt (gr (dM (bu (Ρ aA hr π (Ι (jv 8) (Ι (jv 5) δ))))) (gr (dM (bu (Ρ aA hr π (Ι (jv 7) (Ι (jv 4) δ))))) (eD (dM (bu (Ρ aA hr π (ζ (fH (jB aQ hr π (jv 6))) (Ι (jv 2) δ) bZ)))))))) (η (ο yG)) τ)
   (η (ο (bG (Ρ gC hr π (Ι (jv 5) (Ι (jv 3) (Ι (jv 2) (Ι (jv 4) δ))))) (dP (Ρ gC hr π (Ι (jv 5) (Ι (jv 3) (Ι (jv 2) (Ι (jv 4) δ)))))))))))))))))),λds M q x h=>?_⟩)
 ·have⟨ns,rfl,_⟩:=h;rfl
 ·have⟨ns,rfl,hl,hq⟩:=h;refine⟨@_,?_⟩;generalize Fo ns 0=first
  walk_at "vc";refine⟨@_,ns,1,(1+first % 12).toNat,by rw[Int.toNat_of_nonneg ()],@_,(),(),λθ N8 hg=>?_⟩;have n1:1<=θ.length:=()
  have uK:θ.length<=12:=()
  rw[<-N8]at hg;clear N8;refine⟨⟨@_,bg (k:=5) @_⟩,first / 12,rfl,λμ hs Q2=>?_⟩;have p9:xW 10 9:=⟨@_,@_,@_⟩;refine⟨@_,p9,(by decide:(0:Int) < 10 ^ (9:Int).toNat),?_⟩;refine(aP (d:=.lst (θ.map ar)) (xs:=θ.map ar) rfl ?_:nE [.lst (θ.map ar)] M _);rw[aac];refine⟨_,θ.length,rfl,aaK _ @_,aaF _ @_,n1,uK,λnm hn=>ph (iK nm) ?_⟩;have rg:∀r∈θ,yC nm r/\JD r:=λr hr=>rw_ok hn.1.symm (hg r hr).1 (hg r hr).2;have OW:cW nm:=⟨by rw[hn.1];exact uK,hn.2.1⟩;have ft:EC μ nm θ:=⟨zQ hs Q2,OW,hn.1.symm,λr hr=>⟨(rg r hr).1,(hg r hr).1.1⟩⟩;have rd:ET μ nm θ:=⟨ft,λr hr=>(rg r hr).2,hn.2.2,hs,n1,λr hr=>(hg r hr).1⟩;have aE:∀r∈θ,cV r:=λr hr=>(hg r hr).1.1;refine⟨μ,nm,θ,rfl,ft,λE0=>fv (E:=[E0]) (.old trivial) ?_⟩;dsimp only[y_,bW,ff,a_,cT];refine cq (i:=2) (d:=.lst (θ.map ar)) rfl rfl ⟨by rw[aac];exact aaq uK @_,?_⟩;refine au (F:=λx a=>x=ar a/\a∈θ) (f:=ar) trivial (λx a ha q' fK=>?_) (aX ar θ θ λ_ h=>h) ?_
  ·have⟨rfl,ha⟩:=ha;cases a with
   | fin p=>exact⟨gV,fK⟩
   | Λ k ds=>exact⟨gV,fK⟩
  rw[aap];refine⟨M.length,.lst (θ.map ar),μ,θ.map ar,θ,λ_=>True,rfl,by simp,rfl,pA _ _,hs,n1,uK,λr hr=>(hg r hr).1,rfl,?_⟩;rw[show(M++[MO.ins Cl [] []]).set M.length (.ins Cl ["kept_share","kept_rows"] [aV μ,.lst (θ.map ar)])=M++[.ins Cl ["kept_share","kept_rows"] [aV μ,.lst (θ.map ar)]] by simp[List.set_append]];refine fv (d':=ip Cl μ θ) (.J1 (Nat.le_refl _) (by simp) (.cons (.old (iG μ)) (.cons (.old (gb θ)) .nil))) ?_;have fl:∀q':DQ,q' (.lst (nm.map sD)) M->vv [.lst (nm.map sD)] M (sY M q'):=λq' h=>ph (iK nm) h;refine fl _ ?_;refine⟨μ,nm,θ,rfl,ft,?_⟩;refine⟨_,sD (iC μ nm θ),rfl,trivial,.old trivial,nofun,λ_=>?_⟩;refine⟨_,.lst (nm.map sD),rfl,si OW.1,.old (iK nm),nofun,λ_=>?_⟩;refine⟨⟨_,_,.inl rfl,rfl⟩,μ,θ,rfl,uK,aE,?_⟩;rw[aaW];refine fv (d':=.lst (θ.map ar)) (.qw (Nat.le_add_right _ _) (by simp) (lP θ M _)) ?_;refine⟨_,_,rfl,vt uK aE,.old (gb _),nofun,λ_=>?_⟩;refine⟨μ,nm,θ,rfl,rd,λM1=>⟨λ_=>⟨μ,nm,θ,rfl,rd,λM2=>hq _⟩,nofun⟩⟩
structure FT(K:fI)(f:Addr)(x:Str)(st:Stmt):Prop where
 a:PySem.W.nsIn K mainGlobals x=some (some (.ref f))
 e:∃fd,cj K x x st f fd
structure FM(K:fI)(C f:Addr)(m x:Str)(st:Stmt):Prop where
 a:PySem.W.findIn K (.ref C) m=some (some (.ref f))
 i:PySem.W.isFn K (.ref f)=true
 e:∃fd,cj K m x st f fd
section
variable{K:fI}{C:Addr}{m x:Str}{st:Stmt}{oc:Value}{od an:Option Addr}{zP:Array (Option Value)}{kV doc pm aW ct:Value}
def FT.of(a:PySem.W.nsIn K mainGlobals x=some (some (.ref f)))(l:K.lookup f=some ⟨oc,od,.func (PySem.W.fnOf x x (gK st) (d_ st) (ν st) .none kV doc pm an aW ct),zP⟩)(c:PySem.W.codeIn K aW x=true)(k:PySem.W.keepIn K (.ref f)=true):FT K f x st:=⟨a,_,zS l c k⟩
def FM.of(a:PySem.W.findIn K (.ref C) m=some (some (.ref f)))(i:PySem.W.isFn K (.ref f)=true)(l:K.lookup f=some ⟨oc,od,.func (PySem.W.fnOf m x (gK st) (d_ st) (ν st) .none kV doc pm an aW ct),zP⟩)(c:PySem.W.codeIn K aW x=true)(k:PySem.W.keepIn K (.ref f)=true):FM K C f m x st:=⟨a,i,_,zS l c k⟩
end
section
variable{P:List Value->Prop}
def HS(h:P []):∀us:List Value,us.length=0->P us
 | [],_=>h
 | _::_,e=>nomatch e
def bV(h:∀a0:Value,P [a0]):∀us:List Value,us.length=1->P us
 | [],e=>nomatch e
 | a::us,e=>HS (P:=λus=>P (a::us)) (h a) us (Nat.succ.inj e)
def bF(h:∀a0 a1:Value,P [a0,a1]):∀us:List Value,us.length=2->P us
 | [],e=>nomatch e
 | a::us,e=>bV (P:=λus=>P (a::us)) (h a) us (Nat.succ.inj e)
def rh(h:∀a0 a1 a2:Value,P [a0,a1,a2]):∀us:List Value,us.length=3->P us
 | [],e=>nomatch e
 | a::us,e=>bF (P:=λus=>P (a::us)) (h a) us (Nat.succ.inj e)
def H_(h:∀a0 a1 a2 a3:Value,P [a0,a1,a2,a3]):∀us:List Value,us.length=4->P us
 | [],e=>nomatch e
 | a::us,e=>rh (P:=λus=>P (a::us)) (h a) us (Nat.succ.inj e)
end
def pZ{K:fI}(h:PySem.W.subIn K (.type "int") (.type "bool")=some false):PySem.W.kitOne K (.type "int") (.type "bool")=some false:=by unfold PySem.W.kitOne PySem.W.kitCls;rw[aaH (by decide+kernel)];show(if PySem.W.kitMeta "bool"=true then _ else _)=_;rw[aaN (by decide+kernel)];exact h
def sk{K:fI}(h:PySem.W.subIn K (.type "int") (.type "str")=some false):PySem.W.kitOne K (.type "int") (.type "str")=some false:=by unfold PySem.W.kitOne PySem.W.kitCls;rw[aaH (by decide+kernel)];show(if PySem.W.kitMeta "str"=true then _ else _)=_;rw[aaN (by decide+kernel)];exact h
def nW{K:fI}(h:PySem.W.subIn K (.type "tuple") (.type "str")=some false):PySem.W.kitOne K (.type "tuple") (.type "str")=some false:=by unfold PySem.W.kitOne PySem.W.kitCls;rw[aaH (by decide+kernel)];show(if PySem.W.kitMeta "str"=true then _ else _)=_;rw[aaN (by decide+kernel)];exact h
def nz{K:fI}(h:PySem.W.subIn K (.type "tuple") (.type "int")=some false):PySem.W.kitOne K (.type "tuple") (.type "int")=some false:=by unfold PySem.W.kitOne PySem.W.kitCls;rw[aaH (by decide+kernel)];show(if PySem.W.kitMeta "int"=true then _ else _)=_;rw[aaN (by decide+kernel)];exact h
def pQ{K:fI}(h:PySem.W.subIn K (.type "list") (.type "str")=some false):PySem.W.kitOne K (.type "list") (.type "str")=some false:=by unfold PySem.W.kitOne PySem.W.kitCls;rw[aaH (by decide+kernel)];show(if PySem.W.kitMeta "str"=true then _ else _)=_;rw[aaN (by decide+kernel)];exact h
def qh{K:fI}(h:PySem.W.subIn K (.type "list") (.type "int")=some false):PySem.W.kitOne K (.type "list") (.type "int")=some false:=by unfold PySem.W.kitOne PySem.W.kitCls;rw[aaH (by decide+kernel)];show(if PySem.W.kitMeta "int"=true then _ else _)=_;rw[aaN (by decide+kernel)];exact h
def mm{K:fI}(h:PySem.W.subIn K (.type "tuple") (.type "list")=some false):PySem.W.kitOne K (.type "tuple") (.type "list")=some false:=by unfold PySem.W.kitOne PySem.W.kitCls;rw[aaH (by decide+kernel)];show(if PySem.W.kitMeta "list"=true then _ else _)=_;rw[aaN (by decide+kernel)];exact h
def mx{K:fI}(h:PySem.W.subIn K (.type "list") (.type "tuple")=some false):PySem.W.kitOne K (.type "list") (.type "tuple")=some false:=by unfold PySem.W.kitOne PySem.W.kitCls;rw[aaH (by decide+kernel)];show(if PySem.W.kitMeta "tuple"=true then _ else _)=_;rw[aaN (by decide+kernel)];exact h
open PySem.W in
def all_mk{l:OpenLaw}{w:World}{K:Frag}{h:Heap}{fa Cd Cl wL f1 f2 f3 f4 f5 f6 f7 f8 f9 SE Qy Te RW PC Si Rq QP Qi PR RC RM Sm PX PZ Q6 Rg Qm R8 QY Rc SJ S9 Tn PU R1 QR Ta Tt RY Qw Th Qf Tc RH Ri:Addr}(X:K.In h)(G:h.Ns mainGlobals mg)(SR:mg "law"=some (.ref fa))
  {ql nv nD gQ yj lK xD mL:Tok}
  (Bj:nsIn K mainGlobals "NoText"=some (some (.ref Cd))) (zE:excIn K Cd [.type "ValueError",.type "Exception",.type "BaseException",.type "object"] "ValueError.__new__"=true)
  (qp:nsIn K mainGlobals "MOST_DOORS"=some (some (.int (6) ql)))
  (nI:nsIn K mainGlobals "MOST_BOTTOM"=some (some (.int (1000000) nv)))
  (nR:nsIn K mainGlobals "MOST_PLACES"=some (some (.int (12) nD)))
  (gO:nsIn K mainGlobals "MOST_SHARE_BOTTOM"=some (some (.int (1000) gQ)))
  (xH:nsIn K mainGlobals "FIGURES"=some (some (.str "0123456789" yj)))
  (mY:nsIn K mainGlobals "MOST_FIGURES"=some (some (.int (60) lK)))
  (xK:nsIn K mainGlobals "LETTERS"=some (some (.str "abcdefghijklmnopqrstuvwxyz" xD)))
  (m8:nsIn K mainGlobals "MOST_LETTERS"=some (some (.int (8) mL)))
  (CY:nsIn K mainGlobals "Floor"=some (some (.ref Cl))) (pO:plainGet K Cl Str.empty=true) (qx:hasDictIn K Cl=true) (o_:plainOver K Cl=true) (qz:findIn K (.ref Cl) "__setattr__"=some (some (.builtin "object.__setattr__"))) (Dk:makesIn K Cl=true) (BW:keepIn K (.ref Cl)=true)
  (p8:findIn K (.ref Cl) "kept_rows"=some none)
  (ny:findIn K (.ref Cl) "kept_share"=some none)
  {AJ A8:Tok} {Bb:Option Addr} {AH:Array (Option Value)} {AW:Nat} (AO:nsIn K mainGlobals "HANDS"=some (some (.ref wL))) (Ax:K.lookup wL=some ⟨.type "tuple",Bb,.seq #[(.str "one" AJ),(.str "other" A8)] AW,AH⟩)
  (rf:subIn K (.type "int") (.type "bool")=some false)
  (uH:subIn K (.type "int") (.type "str")=some false)
  (qE:subIn K (.type "tuple") (.type "str")=some false)
  (qy:subIn K (.type "tuple") (.type "int")=some false)
  (rE:subIn K (.type "list") (.type "str")=some false)
  (rQ:subIn K (.type "list") (.type "int")=some false)
  (nU:subIn K (.type "tuple") (.type "list")=some false)
  (nJ:subIn K (.type "list") (.type "tuple")=some false)
  (t1:FT K f1 "_law_nth" pV)
  (t2:FT K f2 "_law_mixed" jZ)
  (t3:FT K f3 "_law_gcd" p_)
  (t4:FT K f4 "_law_lowest" hW)
  (t5:FT K f5 "_law_pay" qD)
  (t6:FT K f6 "_law_shares" iy)
  (t7:FT K f7 "_law_row" pT)
  (t8:FT K f8 "_law_rows" mn)
  (t9:FT K f9 "_law_share" j7)
  (Qs:FT K SE "_law_names" jT)
  (Ss:FT K Qy "_law_fraction" fD)
  (SQ:FT K Te "_law_text" lZ)
  (RV:FT K RW "fits_share" iI)
  (Pk:FT K PC "fits_pay" mX)
  (Su:FT K Si "fits_door" jW)
  (S7:FT K Rq "fits_doors" iF)
  (RQ:FT K QP "common_divisor" dJ)
  (Qp:FT K Qi "common_bottom" eu)
  (Q1:FT K PR "fits_chances" fE)
  (Rx:FT K RC "fits_row" lG)
  (Qe:FT K RM "copied_row" ie)
  (S':FM K Cl Sm "__init__" "Floor.__init__" iD)
  (Px:FT K PX "show_fraction" eA)
  (QU:FM K Cl PZ "share" "Floor.share" gf)
  (Qu:FM K Cl Q6 "rows" "Floor.rows" il)
  (PH:FT K Rg "show_door" jK)
  (RX:FT K Qm "show_place" hV)
  (PV:FT K R8 "show_floor" iL)
  (Ry:FT K QY "_law_alike" eT)
  (Q3:FT K Rc "read_figures" fC)
  (RP:FT K SJ "read_top" ma)
  (QT:FT K S9 "fraction" jG)
  (RJ:FT K Tn "read_fraction" eI)
  (RD:FT K PU "read_share" ij)
  (PN:FT K R1 "is_name" pP)
  (QD:FT K QR "read_name" jN)
  (Ph:FT K Ta "read_door" j6)
  (Tr:FT K Tt "read_row" me)
  (R0:FT K RY "read_place" iq)
  (Tp:FT K Qw "numbers_of" ia)
  (Qr:FT K Th "numbered_door" eL)
  (Sk:FT K Qf "numbered_row" fk)
  (SG:FT K Tc "read_floor" h9)
  (Pj:FT K RH "_law_read" ml)
  (PL:FT K Ri "law" GN)
  (JO:nsIn K mainGlobals "len"=some none)
  (Ia:nsIn K mainGlobals "abs"=some none)
  (pN:nsIn K mainGlobals "isinstance"=some none)
  (JR:nsIn K mainGlobals "int"=some none)
  (GL:nsIn K mainGlobals "bool"=some none)
  (Ju:nsIn K mainGlobals "str"=some none)
  (C0:nsIn K mainGlobals "tuple"=some none)
  (EA:nsIn K mainGlobals "list"=some none)
  (BO:nsIn K mainGlobals "range"=some none)
  (sv:nsIn K mainGlobals "enumerate"=some none)
  (Io:nsIn K mainGlobals "any"=some none)
  (ID:nsIn K mainGlobals "all"=some none)
  (IB:nsIn K mainGlobals "sum"=some none)
  (Ht:nsIn K mainGlobals "zip"=some none)
  (HH:nsIn K mainGlobals "min"=some none)
  :∃fd:FuncData,(∀(s:Shared) (v:Value),BindsTo s fd ⟨[v],[]⟩ [("_law_script",v)])/\∀base:Heap,K.In base->base.Ns mainGlobals mg->Φ l.prog w K mg base Kp 9 fa fd ["_law_script"] (sT K):=by
 have⟨a1,_,F1⟩:=t1;have⟨a2,_,F2⟩:=t2;have⟨a3,_,F3⟩:=t3;have⟨a4,_,F4⟩:=t4;have⟨a5,_,F5⟩:=t5;have⟨a6,_,F6⟩:=t6;have⟨a7,_,F7⟩:=t7;have⟨a8,_,F8⟩:=t8;have⟨a9,_,F9⟩:=t9;have⟨Kf,_,Lg⟩:=Qs;have⟨OS,_,NY⟩:=Ss;have⟨RU,_,NK⟩:=SQ;have⟨Tf,_,LS⟩:=RV;have⟨S_,_,Nh⟩:=Pk;have⟨SN,_,Ll⟩:=Su;have⟨To,_,M8⟩:=S7;have⟨Py,_,Nl⟩:=RQ;have⟨Pr,_,LY⟩:=Qp;have⟨PM,_,Nv⟩:=Q1;have⟨Pz,_,NC⟩:=Rx;have⟨Qb,_,K6⟩:=Qe;have⟨PB,P4,_,O8⟩:=S';have⟨SH,_,Mx⟩:=Px;have⟨Se,Sy,_,Lv⟩:=QU;have⟨Ql,Q7,_,MB⟩:=Qu;have⟨Po,_,NM⟩:=PH;have⟨RS,_,Lk⟩:=RX;have⟨Q8,_,Nn⟩:=PV;have⟨Pe,_,JP⟩:=Ry;have⟨RI,_,Nt⟩:=Q3;have⟨Qj,_,Mg⟩:=RP;have⟨QE,_,Lh⟩:=QT;have⟨SF,_,Mr⟩:=RJ;have⟨SX,_,K5⟩:=RD;have⟨Qo,_,Nf⟩:=PN;have⟨SM,_,Md⟩:=QD;have⟨Ra,_,LK⟩:=Ph;have⟨RG,_,Mh⟩:=Tr;have⟨Pn,_,ML⟩:=R0;have⟨QF,_,MW⟩:=Tp;have⟨QB,_,LF⟩:=Qr;have⟨SY,_,Lu⟩:=Sk;have⟨Tj,_,Mw⟩:=SG;have⟨PF,_,Ly⟩:=Pj;have⟨Rr,dL,Ov⟩:=PL;have e:=SR.symm.trans (mg_of X G Rr);cases e;have yV:=mg_of X G Bj;have Dh:jE K Cd _ _:=⟨zE⟩;have p0:=mg_of X G qp;have nq:=mg_of X G nI;have nL:=mg_of X G nR;have gL:=mg_of X G gO;have ya:=mg_of X G xH;have mH:=mg_of X G mY;have xg:=mg_of X G xK;have mQ:=mg_of X G m8;have aY:=mg_none_of X G JO;have kH:=mg_none_of X G Ia;have ψ:=mg_none_of X G pN;have kJ:=mg_none_of X G JR;have mq:=mg_none_of X G GL;have gs:=mg_none_of X G Ju;have cY:=mg_none_of X G C0;have fB:=mg_none_of X G EA;have bq:=mg_none_of X G BO;have cP:=mg_none_of X G sv;have sL:=mg_none_of X G Io;have o3:=mg_none_of X G ID;have sM:=mg_none_of X G IB;have vi:=mg_none_of X G Ht;have v9:=mg_none_of X G HH;have E:Ev K mg Cl Cd:={aY:=aY,kH:=kH,ψ:=ψ,kJ:=kJ,mq:=mq,gs:=gs,cY:=cY,fB:=fB,bq:=bq,cP:=cP,sL:=sL,o3:=o3,sM:=sM,vi:=vi,v9:=v9,ib:=pZ rf,K2:=sk uH,N7:=nW qE,OT:=nz qy,Oc:=pQ rE,O2:=qh rQ,NT:=mm nU,klt:=mx nJ,bB:=yV,bC:=Dh,fR:=⟨pO,qx,o_,qz⟩,fw:=p8,eB:=ny,uX:=⟨_,_,_,_,mg_of X G AO,Ax,rfl,rfl,gV,.cons ⟨_,rfl⟩ (.cons ⟨_,rfl⟩ .nil)⟩,kQ:=⟨_,p0⟩,fA:=⟨_,nq⟩,jf:=⟨_,nL⟩,dk:=⟨_,gL⟩,sF:=⟨_,ya⟩,hJ:=⟨_,mH⟩,r6:=⟨_,xg⟩,hI:=⟨_,mQ⟩};refine⟨dL,λs v=>by have⟨_,_,_,_,_,_,_,_,_,rfl,_⟩:=Ov.ex;exact .of_eq rfl,λbase _ _=>?_⟩;have mc:=@aq.mk l.prog w K mg base;have dj:=(wW F1 E)&&&(F1,a1,bF λ_ _=>rfl);have hX:=(so F2 E)&&&(F2,a2,bF λ_ _=>rfl);have mF:=(yt F3 E)&&&(F3,a3,bF λ_ _=>rfl);have ax:=(pC F4 E mF)&&&(F4,a4,bF λ_ _=>rfl);have i5:=(xB F5 E ax)&&&(F5,a5,bF λ_ _=>rfl);have fP:=(qK F6 E ax)&&&(F6,a6,bF λ_ _=>rfl);have lW:=(yp F7 E hX i5 fP)&&&(F7,a7,bF λ_ _=>rfl);have kf:=(uS F8 E lW dj)&&&(F8,a8,rh λ_ _ _=>rfl);have iH:=(r_ F9 E ax)&&&(F9,a9,bV λ_=>rfl);have iM:=(sR Lg E)&&&(Lg,Kf,bF λ_ _=>rfl);have bK:=(mB NY E)&&&(NY,OS,bV λ_=>rfl);have jS:=(ub NK E bK)&&&(NK,RU,rh λ_ _ _=>rfl);have gi:=(qN LS E)&&&(LS,Tf,bV λ_=>rfl);have df:=(tT Nh E)&&&(Nh,S_,bV λ_=>rfl);have iE:=(sQ Ll E df)&&&(Ll,SN,bF λ_ _=>rfl);have d8:=(qC M8 E iE)&&&(M8,To,bF λ_ _=>rfl);have aL:=(j4 Nl E)&&&(Nl,Py,bF λ_ _=>rfl);have dw:=(kY LY E aL)&&&(LY,Pr,bV λ_=>rfl);have eG:=(mK Nv E dw)&&&(Nv,PM,bV λ_=>rfl);have j_:=(uf NC E df d8 eG)&&&(NC,Pz,bF λ_ _=>rfl);have b6:=(pE K6 E)&&&(K6,Qb,bV λ_=>rfl);have bX:Ca l.prog w K mg base _ "Floor" Cl _ _ _ _:=⟨qH O8 E gi j_ b6,(O8.binds λ_ _ _ _ _ _=>rh λ_ _ _=>rfl),⟨Dk,PB,P4,BW⟩,mg_of X G CY⟩;have ae:=(kS Mx E)&&&(Mx,SH,bV λ_=>rfl);have bD:tE l.prog w K mg base _ Cl "share" _ _ _ _:=(nN Lv E)|||(Lv,Se,Sy,bV λ_=>rfl);have aQ:tE l.prog w K mg base _ Cl "rows" _ _ _ _:=(qS MB E b6)|||(MB,Ql,Q7,bV λ_=>rfl);have ic:=(tF NM E ae)&&&(NM,Po,bF λ_ _=>rfl);have gh:=(qv Lk E ae ic)&&&(Lk,RS,rh λ_ _ _=>rfl);have gu:=(qg Nn E ae bD aQ gh)&&&(Nn,Q8,bF λ_ _=>rfl);have aA:=mc (kx JP E (JP.binds λ_ _ _ _ _ _=>bF λ_ _=>rfl) (mg_of X G Pe) JP.kp 6) (JP.binds λ_ _ _ _ _ _=>bF λ_ _=>rfl) (mg_of X G Pe) JP.kp;have aT:=(lT Nt E)&&&(Nt,RI,bV λ_=>rfl);have j8:=(uM Mg E aT)&&&(Mg,Qj,bV λ_=>rfl);have fi:=(rn Lh E aL)&&&(Lh,QE,bF λ_ _=>rfl);have ah:=(k6 Mr E j8 fi aT)&&&(Mr,SF,bV λ_=>rfl);have f_:=(qr K5 E ah)&&&(K5,SX,bV λ_=>rfl);have mR:=(xC Nf E)&&&(Nf,Qo,bV λ_=>rfl);have cv:=(sV Md E mR)&&&(Md,SM,bV λ_=>rfl);have fc:=(rZ LK E cv ah)&&&(LK,Ra,bF λ_ _=>rfl);have j5:=(t_ Mh E ah fc)&&&(Mh,RG,bF λ_ _=>rfl);have fT:=(qj ML E j5 cv)&&&(ML,Pn,bV λ_=>rfl);have gx:=(qJ MW E)&&&(MW,QF,bV λ_=>rfl);have dG:=(kU LF E)&&&(LF,QB,bF λ_ _=>rfl);have eN:=(mr Lu E dG)&&&(Lu,SY,bF λ_ _=>rfl);have fS:=(qG Mw E f_ fT gx eN bX)&&&(Mw,Tj,bV λ_=>rfl);have gC:=(uE Ly E fS aA aQ bD)&&&(Ly,PF,H_ λ_ _ _ _=>rfl);exact E3 (GX Ov E dj kf iH iM jS bX gu aA aQ gC)
def walk{l:PySem.W.OpenLaw}{q:Program}{loose:List Str}{XP:(Str->Option Value)->Heap->Prop}{YP:World->Heap->Prop}{d:DefRec}{K:Params->fI}(hn:l.most=some 63)(JC:d.params.defaults=[])
  (hY:∀(w:World) (h:Heap),YP w h->(K w.params).In h)
  (F:∀(w:World) (mg:Str->Option Value) (fa:Addr) (h:Heap),(K w.params).In h->h.Ns mainGlobals mg->mg d.name=some (.ref fa)->
   ∃fd:FuncData,(∀(s:Shared) (u:Value),BindsTo s fd ⟨[u],[]⟩ [("_law_script",u)])/\∀base:Heap,(K w.params).In base->base.Ns mainGlobals mg->Φ l.prog w (K w.params) mg base Kp 9 fa fd ["_law_script"] (sT (K w.params))):
  PySem.W.WalkO q loose XP YP l.row.toRowW d [] (λf vs=>PySem.call f vs):=
 L2.qo (n:=63) (k:=9) (x:="_law_script") (CX:=λ_=>Kp) (sp:=λw=>sT (K w.params)) hn @_ JC ⟨rfl,@_,@_⟩ hY F (λ_ _ a ns hl _ hS=>⟨a,ns,rfl,hS,hl,λ_=>rfl⟩) λ_ _ _ _ _ z=>z
end
end Pg
open PySem PySem.W PyProof.Rows
set_option maxRecDepth 100000 in
set_option maxHeartbeats 0 in
theorem PySem.Challenge.cw_chanceduel_k09_floors_written_holds : PySem.Challenge.rw_chanceduel_k09_floors_written.Holds := by
 w_on;o_law
 refine holds_open (q:=Hd.q) (loose:=[]) (Xt:=Hd.Xt) (XP:=XL Hd.q [])
  (Yf:=Hd.H.obs) (Ya:=Hd.H.val) (YP:=Hd.H.says) Hd.left Hd.H.of Hd.H.keeps
  (λs e=>xl_of s (Bool.and_eq_true_iff.mp e).1) XL.keeps (by rfl) (by rfl) (by rfl)
  (λs e=>recFacts_of (Bool.and_eq_true_iff.mp e).2) (by rfl) (by assumption) (by decide+kernel)
  ⟨rfl,rfl,rfl,rfl,rfl,by decide+kernel⟩ ?hw ?hc
 (case hw=>w_witness2)
 refine Pg.walk (l:=PySem.Challenge.rw_chanceduel_k09_floors_written) rfl rfl (fun w h Y=>PySem.W.kIn_of Y) ?F
 case F=>
  k_fill
  intro w mg fa h KX G C9
  refine' Pg.all_mk KX G C9 ?_ ?_ ?_ ?_ ?_ ?_ ?_ ?_ ?_ ?_ ?_ ?_ ?_ ?_ ?_ ?_ ?_ ?_ ?_ ?_ ?_ ?_ ?_ ?_ ?_ ?_ ?_ ?_ ?_ ?_ ?_ ?_ ?_ ?_ ?_ ?_ ?_ ?_ ?_ ?_ ?_ ?_ ?_ ?_ ?_ ?_ ?_ ?_ ?_ ?_ ?_ ?_ ?_ ?_ ?_ ?_ ?_ ?_ ?_ ?_ ?_ ?_ ?_ ?_ ?_ ?_ ?_ ?_ ?_ ?_ ?_ ?_ ?_ ?_ ?_ ?_ ?_ ?_ ?_ ?_ ?_ ?_ ?_ ?_ ?_ ?_ ?_ ?_ ?_
  all_goals try first| (refine' Pg.FT.of ?_ ?_ ?_ ?_ <;> try k_is)| (refine' Pg.FM.of ?_ ?_ ?_ ?_ ?_ <;> try k_is)| k_is| k_exc| kernel_rfl
