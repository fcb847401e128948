import PyProof.Rows.All
import Wide.All
import OpenK.AllK
import Wide.FinOn
import Lean
import PyProof.EqAt
import PyProof.EqKinds
import PyProof.TupleCall
import PyProof.NeKinds
import PyProof.ZipIter
import PyProof.DictUpdate
import PyProof.FactsAll.dict_1
import PySem.Challenge.RW_chanceduel_k65_no_plan_for_a_mean
set_option Elab.async false
set_option linter.all false
set_option maxRecDepth 100000
set_option maxHeartbeats 4000000
namespace Hd
open PySem PySem.W PyProof.Rows
def at_(i:Nat):Stmt:=PySem.Challenge.pw_chanceduel_k65_no_plan_for_a_mean.main.body.getD i (.Pass ⟨0,0,0,0⟩)
def inC:Stmt→Nat→Stmt
  | .ClassDef _ _ _ b _ _ _ _ _ _ _,j=>b.getD j (.Pass ⟨0,0,0,0⟩)
  | s,_=>s
def dA:Stmt→Arguments
  | .FunctionDef _ a _ _ _ _ _ _ _ _=>a
  | _=>⟨[],[],none,[],[],none,[]⟩
def dB:Stmt→List Stmt
  | .FunctionDef _ _ b _ _ _ _ _ _ _=>b
  | _=>[]
def dS:Stmt→Scope
  | .FunctionDef _ _ _ _ _ _ c _ _ _=>c
  | _=>{kind:= .function,names:=[],isGenerator:=false,isCoroutine:=false}
abbrev row:=PySem.Challenge.rw_chanceduel_k65_no_plan_for_a_mean.row
abbrev en(P:Params)(x:Str)(t:Tok)(v:Value):DictEntry:=⟨PyData.keyHash P x, .str x t,v⟩
def q:Program:={PySem.Challenge.pw_chanceduel_k65_no_plan_for_a_mean with main:={PySem.Challenge.pw_chanceduel_k65_no_plan_for_a_mean.main with body:=[at_ 0,at_ 2,at_ 3,at_ 4,at_ 5,at_ 6,at_ 7,at_ 8,at_ 9,at_ 10,at_ 11,at_ 12,at_ 14,at_ 15,at_ 16,at_ 17,at_ 18,at_ 20,at_ 21,at_ 22,at_ 23,at_ 24,at_ 25,at_ 26,at_ 27,at_ 28,at_ 29,at_ 31,at_ 32,at_ 33,at_ 34,at_ 35,at_ 36,at_ 37,at_ 39,at_ 40,at_ 41,at_ 43,at_ 44,at_ 45,at_ 46,at_ 48,at_ 49,at_ 50,at_ 51,at_ 52,at_ 53,at_ 54,at_ 55,at_ 56,at_ 57,at_ 58,at_ 59,at_ 60]}}
abbrev cO(x q:Str)(t l n f a m:Nat):Obj:=⟨.type "code",none, .fields #[.str x t, .str q (t+1), .str "/claim/cut.py" (t+2), .int l 0, .int n 0, .int 0 0, .int 0 0, .int f 0, .ref a, .bool true, .int 181 0, .ref (a+1), .none, .ref (a+2), .ref (a+3), .ref (a+4), .int m 0, .int l 0, .str "/claim/cut.py" (m+1)], #[]⟩
abbrev dO(x q:Str)(t l n f a m:Nat):Obj:=⟨.type "code",none, .fields #[.str x t, .str q (t+1), .str "/claim/cut.py" (t+2), .int l 0, .int n 0, .int 0 0, .int 0 0, .int f 0, .ref a, .bool true, .int 181 0, .ref (a+1), .none, .none, .none, .ref (a+2), .int m 0, .int l 0, .str "/claim/cut.py" (m+1)], #[]⟩
abbrev eO(x:Str)(a d b t u:Nat):Obj:=⟨.type "type",none, .cls ⟨x,[.ref 31],[.ref a, .ref 31, .type "ValueError", .type "Exception", .type "BaseException", .type "object"],d,x,true,[],[],false,none,false⟩, #[some (.ref b),none,some (.str x t),some (.str x u),some (.builtin "ValueError.__new__"),some (.bool true)]⟩
abbrev fO(x q:Str)(s:Stmt)(m:Value)(c:Nat):Obj:=⟨.type "function",none, .func ⟨x,q,(dA s), .stmts (dB s),(dS s),3,[], .none, .none, .none,m,none, .ref c, .none,0⟩, #[]⟩
abbrev m0:Value:= .str "chanceduel.errors" 194
abbrev m1:Value:= .str "chanceduel.parts" 421
abbrev m2:Value:= .str "chanceduel.places" 467
abbrev m3:Value:= .str "chanceduel.floors" 525
abbrev m4:Value:= .str "chanceduel.plans" 671
abbrev m5:Value:= .str "chanceduel.plays" 703
abbrev m6:Value:= .str "law_chanceduel_k65_no_plan_for_a_mean" 741
def K:Params→Frag:=fun P=>
(nat_lit 2,⟨.none,none,(.dict #[] 0), #[]⟩)::
(nat_lit 3,⟨(.type "dict"),none,(.dict #[(en P "__name__" 165 m6),(en P "__doc__" 166 .none),(en P "__package__" 167 .none),(en P "__loader__" 168 (.builtin "__main__.__loader__#opaque")),(en P "__spec__" 169 .none),(en P "__annotations__" 170 (.ref 6)),(en P "__builtins__" 171 (.ref 4)),(en P "__file__" 173 (.str "/claim/cut.py" 172)),(en P "__cached__" 174 .none),(en P "_wall" 193 (.ref 21)),(en P "DuelError" 213 (.ref 31)),(en P "NoNumber" 229 (.ref 44)),(en P "NoText" 245 (.ref 56)),(en P "NoName" 261 (.ref 68)),(en P "NoFloor" 277 (.ref 80)),(en P "NoPlace" 302 (.ref 99)),(en P "NoAnswer" 327 (.ref 118)),(en P "ManyAnswers" 354 (.ref 137)),(en P "NoPlan" 379 (.ref 156)),(en P "NoGoal" 404 (.ref 175)),(en P "NoRow" 420 (.ref 187)),(en P "common_divisor" 433 (.ref 196)),(en P "fraction" 442 (.ref 203)),(en P "plus" 450 (.ref 210)),(en P "times" 458 (.ref 217)),(en P "under" 466 (.ref 224)),(en P "HANDS" 471 (.ref 225)),(en P "MOST_DOORS" 473 (.int 6 472)),(en P "MOST_BOTTOM" 475 (.int 1000000 474)),(en P "fits_pay" 482 (.ref 232)),(en P "fits_door" 490 (.ref 239)),(en P "common_bottom" 499 (.ref 246)),(en P "fits_chances" 505 (.ref 251)),(en P "fits_doors" 511 (.ref 256)),(en P "fits_row" 517 (.ref 261)),(en P "copied_row" 524 (.ref 268)),(en P "MOST_PLACES" 528 (.int 12 527)),(en P "MOST_SHARE_BOTTOM" 530 (.int 1000 529)),(en P "fits_share" 537 (.ref 275)),(en P "weighed" 548 (.ref 282)),(en P "greatest" 557 (.ref 289)),(en P "least" 566 (.ref 296)),(en P "Floor" 670 (.ref 375)),(en P "has_door" 681 (.ref 386)),(en P "doors_of" 692 (.ref 393)),(en P "ways_from" 702 (.ref 400)),(en P "more_means" 715 (.ref 407)),(en P "first_means" 721 (.ref 412)),(en P "chances_next" 734 (.ref 419)),(en P "mean_of" 740 (.ref 424)),(en P "_law_far" 750 (.ref 431)),(en P "_law_number" 760 (.ref 438)),(en P "_law_rest" 769 (.ref 445)),(en P "_law_lowest" 779 (.ref 452)),(en P "_law_share" 787 (.ref 459)),(en P "_law_pay" 794 (.ref 466)),(en P "_law_doors" 800 (.ref 471)),(en P "_law_rows" 815 (.ref 478)),(en P "_law_plans" 827 (.ref 485)),(en P "_law_spoilt" 833 (.ref 490)),(en P "_law_told" 846 (.ref 497)),(en P "_law_refused" 854 (.ref 504)),(en P "law" 871 (.ref 511))] 63), #[]⟩)::
(nat_lit 30,⟨(.type "dict"),none,(.dict #[(en P "__module__" 203 m0),(en P "__firstlineno__" 207 (.int 5 206)),(en P "__static_attributes__" 208 (.ref 29)),(en P "__weakref__" 210 (.ref 32)),(en P "__doc__" 211 .none)] 3), #[]⟩)::
(nat_lit 31,⟨(.type "type"),none,(.cls ⟨"DuelError",[(.type "ValueError")],[(.ref 31),(.type "ValueError"),(.type "Exception"),(.type "BaseException"),(.type "object")],30,"DuelError",true,[],[(.ref 44),(.ref 56),(.ref 68),(.ref 80),(.ref 99),(.ref 118),(.ref 137),(.ref 156),(.ref 175),(.ref 187)],false,none,false⟩), #[(some (.ref 22)),none,(some (.str "DuelError" 196)),(some (.str "DuelError" 204)),(some (.builtin "ValueError.__new__")),(some (.bool true))]⟩)::
(nat_lit 43,⟨(.type "dict"),none,(.dict #[(en P "__module__" 221 m0),(en P "__firstlineno__" 225 (.int 7 224)),(en P "__static_attributes__" 226 (.ref 42)),(en P "__doc__" 227 .none)] 2), #[]⟩)::
(nat_lit 44,eO "NoNumber" 44 43 35 214 222)::
(nat_lit 56,eO "NoText" 56 55 47 230 238)::
(nat_lit 68,eO "NoName" 68 67 59 246 254)::
(nat_lit 79,⟨(.type "dict"),none,(.dict #[(en P "__module__" 269 m0),(en P "__firstlineno__" 273 (.int 13 272)),(en P "__static_attributes__" 274 (.ref 78)),(en P "__doc__" 275 .none)] 2), #[]⟩)::
(nat_lit 80,eO "NoFloor" 80 79 71 262 270)::
(nat_lit 99,eO "NoPlace" 99 98 83 278 286)::
(nat_lit 118,eO "NoAnswer" 118 117 102 303 311)::
(nat_lit 137,eO "ManyAnswers" 137 136 121 328 336)::
(nat_lit 152,cO "__init__" "NoPlan.__init__" 367 33 2 3 147 372)::
(nat_lit 153,fO "__init__" "NoPlan.__init__" (inC (at_ 10) 0) m0 152)::
(nat_lit 155,⟨(.type "dict"),none,(.dict #[(en P "__module__" 362 m0),(en P "__firstlineno__" 366 (.int 31 365)),(en P "__init__" 374 (.ref 153)),(en P "__static_attributes__" 376 (.ref 154)),(en P "__doc__" 377 .none)] 2), #[]⟩)::
(nat_lit 156,eO "NoPlan" 156 155 140 355 363)::
(nat_lit 175,eO "NoGoal" 175 174 159 380 388)::
(nat_lit 187,eO "NoRow" 187 186 178 405 413)::
(nat_lit 195,cO "common_divisor" "common_divisor" 423 44 2 3 190 431)::
(nat_lit 196,fO "common_divisor" "common_divisor" (at_ 14) m1 195)::
(nat_lit 202,cO "fraction" "fraction" 434 52 2 3 197 440)::
(nat_lit 203,fO "fraction" "fraction" (at_ 15) m1 202)::
(nat_lit 209,cO "plus" "plus" 443 59 2 3 204 448)::
(nat_lit 210,fO "plus" "plus" (at_ 16) m1 209)::
(nat_lit 216,cO "times" "times" 451 61 2 3 211 456)::
(nat_lit 217,fO "times" "times" (at_ 17) m1 216)::
(nat_lit 223,cO "under" "under" 459 63 2 3 218 464)::
(nat_lit 224,fO "under" "under" (at_ 18) m1 223)::
(nat_lit 225,⟨(.type "tuple"),none,(.seq #[(.str "one" 469),(.str "other" 470)] 0), #[]⟩)::
(nat_lit 231,cO "fits_pay" "fits_pay" 476 69 1 3 226 480)::
(nat_lit 232,fO "fits_pay" "fits_pay" (at_ 23) m2 231)::
(nat_lit 238,cO "fits_door" "fits_door" 483 71 2 3 233 488)::
(nat_lit 239,fO "fits_door" "fits_door" (at_ 24) m2 238)::
(nat_lit 245,cO "common_bottom" "common_bottom" 491 73 1 3 240 497)::
(nat_lit 246,fO "common_bottom" "common_bottom" (at_ 25) m2 245)::
(nat_lit 250,dO "fits_chances" "fits_chances" 500 78 1 3 247 503)::
(nat_lit 251,fO "fits_chances" "fits_chances" (at_ 26) m2 250)::
(nat_lit 255,dO "fits_doors" "fits_doors" 506 84 2 3 252 509)::
(nat_lit 256,fO "fits_doors" "fits_doors" (at_ 27) m2 255)::
(nat_lit 260,dO "fits_row" "fits_row" 512 88 2 3 257 515)::
(nat_lit 261,fO "fits_row" "fits_row" (at_ 28) m2 260)::
(nat_lit 267,cO "copied_row" "copied_row" 518 97 1 3 262 522)::
(nat_lit 268,fO "copied_row" "copied_row" (at_ 29) m2 267)::
(nat_lit 274,cO "fits_share" "fits_share" 531 104 1 3 269 535)::
(nat_lit 275,fO "fits_share" "fits_share" (at_ 33) m3 274)::
(nat_lit 281,cO "weighed" "weighed" 538 106 2 3 276 546)::
(nat_lit 282,fO "weighed" "weighed" (at_ 34) m3 281)::
(nat_lit 288,cO "greatest" "greatest" 549 111 1 3 283 555)::
(nat_lit 289,fO "greatest" "greatest" (at_ 35) m3 288)::
(nat_lit 295,cO "least" "least" 558 117 1 3 290 564)::
(nat_lit 296,fO "least" "least" (at_ 36) m3 295)::
(nat_lit 307,dO "__init__" "Floor.__init__" 579 125 3 3 304 582)::
(nat_lit 308,fO "__init__" "Floor.__init__" (inC (at_ 37) 0) m3 307)::
(nat_lit 314,cO "size" "Floor.size" 585 136 1 3 309 589)::
(nat_lit 315,fO "size" "Floor.size" (inC (at_ 37) 1) m3 314)::
(nat_lit 328,cO "kind" "Floor.kind" 599 142 2 3 323 604)::
(nat_lit 329,fO "kind" "Floor.kind" (inC (at_ 37) 3) m3 328)::
(nat_lit 335,cO "doors" "Floor.doors" 607 145 2 3 330 612)::
(nat_lit 336,fO "doors" "Floor.doors" (inC (at_ 37) 4) m3 335)::
(nat_lit 342,cO "pay" "Floor.pay" 615 150 2 3 337 620)::
(nat_lit 343,fO "pay" "Floor.pay" (inC (at_ 37) 5) m3 342)::
(nat_lit 354,cO "shown" "Floor.shown" 629 158 4 3 349 637)::
(nat_lit 355,fO "shown" "Floor.shown" (inC (at_ 37) 7) m3 354)::
(nat_lit 359,dO "all_shown" "Floor.all_shown" 640 162 3 3 356 643)::
(nat_lit 360,fO "all_shown" "Floor.all_shown" (inC (at_ 37) 8) m3 359)::
(nat_lit 364,dO "look" "Floor.look" 646 165 3 3 361 649)::
(nat_lit 365,fO "look" "Floor.look" (inC (at_ 37) 9) m3 364)::
(nat_lit 374,⟨(.type "dict"),none,(.dict #[(en P "__module__" 574 m3),(en P "__firstlineno__" 578 (.int 123 577)),(en P "__init__" 584 (.ref 308)),(en P "size" 591 (.ref 315)),(en P "share" 598 (.ref 322)),(en P "kind" 606 (.ref 329)),(en P "doors" 614 (.ref 336)),(en P "pay" 622 (.ref 343)),(en P "rows" 628 (.ref 348)),(en P "shown" 639 (.ref 355)),(en P "all_shown" 645 (.ref 360)),(en P "look" 651 (.ref 365)),(en P "best" 660 (.ref 372)),(en P "__static_attributes__" 663 (.ref 373)),(en P "__dict__" 665 (.ref 376)),(en P "__weakref__" 667 (.ref 377)),(en P "__doc__" 668 .none)] 4), #[]⟩)::
(nat_lit 375,⟨(.type "type"),none,(.cls ⟨"Floor",[(.type "object")],[(.ref 375),(.type "object")],374,"Floor",true,[],[],false,none,false⟩), #[none,none,(some (.str "Floor" 567)),(some (.str "Floor" 575)),(some (.builtin "object.__new__")),(some (.bool true))]⟩)::
(nat_lit 385,cO "has_door" "has_door" 673 178 3 3 380 679)::
(nat_lit 386,fO "has_door" "has_door" (at_ 39) m4 385)::
(nat_lit 392,cO "doors_of" "doors_of" 682 180 2 3 387 690)::
(nat_lit 393,fO "doors_of" "doors_of" (at_ 40) m4 392)::
(nat_lit 399,cO "ways_from" "ways_from" 693 190 3 3 394 700)::
(nat_lit 400,fO "ways_from" "ways_from" (at_ 41) m4 399)::
(nat_lit 406,cO "more_means" "more_means" 705 196 3 3 401 713)::
(nat_lit 407,fO "more_means" "more_means" (at_ 43) m5 406)::
(nat_lit 411,dO "first_means" "first_means" 716 204 1 3 408 719)::
(nat_lit 412,fO "first_means" "first_means" (at_ 44) m5 411)::
(nat_lit 418,cO "chances_next" "chances_next" 722 206 3 3 413 732)::
(nat_lit 419,fO "chances_next" "chances_next" (at_ 45) m5 418)::
(nat_lit 423,dO "mean_of" "mean_of" 735 215 5 3 420 738)::
(nat_lit 424,fO "mean_of" "mean_of" (at_ 46) m5 423)::
(nat_lit 430,cO "_law_far" "_law_far" 743 224 2 3 425 748)::
(nat_lit 431,fO "_law_far" "_law_far" (at_ 48) m6 430)::
(nat_lit 437,cO "_law_number" "_law_number" 751 226 2 3 432 758)::
(nat_lit 438,fO "_law_number" "_law_number" (at_ 49) m6 437)::
(nat_lit 444,cO "_law_rest" "_law_rest" 761 232 2 3 439 767)::
(nat_lit 445,fO "_law_rest" "_law_rest" (at_ 50) m6 444)::
(nat_lit 451,cO "_law_lowest" "_law_lowest" 770 237 2 3 446 777)::
(nat_lit 452,fO "_law_lowest" "_law_lowest" (at_ 51) m6 451)::
(nat_lit 458,cO "_law_share" "_law_share" 780 243 1 3 453 785)::
(nat_lit 459,fO "_law_share" "_law_share" (at_ 52) m6 458)::
(nat_lit 465,cO "_law_pay" "_law_pay" 788 246 1 3 460 792)::
(nat_lit 466,fO "_law_pay" "_law_pay" (at_ 53) m6 465)::
(nat_lit 470,dO "_law_doors" "_law_doors" 795 250 5 3 467 798)::
(nat_lit 471,fO "_law_doors" "_law_doors" (at_ 54) m6 470)::
(nat_lit 477,cO "_law_rows" "_law_rows" 801 261 3 3 472 813)::
(nat_lit 478,fO "_law_rows" "_law_rows" (at_ 55) m6 477)::
(nat_lit 484,cO "_law_plans" "_law_plans" 816 274 3 3 479 825)::
(nat_lit 485,fO "_law_plans" "_law_plans" (at_ 56) m6 484)::
(nat_lit 489,dO "_law_spoilt" "_law_spoilt" 828 281 3 3 486 831)::
(nat_lit 490,fO "_law_spoilt" "_law_spoilt" (at_ 57) m6 489)::
(nat_lit 496,cO "_law_told" "_law_told" 834 296 4 3 491 844)::
(nat_lit 497,fO "_law_told" "_law_told" (at_ 58) m6 496)::
(nat_lit 503,cO "_law_refused" "_law_refused" 847 304 2 3 498 852)::
(nat_lit 504,fO "_law_refused" "_law_refused" (at_ 59) m6 503)::
(nat_lit 510,cO "law" "law" 855 314 1 3 505 869)::
(nat_lit 511,fO "law" "law" (at_ 60) m6 510)::[]
abbrev H:Hook:=kHook K [2,3,30,31,43,44,56,68,79,80,99,118,137,152,153,155,156,175,187,195,196,202,203,209,210,216,217,223,224,225,231,232,238,239,245,246,250,251,255,256,260,261,267,268,274,275,281,282,288,289,295,296,307,308,314,315,328,329,335,336,342,343,354,355,359,360,364,365,374,375,385,386,392,393,399,400,406,407,411,412,418,419,423,424,430,431,437,438,444,445,451,452,458,459,465,466,470,471,477,478,484,485,489,490,496,497,503,504,510,511] (fun _=>by kernel_rfl)
abbrev Xt:Shared→Bool:=fun s=>xlAt q [] s&&recOk (RowW.records row.toRowW) s
theorem Fx{A B C:Type}{o:Option C}{f:C→A}{g:C→B}{a:A}{b:B}(h:o.map f=some a)(k:o.map g=some b):o.map (fun s=>(f s,g s))=some (a,b):=by
  cases o with
  | none=>exact nomatch h
  | some c=>injection h with h;injection k with k;subst h;subst k;rfl
section
variable{A B C D E F G X:Type}{o:Option X}{f:X→A×B×C×D×E×F×G}{t:A×B×C×D×E×F×G}
def p1:A×B×C×D×E×F×G→A
  | (a,_,_,_,_,_,_)=>a
def p2:A×B×C×D×E×F×G→B×C
  | (_,b,c,_,_,_,_)=>(b,c)
def p3:A×B×C×D×E×F×G→D×E×F
  | (_,_,_,d,e,f,_)=>(d,e,f)
def p4:A×B×C×D×E×F×G→G
  | (_,_,_,_,_,_,g)=>g
theorem pr(h:o.map (fun x=>p1 (f x))=some t.1)(g:o.map (fun x=>p2 (f x))=some (t.2.1,t.2.2.1))(k:o.map (fun x=>p3 (f x))=some (t.2.2.2.1,t.2.2.2.2.1,t.2.2.2.2.2.1))(l:o.map (fun x=>p4 (f x))=some t.2.2.2.2.2.2):o.map f=some t:=by
  cases o with
  | none=>exact nomatch h
  | some x=>
    replace h:p1 (f x)=t.1:=Option.some.inj h
    replace g:p2 (f x)=(t.2.1,t.2.2.1):=Option.some.inj g
    replace k:p3 (f x)=(t.2.2.2.1,t.2.2.2.2.1,t.2.2.2.2.2.1):=Option.some.inj k
    replace l:p4 (f x)=t.2.2.2.2.2.2:=Option.some.inj l
    show some (f x)=some t
    revert h g k l
    generalize f x=u
    obtain ⟨a,b,c,d,e,f',y⟩:=u
    obtain ⟨a',b',c',d',e',f'',y'⟩:=t
    intro h g k l
    cases (h:a=a');cases (g:(b,c)=(b',c'));cases (k:(d,e,f')=(d',e',f''));cases (l:y=y');rfl
end
def goG{A B:Type}(o:Option A)(c:A→Bool)(T:A→Option B):Option (A×B):=o.bind fun a=>match c a with
  | true=>(T a).map fun b=>(a,b)
  | false=>none
def enG {A B:Type} (o:Option A) (c:A→Bool) (T:A→Option B) (k:A→B→Bool):Option B:=o.bind fun a=>match c a with
  | true=>(T a).bind fun b=>match k a b with
    | true=>some b
    | false=>none
  | false=>none
theorem bnd {A B C:Type} {o:Option A} {c:A→Bool} {T:A→Option B} {k:A→B→Bool} {g:B→C} {v:C} (h:(goG o c T).map (fun x=>k x.1 x.2)=some true) (l:(goG o c T).map (fun x=>g x.2)=some v):(enG o c T k).map g=some v:=by
  unfold goG at h l
  unfold enG
  cases o with
  | none=>exact nomatch h
  | some a=>
    dsimp only [Option.bind] at h l⊢
    cases hc:c a with
    | false=>rw [hc] at h;exact nomatch h
    | true=>
      rw [hc] at h l
      dsimp only at h l⊢
      cases hT:T a with
      | none=>rw [hT] at h;exact nomatch h
      | some b=>
        rw [hT] at h l
        injection h with h;injection l with l
        dsimp only [Option.bind]
        rw [show k a b=true from h];exact congrArg some l
noncomputable abbrev oA(p:Program)(w:World)(N:Nat):Option Shared:=(Fast.tw10274390034422433532 Fast.tw14364793385576792824 (opening p) w N (Fast.tw1435165496053646825 (opening p)).1 (Fast.tw1435165496053646825 (opening p)).2).bind (fenceModules? p)
abbrev cA(s:Shared):Bool:=s.heap.isNs mainGlobals&&s.gens.size==0
noncomputable abbrev tA(p:Program)(w:World)(N:Nat)(s₀:Shared):Option Shared:=Fast.tw14082659384304107361 Fast.tw14364793385576792824 p w s₀.heap.objs.size (s₀.heap.nsMap mainGlobals "__annotations__") N s₀ (topStub p)
abbrev kA(p:Program)(s₀ s₁:Shared):Bool:=staticsOk (importedModules p.main.body) s₀.heap s₁.heap&&namesBound p s₁.heap&&gensDone s₁&&laidKept s₀.heap s₁.heap
theorem oe(p:Program)(w:World)(N:Nat):openEnds treeTable p w N=enG (oA p w N) cA (tA p w N) (kA p):=by
  unfold openEnds fencedOpening topFrom enG oA tA
  rewrite [Fast.te14082659384304107361,Fast.te14364793385576792824,Fast.te10274390034422433532,Fast.te1435165496053646825]
  rfl
noncomputable abbrev go(w:World):=goG (oA row.prog w 8624) cA (tA row.prog w 8624)
abbrev gd:=openGood q []
noncomputable abbrev sn(x:Shared×Shared):=Fast.tw4187177175401517315 q [] (importedModules row.prog.main.body) Xt true x.2
theorem la(w:World):(go w).map (fun x=>p1 (sn x))=some gd.1:=by kernel_rfl
theorem lb(w:World):(go w).map (fun x=>p2 (sn x))=some (gd.2.1,gd.2.2.1):=by kernel_rfl
theorem lc(w:World):(go w).map (fun x=>p3 (sn x))=some (gd.2.2.2.1,gd.2.2.2.2.1,gd.2.2.2.2.2.1):=by kernel_rfl
theorem ld(w:World):(go w).map (fun x=>p4 (sn x))=some gd.2.2.2.2.2.2:=by kernel_rfl
theorem lk(w:World):(go w).map (fun x=>kA row.prog x.1 x.2)=some true:=by kernel_rfl
theorem lo(w:World):(go w).map (fun x=>H.obs x.2)=some (H.val w):=by kernel_rfl
theorem CL(w:World):(openEnds treeTable row.prog w 8624).map (openSeen q [] (importedModules row.prog.main.body) Xt true)=some gd:=by
  rewrite [oe,Fast.te4187177175401517315]
  exact bnd (lk w) (pr (la w) (lb w) (lc w) (ld w))
theorem CK(w:World):(openEnds treeTable row.prog w 8624).map H.obs=some (H.val w):=by
  rewrite [oe]
  exact bnd (lk w) (lo w)
theorem left:LeftO row.prog q [] Xt H.obs H.val 8624:=fun w=>Fx (CL w) (CK w)
end Hd
namespace L2
open PySem PySem.Spec PyProof.Rows
abbrev Key:=Sum Int Str
def qf:Key→Value→Bool
 | .inl k,v=>Value.isInt k v
 | .inr x,v=>Value.isStrOf x v
def Fd(w:World):Key→Int
 | .inl k=>hashInt k
 | .inr x=>hashStr w x
theorem bb:∀{k:Key} {v:Value},qf k v=true→(∃i t,k=Sum.inl i∧v=Value.int i t)∨(∃x t,k=Sum.inr x∧v=Value.str x t)
 | .inl i,v,h=>by
  obtain ⟨t,e⟩:=Value.isInt_shape (k:=i) (v:=v) h
  exact .inl ⟨i,t,rfl,e⟩
 | .inr x,v,h=>by
  obtain ⟨t,e⟩:=Value.isStrOf_shape (x:=x) (v:=v) h
  exact .inr ⟨x,t,rfl,e⟩
theorem sk(i:Int)(t:Tok):qf (.inl i) (.int i t)=true:=by simp [qf,Value.isInt]
theorem sj(x:Str)(t:Tok):qf (.inr x) (.str x t)=true:=by simp [qf,Value.isStrOf]
theorem Ax(a b:Int):decide ((Sum.inl a:Key)=Sum.inl b)=(a==b):=by
 by_cases e:a=b
 ·subst e;simp
 ·have h:¬(Sum.inl a:Key)=Sum.inl b:=fun q=>e (Sum.inl.inj q)
  rw [decide_eq_false h]
  exact (beq_eq_false_iff_ne.mpr e).symm
theorem Au(a b:Str):decide ((Sum.inr a:Key)=Sum.inr b)=decide (a=b):=by
 by_cases e:a=b
 ·subst e;simp
 ·have h:¬(Sum.inr a:Key)=Sum.inr b:=fun q=>e (Sum.inr.inj q)
  rw [decide_eq_false h,decide_eq_false e]
theorem Aw(a:Int)(b:Str):decide ((Sum.inl a:Key)=Sum.inr b)=false:=decide_eq_false (fun q=>nomatch q)
theorem Av(a:Str)(b:Int):decide ((Sum.inr a:Key)=Sum.inl b)=false:=decide_eq_false (fun q=>nomatch q)
def bx(prog:Program)(w:World):PySem.KeyKind prog w Key where
 is:=qf
 hash:=Fd w
 inj:=fun v a b ha hb=>by
  rcases bb ha with ⟨i,t,rfl,rfl⟩ | ⟨x,t,rfl,rfl⟩
  ·rcases bb hb with ⟨j,u,rfl,e⟩ | ⟨y,u,rfl,e⟩
   ·injection e with e1 _;rw [e1]
   ·exact nomatch e
  ·rcases bb hb with ⟨j,u,rfl,e⟩ | ⟨y,u,rfl,e⟩
   ·exact nomatch e
   ·injection e with e1 _;rw [e1]
 byValue:=fun k v h=>by
  rcases bb h with ⟨i,t,rfl,rfl⟩ | ⟨x,t,rfl,rfl⟩ <;> rfl
 pyHash:=fun hv h=>by
  rcases bb hv with ⟨i,t,rfl,rfl⟩ | ⟨x,t,rfl,rfl⟩
  ·exact wpAny_pyHash_int h
  ·exact wpAny_pyHash_str h
 eqBool:=fun hu hv h=>by
  rcases bb hu with ⟨i,t,rfl,rfl⟩ | ⟨x,t,rfl,rfl⟩
  ·rcases bb hv with ⟨j,u,rfl,rfl⟩ | ⟨y,u,rfl,rfl⟩
   ·rw [Ax] at h;exact wpAny_eqBool_int h
   ·rw [Aw] at h;exact SeqAt.EqAt.int_str i t y u _ _ _ _ h
  ·rcases bb hv with ⟨j,u,rfl,rfl⟩ | ⟨y,u,rfl,rfl⟩
   ·rw [Av] at h;exact SeqAt.EqAt.str_int x t j u _ _ _ _ h
   ·rw [Au] at h;exact wpAny_eqBool_str h
 «strs»:=fun k x t v h=>by
  rcases bb h with ⟨i,u,rfl,e⟩ | ⟨y,u,rfl,e⟩
  ·exact nomatch e
  ·injection e with e1 _
   subst e1
   cases v <;> rfl
theorem nG(prog:Program)(w:World)(i:Int)(t:Tok):(bx prog w).is (.inl i) (.int i t)=true:=sk i t
theorem nF(prog:Program)(w:World)(x:Str)(t:Tok):(bx prog w).is (.inr x) (.str x t)=true:=sj x t
end L2
namespace L2
open PySem PySem.Spec PyProof.Rows
inductive V where
 | non | bl (b:Bool) | int (i:Int) | str (x:Str) | byt (b:Array UInt8) | flt (b:UInt64) | ref (a:Addr) | ty (n:String)
 deriving DecidableEq
def bh:V→Value→Prop
 | .non,u=>u=Value.none
 | .bl b,u=>u=Value.bool b
 | .int i,u=>∃t,u=Value.int i t
 | .str x,u=>∃t,u=Value.str x t
 | .byt b,u=>∃t,u=Value.bytes b t
 | .flt b,u=>∃t,u=Value.float b t
 | .ref a,u=>u=Value.ref a
 | .ty n,u=>u=Value.type n
abbrev bz:List V→List Value→Prop:=Paired bh
theorem bz.length{xs:List V}{us:List Value}(r:bz xs us):xs.length=us.length:=Paired.length r
theorem bz.get:∀{xs:List V} {us:List Value} {i:Nat} {x:V},bz xs us→xs[i]? =some x→∃u,us[i]? =some u∧bh x u
 | _,_,_,_, .nil,e=>by simp at e
 | _,_,0,_, .cons r _,e=>by simp at e;subst e;exact ⟨_,rfl,r⟩
 | _,_,i+1,x, .cons _ t,e=>by
  obtain ⟨u,h1,h2⟩:=bz.get (i:=i) (x:=x) t (by simpa using e)
  exact ⟨u,by simpa using h1,h2⟩
theorem bz.set{x:V}{u:Value}(r:bh x u):∀{xs:List V} {us:List Value} (i:Nat),bz xs us→bz (xs.set i x) (us.set i u)
 | _,_,_, .nil=> .nil
 | _,_,0, .cons _ t=> .cons r t
 | _,_,i+1, .cons q t=> .cons q (bz.set r i t)
theorem bz.append:∀{xs ys:List V} {us ws:List Value},bz xs us→bz ys ws→bz (xs++ys) (us++ws)
 | _,_,_,_, .nil,s=>s
 | _,_,_,_, .cons r t,s=> .cons r (bz.append t s)
def iU:Option V→Option Value→Prop
 | some v,some u=>bh v u
 | none,none=>True
 | _,_=>False
def KV{κ:Type}:List (κ×V)→List (κ×Value)→Prop:=Paired fun (p:κ×V) (q:κ×Value)=>p.1=q.1∧bh p.2 q.2
def kV:Key→V
 | .inl i=> .int i
 | .inr x=> .str x
inductive HO where
 | lst (xs:List V)
 | tup (xs:List V)
 | dK (kvs:List (Key×V)) | dT (kvs:List (List Key×V))
 | set (S:Int→Bool) (n:Nat)
 | ins (C dx:Addr) (fs:List (Str×V))
 | own (x:Addr)
 | xd (fs:List (Str×V))
 | met (f x:Addr)
 | rng (lo hi:Int)
 | frz (o:Obj) (u:HO)
 | tbl (ps:Array Value)
 | ext (φ:Heap→Prop)
abbrev Hp:=Addr→Option HO
def upd(H:Hp)(a:Addr)(o:HO):Hp:=fun b=>if b=a then some o else H b
theorem ao{H:Hp}{a:Addr}{o:HO}:upd H a o a=some o:=by unfold upd;rw [if_pos rfl]
theorem ai{H:Hp}{a b:Addr}{o:HO}(h:b≠a):upd H a o b=H b:=by unfold upd;rw [if_neg h]
theorem CG{H:Hp}{a b:Addr}{o u:HO}(h:H a=some o)(h':H b=some u)(d:o≠u):a≠b:=by
 intro e;subst e;rw [h] at h';exact d (Option.some.inj h')
theorem aH{H:Hp}{a b:Addr}{o:HO}(h:H a=some o)(h':H b=none):a≠b:=by
 intro e;subst e;rw [h] at h';cases h'
section
variable(P:Program)(w:World)
def ba(H:Hp)(h:Heap)(a:Addr):HO→Prop
 | .lst xs=>xs.length≤sizeLine∧∃(its:List Value) (n:Nat),bz xs its∧h.get? a=some {cls:= .type "list",data:= .seq its.toArray n}
 | .tup xs=>xs.length≤sizeLine∧∃its:List Value,bz xs its∧IsTup h a its.toArray
 | .dK kvs=>kvs.length≤sizeLine∧(a==sysModules)=false∧∃vs,KV kvs vs∧h.DictOf (bx P w) a vs
 | .dT kvs=>kvs.length≤sizeLine∧(a==sysModules)=false∧∃xs:List (List Key×Addr×Value),
   Paired (fun (p:List Key×V) (q:List Key×Addr×Value)=>p.1=q.1∧H q.2.1=some (.tup (p.1.map kV))∧bh p.2 q.2.2) kvs xs∧
   ∃o es ep,h.get? a=some o∧o.ExactDict∧o.data= .dict es ep∧es.toList=xs.map (entryOfKey (tupleKind (bx P w)))∧(xs.map (·.1)).Nodup
 | .set S n=>h.SetOf (intKind P w) a S n
 | .ins C dx fs=>H dx=some (.own a)∧fs.length≤1000∧dx≠a∧h.get? a=some (PySem.W.instObj C dx)∧
   ∃mA,h.Ns1 dx mA∧(∀f,iU (fs.lookup f) (mA f))∧PySem.Within mA (fs.map (·.1))
 | .own _=>∃o,h.get? a=some o
 | .xd fs=>∃mA,h.Ns1 a mA∧∀f,iU (fs.lookup f) (mA f)
 | .rng lo hi=>∃t u v,h.get? a=some {cls:= .type "range",data:= .fields #[.int lo t, .int hi u, .int 1 v]}
 | .frz o u=>h.get? a=some o∧ba H h a u
 | .tbl ps=>h.get? a=some {cls:= .none,data:= .fields ps}
 | .met f x=>h.get? a=some (PySem.W.methodObj (.ref f) (.ref x))
 | .ext φ=>φ h∧(∃o,h.get? a=some o)∧∀h1 h2:Heap,φ h1→(∀o,h1.get? a=some o→h2.get? a=some o)→φ h2
def HOk(H:Hp)(h:Heap):Prop:=∀a o,H a=some o→ba P w H h a o
end
section
variable{P:Program}{w:World}{H H':Hp}{h h':Heap}{a:Addr}{o:HO}
theorem ba.lt(x:ba P w H h a o):a < h.objs.size:=by
 cases o with
 | lst xs=>obtain ⟨_,_,_,_,e⟩:=x;exact Heap.lt_size e
 | tup xs=>obtain ⟨_,_,_,p⟩:=x;exact p.lt
 | dK kvs=>obtain ⟨_,_,_,_,o,_,_,e,_⟩:=x;exact Heap.lt_size e
 | dT kvs=>obtain ⟨_,_,_,_,o,_,_,e,_⟩:=x;exact Heap.lt_size e
 | set S n=>obtain ⟨o,_,_,_,e,_⟩:=x;exact Heap.lt_size e
 | ins C dx fs=>obtain ⟨_,_,_,e,_⟩:=x;exact Heap.lt_size e
 | own y=>obtain ⟨_,e⟩:=x;exact Heap.lt_size e
 | xd fs=>obtain ⟨_,⟨_,_,_,e,_⟩,_⟩:=x;exact Heap.lt_size e
 | rng lo hi=>obtain ⟨_,_,_,e⟩:=x;exact Heap.lt_size e
 | frz ob u=>obtain ⟨e,_⟩:=x;exact Heap.lt_size e
 | tbl ps=>exact Heap.lt_size (show h.get? a=some _ from x)
 | met f y=>exact Heap.lt_size (show h.get? a=some _ from x)
 | ext φ=>obtain ⟨_,⟨_,e⟩,_⟩:=x;exact Heap.lt_size e
theorem Paired.mapP{α β:Type}{F G:α→β→Prop}:∀{l₁:List α} {l₂:List β},Paired F l₁ l₂→(∀a b,F a b→G a b)→Paired G l₁ l₂
 | _,_, .nil,_=> .nil
 | _,_, .cons r t,f=> .cons (f _ _ r) (Paired.mapP t f)
theorem ba.stay(x:ba P w H h a o)(k:∀b u,(b=a∨H b=some (.own a))→h.get? b=some u→h'.get? b=some u)
  (ho:∀b,H b=some (.own a)→H' b=some (.own a)) (ht:∀b xs,H b=some (.tup xs)→H' b=some (.tup xs)):ba P w H' h' a o:=by
 induction o with
 | lst xs=>obtain ⟨z,its,n,r,e⟩:=x;exact ⟨z,its,n,r,k _ _ (.inl rfl) e⟩
 | tup xs=>obtain ⟨z,its,r,ob,e,c⟩:=x;exact ⟨z,its,r,ob,k _ _ (.inl rfl) e,c⟩
 | dK kvs=>obtain ⟨z,y,vs,r,ob,es,ep,e,c⟩:=x;exact ⟨z,y,vs,r,ob,es,ep,k _ _ (.inl rfl) e,c⟩
 | dT kvs=>
  obtain ⟨z,y,xs,r,ob,es,ep,e,c⟩:=x
  exact ⟨z,y,xs,Paired.mapP r fun p q z=>⟨z.1,ht _ _ z.2.1,z.2.2⟩,ob,es,ep,k _ _ (.inl rfl) e,c⟩
 | set S n=>obtain ⟨ob,es,ep,t,e,c⟩:=x;exact ⟨ob,es,ep,t,k _ _ (.inl rfl) e,c⟩
 | ins C dx fs=>
  obtain ⟨d,z,ne,e,mA,⟨od,es,ep,e2,c⟩,r⟩:=x
  exact ⟨ho _ d,z,ne,k _ _ (.inl rfl) e,mA,⟨od,es,ep,k _ _ (.inr d) e2,c⟩,r⟩
 | own y=>obtain ⟨ob,e⟩:=x;exact ⟨ob,k _ _ (.inl rfl) e⟩
 | xd fs=>obtain ⟨mA,⟨od,es,ep,e,c⟩,r⟩:=x;exact ⟨mA,⟨od,es,ep,k _ _ (.inl rfl) e,c⟩,r⟩
 | rng lo hi=>obtain ⟨t,u,v,e⟩:=x;exact ⟨t,u,v,k _ _ (.inl rfl) e⟩
 | frz ob u ih=>obtain ⟨e,q⟩:=x;exact ⟨k _ _ (.inl rfl) e,ih q⟩
 | tbl ps=>
  have e:h.get? a=some {cls:= .none,data:= .fields ps}:=x
  show h'.get? a=some {cls:= .none,data:= .fields ps}
  exact k a _ (.inl rfl) e
 | met f y=>
  have e:h.get? a=some (PySem.W.methodObj (.ref f) (.ref y)):=x
  show h'.get? a=some (PySem.W.methodObj (.ref f) (.ref y))
  exact k a _ (.inl rfl) e
 | ext φ=>obtain ⟨p,⟨o,e⟩,st⟩:=x;exact ⟨st _ _ p fun o q=>k _ _ (.inl rfl) q,⟨o,k _ _ (.inl rfl) e⟩,st⟩
theorem HOk.lt(x:HOk P w H h)(e:H a=some o):a < h.objs.size:=(x a o e).lt
theorem HOk.fresh(x:HOk P w H h)(e:h.objs.size≤a):H a=none:=by
 cases q:H a with
 | none=>rfl
 | some u=>exact absurd (Nat.lt_of_lt_of_le (x.lt q) e) (Nat.lt_irrefl _)
theorem HOk.kept(x:HOk P w H h)(k:∀b u,h.get? b=some u→h'.get? b=some u):HOk P w H h':=fun a o e=>
 (x a o e).stay (fun b u _ q=>k b u q) (fun _ q=>q) fun _ _ q=>q
theorem HOk.laid(x:HOk P w H h)(k:∀b u,h.get? b=some u→h'.get? b=some u)(hp:h.objs.size≤a)(new:ba P w (upd H a o) h' a o):HOk P w (upd H a o) h':=fun b u e=>by
 have hn:=x.fresh hp
 by_cases hb:b=a
 ·subst hb;rw [ao] at e;cases e;exact new
 ·rw [ai hb] at e
  exact (x b u e).stay (fun c v _ q=>k c v q) (fun c q=>by rw [ai (aH q hn)];exact q) fun c xs q=>by rw [ai (aH q hn)];exact q
end
def Rd(H:Hp)(a:Addr)(u:HO):Prop:=H a=some u∨∃o,H a=some (.frz o u)
theorem Rd.ok{P:Program}{w:World}{H:Hp}{h:Heap}{a:Addr}{u:HO}(r:Rd H a u)(x:HOk P w H h):ba P w H h a u:=by
 rcases r with r | ⟨o,r⟩
 ·exact x a u r
 ·obtain ⟨_,q⟩:=x a _ r
  exact q
def Mut:Option HO→Prop
 | some (.lst _)=>True
 | some (.dK _)=>True
 | some (.dT _)=>True
 | some (.set _ _)=>True
 | some (.ins _ _ _)=>True
 | some (.ext _)=>True
 | _=>False
section
variable{P:Program}{w:World}{H:Hp}{h h':Heap}{x e:Addr}{o':HO}
theorem HOk.write(ok:HOk P w H h)(mu:Mut (H x))(he:e=x∨H e=some (.own x))(k:∀b u,b≠e→h.get? b=some u→h'.get? b=some u)(heo:∃u,h'.get? e=some u)
  (new:ba P w (upd H x o') h' x o'):HOk P w (upd H x o') h':=fun b u q=>by
 have nown:∀c y,H c=some (.own y)→c≠x:=fun c y r z=>by subst z;rw [r] at mu;exact mu
 have ntup:∀c xs,H c=some (.tup xs)→c≠x:=fun c xs r z=>by subst z;rw [r] at mu;exact mu
 by_cases hb:b=x
 ·subst hb;rw [ao] at q;cases q;exact new
 ·rw [ai hb] at q
  by_cases hbe:b=e
  ·have q':H b=some (.own x):=by
    rcases he with z | z
    ·exact absurd (hbe.trans z) hb
    ·rw [hbe];exact z
   rw [q] at q';cases q'
   obtain ⟨v,hv⟩:=heo
   exact ⟨v,by rw [hbe];exact hv⟩
  ·refine (ok b u q).stay (fun c v hc r=>k c v ?_ r) (fun c r=>by rw [ai (nown c b r)];exact r) fun c xs r=>by rw [ai (ntup c xs r)];exact r
   rcases hc with rfl | hc
   ·exact hbe
   ·rintro rfl
    rcases he with z | z
    ·exact nown c b hc z
    ·rw [hc] at z;cases z;exact hb rfl
end
structure Un(fs ex:List Addr)(H H':Hp)(h h':Heap):Prop where
 keep:∀b o,h.get? b=some o→H b=none→b∉fs→b∉ex→h'.get? b=some o
 slot:∀b o,h.get? b=some o→H b=none→b∈fs→b∉ex→∃sl,h'.get? b=some {o with slots:=sl}
 free:∀b o,h.get? b=some o→H b=none→b∉ex→H' b=none
 there:∀b o,h.get? b=some o→b∉ex→∃o',h'.get? b=some o'
 tups:∀b xs,H b=some (.tup xs)→H' b=some (.tup xs)
 frzs:∀b o u,H b=some (.frz o u)→H' b=some (.frz o u)
 tbls:∀b ps,H b=some (.tbl ps)→∃more,H' b=some (.tbl (ps++more))
section
variable{fs fs' ex ex':List Addr}{H H1 H2:Hp}{h h1 h2 h':Heap}{a x e:Addr}{o:HO}
theorem Un.any(u:Un fs ex H H1 h h1){b:Addr}{ob:Obj}(q:h.get? b=some ob)(n:H b=none)(hx:b∉ex):∃sl,h1.get? b=some {ob with slots:=sl}:=by
 by_cases hb:b∈fs
 ·exact u.slot b ob q n hb hx
 ·exact ⟨ob.slots,u.keep b ob q n hb hx⟩
theorem Un.kept(k:∀b u,h.get? b=some u→h'.get? b=some u):Un fs ex H H h h':=
 ⟨fun b ob q _ _ _=>k b ob q,fun b ob q _ _ _=>⟨ob.slots,k b ob q⟩,fun _ _ _ n _=>n,fun b ob q _=>⟨ob,k b ob q⟩,fun _ _ q=>q,fun _ _ _ q=>q,fun _ ps q=>⟨#[],by rw [q];simp⟩⟩
theorem Un.refl:Un fs ex H H h h:=Un.kept fun _ _ q=>q
theorem Un.laid(k:∀b u,h.get? b=some u→h'.get? b=some u)(hp:h.objs.size≤a)(hn:H a=none):Un fs ex H (upd H a o) h h' where
 keep:=fun b u q _ _ _=>k b u q
 slot:=fun b u q _ _ _=>⟨u.slots,k b u q⟩
 free:=fun b u q n _=>by rw [ai (Nat.ne_of_lt (Nat.lt_of_lt_of_le (Heap.lt_size q) hp))];exact n
 there:=fun b u q _=>⟨u,k b u q⟩
 tups:=fun b xs q=>by rw [ai (aH q hn)];exact q
 frzs:=fun b u xs q=>by rw [ai (aH q hn)];exact q
 tbls:=fun b ps q=>⟨#[],by rw [ai (aH q hn),q];simp⟩
theorem Un.write(mu:Mut (H x))(he:e=x∨H e=some (.own x))(k:∀b u,b≠e→h.get? b=some u→h'.get? b=some u)(heo:∃u,h'.get? e=some u):Un fs ex H (upd H x o) h h':=by
 have hx:∀b,H b=none→b≠x:=fun b n z=>by subst z;rw [n] at mu;exact mu
 have hb:∀b,H b=none→b≠e:=fun b n z=>by
  subst z
  rcases he with r | r
  ·exact hx b n r
  ·rw [n] at r;cases r
 have hm:∀b u,H b=some u→¬Mut (some u)→b≠x:=fun b u q nm z=>by subst z;rw [q] at mu;exact nm mu
 refine ⟨fun b u q n _ _=>k b u (hb b n) q,fun b u q n _ _=>⟨u.slots,k b u (hb b n) q⟩,fun b u q n _=>by rw [ai (hx b n)];exact n,fun b u q _=> ?_,
  fun b xs q=>by rw [ai (hm b _ q fun z=>z)];exact q,fun b u xs q=>by rw [ai (hm b _ q fun z=>z)];exact q,fun b ps q=>⟨#[],by rw [ai (hm b _ q fun z=>z),q];simp⟩⟩
 by_cases hbe:b=e
 ·subst hbe;exact heo
 ·exact ⟨u,k b u hbe q⟩
end
def trk(h:Heap)(H:Hp):List Addr:=(List.range h.objs.size).filter fun a=>(H a).isSome
def vt(h:Heap)(H:Hp):Heap:=PySem.W.hideAll h (trk h H)
theorem sQ(h:Heap)(H:Hp):(vt h H).objs.size=h.objs.size:=PySem.W.hideAll_size _ _
theorem vq{h:Heap}{H:Hp}{b:Addr}{o:Obj}(e:h.get? b=some o)(n:H b=none):(vt h H).get? b=some o:=
 PySem.W.hideAll_get _ e fun hm=>by
  have q:(H b).isSome=true:=(List.mem_filter.mp hm).2
  rw [n] at q;simp at q
theorem x8{h:Heap}{H:Hp}{b:Addr}{o:Obj}(e:(vt h H).get? b=some o):h.get? b=some o∧H b=none:=by
 have e':h.get? b=some o:=PySem.W.of_hideAll (trk h H) e
 refine ⟨e', ?_⟩
 cases q:H b with
 | none=>rfl
 | some x=>
  have hm:b∈trk h H:=List.mem_filter.mpr ⟨List.mem_range.mpr (Heap.lt_size e'),by simp [q]⟩
  have z:(vt h H).get? b=none:=PySem.W.hideAll_none (trk h H) hm
  rw [z] at e;cases e
end L2
namespace L2
open PySem PySem.Spec PyProof.Rows
structure Mod(K:PySem.W.Frag)(mg:Str→Option Value)(base:Heap):Prop where
 kin:K.In base
 glob:base.Ns mainGlobals mg
 blt:∃mb,base.Ns builtinsNs mb∧∀x:Str,x≠"__name__"→mb x=bootBuiltins x
 nolimit:base.NoLimit
structure Cx where
 prog:Program
 w:World
 K:PySem.W.Frag
 mg:Str→Option Value
 base:Heap
 A:Around
 N:List Str
 s₀:Shared
 H₀:Hp
 env:Env
 outer:List Env
 stack:List Env
 ex:List Addr
 fn:Str→Bool
 calm:Bool
 pn:List (Addr×Obj)
 xe:Value→Shared→Prop
def frs(l:List Env):List Addr:=l.filterMap (·.frame)
abbrev Cx.fs(X:Cx):List Addr:=frs X.outer
def Vis(sc:Scope)(x:Str):Prop:=sc.names.lookup x=some .local∨sc.names.lookup x=some .cell∨sc.names.lookup x=some .free
def Loc(sc:Scope)(x:Str):Prop:=sc.names.lookup x=some .local∨sc.names.lookup x=some .cell
def FD(env:Env)(h:Heap)(m:Str→Option Value)(x:Str)(u:Value):Prop:=
 (env.kindOf x=some .local∧m x=some u)∨((env.kindOf x=some .cell∨env.kindOf x=some .free)∧∃c,env.cells.lookup x=some c∧h.IsCell c (some u))
structure Cx.Ok(X:Cx):Prop where
 mod:Mod X.K X.mg X.base
 kind:X.env.scope.kind= .function
 glob:X.env.globals=mainGlobals
 blt:X.env.builtins=builtinsNs
 above:X.s₀.heap.objs.size≤X.env.locals
 inj:∀x y c,X.env.cells.lookup x=some c→X.env.cells.lookup y=some c→x=y
 has:∀x,(X.env.kindOf x=some .cell∨X.env.kindOf x=some .free)→∃c,X.env.cells.lookup x=some c
 cab:∀x c,X.fn x=true→X.env.cells.lookup x=some c→X.s₀.heap.objs.size≤c
 hd:X.calm=true→X.A.handled=none
 frames:X.A.frames=some X.stack
 stk:X.stack=X.outer∨(X.stack=X.env::X.outer∧X.env.frame=some X.env.locals)
 exf:∀b∈X.ex,b≠X.env.locals∧∀x c,X.env.cells.lookup x=some c→c≠b
 bs:∀b o,X.base.get? b=some o→X.s₀.heap.get? b=some o∧X.H₀ b=none
 bsz:X.base.objs.size≤X.s₀.heap.objs.size
 noex:∀b o,X.base.get? b=some o→b∉X.ex
 exfs:∀b∈X.ex,b∉X.fs
 funs:X.s₀.heap.FunFrames X.base X.outer
 frf:∀b∈X.fs,X.H₀ b=none
structure Inv(X:Cx)(pins:List (Addr×Obj))(σ:List (Option V))(H:Hp)(s:Shared):Prop where
 ok:X.Ok
 os:s.os=X.s₀.os
 bare:AllBare s.gens
 base:Un X.fs X.ex X.H₀ H X.s₀.heap s.heap
 loc:∃m,s.heap.Ns X.env.locals m∧∀(i:Nat) (x:Str) (v:V),X.N[i]? =some x→σ[i]? =some (some v)→Vis X.env.scope x→∃u,bh v u∧FD X.env s.heap m x u
 cell:∀x c,X.env.cells.lookup x=some c→∃v,s.heap.IsCell c v
 free:H X.env.locals=none
 freeC:∀x c,X.env.cells.lookup x=some c→H c=none
 pin:∀p∈X.pn++pins,s.heap.get? p.1=some p.2∧H p.1=none∧p.1≠X.env.locals∧p.1∉X.fs∧∀v,p.2.data≠ .cell v
 hok:HOk X.prog X.w H s.heap
 len:σ.length=X.N.length
section
variable{X:Cx}{pins:List (Addr×Obj)}{σ:List (Option V)}{H H':Hp}{s:Shared}{h':Heap}
theorem Cx.Ok.nofr(ok:X.Ok){b:Addr}{o:Obj}(e:X.base.get? b=some o):b∉X.fs:=fun hb=>by
 have:=(ok.funs.mem hb).1
 rw [e] at this;cases this
theorem Inv.bs(I:Inv X pins σ H s):∀b o,X.base.get? b=some o→s.heap.get? b=some o∧H b=none:=fun b o e=>
 ⟨I.base.keep b o (I.ok.bs b o e).1 (I.ok.bs b o e).2 (I.ok.nofr e) (I.ok.noex b o e),I.base.free b o (I.ok.bs b o e).1 (I.ok.bs b o e).2 (I.ok.noex b o e)⟩
theorem Inv.bk(I:Inv X pins σ H s):∀b o,X.base.get? b=some o→s.heap.get? b=some o:=fun b o e=>(I.bs b o e).1
theorem Inv.mod(I:Inv X pins σ H s):Mod X.K X.mg X.base:=I.ok.mod
theorem Inv.kIn(I:Inv X pins σ H s):X.K.In s.heap:=I.ok.mod.kin.keeps I.bk
theorem Inv.lt(I:Inv X pins σ H s):X.env.locals < s.heap.objs.size:=let ⟨_,hn,_⟩:=I.loc;hn.lt
theorem Inv.sz(I:Inv X pins σ H s):X.s₀.heap.objs.size≤s.heap.objs.size:=Nat.le_trans I.ok.above (Nat.le_of_lt I.lt)
theorem Inv.nofs(I:Inv X pins σ H s){a:Addr}(h:s.heap.objs.size≤a):a∉X.fs:=fun hb=>by
 obtain ⟨_,o,ho,_⟩:=I.ok.funs.mem hb
 exact absurd (Nat.lt_of_lt_of_le (Heap.lt_size ho) (Nat.le_trans I.sz h)) (Nat.lt_irrefl _)
theorem Inv.cne(I:Inv X pins σ H s):∀x c,X.env.cells.lookup x=some c→c≠X.env.locals:=fun x c e z=>by
 obtain ⟨v,o,ho,hd⟩:=I.cell x c e
 obtain ⟨m,⟨o',es,ep,ho',hd',_⟩,_⟩:=I.loc
 rw [z,ho'] at ho;cases ho;rw [hd'] at hd;cases hd
theorem Inv.funs(I:Inv X pins σ H s):s.heap.FunFrames X.base X.outer:=by
 have all:∀(l:List Env),(∀b∈frs l,b∈X.fs)→X.s₀.heap.FunFrames X.base l→s.heap.FunFrames X.base l:=by
  intro l
  induction l with
  | nil=>intro _ _;trivial
  | cons env r ih=>
   intro hs hl
   obtain ⟨hk,⟨L,o,hf,hn,ho,hd⟩,hr⟩:=hl
   have hL:L∈X.fs:=hs L (by unfold frs;rw [List.filterMap_cons,hf];exact List.mem_cons_self)
   obtain ⟨sl,e⟩:=I.base.slot L o ho (I.ok.frf L hL) hL fun z=>I.ok.exfs L z hL
   exact ⟨hk,⟨L,_,hf,hn,e,hd⟩,ih (fun b hb=>hs b (by unfold frs;rw [List.filterMap_cons,hf];exact List.mem_cons_of_mem _ hb)) hr⟩
 exact all X.outer (fun _ hb=>hb) I.ok.funs
theorem Inv.stack(I:Inv X pins σ H s):s.heap.FunFrames X.base X.stack:=by
 rcases I.ok.stk with e | ⟨e,hf⟩
 ·rw [e];exact I.funs
 ·rw [e]
  obtain ⟨m,hn,_⟩:=I.loc
  refine .cons (by rw [I.ok.kind];decide) hf hn ?_ I.funs
  exact Heap.get?_none_of_le (Nat.le_trans I.ok.bsz I.ok.above)
theorem Inv.stkSub(I:Inv X pins σ H s):∀b∈frs X.stack,b∈X.env.locals::X.fs:=fun b hb=>by
 rcases I.ok.stk with e | ⟨e,hf⟩
 ·rw [e] at hb;exact List.mem_cons_of_mem _ hb
 ·rw [e] at hb
  unfold frs at hb
  rw [List.filterMap_cons,hf] at hb
  exact hb
theorem Inv.stkFree(I:Inv X pins σ H s):∀b∈frs X.stack,H b=none:=fun b hb=>by
 rcases List.mem_cons.mp (I.stkSub b hb) with e | hb
 ·rw [e];exact I.free
 ·obtain ⟨_,o,ho,_⟩:=I.ok.funs.mem hb
  exact I.base.free b o ho (I.ok.frf b hb) fun z=>I.ok.exfs b z hb
theorem Inv.step{g':Array GenState}{t':Nat}{d':Drawn}{ch:List Addr}(I:Inv X pins σ H s)
  (hch:∀b∈ch,(b∈X.ex∨X.s₀.heap.objs.size≤b)∧b≠X.env.locals∧(∀x c,X.env.cells.lookup x=some c→c≠b)∧∀p∈X.pn++pins,p.1≠b)
  (keep:∀b o,b≠X.env.locals→b∉X.fs→b∉ch→s.heap.get? b=some o→H b=none→h'.get? b=some o)
  (slot:∀b o,b≠X.env.locals→b∈X.fs→b∉ch→s.heap.get? b=some o→H b=none→∃sl,h'.get? b=some {o with slots:=sl}) (free:∀b o,b∉ch→s.heap.get? b=some o→H b=none→H' b=none)
  (there:∀b o,b∉ch→s.heap.get? b=some o→∃o',h'.get? b=some o')
  (tups:∀b xs,H b=some (.tup xs)→H' b=some (.tup xs)) (frzs:∀b o u,H b=some (.frz o u)→H' b=some (.frz o u)) (tbls:∀b ps,H b=some (.tbl ps)→∃more,H' b=some (.tbl (ps++more)))
  (ns:∀m,s.heap.Ns X.env.locals m→h'.Ns X.env.locals m) (hok:HOk X.prog X.w H' h') (hg:AllBare g'):
  Inv X pins σ H' {s with heap:=h',gens:=g',drawn:=d',toks:=t'}:=by
 have neL:∀b o,X.s₀.heap.get? b=some o→b≠X.env.locals:=fun b o e=>Nat.ne_of_lt (Nat.lt_of_lt_of_le (Heap.lt_size e) I.ok.above)
 have neC:∀b o,X.s₀.heap.get? b=some o→b∉X.ex→b∉ch:=fun b o e hx hb=>by
  rcases (hch b hb).1 with z | z
  ·exact hx z
  ·exact absurd (Nat.lt_of_lt_of_le (Heap.lt_size e) z) (Nat.lt_irrefl _)
 have cellK:∀x c,X.env.cells.lookup x=some c→∀v,s.heap.IsCell c v→h'.IsCell c v:=fun x c e v ⟨o,ho,hd⟩=>by
  have nch:c∉ch:=fun z=>(hch c z).2.2.1 x c e rfl
  by_cases hc:c∈X.fs
  ·obtain ⟨sl,q⟩:=slot c o (I.cne x c e) hc nch ho (I.freeC x c e)
   exact ⟨_,q,hd⟩
  ·exact ⟨o,keep c o (I.cne x c e) hc nch ho (I.freeC x c e),hd⟩
 refine ⟨I.ok,I.os,hg,⟨fun b o e n hb hx=> ?_,fun b o e n hb hx=> ?_,fun b o e n hx=> ?_,fun b o e hx=> ?_,fun b xs e=>tups b xs (I.base.tups b xs e),fun b o xs e=>frzs b o xs (I.base.frzs b o xs e),fun b ps e=> ?_⟩, ?_,fun x c e=> ?_, ?_,fun x c e=> ?_,fun p hp=> ?_,hok,I.len⟩
 ·exact keep b o (neL b o e) hb (neC b o e hx) (I.base.keep b o e n hb hx) (I.base.free b o e n hx)
 ·obtain ⟨sl,e1⟩:=I.base.slot b o e n hb hx
  obtain ⟨sl',e2⟩:=slot b _ (neL b o e) hb (neC b o e hx) e1 (I.base.free b o e n hx)
  exact ⟨sl',e2⟩
 ·obtain ⟨o',e1⟩:=I.base.there b o e hx
  exact free b o' (neC b o e hx) e1 (I.base.free b o e n hx)
 ·obtain ⟨o',e1⟩:=I.base.there b o e hx
  exact there b o' (neC b o e hx) e1
 ·obtain ⟨m1,e1⟩:=I.base.tbls b ps e
  obtain ⟨m2,e2⟩:=tbls b _ e1
  exact ⟨m1++m2,by rw [e2,Array.append_assoc]⟩
 ·obtain ⟨m,hn,hl⟩:=I.loc
  refine ⟨m,ns m hn,fun i x v e1 e2 e3=> ?_⟩
  obtain ⟨u,r,l⟩:=hl i x v e1 e2 e3
  refine ⟨u,r, ?_⟩
  rcases l with l | ⟨k,c,e,z⟩
  ·exact .inl l
  ·exact .inr ⟨k,c,e,cellK x c e _ z⟩
 ·obtain ⟨v,z⟩:=I.cell x c e
  exact ⟨v,cellK x c e v z⟩
 ·obtain ⟨m,⟨o,_,_,ho,_⟩,_⟩:=I.loc
  exact free _ o (fun z=>(hch _ z).2.1 rfl) ho I.free
 ·obtain ⟨v,o,ho,hd⟩:=I.cell x c e
  exact free c o (fun z=>(hch c z).2.2.1 x c e rfl) ho (I.freeC x c e)
 ·obtain ⟨e,n,ne,nf,d⟩:=I.pin p hp
  have nch:p.1∉ch:=fun z=>(hch p.1 z).2.2.2 p hp rfl
  exact ⟨keep p.1 p.2 ne nf nch e n,free p.1 p.2 nch e n,ne,nf,d⟩
theorem Inv.un{t':Nat}(I:Inv X pins σ H s)(u:Un X.fs [] H H' s.heap h')(hok:HOk X.prog X.w H' h'):Inv X pins σ H' {s with heap:=h',toks:=t'}:=by
 obtain ⟨m,⟨o,es,ep,ho,r⟩,_⟩:=id I.loc
 obtain ⟨sl,hL⟩:=u.any ho I.free (by simp)
 exact I.step (g':=s.gens) (d':=s.drawn) (ch:=[]) (fun _ z=>nomatch z) (fun b o _ hb _ e n=>u.keep b o e n hb (by simp)) (fun b o _ hb _ e n=>u.slot b o e n hb (by simp)) (fun b o _ e n=>u.free b o e n (by simp)) (fun b o _ e=>u.there b o e (by simp)) u.tups u.frzs u.tbls (fun m' hm=>by
  obtain ⟨o',es',ep',ho',r'⟩:=hm
  rw [ho] at ho';cases ho'
  exact ⟨_,es',ep',hL,r'⟩) hok I.bare
theorem Inv.call{g':Array GenState}{t':Nat}{d':Drawn}{ch:List Addr}(I:Inv X pins σ H s)(u:Un (frs X.stack) ch H H' s.heap h')(hok:HOk X.prog X.w H' h')(hg:AllBare g')
  (hch:∀b∈ch,(b∈X.ex∨X.s₀.heap.objs.size≤b)∧b≠X.env.locals∧(∀x c,X.env.cells.lookup x=some c→c≠b)∧∀p∈X.pn++pins,p.1≠b):
  Inv X pins σ H' {s with heap:=h',gens:=g',drawn:=d',toks:=t'}:=by
 obtain ⟨m,⟨o,es,ep,ho,r⟩,_⟩:=id I.loc
 obtain ⟨sl,hL⟩:=u.any ho I.free fun z=>(hch _ z).2.1 rfl
 exact I.step (ch:=ch) hch (fun b o hL hb hc e n=>u.keep b o e n (fun z=>(List.mem_cons.mp (I.stkSub b z)).elim hL hb) hc) (fun b o _ _ hc e n=>u.any e n hc) (fun b o hc e n=>u.free b o e n hc) (fun b o hc e=>u.there b o e hc) u.tups u.frzs u.tbls (fun m' hm=>by
  obtain ⟨o',es',ep',ho',r'⟩:=hm
  rw [ho] at ho';cases ho'
  exact ⟨_,es',ep',hL,r'⟩) hok hg
theorem Inv.turned{t':Nat}{it:Addr}(I:Inv X pins σ H s)(k:∀b o,b≠it→s.heap.get? b=some o→h'.get? b=some o)(hn:H it=none)(hL:it≠X.env.locals)
  (h1:it∈X.ex∨X.s₀.heap.objs.size≤it) (h2:∀x c,X.env.cells.lookup x=some c→c≠it) (h3:∀p∈X.pn++pins,p.1≠it):Inv X pins σ H {s with heap:=h',toks:=t'}:=by
 have nit:∀b u,H b=some u→b≠it:=fun b u e z=>by rw [z,hn] at e;cases e
 refine I.step (g':=s.gens) (d':=s.drawn) (ch:=[it]) (fun b hb=> ?_) (fun b o _ _ hc e _=>k b o (fun z=>hc (by simp [z])) e) (fun b o _ _ hc e _=>⟨o.slots,k b o (fun z=>hc (by simp [z])) e⟩) (fun _ _ _ _ n=>n)
  (fun b o hc e=>⟨o,k b o (fun z=>hc (by simp [z])) e⟩) (fun _ _ e=>e) (fun _ _ _ e=>e) (fun b ps e=>⟨#[],by rw [e];simp⟩) (fun m hm=> ?_) (fun b u e=> ?_) I.bare
 ·have e:b=it:=by simpa using hb
  subst e
  exact ⟨h1,hL,h2,h3⟩
 ·obtain ⟨o,es,ep,ho,r⟩:=hm
  exact ⟨o,es,ep,k _ o (Ne.symm hL) ho,r⟩
 ·refine (I.hok b u e).stay (fun c v hc q=>k c v ?_ q) (fun _ q=>q) fun _ _ q=>q
  rcases hc with z | z
  ·rw [z];exact nit b u e
  ·exact nit c _ z
theorem Inv.tok(I:Inv X pins σ H s)(t:Nat):Inv X pins σ H {s with toks:=t}:=I.un (h':=s.heap) (t':=t) Un.refl I.hok
theorem Inv.kept{t':Nat}(I:Inv X pins σ H s)(k:∀b u,s.heap.get? b=some u→h'.get? b=some u):Inv X pins σ H {s with heap:=h',toks:=t'}:=I.un (Un.kept k) (I.hok.kept k)
theorem Inv.laid{a:Addr}{o:HO}{t':Nat}(I:Inv X pins σ H s)(k:∀b u,s.heap.get? b=some u→h'.get? b=some u)(hp:s.heap.objs.size≤a)(new:ba X.prog X.w (upd H a o) h' a o):
  Inv X pins σ (upd H a o) {s with heap:=h',toks:=t'}:=I.un (Un.laid k hp (I.hok.fresh hp)) (I.hok.laid k hp new)
theorem Inv.write{x e:Addr}{o:HO}{t':Nat}(I:Inv X pins σ H s)(mu:Mut (H x))(he:e=x∨H e=some (.own x))(k:∀b u,b≠e→s.heap.get? b=some u→h'.get? b=some u)(heo:∃u,h'.get? e=some u)
  (new:ba X.prog X.w (upd H x o) h' x o):Inv X pins σ (upd H x o) {s with heap:=h',toks:=t'}:=I.un (Un.write mu he k heo) (I.hok.write mu he k heo new)
theorem Inv.pins_of{pins':List (Addr×Obj)}(I:Inv X pins σ H s)(h:∀p∈pins',s.heap.get? p.1=some p.2∧H p.1=none∧p.1≠X.env.locals∧p.1∉X.fs∧∀v,p.2.data≠ .cell v):Inv X pins' σ H s:=
 ⟨I.ok,I.os,I.bare,I.base,I.loc,I.cell,I.free,I.freeC,fun p hp=>(List.mem_append.mp hp).elim (fun z=>I.pin p (List.mem_append_left _ z)) (h p),I.hok,I.len⟩
theorem j5{N:List Str}(hN:N.Nodup){i j:Nat}{x:Str}(a:N[i]? =some x)(b:N[j]? =some x):i=j:=by
 obtain ⟨h1,e1⟩:=List.getElem?_eq_some_iff.mp a
 obtain ⟨h2,e2⟩:=List.getElem?_eq_some_iff.mp b
 exact (List.getElem_inj hN).mp (e1.trans e2.symm)
theorem hZ{M:Model}{A:Around}{E:Value→Shared→Prop}{i:Nat}{x:Str}{v:V}{u:Value}{Q:Unit→Shared→Prop}(I:Inv X pins σ H s)(hN:X.N.Nodup)(hi:X.N[i]? =some x)(hx:Loc X.env.scope x)(r:bh v u)
  (h:∀s',Inv X pins (σ.set i (some v)) H s'→(∃a,Heap.SameBut a s.heap s'.heap∧(a=X.env.locals∨X.env.cells.lookup x=some a))→Q () s') (hf:X.fn x=true∨X.env.scope.names.lookup x=some .local:=by first | exact .inl rfl | exact .inr rfl | assumption):wpAny M A (storeName X.env x u) Q E s:=by
 obtain ⟨m,hn,hl⟩:=id I.loc
 have hcls:(X.env.scope.kind== .class || (X.env.scope.kind== .module&&X.env.locals != X.env.globals))=false:=by rw [I.ok.kind];rfl
 have hiσ:i < σ.length:=by rw [I.len];exact (List.getElem?_eq_some_iff.mp hi).1
 have cne:=I.cne
 have tracked:∀{a:Addr} {h':Heap},(∃o,s.heap.get? a=some o∧H a=none)→Heap.SameBut a s.heap h'→HOk X.prog X.w H h':=fun {a h'} ha hs b ob e=>by
  obtain ⟨_,_,hfree⟩:=ha
  refine (I.hok b ob e).stay (fun c w' hc q=>(hs.2 c ?_).trans q) (fun _ q=>q) fun _ _ q=>q
  rintro rfl
  rcases hc with rfl | hc
  ·rw [hfree] at e;cases e
  ·rw [hfree] at hc;cases hc
 rcases hx with hk | hk
 ·refine wpAny_storeName_local hk hn (fun h' hn' hs=> ?_) hcls
  obtain ⟨oL,_,_,hoL,_⟩:=id hn
  refine h _ ⟨I.ok,I.os,I.bare,⟨fun b o e n hb hx=> ?_,fun b o e n hb hx=> ?_,I.base.free,fun b o e hx=> ?_,I.base.tups,I.base.frzs,I.base.tbls⟩,⟨_,hn',fun j y v' e1 e2 e3=> ?_⟩,fun y c e=> ?_,I.free,I.freeC,fun p hp=> ?_,tracked ⟨oL,hoL,I.free⟩ hs,by simpa using I.len⟩ ⟨_,hs, .inl rfl⟩
  ·exact (hs.2 b (Nat.ne_of_lt (Nat.lt_of_lt_of_le (Heap.lt_size e) I.ok.above))).trans (I.base.keep b o e n hb hx)
  ·obtain ⟨sl,e1⟩:=I.base.slot b o e n hb hx
   exact ⟨sl,(hs.2 b (Nat.ne_of_lt (Nat.lt_of_lt_of_le (Heap.lt_size e) I.ok.above))).trans e1⟩
  ·obtain ⟨o',e1⟩:=I.base.there b o e hx
   exact ⟨o',(hs.2 b (Nat.ne_of_lt (Nat.lt_of_lt_of_le (Heap.lt_size e) I.ok.above))).trans e1⟩
  ·by_cases hj:j=i
   ·subst hj
    rw [hi] at e1;cases e1
    rw [List.getElem?_set_self hiσ] at e2
    cases e2
    exact ⟨u,r, .inl ⟨hk,by simp⟩⟩
   ·rw [List.getElem?_set_ne (Ne.symm hj)] at e2
    obtain ⟨u',r',q⟩:=hl j y v' e1 e2 e3
    refine ⟨u',r', ?_⟩
    rcases q with ⟨k,e⟩ | ⟨k,c,e,z⟩
    ·refine .inl ⟨k, ?_⟩
     have:y≠x:=fun e=>hj (j5 hN e1 (e▸hi))
     simp [this,e]
    ·exact .inr ⟨k,c,e,z.sameBut hs (cne y c e)⟩
  ·obtain ⟨w',z⟩:=I.cell y c e
   exact ⟨w',z.sameBut hs (cne y c e)⟩
  ·obtain ⟨e,n,ne,nf,d⟩:=I.pin p hp
   exact ⟨(hs.2 p.1 ne).trans e,n,ne,nf,d⟩
 ·have hfn:X.fn x=true:=by
   rcases hf with z | z
   ·exact z
   ·rw [z] at hk;cases hk
  obtain ⟨c,hc⟩:=I.ok.has x (.inl hk)
  obtain ⟨w',z⟩:=I.cell x c hc
  refine wpAny_storeName_cell I.ok.kind hk hc z (fun h' hc' hs=> ?_)
  obtain ⟨oc,hoc,hocd⟩:=id z
  refine h {s with heap:=h'} ⟨I.ok,I.os,I.bare,⟨fun b o e n hb hx=> ?_,fun b o e n hb hx=> ?_,I.base.free,fun b o e hx=> ?_,I.base.tups,I.base.frzs,I.base.tbls⟩,⟨m,hn.sameBut hs (Ne.symm (cne x c hc)),fun j y v' e1 e2 e3=> ?_⟩,fun y c' e=> ?_,I.free,I.freeC,fun p hp=> ?_,tracked ⟨oc,hoc,I.freeC x c hc⟩ hs,by simpa using I.len⟩ ⟨c,hs, .inr hc⟩
  ·exact (hs.2 b (Nat.ne_of_lt (Nat.lt_of_lt_of_le (Heap.lt_size e) (I.ok.cab x c hfn hc)))).trans (I.base.keep b o e n hb hx)
  ·obtain ⟨sl,e1⟩:=I.base.slot b o e n hb hx
   exact ⟨sl,(hs.2 b (Nat.ne_of_lt (Nat.lt_of_lt_of_le (Heap.lt_size e) (I.ok.cab x c hfn hc)))).trans e1⟩
  ·obtain ⟨o',e1⟩:=I.base.there b o e hx
   exact ⟨o',(hs.2 b (Nat.ne_of_lt (Nat.lt_of_lt_of_le (Heap.lt_size e) (I.ok.cab x c hfn hc)))).trans e1⟩
  ·by_cases hj:j=i
   ·subst hj
    rw [hi] at e1;cases e1
    rw [List.getElem?_set_self hiσ] at e2
    cases e2
    exact ⟨u,r, .inr ⟨.inl hk,c,hc,hc'⟩⟩
   ·rw [List.getElem?_set_ne (Ne.symm hj)] at e2
    obtain ⟨u',r',q⟩:=hl j y v' e1 e2 e3
    refine ⟨u',r', ?_⟩
    rcases q with q | ⟨k,c',e,z'⟩
    ·exact .inl q
    ·refine .inr ⟨k,c',e,z'.sameBut hs ?_⟩
     rintro rfl
     exact hj (j5 hN e1 (I.ok.inj _ _ _ e hc▸hi))
  ·by_cases hcc:c'=c
   ·subst hcc;exact ⟨_,hc'⟩
   ·obtain ⟨w2,z2⟩:=I.cell y c' e
    exact ⟨w2,z2.sameBut hs hcc⟩
  ·obtain ⟨e,n,ne,nf,d⟩:=I.pin p hp
   refine ⟨(hs.2 p.1 ?_).trans e,n,ne,nf,d⟩
   intro q
   rw [q,hoc] at e
   have q':oc=p.2:=Option.some.inj e
   exact d w' (by rw [←q'];exact hocd)
theorem eT{M:Model}{A:Around}{E:Value→Shared→Prop}{i:Nat}{x:Str}{v:V}{u:Value}{Q:Unit→Shared→Prop}(I:Inv X pins σ H s)(hN:X.N.Nodup)(hi:X.N[i]? =some x)(hx:Loc X.env.scope x)(r:bh v u)
  (h:∀s',Inv X pins (σ.set i (some v)) H s'→Q () s') (hf:X.fn x=true∨X.env.scope.names.lookup x=some .local:=by first | exact .inl rfl | exact .inr rfl | assumption):wpAny M A (storeName X.env x u) Q E s:=
 hZ I hN hi hx r (fun s' I' _=>h s' I') hf
theorem Inv.call'{s':Shared}{ch:List Addr}(I:Inv X pins σ H s)(ho:s'.os=s.os)(u:Un (frs X.stack) ch H H' s.heap s'.heap)(hok:HOk X.prog X.w H' s'.heap)(hg:AllBare s'.gens)
  (hch:∀b∈ch,(b∈X.ex∨X.s₀.heap.objs.size≤b)∧b≠X.env.locals∧(∀x c,X.env.cells.lookup x=some c→c≠b)∧∀p∈X.pn++pins,p.1≠b):Inv X pins σ H' s':=by
 obtain ⟨h',g',d',t',o'⟩:=s'
 have e:o'=s.os:=ho
 subst e
 exact I.call (g':=g') (t':=t') (d':=d') u hok hg hch
end
abbrev XK:=Value→Option Addr→Hp→Prop
abbrev St:=List (Option V)
abbrev VK:=V→Hp→Prop
abbrev TE:=St→Hp→VK→Prop
abbrev TT:=St→Hp→(Bool→Hp→Prop)→Prop
abbrev TA:=St→Hp→(List V→Hp→Prop)→Prop
structure qB where
 nx:St→Hp→Prop
 rt:VK
 bk:St→Hp→Prop:=fun _ _=>False
 ct:St→Hp→Prop:=fun _ _=>False
abbrev TS:=qB→St→Hp→Prop
def EP(X:Cx)(pins:List (Addr×Obj))(σ:St)(Q:VK)(u:Value)(s':Shared):Prop:=∃v H',Inv X pins σ H' s'∧bh v u∧Q v H'
def TP(X:Cx)(pins:List (Addr×Obj))(σ:St)(Q:Bool→Hp→Prop)(b:Bool)(s':Shared):Prop:=∃H',Inv X pins σ H' s'∧Q b H'
def AP(X:Cx)(pins:List (Addr×Obj))(σ:St)(Q:List V→Hp→Prop)(us:List Value)(s':Shared):Prop:=∃vs H',Inv X pins σ H' s'∧bz vs us∧Q vs H'
def SP(X:Cx)(pins:List (Addr×Obj))(D:qB)(f:Flow)(s':Shared):Prop:=
 match f with
 | .next=>∃σ' H',Inv X pins σ' H' s'∧D.nx σ' H'
 | .brk=>∃σ' H',Inv X pins σ' H' s'∧D.bk σ' H'
 | .cont=>∃σ' H',Inv X pins σ' H' s'∧D.ct σ' H'
 | .ret u=>∃v σ' H',Inv X pins σ' H' s'∧bh v u∧D.rt v H'
def PE(X:Cx)(e:Expr)(t:TE):Prop:=
 ∀(pins:List (Addr×Obj)) (s:Shared) (σ:St) (H:Hp) (Q:VK),Inv X pins σ H s→t σ H Q→wpAny (model X.prog X.w) X.A (eval e X.env) (EP X pins σ Q) X.xe s
def PT(X:Cx)(e:Expr)(t:TT):Prop:=
 ∀(pins:List (Addr×Obj)) (s:Shared) (σ:St) (H:Hp) (Q:Bool→Hp→Prop),Inv X pins σ H s→t σ H Q→wpAny (model X.prog X.w) X.A (isTrue e X.env (eval e X.env)) (TP X pins σ Q) X.xe s
def PW(X:Cx)(e:Expr)(t:TT):Prop:=
 ∀(whole:Sem Value) (pins:List (Addr×Obj)) (s:Shared) (σ:St) (H:Hp) (Q:Bool→Hp→Prop),Inv X pins σ H s→t σ H Q→wpAny (model X.prog X.w) X.A (isTrue e X.env whole) (TP X pins σ Q) X.xe s
def PA(X:Cx)(es:List Expr)(t:TA):Prop:=
 ∀(pos:Pos) (pins:List (Addr×Obj)) (s:Shared) (σ:St) (H:Hp) (Q:List V→Hp→Prop),Inv X pins σ H s→t σ H Q→wpAny (model X.prog X.w) X.A (spliced (backTo pos (starEach es X.env))) (AP X pins σ Q) X.xe s
def PS(X:Cx)(st:Stmt)(t:TS):Prop:=
 ∀(pins:List (Addr×Obj)) (s:Shared) (σ:St) (H:Hp) (D:qB),Inv X pins σ H s→t D σ H→wpAny (model X.prog X.w) X.A (exec st X.env) (SP X pins D) X.xe s
def PSs(X:Cx)(st:List Stmt)(t:TS):Prop:=
 ∀(pins:List (Addr×Obj)) (s:Shared) (σ:St) (H:Hp) (D:qB),Inv X pins σ H s→t D σ H→wpAny (model X.prog X.w) X.A (execs st X.env) (SP X pins D) X.xe s
theorem thn{α:Type}{t:Sem α}{Q Q':α→Shared→Prop}{M:Model}{A:Around}{E:Value→Shared→Prop}{s:Shared}(h:wpAny M A t Q E s)(hQ:∀a s,Q a s→Q' a s):wpAny M A t Q' E s:=wpAny_mono h hQ fun _ _ x=>x
end L2
namespace L2
open PySem PySem.Spec PyProof.Rows
section
variable{X:Cx}
def EH(i:Nat):TE:=fun σ H Q=>∃v,σ[i]? =some (some v)∧Q v H
def tC(v:V):TE:=fun _ H Q=>Q v H
theorem rJ{i:Nat}{x:Str}{pos:Pos}(hN:X.N[i]? =some x)(hv:Vis X.env.scope x)(hd:(x==("__debug__":Str))=false:=by decide)(hcd:(x==("__classdict__":Str))=false:=by decide):PE X (.Name x pos) (EH i):=by
 intro pins s σ H Q I h
 obtain ⟨v,e,h⟩:=h
 obtain ⟨m,hn,hl⟩:=I.loc
 obtain ⟨u,r,l⟩:=hl i x v hN e hv
 have fin:EP X pins σ Q u s:=⟨v,H,I,r,h⟩
 rcases l with ⟨hk,hm⟩ | ⟨hk,c,hc,hcell⟩
 ·exact wpAny_Name (wpAny_loadName_local I.ok.kind hk hn hm fin) hd
 ·rcases hk with hk | hk
  ·exact wpAny_Name (wpAny_loadName_cell I.ok.kind hk hc hcell fin) hd
  ·exact wpAny_Name (wpAny_loadName_free I.ok.kind hk hc hcell fin hcd) hd
theorem zW{i j pos}:PE X (.Constant (.int i) j pos) (tC (.int i)):=fun _ _ _ H _ I h=>wpAny_Constant_int ⟨.int i,H,I.tok _,⟨_,rfl⟩,h⟩
theorem Cw{b j pos}:PE X (.Constant (.bool b) j pos) (tC (.bl b)):=fun _ _ _ H _ I h=>Constant_bool ⟨.bl b,H,I,rfl,h⟩
theorem zV{j pos}:PE X (.Constant .none j pos) (tC .non):=fun _ _ _ H _ I h=>Constant_none ⟨.non,H,I,rfl,h⟩
theorem wz{x j pos}:PE X (.Constant (.str x) j pos) (tC (.str x)):=fun _ _ _ H _ I h=>Calls.Constant_str ⟨.str x,H,I.tok _,⟨_,rfl⟩,h⟩
def Gl(X:Cx)(x:Str):Prop:=X.env.kindOf x=some .globalImplicit
theorem fE{E:Value→Shared→Prop}{pins:List (Addr×Obj)}{s:Shared}{σ:St}{H:Hp}{x:Str}{u:Value}{pos:Pos}{Q:Value→Shared→Prop}(I:Inv X pins σ H s)(hg:Gl X x)(hm:X.mg x=some u)(h:Q u s)
  (hd:(x==("__debug__":Str))=false:=by decide):wpAny (model X.prog X.w) X.A (eval (.Name x pos) X.env) Q E s:=
 Calls.Name_function_global I.ok.kind hg (Calls.loadGlobal_global (by rw [I.ok.glob];exact I.mod.glob.keeps I.bk) hm h) hd
theorem jx{E:Value→Shared→Prop}{pins:List (Addr×Obj)}{s:Shared}{σ:St}{H:Hp}{x:Str}{u:Value}{pos:Pos}{Q:Value→Shared→Prop}(I:Inv X pins σ H s)(hg:Gl X x)(hm:X.mg x=none)(hv:bootBuiltins x=some u)(h:Q u s)
  (hn:x≠"__name__":=by decide) (hd:(x==("__debug__":Str))=false:=by decide):wpAny (model X.prog X.w) X.A (eval (.Name x pos) X.env) Q E s:=by
 obtain ⟨mb,h1,h2⟩:=I.mod.blt
 exact Calls.Name_function_global I.ok.kind hg (Calls.loadGlobal_builtin (by rw [I.ok.glob];exact I.mod.glob.keeps I.bk) hm (by rw [I.ok.blt];exact h1.keeps I.bk) ((h2 x hn).trans hv) h) hd
theorem ni{x:Str}{v:V}{u:Value}{pos:Pos}(hg:Gl X x)(hm:X.mg x=some u)(r:bh v u)(hd:(x==("__debug__":Str))=false:=by decide):PE X (.Name x pos) (tC v):=
 fun _ _ _ H _ I h=>fE I hg hm ⟨v,H,I,r,h⟩ hd
theorem xV{x:Str}{v:V}{u:Value}{pos:Pos}(hg:Gl X x)(hm:X.mg x=none)(hv:bootBuiltins x=some u)(r:bh v u)(hn:x≠"__name__":=by decide)(hd:(x==("__debug__":Str))=false:=by decide):PE X (.Name x pos) (tC v):=
 fun _ _ _ H _ I h=>jx I hg hm hv ⟨v,H,I,r,h⟩ hn hd
variable{a b:Expr}{ta tb:TE}{pos:Pos}
def tB(t:TE):TT:=fun σ H Q=>t σ H fun x H1=>∃c,x= .bl c∧Q c H1
theorem zL{e:Expr}{t:TE}(h:PE X e t)(he:∀whole,isTrue e X.env whole=(do let v←whole;standAt e.pos;holding [v] (truthy v)):=by intro _;rfl):PT X e (tB t):=by
 intro pins s σ H Q I hw
 refine isTrue_plain (thn (h pins s σ H _ I hw) fun v s1 ⟨x,H1,I1,r1,q1⟩=> ?_) (he _)
 obtain ⟨d,rfl,q⟩:=q1
 cases r1
 exact wpAny_truthy_bool ⟨H1,I1,q⟩
variable{tA tB':TT}{rest:List Expr}
def tOr(t u:TT):TT:=fun σ H Q=>t σ H fun c H1=>if c=true then Q true H1 else u σ H1 Q
def EN(t:TT):TT:=fun σ H Q=>t σ H fun c H1=>Q (!c) H1
theorem zJ(ha:PT X a tA):PW X (.BoolOp .Or [a] pos) tA:=by
 intro wh pins s σ H Q I h
 refine isTrue_or (thn (ha pins s σ H Q I h) fun c s1 e=> ?_)
 cases c with
 | false=>exact isTrue_or_nil e
 | true=>exact e
theorem Cp(ha:PT X a tA)(hb:PW X (.BoolOp .Or (b::rest) pos) tB'):PW X (.BoolOp .Or (a::b::rest) pos) (tOr tA tB'):=by
 intro wh pins s σ H Q I h
 refine isTrue_or (thn (ha pins s σ H _ I h) fun c s1 ⟨H1,I1,q1⟩=> ?_)
 cases c with
 | true=>exact ⟨H1,I1,q1⟩
 | false=>exact hb wh pins s1 σ H1 Q I1 q1
theorem zM(ha:PT X a tA):PT X (.UnaryOp .Not a pos) (EN tA):=by
 intro pins s σ H Q I h
 exact isTrue_not (ha pins s σ H (fun c H1=>Q (!c) H1) I h)
def B1(ta tb:TE):TE:=fun σ H Q=>ta σ H fun x H1=>∃c,x= .bl c∧if c=true then tb σ H1 Q else Q (.bl false) H1
def EM(ta tb:TE):TE:=fun σ H Q=>ta σ H fun x H1=>∃c,x= .bl c∧if c=true then Q (.bl true) H1 else tb σ H1 Q
def BS(ta:TE):TE:=fun σ H Q=>ta σ H fun x H1=>∃c,x= .bl c∧Q (.bl (!c)) H1
theorem zT{op}{t:TE}(h:PE X a t):PE X (.BoolOp op [a] pos) t:=fun pins s σ H Q I hw=>BoolOp_one (h pins s σ H Q I hw)
theorem zZ(ha:PE X a ta)(hb:PE X (.BoolOp .And (b::rest) pos) tb):PE X (.BoolOp .And (a::b::rest) pos) (B1 ta tb):=by
 intro pins s σ H Q I h
 refine BoolOp_and (thn (ha pins s σ H _ I h) fun v s1 ⟨x,H1,I1,r1,q1⟩=> ?_)
 obtain ⟨c,rfl,q1⟩:=q1
 cases r1
 refine wpAny_truthy_bool ?_
 cases c with
 | true=>exact hb pins s1 σ H1 Q I1 q1
 | false=>exact ⟨.bl false,H1,I1,rfl,q1⟩
theorem Cs(ha:PE X a ta)(hb:PE X (.BoolOp .Or (b::rest) pos) tb):PE X (.BoolOp .Or (a::b::rest) pos) (EM ta tb):=by
 intro pins s σ H Q I h
 refine BoolOp_or (thn (ha pins s σ H _ I h) fun v s1 ⟨x,H1,I1,r1,q1⟩=> ?_)
 obtain ⟨c,rfl,q1⟩:=q1
 cases r1
 refine wpAny_truthy_bool ?_
 cases c with
 | false=>exact hb pins s1 σ H1 Q I1 q1
 | true=>exact ⟨.bl true,H1,I1,rfl,q1⟩
theorem zU(ha:PE X a ta):PE X (.UnaryOp .Not a pos) (BS ta):=by
 intro pins s σ H Q I h
 refine UnaryOp_ (thn (ha pins s σ H _ I h) fun v s1 ⟨x,H1,I1,r1,q1⟩=> ?_)
 obtain ⟨c,rfl,q1⟩:=q1
 cases r1
 exact not_of (wpAny_truthy_bool ⟨.bl (!c),H1,I1,rfl,q1⟩)
def tIf(t:TT)(ta tb:TE):TE:=fun σ H Q=>t σ H fun c H1=>if c=true then ta σ H1 Q else tb σ H1 Q
theorem uY{c:Expr}(hc:PT X c tA)(ha:PE X a ta)(hb:PE X b tb):PE X (.IfExp c a b pos) (tIf tA ta tb):=by
 intro pins s σ H Q I h
 refine wpAny_IfExp (thn (hc pins s σ H _ I h) fun d s1 ⟨H1,I1,q1⟩=> ?_)
 cases d with
 | true=>exact ha pins s1 σ H1 Q I1 q1
 | false=>exact hb pins s1 σ H1 Q I1 q1
end
end L2
namespace L2
open PySem PySem.Spec PyProof.Rows
def SqL(K:PySem.W.Frag)(H:Hp)(a:Addr)(xs:List V):Prop:=
 Rd H a (.lst xs)∨
  ∃(o:Obj) (its:Array Value) (n:Nat),K.lookup a=some o∧o.cls= .type "list"∧o.dict=none∧o.data= .seq its n∧its.size≤sizeLine∧bz xs its.toList
def SqT(K:PySem.W.Frag)(H:Hp)(a:Addr)(xs:List V):Prop:=
 Rd H a (.tup xs)∨
  ∃(o:Obj) (its:Array Value) (n:Nat),K.lookup a=some o∧o.cls= .type "tuple"∧o.data= .seq its n∧its.size≤sizeLine∧bz xs its.toList
def FA:Value→Option V
 | .none=>some .non
 | .bool b=>some (.bl b)
 | .int i _=>some (.int i)
 | .str x _=>some (.str x)
 | .bytes b _=>some (.byt b)
 | .float b _=>some (.flt b)
 | .ref a=>some (.ref a)
 | .type n=>some (.ty n)
 | _=>none
theorem bh.abs{x:V}{u:Value}(r:bh x u):FA u=some x:=by
 cases x with
 | non=>cases r;rfl
 | bl _=>cases r;rfl
 | int _=>obtain ⟨t,rfl⟩:=r;rfl
 | str _=>obtain ⟨t,rfl⟩:=r;rfl
 | byt _=>obtain ⟨t,rfl⟩:=r;rfl
 | flt _=>obtain ⟨t,rfl⟩:=r;rfl
 | ref _=>cases r;rfl
 | ty _=>cases r;rfl
theorem bh.inj{x y:V}{u:Value}(r:bh x u)(q:bh y u):x=y:=Option.some.inj (r.abs.symm.trans q.abs)
theorem bz.inj:∀{xs ys:List V} {us:List Value},bz xs us→bz ys us→xs=ys
 | _,_,_, .nil, .nil=>rfl
 | _,_,_, .cons r t, .cons r' t'=>by rw [r.inj r',bz.inj t t']
section
variable{X:Cx}{pins:List (Addr×Obj)}{σ:St}{H:Hp}{s:Shared}{a:Addr}{xs ys:List V}
theorem SqL.of{K:PySem.W.Frag}(h:H a=some (.lst xs)):SqL K H a xs:= .inl (.inl h)
theorem SqT.of{K:PySem.W.Frag}(h:H a=some (.tup xs)):SqT K H a xs:= .inl (.inl h)
theorem Inv.list(I:Inv X pins σ H s)(h:SqL X.K H a xs):∃its:List Value,bz xs its∧PlainL s.heap a its.toArray∧xs.length≤sizeLine:=by
 rcases h with h | ⟨o,its,n,hk,hc,hd,hs,hz,r⟩
 ·obtain ⟨z,its,n,r,e⟩:=h.ok I.hok
  exact ⟨its,r,⟨_,n,e,rfl,rfl,rfl⟩,z⟩
 ·refine ⟨its.toList,r,⟨o,n,I.kIn a o hk,hc,hd,by simpa using hs⟩, ?_⟩
  have e:=r.length
  simp only [Array.length_toList] at e
  omega
theorem Inv.tuple(I:Inv X pins σ H s)(h:SqT X.K H a xs):∃its:List Value,bz xs its∧IsTup s.heap a its.toArray∧xs.length≤sizeLine:=by
 rcases h with h | ⟨o,its,n,hk,hc,hs,hz,r⟩
 ·obtain ⟨z,its,r,p⟩:=h.ok I.hok
  exact ⟨its,r,p,z⟩
 ·refine ⟨its.toList,r,⟨o,I.kIn a o hk,hc,n,by simpa using hs⟩, ?_⟩
  have e:=r.length
  simp only [Array.length_toList] at e
  omega
theorem Inv.list_inj(I:Inv X pins σ H s)(h:SqL X.K H a xs)(h':SqL X.K H a ys):xs=ys:=by
 obtain ⟨its,r,⟨o,n,e,_,_,d⟩,_⟩:=I.list h
 obtain ⟨its',r',⟨o',n',e',_,_,d'⟩,_⟩:=I.list h'
 rw [e] at e';cases e'
 rw [d] at d'
 injection d' with d1 _
 have:its=its':=by simpa using congrArg Array.toList d1
 subst this
 exact r.inj r'
theorem Inv.tuple_inj(I:Inv X pins σ H s)(h:SqT X.K H a xs)(h':SqT X.K H a ys):xs=ys:=by
 obtain ⟨its,r,⟨o,e,_,n,d⟩,_⟩:=I.tuple h
 obtain ⟨its',r',⟨o',e',_,n',d'⟩,_⟩:=I.tuple h'
 rw [e] at e';cases e'
 rw [d] at d'
 injection d' with d1 _
 have:its=its':=by simpa using congrArg Array.toList d1
 subst this
 exact r.inj r'
end
section
variable{X:Cx}{pins:List (Addr×Obj)}{σ:St}{H:Hp}{s:Shared}{E:Value→Shared→Prop}
end
section
variable{X:Cx}{st:Stmt}{rest:List Stmt}{t u:TS}{e:Expr}{te:TE}{pos:Pos}
def BU:TS:=fun D σ H=>D.nx σ H
def EJ(t u:TS):TS:=fun D σ H=>t {D with nx:=u D} σ H
theorem xI:PSs X [] BU:=fun _ _ σ H _ I h=>wpAny_execs_nil ⟨σ,H,I,h⟩
theorem oK(h1:PS X st t)(h2:PSs X rest u):PSs X (st::rest) (EJ t u):=by
 intro pins s σ H D I h
 refine wpAny_execs_cons (thn (h1 pins s σ H {D with nx:=u D} I h) fun f s1 q=> ?_)
 cases f with
 | next=>
  obtain ⟨σ',H',I',q⟩:=q
  exact h2 pins s1 σ' H' D I' q
 | ret v=>exact q
 | brk=>exact q
 | cont=>exact q
theorem rn(h1:PS X st t):PSs X [st] t:=by
 intro pins s σ H D I h
 refine wpAny_execs_cons (thn (h1 pins s σ H D I h) fun f s1 q=> ?_)
 cases f with
 | next=>exact wpAny_execs_nil q
 | ret v=>exact q
 | brk=>exact q
 | cont=>exact q
def BY:TS:=fun D σ H=>D.ct σ H
theorem mZ:PS X (.Continue pos) BY:=fun _ _ σ H _ I h=>wpAny_Continue ⟨σ,H,I,h⟩
theorem Inv.quiet{pins:List (Addr×Obj)}{σ:St}{H:Hp}{s:Shared}(I:Inv X pins σ H s):interactive X.env=false:=by simp [interactive,I.ok.kind]
def BV(te:TE):TS:=fun D σ H=>te σ H fun _ H1=>D.nx σ H1
theorem rA(he:PE X e te)(hs:swapsWith e none pos.line X.env=pure false:=by rfl):PS X (.Expr e pos) (BV te):=by
 intro pins s σ H D I h
 exact wpAny_Expr_any (thn (he pins s σ H _ I h) fun v s1 ⟨x,H1,I1,r1,q1⟩=>⟨σ,H1,I1,q1⟩) I.quiet hs
def EK(te:TE):TS:=fun D σ H=>te σ H D.rt
theorem zO(he:PE X e te):PS X (.Return (some e) pos) (EK te):=by
 intro pins s σ H D I h
 exact wpAny_Return_some (thn (he pins s σ H _ I h) fun v s1 ⟨x,H1,I1,r1,q1⟩=>⟨x,σ,H1,I1,r1,q1⟩)
def ER(c:TT)(t u:TS):TS:=fun D σ H=>c σ H fun b H1=>if b=true then t D σ H1 else u D σ H1
theorem Cq{c:Expr}{a b:List Stmt}{tc:TT}(hc:PT X c tc)(ha:PSs X a t)(hb:PSs X b u):PS X (.If c a b pos) (ER tc t u):=by
 intro pins s σ H D I h
 refine wpAny_If (thn (hc pins s σ H _ I h) fun d s1 ⟨H1,I1,q1⟩=> ?_)
 cases d with
 | true=>exact ha pins s1 σ H1 D I1 q1
 | false=>exact hb pins s1 σ H1 D I1 q1
end
abbrev TG:=V→St→Hp→(St→Hp→Prop)→Prop
abbrev TGs:=List V→St→Hp→(St→Hp→Prop)→Prop
def PG(X:Cx)(target:Expr)(t:TG):Prop:=
 ∀(pins:List (Addr×Obj)) (s:Shared) (σ:St) (H:Hp) (v:V) (u:Value) (Q:St→Hp→Prop),Inv X pins σ H s→bh v u→t v σ H Q→
  wpAny (model X.prog X.w) X.A (assign target X.env u) (fun _ s'=>∃σ' H',Inv X pins σ' H' s'∧Q σ' H') X.xe s
def PGs(X:Cx)(ts:List Expr)(t:TGs):Prop:=
 ∀(pins:List (Addr×Obj)) (s:Shared) (σ:St) (H:Hp) (vs:List V) (us:List Value) (Q:St→Hp→Prop),Inv X pins σ H s→bz vs us→t vs σ H Q→
  wpAny (model X.prog X.w) X.A (assignInOrder ((assignEach ts X.env).map (·.2)) us) (fun _ s'=>∃σ' H',Inv X pins σ' H' s'∧Q σ' H') X.xe s
abbrev DC:=V→V→V→Hp→(Hp→Prop)→Prop
def EC(X:Cx)(t:DC):Prop:=
 ∀(pins:List (Addr×Obj)) (s:Shared) (σ:St) (H:Hp) (o i v:V) (ov iv u:Value) (Q:Hp→Prop),Inv X pins σ H s→bh o ov→bh i iv→bh v u→t o i v H Q→
  wpAny (model X.prog X.w) X.A (setItem ov iv u) (fun _ s'=>∃H',Inv X pins σ H' s'∧Q H') X.xe s
section
variable{X:Cx}{pos:Pos}
def i8(i:Nat):TG:=fun v σ H Q=>Q (σ.set i (some v)) H
theorem aK{i:Nat}{x:Str}(hN:X.N.Nodup)(hi:X.N[i]? =some x)(hx:Loc X.env.scope x)(hf:X.fn x=true∨X.env.scope.names.lookup x=some .local:=by first | exact .inl rfl | exact .inr rfl | assumption):PG X (.Name x pos) (i8 i):=by
 intro pins s σ H v u Q I r h
 exact wpAny_assign_Name (eT I hN hi hx r (fun s' I'=>⟨_,H,I',h⟩) hf)
def C3:TGs:=fun vs σ H Q=>vs=[]∧Q σ H
def sZ(t:TG)(u:TGs):TGs:=fun vs σ H Q=>∃v r,vs=v::r∧t v σ H fun σ' H'=>u r σ' H' Q
theorem ij:PGs X [] C3:=by
 intro pins s σ H vs us Q I r h
 obtain ⟨e,h⟩:=h
 subst e
 cases r
 exact assignInOrder_nil ⟨σ,H,I,h⟩
theorem cv{e:Expr}{es:List Expr}{t:TG}{u:TGs}(h1:PG X e t)(h2:PGs X es u)
  (hs:(assignEach (e::es) X.env).map (·.2)=assign e X.env::(assignEach es X.env).map (·.2):=by rfl):PGs X (e::es) (sZ t u):=by
 intro pins s σ H vs us Q I r h
 obtain ⟨v,vr,e1,h⟩:=h
 subst e1
 cases r with
 | cons r rr=>
  rw [hs]
  refine assignInOrder_cons (thn (h1 pins s σ H _ _ _ I r h) fun _ s1 ⟨σ1,H1,I1,q1⟩=> ?_)
  exact h2 pins s1 σ1 H1 _ _ Q I1 rr q1
def C2(K:PySem.W.Frag)(n:Nat)(t:TGs):TG:=fun v σ H Q=>∃a xs,v= .ref a∧SqT K H a xs∧xs.length=n∧t xs σ H Q
theorem kY{es:List Expr}{k:Nat}{t:TGs}{n:Nat}(hc:X.calm=true)(h:PGs X es t)
  (hn:(assignEach es X.env).length=n:=by rfl) (hst:(assignEach es X.env).findIdx? (·.1)=none:=by rfl):PG X (.Tuple es k pos) (C2 X.K n t):=by
 intro pins s σ H v u Q I r hw
 obtain ⟨a,xs,e1,hq,hl,hw⟩:=hw
 subst e1
 cases r
 obtain ⟨its,rv,ht,hz⟩:=I.tuple hq
 refine assign_Tuple_tuple (I.ok.hd hc) ht (by simp [hn,←hl,rv.length]) hst fun h' hx=> ?_
 have I1:Inv X pins σ H {s with heap:=h'}:=I.kept (t':=s.toks) fun b o e=>hx b o (Nat.ne_of_lt (Heap.lt_size e)) e
 exact h pins _ σ H xs _ Q I1 (by simpa using rv) hw
def Fm(to ti:TE)(t:DC):TG:=fun v σ H Q=>to σ H fun o H1=>ti σ H1 fun i H2=>t o i v H2 fun H3=>Q σ H3
theorem zR{o i:Expr}{to ti:TE}{t:DC}(ho:PE X o to)(hi:PE X i ti)(hs:EC X t)
  (ha:∀v,assign (.Subscript o i pos) X.env v=(do
   let ov←holding [v] (eval o X.env)
   let iv←holding [v,ov] (eval i X.env)
   standAt pos
   holding [v,ov,iv] (setItem ov iv v)
   release [v,ov,iv] []):=by intro _;rfl):PG X (.Subscript o i pos) (Fm to ti t):=by
 intro pins s σ H v u Q I r h
 rw [ha]
 refine wpAny_bind (wpAny_holding (thn (ho pins s σ H _ I h) fun ov s1 ⟨x,H1,I1,r1,q1⟩=> ?_))
 refine wpAny_bind (wpAny_holding (thn (hi pins s1 σ H1 _ I1 q1) fun iv s2 ⟨y,H2,I2,r2,q2⟩=> ?_))
 refine wpAny_bind (wpAny_standAt (wpAny_bind (wpAny_holding (thn (hs pins s2 σ H2 x y v ov iv u _ I2 r1 r2 r q2) fun _ s3 ⟨H3,I3,q3⟩=> ?_))))
 exact wpAny_release ⟨σ,H3,I3,q3⟩
def DV(te:TE)(g:TG):TS:=fun D σ H=>te σ H fun x H1=>g x σ H1 D.nx
theorem wy{tg e:Expr}{te:TE}{g:TG}(he:PE X e te)(hg:PG X tg g)(hs:swapsWithSole [tg] e pos.line X.env=pure false:=by rfl)(hw:swappedStores [tg] e X.env=pure none:=by rfl)
  (h1:(assignEach [tg] X.env).map (·.2)=[assign tg X.env]:=by rfl):PS X (.Assign [tg] e pos) (DV te g):=by
 intro pins s σ H D I h
 refine wpAny_Assign_stores (thn (he pins s σ H _ I h) fun v s1 ⟨x,H1,I1,r1,q1⟩=> ?_) hs hw
 rw [h1]
 exact thn (hg pins s1 σ H1 x v _ I1 r1 q1) fun _ s2 q=>q
theorem zN{i:Nat}{x:Str}{e:Expr}{te:TE}{pos':Pos}(hN:X.N.Nodup)(hi:X.N[i]? =some x)(hx:Loc X.env.scope x)(he:PE X e te)(hs:swapsWith e (some (.Name x pos')) pos.line X.env=pure false:=by rfl)(hf:X.fn x=true∨X.env.scope.names.lookup x=some .local:=by first | exact .inl rfl | exact .inr rfl | assumption):
  PS X (.Assign [.Name x pos'] e pos) (DV te (i8 i)):=by
 intro pins s σ H D I h
 refine wpAny_Assign_Name (thn (he pins s σ H _ I h) fun v s1 ⟨y,H1,I1,r1,q1⟩=> ?_) hs
 exact eT I1 hN hi hx r1 (fun s2 I2=>⟨_,H1,I2,q1⟩) hf
def EL(i j:Nat)(ta:TA):TS:=fun D σ H=>ta σ H fun vs H1=>∃v w,vs=[v,w]∧D.nx ((σ.set i (some v)).set j (some w)) H1
theorem zP{i j:Nat}{x y:Str}{a b:Expr}{ta:TA}{px py pt:Pos}{kt k2 pt2}(hc:X.calm=true)(hN:X.N.Nodup)(hi:X.N[i]? =some x)(hj:X.N[j]? =some y)(hij:i≠j)
  (hx:X.env.scope.names.lookup x=some .local) (hy:X.env.scope.names.lookup y=some .local) (ha:PA X [a,b] ta)
  (hw:swappedStores [.Tuple [.Name x px, .Name y py] kt pt] (.Tuple [a,b] k2 pt2) X.env=pure (some [x,y]))
  (hs:swapsWithSole [.Tuple [.Name x px, .Name y py] kt pt] (.Tuple [a,b] k2 pt2) pos.line X.env=pure false:=by rfl):
  PS X (.Assign [.Tuple [.Name x px, .Name y py] kt pt] (.Tuple [a,b] k2 pt2) pos) (EL i j ta):=by
 intro pins s σ H D I h
 rw [exec_Assign_arm]
 refine wpAny_bind (wpAny_standAt ?_)
 rw [hs]
 refine wpAny_bind (wpAny_pure ?_)
 rw [if_neg (by decide)]
 refine wpAny_bind (Tuple_ (thn (ha _ pins s σ H _ I h) fun us s1 ⟨vs,H1,I1,r1,q1⟩=> ?_))
 obtain ⟨v,w,e1,q1⟩:=q1
 subst e1
 obtain ⟨u1,u2,rfl,rv,rw'⟩:∃u1 u2,us=[u1,u2]∧bh v u1∧bh w u2:=by
  cases r1 with
  | cons p q=>
   cases q with
   | cons p' q'=>
    cases q'
    exact ⟨_,_,rfl,p,p'⟩
 refine wpAny_newObj_type ?_ (by show 2≤sizeLine;decide)
 have I2:Inv X pins σ H1 {s1 with heap:=s1.heap.push {cls:= .type "tuple",data:= .seq [u1,u2].toArray}}:=I1.kept (t':=s1.toks) fun b o e=>Heap.get?_push_of_some _ e
 rw [hw]
 refine wpAny_bind (wpAny_pure ?_)
 show wpAny (model X.prog X.w) X.A (do rule "assign.swapped-stores";let items←unpackItems (.ref s1.heap.objs.size) 2 none;assignInOrder [fun v=>bindName X.env y v,fun v=>bindName X.env x v] items.reverse;pure Flow.next) _ _ _
 refine wpAny_bind (wpAny_rule (wpAny_bind (unpackItems_tuple (items:= #[u1,u2]) (I.ok.hd hc) (IsTup.new s1.heap _) fun h' hx'=> ?_)))
 have I3:=I2.kept (h':=h') (t':=s1.toks) fun b o e=>hx' b o (Nat.ne_of_lt (Heap.lt_size e)) e
 show wpAny _ _ (assignInOrder [fun v=>bindName X.env y v,fun v=>bindName X.env x v] [u2,u1] >>= fun _=>pure Flow.next) _ _ _
 refine wpAny_bind (assignInOrder_cons (wpAny_bindName (eT I3 hN hj (.inl hy) rw' (fun s2 I4=> ?_) (.inr hy))))
 refine assignInOrder_cons (wpAny_bindName (eT I4 hN hi (.inl hx) rv (fun s3 I5=>assignInOrder_nil (wpAny_pure ?_)) (.inr hx)))
 rw [List.set_comm _ _ (Ne.symm hij)] at I5
 exact ⟨_,H1,I5,q1⟩
end
section
variable{X:Cx}{pos:Pos}
def zl(c:TT)(tb:TS):TS:=fun D σ H=>∃W:Nat→St→Hp→Prop,(∃m,W m σ H)∧∀m σ H,W m σ H→
 c σ H fun b H1=>if b=true then∃N:St→Hp→Prop,(∀σ' H',N σ' H'→∃m',m' < m∧W m' σ' H')∧tb {D with nx:=N,ct:=N,bk:=D.nx} σ H1 else D.nx σ H1
theorem uT{c:Expr}{body:List Stmt}{tc:TT}{tb:TS}(hp:PassesOwn (model X.prog X.w) X.A X.env X.xe)(hc:PT X c tc)(hb:PSs X body tb):PS X (.While c body [] pos) (zl tc tb):=by
 intro pins s σ H D I h
 obtain ⟨W,⟨m0,w0⟩,turn⟩:=h
 refine wpAny_While (codeAny_whileLoop (fun n s'=>∃σ' H',Inv X pins σ' H' s'∧W n σ' H') ?_ m0 ⟨σ,H,I,w0⟩)
 rintro n s1 ⟨σ1,H1,I1,w1⟩
 refine wpAny_passesOwn hp (thn (hc pins s1 σ1 H1 _ I1 (turn n σ1 H1 w1)) fun b s2 ⟨H2,I2,q2⟩=> ?_)
 cases b with
 | true=>
  obtain ⟨N,hN,q2⟩:=q2
  rw [if_pos rfl]
  refine wpAny_passesOwn hp (thn (hb pins s2 σ1 H2 _ I2 q2) fun f s3 q3=> ?_)
  cases f with
  | next=>
   obtain ⟨σ3,H3,I3,n3⟩:=q3
   obtain ⟨m',hm,w3⟩:=hN σ3 H3 n3
   exact ⟨m',hm,σ3,H3,I3,w3⟩
  | cont=>
   obtain ⟨σ3,H3,I3,n3⟩:=q3
   obtain ⟨m',hm,w3⟩:=hN σ3 H3 n3
   exact ⟨m',hm,σ3,H3,I3,w3⟩
  | brk=>exact q3
  | ret v=>exact q3
 | false=>
  rw [if_neg Bool.false_ne_true]
  exact wpAny_execs_nil ⟨σ1,H2,I2,q2⟩
end
structure It where
 go:Nat→Hp→Prop
 yld:Nat→Hp→V→Hp→Prop
 stop:Nat→Hp→Prop
def qy(X:Cx)(pins:List (Addr×Obj))(H:Hp)(b:Addr):Prop:=
 H b=none∧b≠X.env.locals∧b∉X.fs∧(b∈X.ex∨X.s₀.heap.objs.size≤b)∧(∀x c,X.env.cells.lookup x=some c→c≠b)∧∀p∈X.pn++pins,p.1≠b
theorem Inv.fpOk{X:Cx}{pins:List (Addr×Obj)}{σ:St}{H H':Hp}{s:Shared}{b:Addr}(I:Inv X pins σ H s)(hb:s.heap.objs.size≤b)(hn:H' b=none):qy X pins H' b:=by
 refine ⟨hn,Nat.ne_of_gt (Nat.lt_of_lt_of_le I.lt hb),I.nofs hb, .inr (Nat.le_trans I.sz hb),fun x c e z=> ?_,fun p hp z=> ?_⟩
 ·obtain ⟨v,q⟩:=I.cell x c e
  exact absurd (Nat.lt_of_lt_of_le q.lt (by rw [z];exact hb)) (Nat.lt_irrefl _)
 ·exact absurd (Nat.lt_of_lt_of_le (Heap.lt_size (I.pin p hp).1) (by rw [z];exact hb)) (Nat.lt_irrefl _)
structure ux(P:Program)(w:World)(K:PySem.W.Frag)(tg:Expr)(J:It)(fp:List Addr)(it:Addr)(tn:Nat→Heap→Prop):Prop where
 mem:it∈fp
 obj:∀i h,tn i h→∀b∈fp,∃o,h.get? b=some o∧∀v,o.data≠ .cell v
 keep:∀i h h',tn i h→(∀b∈fp,∀o,h.get? b=some o→h'.get? b=some o)→tn i h'
 item:∀(X:Cx),X.prog=P→X.w=w→X.K=K→X.calm=true→∀(i:Nat) (pins:List (Addr×Obj)) (s:Shared) (σ:St) (H:Hp) (E:Value→Shared→Prop),Inv X pins σ H s→(∀b∈fp,qy X pins H b)→tn i s.heap→J.go i H→
  wpAny (model P w) X.A (pyNext (.ref it)) (fun r s1=>∃u,r=some u∧
   wpAny (model P w) X.A (letOwnedTupleGo tg (.ref it) u) (fun _ s2=>∃x H',Inv X pins σ H' s2∧bh x u∧J.yld i H x H'∧tn (i+1) s2.heap∧∀b∈fp,H' b=none) E s1) E s
 done:∀(X:Cx),X.prog=P→X.w=w→X.K=K→X.calm=true→∀(i:Nat) (pins:List (Addr×Obj)) (s:Shared) (σ:St) (H:Hp) (E:Value→Shared→Prop),Inv X pins σ H s→(∀b∈fp,qy X pins H b)→tn i s.heap→J.stop i H→
  wpAny (model P w) X.A (pyNext (.ref it)) (fun r s1=>r=none∧Inv X pins σ H s1) E s
 self:∀(A:Around) (i:Nat) (s:Shared) (Q:Value→Shared→Prop) (E:Value→Shared→Prop),tn i s.heap→Q (.ref it) s→wpAny (model P w) A (pyIter (.ref it)) Q E s
abbrev TI:=St→Hp→(It→Hp→Prop)→Prop
def PIE(X:Cx)(pins:List (Addr×Obj))(σ:St)(tg:Expr)(R:It→Hp→Prop)(itv:Value)(s2:Shared):Prop:=
 ∃(it:Addr) (fp:List Addr) (tn:Nat→Heap→Prop) (J:It) (H':Hp),itv= .ref it∧Inv X pins σ H' s2∧ux X.prog X.w X.K tg J fp it tn∧tn 0 s2.heap∧(∀b∈fp,qy X pins H' b)∧R J H'
def PI(X:Cx)(tg iter:Expr)(wi:TI):Prop:=
 ∀(pins:List (Addr×Obj)) (s:Shared) (σ:St) (H:Hp) (R:It→Hp→Prop),Inv X pins σ H s→wi σ H R→
  wpAny (model X.prog X.w) X.A (eval iter X.env) (fun v s1=>wpAny (model X.prog X.w) X.A (pyIter v) (PIE X pins σ tg R) X.xe s1) X.xe s
theorem sU {M : Model} {A : Around} {E : Value → Shared → Prop} {s : Shared} {tg : Expr} {it : Addr} {u : Value} {o : Obj} {n : String} {vs : Array Value} {Q : Unit → Shared → Prop} (ho : s.heap.get? it = some o) (hc : o.cls = .type n) (hd : o.data = .fields vs)
    (hn : ["enumerate", "zip", "dict_itemiterator", "dict_reverseitemiterator", "odict_iterator", "itertools.zip_longest", "itertools.pairwise"].contains n = false) (hQ : Q () s) : wpAny M A (letOwnedTupleGo tg (.ref it) u) Q E s := by
  unfold letOwnedTupleGo
  cases tg <;> first
    | exact wpAny_pure hQ
    | (cases u <;> first
        | exact wpAny_pure hQ
        | (refine wpAny_bind (wpAny_load ho ?_)
           rw [hc, hd]
           show wpAny M A (if (["enumerate", "zip", "dict_itemiterator", "dict_reverseitemiterator", "odict_iterator", "itertools.zip_longest", "itertools.pairwise"].contains n && vs[0]? == some (rawInt _)) = true then _ else _) Q E s
           rw [if_neg (by intro h; rw [hn, Bool.false_and] at h; cases h)]
           exact wpAny_pure hQ))
def Itl(K:PySem.W.Frag)(a:Addr):It:=
 ⟨fun i H=>∃xs x,SqL K H a xs∧xs[i]? =some x,fun i H x H'=>H'=H∧∀xs,SqL K H a xs→xs[i]? =some x,fun i H=>∃xs,SqL K H a xs∧xs.length≤i⟩
def Itt(K:PySem.W.Frag)(a:Addr):It:=
 ⟨fun i H=>∃xs x,SqT K H a xs∧xs[i]? =some x,fun i H x H'=>H'=H∧∀xs,SqT K H a xs→xs[i]? =some x,fun i H=>∃xs,SqT K H a xs∧xs.length≤i⟩
def Itr(lo:Int)(n:Nat):It:=⟨fun i _=>i < n,fun i H x H'=>H'=H∧x= .int (lo+i),fun i _=>n≤i⟩
theorem qJ{P:Program}{w:World}{K:PySem.W.Frag}{tg:Expr}(a it:Addr):ux P w K tg (Itl K a) [it] it (fun i h=>h.IsListIter it a i) where
 mem:=by simp
 obj:=fun i h st b hb=>by
  have e:b=it:=by simpa using hb
  subst e
  obtain ⟨o,e,c,d⟩:=st
  exact ⟨o,e,fun v z=>by rw [d] at z;cases z⟩
 keep:=fun i h h' st k=>st.at fun o e=>k it (by simp) o e
 item:=by
  intro X hP hw hK hc i pins s σ H E I hf st hg
  subst hP hw hK
  obtain ⟨xs,x,hq,hx⟩:=hg
  obtain ⟨its,rv,p,hz⟩:=I.list hq
  obtain ⟨u,hu,ru⟩:=rv.get hx
  obtain ⟨f0,f1,f2,f3,f4,f5⟩:=hf it (by simp)
  refine wpAny_pyNext_list_item st p.isList (x:=u) (by simpa using hu) fun h' st' sb=> ?_
  have I1:Inv X pins σ H {s with heap:=h'}:=I.turned (t':=s.toks) (fun b o hb e=>(sb.2 b hb).trans e) f0 f1 f3 f4 f5
  obtain ⟨o,e,c,d⟩:=id st'
  exact ⟨u,rfl,sU (s:={s with heap:=h'}) e c d (by decide) ⟨x,H,I1,ru,⟨rfl,fun ys hy=>by rw [I.list_inj hy hq];exact hx⟩,st',fun b hb=>(hf b hb).1⟩⟩
 done:=by
  intro X hP hw hK hc i pins s σ H E I hf st hg
  subst hP hw hK
  obtain ⟨xs,hq,hx⟩:=hg
  obtain ⟨its,rv,p,hz⟩:=I.list hq
  obtain ⟨f0,f1,f2,f3,f4,f5⟩:=hf it (by simp)
  have hl:=rv.length
  exact wpAny_pyNext_list_end (I.ok.hd hc) st p.isList (by simp;omega) fun h' eb=>⟨rfl,I.turned (t':=s.toks) (fun b o hb e=>eb b o hb e) f0 f1 f3 f4 f5⟩
 self:=fun _ _ _ _ _ st h=>wpAny_pyIter_listiter st h
theorem pK{P:Program}{w:World}{K:PySem.W.Frag}{tg:Expr}(a it:Addr):ux P w K tg (Itt K a) [it] it (fun i h=>h.IsTupleIter it a i) where
 mem:=by simp
 obj:=fun i h st b hb=>by
  have e:b=it:=by simpa using hb
  subst e
  obtain ⟨o,e,c,d⟩:=st
  exact ⟨o,e,fun v z=>by rw [d] at z;cases z⟩
 keep:=fun i h h' st k=>st.at fun o e=>k it (by simp) o e
 item:=by
  intro X hP hw hK hc i pins s σ H E I hf st hg
  subst hP hw hK
  obtain ⟨xs,x,hq,hx⟩:=hg
  obtain ⟨its,rv,p,hz⟩:=I.tuple hq
  obtain ⟨u,hu,ru⟩:=rv.get hx
  obtain ⟨f0,f1,f2,f3,f4,f5⟩:=hf it (by simp)
  refine wpAny_pyNext_tuple_item st (show s.heap.IsTuple a its.toArray from p) (x:=u) (by simpa using hu) fun h' st' sb=> ?_
  have I1:Inv X pins σ H {s with heap:=h'}:=I.turned (t':=s.toks) (fun b o hb e=>(sb.2 b hb).trans e) f0 f1 f3 f4 f5
  obtain ⟨o,e,c,d⟩:=id st'
  exact ⟨u,rfl,sU (s:={s with heap:=h'}) e c d (by decide) ⟨x,H,I1,ru,⟨rfl,fun ys hy=>by rw [I.tuple_inj hy hq];exact hx⟩,st',fun b hb=>(hf b hb).1⟩⟩
 done:=by
  intro X hP hw hK hc i pins s σ H E I hf st hg
  subst hP hw hK
  obtain ⟨xs,hq,hx⟩:=hg
  obtain ⟨its,rv,p,hz⟩:=I.tuple hq
  obtain ⟨f0,f1,f2,f3,f4,f5⟩:=hf it (by simp)
  have hl:=rv.length
  exact wpAny_pyNext_tuple_end (I.ok.hd hc) st (show s.heap.IsTuple a its.toArray from p) (by simp;omega) fun h' eb=>⟨rfl,I.turned (t':=s.toks) (fun b o hb e=>eb b o hb e) f0 f1 f3 f4 f5⟩
 self:=fun _ _ _ _ _ st h=>wpAny_pyIter_tupleiter st h
theorem pL{P:Program}{w:World}{K:PySem.W.Frag}{tg:Expr}(it:Addr)(lo:Int)(n:Nat):ux P w K tg (Itr lo n) [it] it (fun i h=>IsRangeIter h it (lo+(i:Nat) * 1) ((n:Int) - (i:Nat)) 1) where
 mem:=by simp
 obj:=fun i h st b hb=>by
  have e:b=it:=by simpa using hb
  subst e
  exact ⟨_,st,fun v z=>by
   have z':Data.fields _=Data.cell v:=z
   cases z'⟩
 keep:=fun i h h' st k=>k it (by simp) _ st
 item:=by
  intro X hP hw hK hc i pins s σ H E I hf st hg
  subst hP hw hK
  obtain ⟨f0,f1,f2,f3,f4,f5⟩:=hf it (by simp)
  have W:=Walks.range (prog:=X.prog) (w:=X.w) (I.ok.hd hc) it lo 1 n
  refine W.item i s _ _ hg st fun v h' tk hv st' kk=> ?_
  obtain ⟨t,rfl⟩:=hv
  have I1:Inv X pins σ H {s with heap:=h',toks:=tk}:=I.turned (fun b o hb e=>kk b o (by simpa using hb) e) f0 f1 f3 f4 f5
  refine ⟨_,rfl,sU (s:={s with heap:=h',toks:=tk}) (n:="range_iterator") st' rfl rfl (by decide) ⟨.int (lo+i),H,I1,⟨t, ?_⟩,⟨rfl,rfl⟩,st',fun b hb=>(hf b hb).1⟩⟩
  rw [Int.mul_one]
 done:=by
  intro X hP hw hK hc i pins s σ H E I hf st hg
  subst hP hw hK
  obtain ⟨f0,f1,f2,f3,f4,f5⟩:=hf it (by simp)
  exact wpAny_pyNext_range_end (I.ok.hd hc) st (by have:n≤i:=hg;omega) fun h' eb=>⟨rfl,I.turned (t':=s.toks) (fun b o hb e=>eb b o hb e) f0 f1 f3 f4 f5⟩
 self:=fun _ _ _ _ _ st h=>wpAny_pyIter_rangeiter st h
end L2
namespace L2
open PySem PySem.Spec PyProof.Rows
section
variable{X:Cx}{tg:Expr}
theorem uR{pins:List (Addr×Obj)}{σ:St}{H:Hp}{s:Shared}{R:It→Hp→Prop}{E:Value→Shared→Prop}{lo hi:Int}{t u v:Tok}{tk:Nat}(I:Inv X pins σ H s)(h1: -(2 ^ 62)≤lo)(h2:lo < 2 ^ 62)(h3: -(2 ^ 62)≤hi)(h4:hi < 2 ^ 62)
  (q:R (Itr lo (hi - lo).toNat) H):wpAny (model X.prog X.w) X.A (pyIter (.ref s.heap.objs.size)) (PIE X pins σ tg R) E {s with heap:=s.heap.push {cls:= .type "range",data:= .fields #[.int lo t, .int hi u, .int 1 v]},toks:=tk}:=by
 refine wpAny_pyIter_range (IsRange.new ..) (small_one h1 h2 h3 h4) ?_
 have I1:Inv X pins σ H {s with heap:=s.heap.push {cls:= .type "range",data:= .fields #[.int lo t, .int hi u, .int 1 v]},toks:=tk}:=I.kept fun b o e=>Heap.get?_push_of_some _ e
 refine ⟨(s.heap.push {cls:= .type "range",data:= .fields #[.int lo t, .int hi u, .int 1 v]}).objs.size,[(s.heap.push {cls:= .type "range",data:= .fields #[.int lo t, .int hi u, .int 1 v]}).objs.size],_,_,H,rfl,
  I1.kept (t':=tk) fun b o e=>Heap.get?_push_of_some _ e,pL _ lo (hi - lo).toNat, ?_,fun b hb=> ?_,q⟩
 ·have e1:lo+((0:Nat):Int) * 1=lo:=by simp
  have e2:(((hi - lo).toNat:Nat):Int) - ((0:Nat):Int)=Builtin.Range.rangeSize lo hi 1:=by rw [rangeSize_one];split <;> omega
  show IsRangeIter _ _ (lo+((0:Nat):Int) * 1) ((((hi - lo).toNat:Nat):Int) - ((0:Nat):Int)) 1
  rw [e1,e2]
  exact Heap.get?_push_size _ rfl
 ·have e:b=(s.heap.push {cls:= .type "range",data:= .fields #[.int lo t, .int hi u, .int 1 v]}).objs.size:=by simpa using hb
  subst e
  exact I1.fpOk (Nat.le_refl _) (I1.hok.fresh (Nat.le_refl _))
def CZ(ta:TA):TI:=fun σ H R=>ta σ H fun vs H1=>∃j:Int,vs=[.int j]∧ -(2 ^ 62)≤j∧j < 2 ^ 62∧R (Itr 0 j.toNat) H1
theorem rH{a:Expr}{ta:TA}{p pos:Pos}(hg:Gl X "range")(hm:X.mg "range"=none)(ha:PA X [a] ta)(hs:starEach [a] X.env=[(false,eval a X.env)]:=by rfl):PI X tg (.Call (.Name "range" p) [a] [] pos) (CZ ta):=by
 intro pins s σ H R I h
 refine Call_ (jx I hg hm boot_range (PyProof.Rows.callWith_type1 (thn (ha pos pins s σ H _ I h) fun us s1 ⟨vs,H1,I1,r1,q1⟩=> ?_) hs rfl))
 obtain ⟨j,e,q1,q2,q⟩:=q1
 subst e
 cases r1 with
 | cons r rr=>
  cases rr
  obtain ⟨t,rfl⟩:=r
  exact call_range_1 (uR I1 (by omega) (by omega) q1 q2 (by simpa using q))
def ES(wi:TI)(g:TG)(tb:TS):TS:=fun D σ H=>wi σ H fun J H1=>∃W:Nat→Nat→St→Hp→Prop,(∃m,W 0 m σ H1)∧∀i m σ H,W i m σ H→
 (J.stop i H∧D.nx σ H)∨(J.go i H∧∃N:St→Hp→Prop,(∀σ' H',N σ' H'→∃m',m' < m∧W (i+1) m' σ' H')∧∀x H',J.yld i H x H'→g x σ H' fun σ2 H2=>tb {D with nx:=N,ct:=N,bk:=D.nx} σ2 H2)
def oO(fp:List Addr)(h:Heap):List (Addr×Obj):=fp.filterMap fun b=>(h.get? b).map fun o=>(b,o)
theorem bP{fp:List Addr}{h:Heap}{b:Addr}{o:Obj}(hb:b∈fp)(e:h.get? b=some o):(b,o)∈oO fp h:=List.mem_filterMap.mpr ⟨b,hb,by rw [e];rfl⟩
theorem rW{fp:List Addr}{h:Heap}{p:Addr×Obj}(hp:p∈oO fp h):p.1∈fp∧h.get? p.1=some p.2:=by
 obtain ⟨b,hb,e⟩:=List.mem_filterMap.mp hp
 cases q:h.get? b with
 | none=>rw [q] at e;cases e
 | some o=>
  rw [q] at e
  have e':(b,o)=p:=Option.some.inj e
  subst e'
  exact ⟨hb,q⟩
theorem Inv.pinned{pins:List (Addr×Obj)}{σ:St}{H:Hp}{s:Shared}{fp:List Addr}(I:Inv X pins σ H s)(hf:∀b∈fp,qy X pins H b)(ho:∀b∈fp,∃o,s.heap.get? b=some o∧∀v,o.data≠ .cell v):Inv X (pins++oO fp s.heap) σ H s:=
 I.pins_of fun p hp=>(List.mem_append.mp hp).elim (fun z=>I.pin p (List.mem_append_right _ z)) fun z=>by
  obtain ⟨hb,e⟩:=rW z
  obtain ⟨f0,f1,f2,_⟩:=hf p.1 hb
  obtain ⟨o,e',d⟩:=ho p.1 hb
  rw [e] at e';cases e'
  exact ⟨e,f0,f1,f2,d⟩
theorem Inv.unpinned{pins pl:List (Addr×Obj)}{σ:St}{H:Hp}{s:Shared}(I:Inv X (pins++pl) σ H s):Inv X pins σ H s:=I.pins_of fun p hp=>I.pin p (List.mem_append_right _ (List.mem_append_left _ hp))
theorem wx{iter:Expr}{body:List Stmt}{wi:TI}{g:TG}{tb:TS}{pos:Pos}(hp:PassesOwn (model X.prog X.w) X.A X.env X.xe)(hc:X.calm=true)(hi:PI X tg iter wi)(hg:PG X tg g)(hb:PSs X body tb)
  (hs:∀x,foldedSetIterable iter X.env x=pure x:=by intro _;rfl):PS X (.For tg iter body [] pos) (ES wi g tb):=by
 intro pins s σ H D I h
 refine wpAny_For (thn (hi pins s σ H _ I h) fun v s1 h1=>thn h1 fun itv s2 h2=> ?_) hs
 obtain ⟨it,fp,tn,J,H2,e,I2,T,st2,f2,W,⟨m0,w0⟩,turn⟩:=h2
 subst e
 have stat:∀{H':Hp},(∀b∈fp,H' b=none)→∀b∈fp,qy X pins H' b:=fun hn b hb=>⟨hn b hb,(f2 b hb).2⟩
 refine codeAny_forLoop_any (fun n s'=>∃i σ' H',Inv X pins σ' H' s'∧tn i s'.heap∧(∀b∈fp,H' b=none)∧W i n σ' H') ?_ m0 ⟨0,σ,H2,I2,st2,fun b hb=>(f2 b hb).1,w0⟩
 rintro n s3 ⟨i,σ3,H3,I3,st3,fr3,w3⟩
 rcases turn i n σ3 H3 w3 with ⟨stop,qn⟩ | ⟨go,N,hN,step⟩
 ·refine wpAny_passesOwn hp (thn (T.done X rfl rfl rfl hc i pins s3 σ3 H3 X.xe I3 (stat fr3) st3 stop) fun r s4 ⟨hr,I4⟩=> ?_)
  subst hr
  exact wpAny_execs_nil ⟨σ3,H3,I4,qn⟩
 ·refine wpAny_passesOwn hp (thn (T.item X rfl rfl rfl hc i pins s3 σ3 H3 X.xe I3 (stat fr3) st3 go) fun r s4 ⟨u,hr,h4⟩=> ?_)
  subst hr
  refine wpAny_passesOwn hp (thn h4 fun _ s5 ⟨x,H5,I5,r5,y5,st5,fr5⟩=> ?_)
  have I5':=I5.pinned (stat fr5) (T.obj _ _ st5)
  refine wpAny_passesOwn hp (thn (hg _ s5 σ3 H5 x u _ I5' r5 (step x H5 y5)) fun _ s6 ⟨σ6,H6,I6,q6⟩=> ?_)
  refine wpAny_passesOwn hp (thn (hb _ s6 σ6 H6 _ I6 q6) fun f s7 q7=> ?_)
  have again:∀{σ7:St} {H7:Hp},Inv X (pins++oO fp s5.heap) σ7 H7 s7→N σ7 H7→∃m,m < n∧∃i σ' H',Inv X pins σ' H' s7∧tn i s7.heap∧(∀b∈fp,H' b=none)∧W i m σ' H':=fun {σ7 H7} I7 n7=>by
   obtain ⟨m',hm,w7⟩:=hN σ7 H7 n7
   refine ⟨m',hm,i+1,σ7,H7,I7.unpinned,T.keep _ _ _ st5 fun b hb o e=>(I7.pin (b,o) (List.mem_append_right _ (List.mem_append_right _ (bP hb e)))).1,fun b hb=> ?_,w7⟩
   obtain ⟨o,e,d⟩:=T.obj _ _ st5 b hb
   exact (I7.pin (b,o) (List.mem_append_right _ (List.mem_append_right _ (bP hb e)))).2.1
  cases f with
  | next=>obtain ⟨σ7,H7,I7,n7⟩:=q7;exact again I7 n7
  | cont=>obtain ⟨σ7,H7,I7,n7⟩:=q7;exact again I7 n7
  | brk=>obtain ⟨σ7,H7,I7,q7⟩:=q7;exact ⟨σ7,H7,I7.unpinned,q7⟩
  | ret v=>obtain ⟨x7,σ7,H7,I7,r7,q7⟩:=q7;exact ⟨x7,σ7,H7,I7.unpinned,r7,q7⟩
end
end L2
namespace L2
open PySem PySem.Spec PyProof.Rows
abbrev R2:=V→V→Hp→VK→Prop
def OpR(X:Cx)(f:Value→Value→Sem Value)(r:R2):Prop:=
 ∀(pins:List (Addr×Obj)) (s:Shared) (σ:St) (H:Hp) (x y:V) (v u:Value) (Q:VK),Inv X pins σ H s→bh x v→bh y u→r x y H Q→
  wpAny (model X.prog X.w) X.A (f v u) (EP X pins σ Q) X.xe s
def UnR(X:Cx)(f:Value→Sem Value)(r:V→Hp→VK→Prop):Prop:=
 ∀(pins:List (Addr×Obj)) (s:Shared) (σ:St) (H:Hp) (x:V) (v:Value) (Q:VK),Inv X pins σ H s→bh x v→r x H Q→
  wpAny (model X.prog X.w) X.A (f v) (EP X pins σ Q) X.xe s
def dH(X:Cx)(f:Value)(r:List V→Hp→VK→Prop):Prop:=
 ∀(pins:List (Addr×Obj)) (s:Shared) (σ:St) (H:Hp) (xs:List V) (us:List Value) (Q:VK),Inv X pins σ H s→bz xs us→r xs H Q→
  wpAny (model X.prog X.w) X.A (call f us) (EP X pins σ Q) X.xe s
def tOp(r:R2)(ta tb:TE):TE:=fun σ H Q=>ta σ H fun x H1=>tb σ H1 fun y H2=>r x y H2 Q
def tUn(r:V→Hp→VK→Prop)(ta:TE):TE:=fun σ H Q=>ta σ H fun x H1=>r x H1 Q
def rI(C:Int→Int→Prop)(g:Int→Int→V):R2:=fun x y H Q=>∃i j,x= .int i∧y= .int j∧C i j∧Q (g i j) H
def rI0(g:Int→Int→V):R2:=fun x y H Q=>∃i j,x= .int i∧y= .int j∧Q (g i j) H
def rU(g:Int→V):V→Hp→VK→Prop:=fun x H Q=>∃i,x= .int i∧Q (g i) H
section
variable{X:Cx}{a b c:Expr}{ta tb tc:TE}{pos:Pos}
theorem DB(ha:PE X a ta)(hb:PE X b tb){pins:List (Addr×Obj)}{s:Shared}{σ:St}{H:Hp}{R:V→V→Hp→Prop}(I:Inv X pins σ H s)
  (h:ta σ H fun x H1=>tb σ H1 fun y H2=>R x y H2) {Q:Value→Shared→Prop} {f:Value→Value→Sem Value}
  (hf:∀v u s2 x y H2,Inv X pins σ H2 s2→bh x v→bh y u→R x y H2→wpAny (model X.prog X.w) X.A (f v u) Q X.xe s2):
  wpAny (model X.prog X.w) X.A (eval a X.env) (fun v s₁=>wpAny (model X.prog X.w) X.A (eval b X.env) (fun u s₂=>wpAny (model X.prog X.w) X.A (f v u) Q X.xe s₂) X.xe s₁) X.xe s:=by
 refine thn (ha pins s σ H _ I h) fun v s1 ⟨x,H1,I1,r1,q1⟩=> ?_
 refine thn (hb pins s1 σ H1 _ I1 q1) fun u s2 ⟨y,H2,I2,r2,q2⟩=> ?_
 exact hf v u s2 x y H2 I2 r1 r2 q2
theorem Ct{op:Operator}{r:R2}(ho:OpR X (binaryOp op) r)(ha:PE X a ta)(hb:PE X b tb):PE X (.BinOp a op b pos) (tOp r ta tb):=by
 intro pins s σ H Q I h
 exact wpAny_BinOp (DB ha hb I h fun v u s2 x y H2 I2 rx ry q=>ho pins s2 σ H2 x y v u Q I2 rx ry q)
theorem Cr{op:UnaryOp}{r:V→Hp→VK→Prop}(ho:UnR X (unaryOp op) r)(ha:PE X a ta):PE X (.UnaryOp op a pos) (tUn r ta):=by
 intro pins s σ H Q I h
 exact UnaryOp_ (thn (ha pins s σ H _ I h) fun v s1 ⟨x,H1,I1,r1,q1⟩=>ho pins s1 σ H1 x v Q I1 r1 q1)
theorem opI{f:Value→Value→Sem Value}{C:Int→Int→Prop}{g:Int→Int→Int}
  (rule:∀(i j:Int) (t u:Tok) (s:Shared) (Q:Value→Shared→Prop) (E:Value→Shared→Prop),C i j→Q (.int (g i j) s.toks) {s with toks:=s.toks+1}→wpAny (model X.prog X.w) X.A (f (.int i t) (.int j u)) Q E s):
  OpR X f (rI C fun i j=> .int (g i j)):=by
 intro pins s σ H x y v u Q I rx ry h
 obtain ⟨i,j,rfl,rfl,hc,q⟩:=h
 obtain ⟨t,rfl⟩:=rx
 obtain ⟨t',rfl⟩:=ry
 exact rule i j t t' s _ _ hc ⟨.int (g i j),H,I.tok _,⟨_,rfl⟩,q⟩
theorem Ed{f:Value→Value→Sem Value}{g:Int→Int→Int}
  (rule:∀(i j:Int) (t u:Tok) (s:Shared) (Q:Value→Shared→Prop) (E:Value→Shared→Prop),Q (.int (g i j) s.toks) {s with toks:=s.toks+1}→wpAny (model X.prog X.w) X.A (f (.int i t) (.int j u)) Q E s):
  OpR X f (rI0 fun i j=> .int (g i j)):=by
 intro pins s σ H x y v u Q I rx ry h
 obtain ⟨i,j,rfl,rfl,q⟩:=h
 obtain ⟨t,rfl⟩:=rx
 obtain ⟨t',rfl⟩:=ry
 exact rule i j t t' s _ _ ⟨.int (g i j),H,I.tok _,⟨_,rfl⟩,q⟩
theorem Bx{f:Value→Value→Sem Value}{g:Int→Int→Bool}
  (rule:∀(i j:Int) (t u:Tok) (s:Shared) (Q:Value→Shared→Prop) (E:Value→Shared→Prop),Q (.bool (g i j)) s→wpAny (model X.prog X.w) X.A (f (.int i t) (.int j u)) Q E s):
  OpR X f (rI0 fun i j=> .bl (g i j)):=by
 intro pins s σ H x y v u Q I rx ry h
 obtain ⟨i,j,rfl,rfl,q⟩:=h
 obtain ⟨t,rfl⟩:=rx
 obtain ⟨t',rfl⟩:=ry
 exact rule i j t t' s _ _ ⟨.bl (g i j),H,I,rfl,q⟩
def uA(i j:Int):Prop:=0≤j∧j≤1000000∧i.natAbs < 2 ^ 64
theorem Ah:OpR X (binaryOp .Add) (rI0 fun i j=> .int (i+j)):=Ed fun _ _ _ _ _ _ _ q=>add_int q
theorem z0:OpR X (binaryOp .Sub) (rI0 fun i j=> .int (i - j)):=Ed fun _ _ _ _ _ _ _ q=>sub_int q
theorem Aa:OpR X (binaryOp .Mod) (rI (fun _ j=>0 < j) fun i j=> .int (i % j)):=opI fun i j _ _ _ _ _ hc q=>by
 have h1:(0:Int) < j:=hc
 exact mod_int' (by omega) (by rw [Int.fmod_eq_emod_of_nonneg i (by omega)];exact q)
theorem z4:OpR X (binaryOp .Pow) (rI uA fun i j=> .int (i ^ j.toNat)):=opI fun _ _ _ _ _ _ _ hc q=>pow_int_small hc.1 hc.2.1 hc.2.2 q
theorem unI{f:Value→Sem Value}{g:Int→Int}
  (rule:∀(i:Int) (t:Tok) (s:Shared) (Q:Value→Shared→Prop) (E:Value→Shared→Prop),Q (.int (g i) s.toks) {s with toks:=s.toks+1}→wpAny (model X.prog X.w) X.A (f (.int i t)) Q E s):
  UnR X f (rU fun i=> .int (g i)):=by
 intro pins s σ H x v Q I rx h
 obtain ⟨i,rfl,q⟩:=h
 obtain ⟨t,rfl⟩:=rx
 exact rule i t s _ _ ⟨.int (g i),H,I.tok _,⟨_,rfl⟩,q⟩
theorem zi:UnR X (unaryOp .USub) (rU fun i=> .int (-i)):=unI fun _ _ _ _ _ q=>neg_int q
end
def DW:V→V→Bool
 | .non, .non=>true | .non, .int _=>true | .int _, .non=>true | .non, .bl _=>true | .bl _, .non=>true | .non, .str _=>true | .str _, .non=>true
 | .int _, .int _=>true | .bl _, .bl _=>true | .str _, .str _=>true | .byt _, .byt _=>true
 | .int _, .str _=>true | .str _, .int _=>true | .bl _, .str _=>true | .str _, .bl _=>true
 | _,_=>false
def rEq:R2:=fun x y H Q=>DW x y=true∧Q (.bl (decide (x=y))) H
def rNe:R2:=fun x y H Q=>DW x y=true∧Q (.bl (!decide (x=y))) H
theorem tQ{i j:Int}:decide (V.int i=V.int j)=(i==j):=by
 rw [Bool.eq_iff_iff]
 simp
theorem xf{i j:Bool}:decide (V.bl i=V.bl j)=(i==j):=by
 rw [Bool.eq_iff_iff]
 simp
theorem tP{i j:Str}:decide (V.str i=V.str j)=(i==j):=by
 rw [Bool.eq_iff_iff]
 simp
theorem tR{i j:Array UInt8}:decide (V.byt i=V.byt j)=(i.toList==j.toList):=by
 rw [Bool.eq_iff_iff]
 cases i
 cases j
 simp
section
variable{X:Cx}{a b c:Expr}{ta tb tc:TE}{pos:Pos}
theorem aO{pins:List (Addr×Obj)}{σ:St}{H:Hp}{s:Shared}{Q:VK}{k k':Bool}(I:Inv X pins σ H s)(q:Q (.bl k) H)(e:k=k'):EP X pins σ Q (.bool k') s:=by
 subst e
 exact ⟨.bl k,H,I,rfl,q⟩
theorem Af:OpR X (compareOp .Eq) rEq:=by
 intro pins s σ H x y v u Q I rx ry h
 obtain ⟨hs,q⟩:=h
 cases x with
 | non=>
  cases rx
  cases y with
  | non=>cases ry;exact PySem.EqNone.eq_none_none (aO I q (by simp))
  | bl j=>cases ry;exact PySem.EqNone.eq_none_bool (aO I q (by simp))
  | int j=>obtain ⟨t',rfl⟩:=ry;exact PySem.EqNone.eq_none_int (aO I q (by simp))
  | str j=>obtain ⟨t',rfl⟩:=ry;exact PySem.EqNone.eq_none_str (aO I q (by simp))
  | _=>exact absurd (show false=true from hs) Bool.false_ne_true
 | bl i=>
  cases rx
  cases y with
  | non=>cases ry;exact PySem.EqNone.eq_bool_none (aO I q (by simp))
  | bl j=>cases ry;exact eq_bool (aO I q xf)
  | str j=>obtain ⟨t',rfl⟩:=ry;exact PySem.EqMixed.eq_bool_str (aO I q (by simp))
  | _=>exact absurd (show false=true from hs) Bool.false_ne_true
 | int i=>
  obtain ⟨t,rfl⟩:=rx
  cases y with
  | non=>cases ry;exact PySem.EqNone.eq_int_none (aO I q (by simp))
  | int j=>obtain ⟨t',rfl⟩:=ry;exact eq_int (aO I q tQ)
  | str j=>obtain ⟨t',rfl⟩:=ry;exact PySem.EqMixed.eq_int_str (aO I q (by simp))
  | _=>exact absurd (show false=true from hs) Bool.false_ne_true
 | str i=>
  obtain ⟨t,rfl⟩:=rx
  cases y with
  | non=>cases ry;exact PySem.EqNone.eq_str_none (aO I q (by simp))
  | bl j=>cases ry;exact PySem.EqMixed.eq_str_bool (aO I q (by simp))
  | int j=>obtain ⟨t',rfl⟩:=ry;exact PySem.EqMixed.eq_str_int (aO I q (by simp))
  | str j=>obtain ⟨t',rfl⟩:=ry;exact eq_str (aO I q tP)
  | _=>exact absurd (show false=true from hs) Bool.false_ne_true
 | byt i=>
  obtain ⟨t,rfl⟩:=rx
  cases y with
  | byt j=>obtain ⟨t',rfl⟩:=ry;exact PySem.W.eq_bytes (aO I q tR)
  | _=>exact absurd (show false=true from hs) Bool.false_ne_true
 | _=>cases y <;> exact absurd (show false=true from hs) Bool.false_ne_true
theorem CA:OpR X (compareOp .NotEq) rNe:=by
 intro pins s σ H x y v u Q I rx ry h
 obtain ⟨hs,q⟩:=h
 cases x with
 | non=>
  cases rx
  cases y with
  | non=>cases ry;exact PySem.EqNone.ne_none_none (aO I q (by simp))
  | bl j=>cases ry;exact PySem.EqNone.ne_none_bool (aO I q (by simp))
  | int j=>obtain ⟨t',rfl⟩:=ry;exact PySem.EqNone.ne_none_int (aO I q (by simp))
  | str j=>obtain ⟨t',rfl⟩:=ry;exact PySem.EqNone.ne_none_str (aO I q (by simp))
  | _=>exact absurd (show false=true from hs) Bool.false_ne_true
 | bl i=>
  cases rx
  cases y with
  | non=>cases ry;exact PySem.EqNone.ne_bool_none (aO I q (by simp))
  | bl j=>cases ry;exact ne_bool (aO I q (congrArg not xf))
  | str j=>obtain ⟨t',rfl⟩:=ry;exact PySem.EqMixed.ne_bool_str (aO I q (by simp))
  | _=>exact absurd (show false=true from hs) Bool.false_ne_true
 | int i=>
  obtain ⟨t,rfl⟩:=rx
  cases y with
  | non=>cases ry;exact PySem.EqNone.ne_int_none (aO I q (by simp))
  | int j=>obtain ⟨t',rfl⟩:=ry;exact ne_int (aO I q (congrArg not tQ))
  | str j=>obtain ⟨t',rfl⟩:=ry;exact PySem.EqMixed.ne_int_str (aO I q (by simp))
  | _=>exact absurd (show false=true from hs) Bool.false_ne_true
 | str i=>
  obtain ⟨t,rfl⟩:=rx
  cases y with
  | non=>cases ry;exact PySem.EqNone.ne_str_none (aO I q (by simp))
  | bl j=>cases ry;exact PySem.EqMixed.ne_str_bool (aO I q (by simp))
  | int j=>obtain ⟨t',rfl⟩:=ry;exact PySem.EqMixed.ne_str_int (aO I q (by simp))
  | str j=>obtain ⟨t',rfl⟩:=ry;exact ne_str (aO I q (congrArg not tP))
  | _=>exact absurd (show false=true from hs) Bool.false_ne_true
 | byt i=>
  obtain ⟨t,rfl⟩:=rx
  cases y with
  | byt j=>obtain ⟨t',rfl⟩:=ry;exact PySem.W.ne_bytes (aO I q (congrArg not tR))
  | _=>exact absurd (show false=true from hs) Bool.false_ne_true
 | _=>cases y <;> exact absurd (show false=true from hs) Bool.false_ne_true
theorem Ab:OpR X (compareOp .Lt) (rI0 fun i j=> .bl (decide (i < j))):=Bx fun _ _ _ _ _ _ _ q=>lt_int q
theorem Ac:OpR X (compareOp .LtE) (rI0 fun i j=> .bl (decide (i≤j))):=Bx fun _ _ _ _ _ _ _ q=>le_int q
theorem CB:OpR X (compareOp .Gt) (rI0 fun i j=> .bl (decide (j < i))):=Bx fun _ _ _ _ _ _ _ q=>gt_int q
theorem CC:OpR X (compareOp .GtE) (rI0 fun i j=> .bl (decide (j≤i))):=Bx fun _ _ _ _ _ _ _ q=>ge_int q
theorem Ad:OpR X (compareOp .Is) (fun x y H Q=>y= .non∧Q (.bl (decide (x= .non))) H):=by
 intro pins s σ H x y v u Q I rx ry h
 obtain ⟨rfl,q⟩:=h
 cases ry
 refine is_none_gen (aO I q ?_)
 cases x <;> first
  | (cases rx;rfl)
  | (obtain ⟨t,rfl⟩:=rx;rfl)
theorem xZ:OpR X (compareOp .IsNot) (fun x y H Q=>y= .non∧Q (.bl (!decide (x= .non))) H):=by
 intro pins s σ H x y v u Q I rx ry h
 obtain ⟨rfl,q⟩:=h
 cases ry
 refine isnot_none_gen (aO I q ?_)
 cases x <;> first
  | (cases rx;rfl)
  | (obtain ⟨t,rfl⟩:=rx;rfl)
theorem OpR.or{f:Value→Value→Sem Value}{r r':R2}(h:OpR X f r)(h':OpR X f r'):OpR X f (fun x y H Q=>r x y H Q∨r' x y H Q):=by
 intro pins s σ H x y v u Q I rx ry q
 rcases q with q | q
 ·exact h pins s σ H x y v u Q I rx ry q
 ·exact h' pins s σ H x y v u Q I rx ry q
theorem eE(b:Expr){op:CmpOp}(h:op≠ .In:=by decide)(h2:op≠ .NotIn:=by decide):behindInMarks op b=false:=by
 have e1:(op==CmpOp.In)=false:=by cases op <;> first | rfl | exact absurd rfl h
 have e2:(op==CmpOp.NotIn)=false:=by cases op <;> first | rfl | exact absurd rfl h2
 cases b <;> simp [behindInMarks,e1,e2]
theorem xU{op:CmpOp}{r:R2}(ho:OpR X (compareOp op) r)(ha:PE X a ta)(hb:PE X b tb)(hm:behindInMarks op b=false):PE X (.Compare a [op] [b] pos) (tOp r ta tb):=by
 intro pins s σ H Q I h
 exact wpAny_Compare1 (DB ha hb I h fun v u s2 x y H2 I2 rx ry q=>ho pins s2 σ H2 x y v u Q I2 rx ry q) hm
def BR(t:TE):TT:=fun σ H Q=>t σ H fun x H'=>∃k,x= .bl k∧Q k H'
theorem xH{op:CmpOp}{r:R2}(ho:OpR X (compareOp op) r)(ha:PE X a ta)(hb:PE X b tb)(hm:behindInMarks op b=false):PT X (.Compare a [op] [b] pos) (BR (tOp r ta tb)):=by
 intro pins s σ H Q I h
 refine wpAny_isTrue_Compare1 (thn (ha pins s σ H _ I h) fun v s1 ⟨x,H1,I1,r1,q1⟩=>thn (hb pins s1 σ H1 _ I1 q1) fun u s2 ⟨y,H2,I2,r2,q2⟩=>
  thn (ho pins s2 σ H2 x y v u _ I2 r1 r2 q2) fun c s3 ⟨z,H3,I3,r3,k,e,q3⟩=> ?_) hm
 subst e
 cases r3
 exact wpAny_truthy_bool ⟨H3,I3,q3⟩
theorem jw:(sizeLine:Nat) < 2 ^ 63:=by rw [sizeLine_eq];decide
theorem pU:OpR X (binaryOp .Add) (fun x y H Q=>∃i j,x= .str i∧y= .str j∧i.length+j.length≤sizeLine∧Q (.str (i++j)) H):=by
 intro pins s σ H x y v u Q I rx ry h
 obtain ⟨i,j,rfl,rfl,hz,q⟩:=h
 obtain ⟨t,rfl⟩:=rx
 obtain ⟨t',rfl⟩:=ry
 exact add_str (fun t' tk=>⟨.str (i++j),H,I.tok _,⟨_,rfl⟩,q⟩) hz
theorem kH{x:V}{us:List Value}(r:bz [x] us):∃u,us=[u]∧bh x u:=by
 cases r with
 | cons r1 r2=>cases r2;exact ⟨_,rfl,r1⟩
theorem zh{x y:V}{us:List Value}(r:bz [x,y] us):∃u w',us=[u,w']∧bh x u∧bh y w':=by
 cases r with
 | cons r1 r2=>
  cases r2 with
  | cons r3 r4=>cases r4;exact ⟨_,_,rfl,r1,r3⟩
theorem vU:dH X (.builtin "abs") (fun xs H Q=>∃i,xs=[.int i]∧Q (.int (if i < 0 then -i else i)) H):=by
 intro pins s σ H xs us Q I r h
 obtain ⟨i,rfl,q⟩:=h
 obtain ⟨u,rfl,t,rfl⟩:=kH r
 exact call_abs_int fun u tk=>⟨.int (if i < 0 then -i else i),H,I.tok _,⟨_,rfl⟩,q⟩
end
end L2
namespace L2
open PySem PySem.Spec PyProof.Rows
structure yZ(h:Heap)(x dx C:Addr)(mA:Str→Option Value):Prop where
 obj:h.get? x=some (PySem.W.instObj C dx)
 ns:h.Ns1 dx mA
 ne:dx≠x
theorem lH{h:Heap}{dx:Addr}{mA:Str→Option Value}(n:h.Ns1 dx mA):∃od,h.get? dx=some od∧∀name,PySem.W.lookIn name od=some (mA name):=by
 obtain ⟨o,es,ep,ho,hd,hk,_,hm⟩:=n
 refine ⟨o,ho,fun name=> ?_⟩
 have e:=hm name
 unfold nsFind findBy at e
 rw [←Array.find?_toList] at e
 unfold PySem.W.lookIn
 rw [hd]
 dsimp only
 split
 ·rename_i y q
  rw [q] at e
  exact congrArg some e
 ·rename_i q
  rw [q] at e
  have a:es.toList.any (·.refKey)=false:=by
   rw [List.any_eq_false]
   intro y hy
   obtain ⟨z,t,hkey⟩:=hk y (Array.mem_toList_iff.mp hy)
   simp [DictEntry.refKey,hkey]
  have a':¬es.toList.any (·.refKey)=true:=by rw [a];exact Bool.false_ne_true
  rw [if_neg a']
  exact congrArg some e
theorem yZ.look{h:Heap}{x dx C:Addr}{mA:Str→Option Value}(I:yZ h x dx C mA):∃od,PySem.W.InstAt h x (PySem.W.instObj C dx) C (some od)∧∀name,PySem.W.lookIn name od=some (mA name):=
 let ⟨od,ho,hl⟩:=lH I.ns
 ⟨od,⟨I.obj,rfl,rfl,ho⟩,hl⟩
section
variable{prog:Program}{w:World}{A:Around}{E:Value→Shared→Prop}{s:Shared}{K:PySem.W.Frag}{x dx C f:Addr}{mA:Str→Option Value}{name:Str}{v:Value}
theorem ki{expr:Bool}{Q:Value→Shared→Prop}(X:K.In s.heap)(I:yZ s.heap x dx C mA)(hg:PySem.W.plainGet K C name=true)(hh:PySem.W.hasDictIn K C=true)
  (ha:PySem.W.findIn K (.ref C) name=some none) (hv:mA name=some v) (hv':PySem.W.handedIn v=true) (h:Q v {s with toks:=s.toks+1}):
  wpAny (model prog w) A (getAttr (.ref x) name expr) Q E s:=by
 obtain ⟨od,J,hl⟩:=I.look
 exact PySem.W.get_value X J (PySem.W.plainGet_of hg).1 (PySem.W.findObj_own hh ha rfl (by rw [hl,hv])) hv' h
theorem vw{pl:Sem Bool}{Q:Value×List Value→Shared→Prop}(X:K.In s.heap)(I:yZ s.heap x dx C mA)(hg:PySem.W.plainGet K C name=true)
  (hf:PySem.W.findIn K (.ref C) name=some (some (.ref f))) (ht:PySem.W.isFn K (.ref f)=true) (hv:mA name=none) (h:Q (.ref f,[.ref x]) s):
  wpAny (model prog w) A (getMethod (.ref x) name pl) Q E s:=by
 obtain ⟨od,J,hl⟩:=I.look
 exact PySem.W.method_fn X J (PySem.W.plainGet_of hg).1 (PySem.W.plainGet_of hg).2 hf (beq_iff_eq.mp ht) (by show (PySem.W.lookIn name od).map (·.isSome)=some false;rw [hl,hv];rfl) h
theorem xt{ns:List Str}{Q:Unit→Shared→Prop}(X:K.In s.heap)(I:yZ s.heap x dx C mA)
  (hs:PySem.W.findIn K (.ref C) "__setattr__"=some (some (.builtin "object.__setattr__"))) (hp:PySem.W.plainOver K C=true) (ht:PySem.W.takerIn K C name=some none) (hh:PySem.W.hasDictIn K C=true)
  (hw:PySem.Within mA ns) (hsz:ns.length≤sizeLine)
  (h:∀h',yZ h' x dx C (fun y=>if y=name then some v else mA y)→Heap.SameBut dx s.heap h'→Q () {s with heap:=h',toks:=s.toks+2}):
  wpAny (model prog w) A (setAttr (.ref x) name v) Q E s:=by
 obtain ⟨od,J,hl⟩:=I.look
 refine PySem.W.set_plain X J hs (PySem.W.osa_open (s:={s with toks:=s.toks+1}) (r:=none) X J hp ht fun b=> ?_)
 obtain ⟨cd,hc,hd'⟩:=PySem.W.any_some hh
 have hx:s.heap.get? x=some ⟨.ref C,some dx, .plain, #[]⟩:=I.obj
 refine wpAny_bind (wpAny_pure (wpAny_bind (wpAny_bind (wpAny_loadPart hx (wpAny_bind (PySem.W.Looks.here (s:={s with toks:=s.toks+1}) (PySem.W.looks_clsIn X hc) ?_))))))
 rw [hd']
 refine wpAny_pure (a:=some dx) (wpAny_bind (wpAny_pure (wpAny_bind ?_)))
 refine wpAny_nsSet1 (s:={s with toks:=s.toks+1}) I.ns fun h' hn2 hs2=> ?_
 obtain ⟨oD,esD,epD,hoD,hdD,hcD⟩:=hn2.count (PySem.Within.cons name v hw)
 refine wpAny_bind (wpAny_lookBehind hoD (by rw [hdD];exact pastItsLine_dict (Nat.le_trans hcD (by rw [List.length_cons];omega))) ?_)
 exact wpAny_pure (h _ ⟨(hs2.2 _ (Ne.symm I.ne)).trans I.obj,hn2,I.ne⟩ hs2)
theorem vh{R:Result→Shared→Prop}{vs:List Value}{kw:List (Str×Value)}(X:K.In s.heap)(hm:PySem.W.makesIn K C=true)
  (hi:PySem.W.findIn K (.ref C) "__init__"=some (some (.ref f))) (hf:PySem.W.typeIn K (.ref f)=some (.type "function"))
  (h:codeAny (model prog w) (A.under (.builtin "type.__call__" ⟨.ref C::vs,kw⟩)) (.call (.ref f) ⟨.ref (s.heap.objs.size+1)::vs,kw⟩) (PySem.W.InitBack (s.heap.objs.size+1) R)
   {s with heap:=(s.heap.push PySem.W.emptyDict).push (PySem.W.instObj C s.heap.objs.size)}):
  codeAny (model prog w) A (.call (.ref C) ⟨vs,kw⟩) R s:=by
 obtain ⟨hh,g,d,t,os⟩:=s
 exact PySem.W.make_core (PySem.W.makes_of X hm) (PySem.W.looks_findIn X hi) (fun self=>PySem.W.bind_fn X self hf) (.inl rfl) h
end
def iW(f:Str)(v:V):List (Str×V)→List (Str×V)
 | []=>[(f,v)]
 | (g,x)::r=>if g=f then (g,v)::r else (g,x)::iW f v r
theorem fC(f g:Str)(v:V):∀fs:List (Str×V),(iW f v fs).lookup g=if g=f then some v else fs.lookup g
 | []=>by
  show List.lookup g [(f,v)]=_
  by_cases h:g=f
  ·have hb:(g==f)=true:=beq_iff_eq.mpr h
   simp only [List.lookup,hb,if_pos h]
  ·have hb:(g==f)=false:=beq_eq_false_iff_ne.mpr h
   simp only [List.lookup,hb,if_neg h]
 | (k,x)::r=>by
  have ih:=fC f g v r
  rw [show iW f v ((k,x)::r)=(if k=f then (k,v)::r else (k,x)::iW f v r) from rfl]
  by_cases hk:k=f
  ·rw [if_pos hk]
   by_cases h:g=k
   ·have hb:(g==k)=true:=beq_iff_eq.mpr h
    simp only [List.lookup,hb,if_pos (h.trans hk)]
   ·have hb:(g==k)=false:=beq_eq_false_iff_ne.mpr h
    simp only [List.lookup,hb,if_neg (fun e:g=f=>h (e.trans hk.symm))]
  ·rw [if_neg hk]
   by_cases h:g=k
   ·have hb:(g==k)=true:=beq_iff_eq.mpr h
    simp only [List.lookup,hb,if_neg (fun e:g=f=>hk (h.symm.trans e))]
   ·have hb:(g==k)=false:=beq_eq_false_iff_ne.mpr h
    simp only [List.lookup,hb]
    exact ih
theorem iy(f:Str)(v:V):∀fs:List (Str×V),f∈(iW f v fs).map (·.1)∧∀g,g∈fs.map (·.1)→g∈(iW f v fs).map (·.1)
 | []=>⟨by simp [iW],fun g h=>by simp at h⟩
 | (k,x)::r=>by
  obtain ⟨i1,i2⟩:=iy f v r
  rw [show iW f v ((k,x)::r)=(if k=f then (k,v)::r else (k,x)::iW f v r) from rfl]
  by_cases hk:k=f
  ·rw [if_pos hk]
   subst hk
   exact ⟨by simp,fun g h=>by simpa using h⟩
  ·rw [if_neg hk]
   refine ⟨?_,fun g h=> ?_⟩
   ·rw [List.map_cons]
    exact List.mem_cons_of_mem _ i1
   ·rw [List.map_cons] at h⊢
    rcases List.mem_cons.mp h with e | e
    ·exact List.mem_cons.mpr (.inl e)
    ·exact List.mem_cons_of_mem _ (i2 g e)
theorem iu(f:Str)(v:V):∀fs:List (Str×V),(iW f v fs).length≤fs.length+1
 | []=>by simp [iW]
 | (k,x)::r=>by
  have ih:=iu f v r
  rw [show iW f v ((k,x)::r)=(if k=f then (k,v)::r else (k,x)::iW f v r) from rfl]
  by_cases hk:k=f
  ·rw [if_pos hk,List.length_cons,List.length_cons];omega
  ·rw [if_neg hk,List.length_cons,List.length_cons];omega
theorem iU.some_of{v:V}{o:Option Value}(r:iU (some v) o):∃u,o=some u∧bh v u:=by
 cases o with
 | none=>exact (show False from r).elim
 | some u=>exact ⟨u,rfl,r⟩
theorem iU.none_of{o:Option Value}(r:iU none o):o=none:=by
 cases o with
 | none=>rfl
 | some u=>exact (show False from r).elim
theorem lT{v:V}{u:Value}(r:bh v u):PySem.W.handedIn u=true:=by
 cases v with
 | non=>cases (show u=Value.none from r);rfl
 | bl b=>cases (show u=Value.bool b from r);rfl
 | int i=>obtain ⟨t,e⟩:=(show∃t,u=Value.int i t from r);cases e;rfl
 | str x=>obtain ⟨t,e⟩:=(show∃t,u=Value.str x t from r);cases e;rfl
 | byt b=>obtain ⟨t,e⟩:=(show∃t,u=Value.bytes b t from r);cases e;rfl
 | flt b=>obtain ⟨t,e⟩:=(show∃t,u=Value.float b t from r);cases e;rfl
 | ref a=>cases (show u=Value.ref a from r);rfl
 | ty n=>cases (show u=Value.type n from r);rfl
section
variable{P:Program}{w:World}{H H':Hp}{h h':Heap}{a C dx:Addr}{fs fs':List (Str×V)}
theorem kg(hok:HOk P w H h)(e:H a=some (.ins C dx fs)):∃mA,yZ h a dx C mA∧(∀f,iU (fs.lookup f) (mA f))∧PySem.Within mA (fs.map (·.1))∧fs.length≤1000∧H dx=some (.own a):=by
 obtain ⟨d,z,ne,ob,mA,n,r,q⟩:=(show ba P w H h a (.ins C dx fs) from hok a _ e)
 exact ⟨mA,⟨ob,n,ne⟩,r,q,z,d⟩
end
structure Cls(K:PySem.W.Frag)(C:Addr):Prop where
 pg:PySem.W.plainGet K C Str.empty=true
 hd:PySem.W.hasDictIn K C=true
 po:PySem.W.plainOver K C=true
 sa:PySem.W.findIn K (.ref C) "__setattr__"=some (some (.builtin "object.__setattr__"))
theorem Cls.get{K:PySem.W.Frag}{C:Addr}(c:Cls K C)(f:Str):PySem.W.plainGet K C f=true:=c.pg
def fj(K:PySem.W.Frag)(C:Addr)(f:Str):Prop:=PySem.W.findIn K (.ref C) f=some none
theorem fj.taker{K:PySem.W.Frag}{C:Addr}{f:Str}(n:fj K C f):PySem.W.takerIn K C f=some none:=by
 unfold PySem.W.takerIn
 rw [show PySem.W.findIn K (.ref C) f=some none from n]
 rfl
structure BJ(K:PySem.W.Frag)(C:Addr)(m:Str)(f:Addr):Prop where
 at_:PySem.W.findIn K (.ref C) m=some (some (.ref f))
 fn:PySem.W.isFn K (.ref f)=true
 kp:PySem.W.keepIn K (.ref f)=true
section
variable{X:Cx}{pins:List (Addr×Obj)}{σ:St}{H:Hp}{s:Shared}{a C dx:Addr}{fs:List (Str×V)}{f:Str}{v:V}{A:Around}{E:Value→Shared→Prop}
theorem ql{b:Bool}{Q:Value→Shared→Prop}(I:Inv X pins σ H s)(e:H a=some (.ins C dx fs))(c:Cls X.K C)(n:fj X.K C f)(l:fs.lookup f=some v)
  (h:∀u s',Inv X pins σ H s'→bh v u→Q u s'):wpAny (model X.prog X.w) A (getAttr (.ref a) f b) Q E s:=by
 obtain ⟨mA,O,r,_,_,_⟩:=kg I.hok e
 obtain ⟨u,hu,ru⟩:=iU.some_of (v:=v) (o:=mA f) (by rw [←l];exact r f)
 exact ki I.kIn O (c.get f) c.hd n hu (lT ru) (h u _ (I.tok _) ru)
theorem jz{m:Str}{g:Addr}{pl:Sem Bool}{Q:Value×List Value→Shared→Prop}(I:Inv X pins σ H s)(e:H a=some (.ins C dx fs))(c:Cls X.K C)(k:BJ X.K C m g)(l:fs.lookup m=none)
  (h:Q (.ref g,[.ref a]) s):wpAny (model X.prog X.w) A (getMethod (.ref a) m pl) Q E s:=by
 obtain ⟨mA,O,r,_,_,_⟩:=kg I.hok e
 have hn:mA m=none:=iU.none_of (by rw [←l];exact r m)
 exact vw I.kIn O (c.get m) k.at_ k.fn hn h
theorem pQ{y:V}{u:Value}{Q:Unit→Shared→Prop}(I:Inv X pins σ H s)(e:H a=some (.ins C dx fs))(c:Cls X.K C)(n:fj X.K C f)(hl:fs.length < 1000)(ry:bh y u)
  (h:∀s',Inv X pins σ (upd H a (.ins C dx (iW f y fs))) s'→Q () s'):wpAny (model X.prog X.w) A (setAttr (.ref a) f u) Q E s:=by
 obtain ⟨mA,O,r,wi,_,ho⟩:=kg I.hok e
 have hz:(fs.map (·.1)).length≤sizeLine:=by rw [List.length_map,sizeLine_eq];omega
 refine xt I.kIn O c.sa c.po n.taker c.hd wi hz fun h' O' sb=>h _ ?_
 have hd:∃o,h'.get? dx=some o:=let ⟨o,_,_,e',_⟩:=O'.ns;⟨o,e'⟩
 refine I.write (x:=a) (e:=dx) (by rw [e];exact True.intro) (.inr ho) (fun b q hb z=>(sb.2 b hb).trans z) hd ?_
 refine ⟨by rw [ai O.ne];exact ho, ?_,O.ne,O'.obj,_,O'.ns,fun g=> ?_,fun g hg=> ?_⟩
 ·have:=iu f y fs;omega
 ·show iU ((iW f y fs).lookup g) (if g=f then some u else mA g)
  rw [fC]
  by_cases q:g=f
  ·rw [if_pos q,if_pos q];exact ry
  ·rw [if_neg q,if_neg q];exact r g
 ·by_cases q:g=f
  ·rw [q];exact (iy f y fs).1
  ·refine (iy f y fs).2 g (wi g fun z=>hg ?_)
   show (if g=f then some u else mA g)=none
   rw [if_neg q];exact z
theorem Inv.made(I:Inv X pins σ H s):Inv X pins σ (upd (upd H s.heap.objs.size (.own (s.heap.objs.size+1))) (s.heap.objs.size+1) (.ins C s.heap.objs.size []))
  {s with heap:=(s.heap.push PySem.W.emptyDict).push (PySem.W.instObj C s.heap.objs.size)}:=by
 have e1:(s.heap.push PySem.W.emptyDict).get? s.heap.objs.size=some PySem.W.emptyDict:=Heap.get?_push_size s.heap rfl
 have e2:((s.heap.push PySem.W.emptyDict).push (PySem.W.instObj C s.heap.objs.size)).get? (s.heap.objs.size+1)=some (PySem.W.instObj C s.heap.objs.size):=by
  have:=Heap.get?_push_size (s.heap.push PySem.W.emptyDict) (o:=PySem.W.instObj C s.heap.objs.size) rfl
  rwa [Heap.size_push] at this
 have e3:(s.heap.push PySem.W.emptyDict).Ns s.heap.objs.size (fun _=>none):=⟨PySem.W.emptyDict, #[],_,e1,rfl,(fun e he=>absurd he (by simp)),fun _=>rfl⟩
 have I1:=I.laid (a:=s.heap.objs.size) (o:= .own (s.heap.objs.size+1)) (h':=s.heap.push PySem.W.emptyDict) (t':=s.toks) (fun b u q=>Heap.get?_push_of_some _ q) (Nat.le_refl _) ⟨_,e1⟩
 refine I1.laid (a:=s.heap.objs.size+1) (o:= .ins C s.heap.objs.size []) (t':=s.toks) (fun b u q=>Heap.get?_push_of_some _ q) (Nat.le_of_eq (Heap.size_push _ _)) ?_
 have ne:s.heap.objs.size≠s.heap.objs.size+1:=Nat.ne_of_lt (Nat.lt_succ_self _)
 refine ⟨by rw [ai ne,ao],Nat.zero_le _,ne,e2,fun _=>none,(Heap.Ns1.of_empty e3).at fun o q=>Heap.get?_push_of_some _ q,fun _=>True.intro,fun y hy=>absurd rfl hy⟩
theorem ug{prog:Program}{w:World}{env:Env}{e:Expr}{f:Str}{pos:Pos}{s:Shared}{Q:Value→Shared→Prop}(hb:attributeBase e f env (eval e env)=eval e env)
  (h:wpAny (model prog w) A (eval e env) (fun o s₁=>wpAny (model prog w) A (getAttr o f true) Q E s₁) E s):wpAny (model prog w) A (eval (.Attribute e f pos) env) Q E s:=
 Attribute_any_ h (by rw [arm_eval_Attribute,hb])
end
def EU(K:PySem.W.Frag)(ta:TE)(f:Str):TE:=fun σ H Q=>ta σ H fun x H1=>∃a C dx fs v,x= .ref a∧H1 a=some (.ins C dx fs)∧Cls K C∧fj K C f∧fs.lookup f=some v∧Q v H1
def EZ(K:PySem.W.Frag)(ta tv:TE)(f:Str):TS:=fun D σ H=>tv σ H fun y H1=>ta σ H1 fun x H2=>∃a C dx fs,x= .ref a∧H2 a=some (.ins C dx fs)∧Cls K C∧fj K C f∧fs.length < 1000∧
 D.nx σ (upd H2 a (.ins C dx (iW f y fs)))
section
variable{X:Cx}{o e value:Expr}{f:Str}{pos pos' tpos:Pos}{ta tv:TE}
theorem zY(he:PE X e ta)(hb:attributeBase e f X.env (eval e X.env)=eval e X.env):PE X (.Attribute e f pos) (EU X.K ta f):=by
 intro pins s σ H Q I h
 refine ug hb (thn (he pins s σ H _ I h) fun u s1 ⟨x,H1,I1,rx,a,C,dx,fs,v,ex,ea,c,n,l,q⟩=> ?_)
 subst ex
 obtain rfl:u=Value.ref a:=rx
 exact ql I1 ea c n l fun u' s2 I2 ru=>⟨v,H1,I2,ru,q⟩
theorem zQ(ha:PE X o ta)(hv:PE X value tv)(hs:swapsWith value (some (.Attribute o f pos')) pos.line X.env=pure false):PS X (.Assign [.Attribute o f pos'] value pos) (EZ X.K ta tv f):=by
 intro pins s σ H D I h
 refine plainObj_wpAny_Assign_Attribute (thn (hv pins s σ H _ I h) fun u s1 ⟨y,H1,I1,ry,q⟩=>thn (ha pins s1 σ H1 _ I1 q) fun ov s2 ⟨x,H2,I2,rx,a,C,dx,fs,ex,ea,c,n,l,q2⟩=> ?_) hs
 subst ex
 obtain rfl:ov=Value.ref a:=rx
 exact pQ I2 ea c n l ry fun s3 I3=>⟨σ,_,I3,q2⟩
end
section
variable{X:Cx}{pins:List (Addr×Obj)}{σ:St}{H:Hp}{s:Shared}{A:Around}{E:Value→Shared→Prop}{Q:Value→Shared→Prop}{c:Value}{b:Bool}
inductive kE(K:PySem.W.Frag)(H:Hp):V→Value→Prop where
 | non:kE K H .non (.type "NoneType")
 | bl (x:Bool):kE K H (.bl x) (.type "bool")
 | int (i:Int):kE K H (.int i) (.type "int")
 | str (x:Str):kE K H (.str x) (.type "str")
 | flt (x:UInt64):kE K H (.flt x) (.type "float")
 | lst {a:Addr} {xs:List V} (e:H a=some (.lst xs)):kE K H (.ref a) (.type "list")
 | frz {a:Addr} {o:Obj} {xs:List V} (e:H a=some (.frz o (.lst xs))):kE K H (.ref a) (.type "list")
 | tup {a:Addr} {xs:List V} (e:H a=some (.tup xs)):kE K H (.ref a) (.type "tuple")
 | dK {a:Addr} {kvs:List (Key×V)} (e:H a=some (.dK kvs)):kE K H (.ref a) (.type "dict")
 | dT {a:Addr} {kvs:List (List Key×V)} (e:H a=some (.dT kvs)):kE K H (.ref a) (.type "dict")
 | ins {a C dx:Addr} {fs:List (Str×V)} (e:H a=some (.ins C dx fs)) (cl:Cls K C) (ha:PySem.W.findIn K (.ref C) "__class__"=some (some (.builtin "object.__class__")))
   (hn:PySem.W.specialIn K (.builtin "object.__class__") "__get__"=some (some (.builtin "getset_descriptor.__get__"))) (htk:PySem.W.takesIn K (.builtin "object.__class__")=some true)
   (hm:PySem.W.mroIn K C (.type "object")=some true):kE K H (.ref a) (.ref C)
theorem sN{x:V}{u t:Value}(I:Inv X pins σ H s)(rx:bh x u)(ty:kE X.K H x t)(e:PySem.W.kitOne X.K t c=some b)(h:∀tk,Q (.bool b) {s with toks:=tk}):
  wpAny (model X.prog X.w) A (call (.builtin "isinstance") [u,c]) Q E s:=by
 cases ty with
 | non=>cases (show u=Value.none from rx);exact PySem.W.kia_one PySem.W.kitx_none I.kIn True.intro e (fun z=>nomatch z) h
 | bl y=>cases (show u=Value.bool y from rx);exact PySem.W.kia_one PySem.W.kitx_bool I.kIn True.intro e (fun z=>nomatch z) h
 | int i=>obtain ⟨t,q⟩:=(show∃t,u=Value.int i t from rx);cases q;exact PySem.W.kia_one PySem.W.kitx_int I.kIn True.intro e (fun z=>nomatch z) h
 | str y=>obtain ⟨t,q⟩:=(show∃t,u=Value.str y t from rx);cases q;exact PySem.W.kia_one PySem.W.kitx_str I.kIn True.intro e (fun z=>nomatch z) h
 | flt y=>obtain ⟨t,q⟩:=(show∃t,u=Value.float y t from rx);cases q;exact PySem.W.kia_one PySem.W.kitx_float I.kIn True.intro e (fun z=>nomatch z) h
 | @lst a xs ea=>
  cases (show u=Value.ref a from rx)
  obtain ⟨_,_,n,_,h1⟩:=(show ba X.prog X.w H s.heap a (.lst xs) from I.hok a _ ea)
  exact PySem.W.kia_one PySem.W.kitx_list I.kIn ⟨_,h1,rfl⟩ e (fun z=>nomatch z) h
 | @frz a ob xs ea=>
  cases (show u=Value.ref a from rx)
  obtain ⟨_,_,_,n,_,h1⟩:=(show ba X.prog X.w H s.heap a (.frz ob (.lst xs)) from I.hok a _ ea)
  exact PySem.W.kia_one PySem.W.kitx_list I.kIn ⟨_,h1,rfl⟩ e (fun z=>nomatch z) h
 | @tup a xs ea=>
  cases (show u=Value.ref a from rx)
  obtain ⟨_,_,_,p⟩:=(show ba X.prog X.w H s.heap a (.tup xs) from I.hok a _ ea)
  obtain ⟨o,h1,h2,_⟩:=p
  exact PySem.W.kia_one PySem.W.kitx_tuple I.kIn ⟨o,h1,h2⟩ e (fun z=>nomatch z) h
 | @dK a kvs ea=>
  cases (show u=Value.ref a from rx)
  obtain ⟨_,_,vs,_,p⟩:=(show ba X.prog X.w H s.heap a (.dK kvs) from I.hok a _ ea)
  obtain ⟨o,es,ep,h1,h2,_⟩:=p
  exact PySem.W.kia_one PySem.W.kitx_dict I.kIn ⟨o,h1,h2.1⟩ e (fun z=>nomatch z) h
 | @dT a kvs ea=>
  cases (show u=Value.ref a from rx)
  obtain ⟨_,_,xs,_,o,es,ep,h1,h2,_⟩:=(show ba X.prog X.w H s.heap a (.dT kvs) from I.hok a _ ea)
  exact PySem.W.kia_one PySem.W.kitx_dict I.kIn ⟨o,h1,h2.1⟩ e (fun z=>nomatch z) h
 | @ins a C dx fs ea cl ha hn htk hm=>
  cases (show u=Value.ref a from rx)
  obtain ⟨mA,O,_⟩:=kg I.hok ea
  obtain ⟨od,J,_⟩:=O.look
  exact PySem.W.kia_one (PySem.W.kitx_own (cl.get _) cl.hd ha hn htk hm) I.kIn J e (fun z=>nomatch z) h
end
end L2
namespace L2
open PySem PySem.Spec PyProof.Rows
structure cT(k:Nat)(A:Around):Prop where
 hd:A.handled=none
 dp:A.depth+3 * k+5 < recursionLimit
 un:A.units+16 * k+200 < cLine
theorem cT.mono{j k:Nat}{A:Around}(r:cT k A)(h:j≤k):cT j A:=⟨r.hd,by have:=r.dp;omega,by have:=r.un;omega⟩
theorem cT.deeper{k:Nat}{A:Around}(r:cT (k+1) A)(env:Env):cT k (A.deeper env):=
 ⟨r.hd,by have:=r.dp;show A.depth+1+3 * k+5 < _;omega,by have:=r.un;show A.units+3+16 * k+200 < _;omega⟩
theorem qd{A:Around}{C:Addr}{us:List Value}{kw:List (Str×Value)}:(A.under (.builtin "type.__call__" ⟨.ref C::us,kw⟩)).depth=A.depth+1:=by
 first | rfl | simp [Around.under,Code.weight,Code.isCreation,Code.isGuard,Code.isCaller,Code.frames,Code.isFrame,guardIds]
theorem qc{A:Around}{C:Addr}{us:List Value}{kw:List (Str×Value)}:(A.under (.builtin "type.__call__" ⟨.ref C::us,kw⟩)).units=A.units+1:=by
 first | rfl | simp [Around.under,Code.cUnits,Code.frames,Code.isFrame]
theorem cT.make{k:Nat}{A:Around}(r:cT (k+1) A)(C:Addr)(us:List Value)(kw:List (Str×Value)):cT k (A.under (.builtin "type.__call__" ⟨.ref C::us,kw⟩)):=
 ⟨r.hd,by have:=r.dp;rw [qd];omega,by have:=r.un;rw [qc];omega⟩
theorem cT.depth{k:Nat}{A:Around}(r:cT k A):A.depth < recursionLimit:=by have:=r.dp;omega
theorem cT.units{k:Nat}{A:Around}(r:cT k A):A.units+64 < cLine:=by have:=r.un;omega
theorem cT.units0{k:Nat}{A:Around}(r:cT k A):A.units < cLine:=by have:=r.un;omega
def DU:TA:=fun _ H Q=>Q [] H
def BZ(ta:TE)(tr:TA):TA:=fun σ H Q=>ta σ H fun x H1=>tr σ H1 fun xs H2=>Q (x::xs) H2
section
variable{X:Cx}{e:Expr}{es:List Expr}{te:TE}{t:TA}{pos:Pos}
theorem wB:PA X [] DU:=fun _ _ _ _ H Q I h=>Calls.spliced_nil ⟨[],H,I, .nil,h⟩
theorem nq(ha:PE X e te)(hr:PA X es t)(hs:starEach (e::es) X.env=(false,eval e X.env)::starEach es X.env:=by rfl):PA X (e::es) (BZ te t):=by
 intro pos pins s σ H Q I h
 rw [hs]
 show wpAny _ _ (spliced ((false,eval e X.env)::backTo pos (starEach es X.env))) _ _ s
 refine Calls.spliced_cons (thn (ha pins s σ H _ I h) fun u s1 ⟨x,H1,I1,r1,q1⟩=> ?_)
 exact thn (hr pos pins s1 σ H1 _ I1 q1) fun us s2 ⟨xs,H2,I2,r2,q2⟩=>⟨x::xs,H2,I2, .cons r1 r2,q2⟩
def EI(t:TA):TE:=fun σ H Q=>t σ H fun xs H1=>xs.length≤sizeLine∧∀p,H1 p=none→Q (.ref p) (upd H1 p (.tup xs))
def EO(t:TA):TE:=fun σ H Q=>t σ H fun xs H1=>xs.length≤sizeLine∧∀p,H1 p=none→Q (.ref p) (upd H1 p (.lst xs))
theorem zS{x1}(h:PA X es t):PE X (.Tuple es x1 pos) (EI t):=by
 intro pins s σ H Q I hq
 refine wpAny_Tuple_spliced (thn (h pos pins s σ H _ I hq) fun us s1 ⟨xs,H1,I1,r,z,q⟩=>⟨by rw [←r.length];exact z, ?_⟩)
 have hf:H1 s1.heap.objs.size=none:=I1.hok.fresh (Nat.le_refl _)
 refine ⟨.ref s1.heap.objs.size,upd H1 s1.heap.objs.size (.tup xs),I1.laid (t':=s1.toks) (fun b u e=>Heap.get?_push_of_some _ e) (Nat.le_refl _) ?_,rfl,q _ hf⟩
 exact ⟨z,us,r,⟨_,Heap.get?_push_size _ rfl,rfl,_,rfl⟩⟩
theorem wA(h:PA X es t):PE X (.List es pos) (EO t):=by
 intro pins s σ H Q I hq
 refine wpAny_List_spliced (thn (h pos pins s σ H _ I hq) fun us s1 ⟨xs,H1,I1,r,z,q⟩=>⟨by rw [←r.length];exact z, ?_⟩)
 have hf:H1 s1.heap.objs.size=none:=I1.hok.fresh (Nat.le_refl _)
 refine ⟨.ref s1.heap.objs.size,upd H1 s1.heap.objs.size (.lst xs),I1.laid (t':=s1.toks) (fun b u e=>Heap.get?_push_of_some _ e) (Nat.le_refl _) ?_,rfl,q _ hf⟩
 exact ⟨z,us,0,r,Heap.get?_push_size _ rfl⟩
end
abbrev Sp:=List V→Hp→VK→XK→Prop
abbrev CXT:=List Env→Hp→Shared→XK→Value→Shared→Prop
structure y6(P:Program)(w:World)(K:PySem.W.Frag)(mg:Str→Option Value)(base:Heap)(A:Around)(outer:List Env)(s:Shared)(H:Hp):Prop where
 frames:A.frames=some outer
 mod:Mod K mg base
 bs:∀b o,base.get? b=some o→s.heap.get? b=some o∧H b=none
 bsz:base.objs.size≤s.heap.objs.size
 funs:s.heap.FunFrames base outer
 frf:∀b∈frs outer,H b=none
 hok:HOk P w H s.heap
 bare:AllBare s.gens
def CE(outer:List Env)(P:Program)(w:World)(H:Hp)(s:Shared)(Q:VK)(u:Value)(s':Shared):Prop:=
 ∃v H',s'.os=s.os∧AllBare s'.gens∧Un (frs outer) [] H H' s.heap s'.heap∧HOk P w H' s'.heap∧bh v u∧Q v H'
def CR(CX:CXT)(outer:List Env)(P:Program)(w:World)(H:Hp)(s:Shared)(Q:VK)(E:XK)(r:Result)(s':Shared):Prop:=
 match r with
 | .ok (.ret u)=>CE outer P w H s Q u s'
 | .ok _=>False
 | .error e=>CX outer H s E e s'
structure bC(P:Program)(w:World)(K:PySem.W.Frag)(mg:Str→Option Value)(base:Heap)(CX:CXT)(k:Nat)(f:Addr)(fd:FuncData)(ps:List Str)(sp:Sp):Prop where
 len:∀vs H Q E,sp vs H Q E→vs.length=ps.length
 run:∀(A:Around) (outer:List Env) (s:Shared) (H:Hp) (args:Args) (us:List Value) (vs:List V) (Q:VK) (E:XK),cT k A→y6 P w K mg base A outer s H→BindsTo s fd args (ps.zip us)→bz vs us→sp vs H Q E→
  codeAny (model P w) A (.call (.ref f) args) (CR CX outer P w H s Q E) s
theorem y6.make{P:Program}{w:World}{K:PySem.W.Frag}{mg:Str→Option Value}{base:Heap}{A:Around}{outer:List Env}{s:Shared}{H:Hp}(e:y6 P w K mg base A outer s H)(C:Addr)(us:List Value)(kw:List (Str×Value)):
  y6 P w K mg base (A.under (.builtin "type.__call__" ⟨.ref C::us,kw⟩)) outer s H:=⟨by first | exact e.frames | (simpa [Around.under,Code.envs,Code.isFrame,pushEnvs] using e.frames),e.mod,e.bs,e.bsz,e.funs,e.frf,e.hok,e.bare⟩
section
variable{X:Cx}{pins:List (Addr×Obj)}{σ:St}{H:Hp}{s s':Shared}
theorem Inv.env0(I:Inv X pins σ H s):y6 X.prog X.w X.K X.mg X.base X.A X.stack s H:=
 ⟨I.ok.frames,I.ok.mod,I.bs,Nat.le_trans I.ok.bsz I.sz,I.stack,I.stkFree,I.hok,I.bare⟩
theorem Inv.after{Q:VK}{u:Value}(I:Inv X pins σ H s)(h:CE X.stack X.prog X.w H s Q u s'):EP X pins σ Q u s':=by
 obtain ⟨v,H',os,bare,un,hok,r,q⟩:=h
 obtain ⟨hh,g,d,t,os'⟩:=s'
 obtain rfl:os'=s.os:=os
 exact ⟨v,H',I.call (h':=hh) (g':=g) (d':=d) (t':=t) (ch:=[]) un hok bare (fun b z=>absurd z (by simp)),r,q⟩
end
def fX(K:PySem.W.Frag)(fd:FuncData)(ps:List Str)(ds:List Value):Prop:=
 ∀(s:Shared) (us:List Value),K.In s.heap→(us++ds).length=ps.length→BindsTo s fd ⟨us,[]⟩ (ps.zip (us++ds))
theorem fX.all{K:PySem.W.Frag}{fd:FuncData}{ps:List Str}(h:∀us:List Value,us.length=ps.length→bindArgs fd ⟨us,[]⟩=pure (ps.zip us)):fX K fd ps []:=fun s us _ hl=>by
 rw [List.append_nil] at hl⊢
 exact .of_eq (h us hl)
section
variable{X:Cx}{CX:CXT}{k:Nat}{f C:Addr}{fd:FuncData}{ps:List Str}{sp:Sp}{dvs:List V}{ds:List Value}{E:XK}{x m:Str}{p pos apos:Pos}{e o:Expr}{es:List Expr}{ta:TE}{t:TA}
structure Mk(K:PySem.W.Frag)(C f:Addr):Prop where
 makes:PySem.W.makesIn K C=true
 init:PySem.W.findIn K (.ref C) "__init__"=some (some (.ref f))
 fn:PySem.W.isFn K (.ref f)=true
 kp:PySem.W.keepIn K (.ref C)=true
end
section
variable{X:Cx}{CX:CXT}{k:Nat}{f C:Addr}{fd:FuncData}{ps ks:List Str}{sp:Sp}{E:XK}{x m:Str}{p pos apos kpos:Pos}{e o:Expr}{es:List Expr}{kws:List Keyword}{te ta:TE}{t tk:TA}{nm:Option Str}
variable{g:List Value→List Value→List Value}{gV:List V→List V→List V}
end
structure au(N P:List Str)(sc:Scope):Prop where
 kind:sc.kind= .function
 co:sc.isCoroutine=false
 gen:sc.isGenerator=false
 nd:N.Nodup
 pre:N.take P.length=P
 par:∀x∈P,sc.names.lookup x=some .local∨sc.names.lookup x=some .cell
 nofree:∀y∈sc.names,y.2≠ .free
theorem mw{kindOf:Str→Option NameKind}{x:Str}:∀{binds:List (Str×Value)} {m:Str→Option Value},(∀v,(x,v)∉binds)→bindL kindOf binds m x=m x
 | [],_,_=>rfl
 | (n,v)::r,m,h=>by
  unfold bindL
  rw [mw fun w hw=>h w (List.mem_cons_of_mem _ hw)]
  split
  ·have:x≠n:=by rintro rfl;exact h v List.mem_cons_self
   simp [this]
  ·rfl
theorem my{kindOf:Str→Option NameKind}{x:Str}:∀{binds:List (Str×Value)} {m:Str→Option Value},(∀v,(x,v)∉binds)→bindC kindOf binds m x=m x
 | [],_,_=>rfl
 | (n,v)::r,m,h=>by
  unfold bindC
  rw [my fun w hw=>h w (List.mem_cons_of_mem _ hw)]
  split
  ·rfl
  ·have:x≠n:=by rintro rfl;exact h v List.mem_cons_self
   simp [this]
theorem mx{kindOf:Str→Option NameKind}{x:Str}{v:Value}:∀{P:List Str} {vs:List Value} {i:Nat} {m:Str→Option Value},P.Nodup→P[i]? =some x→vs[i]? =some v→kindOf x=some .local→
  bindL kindOf (P.zip vs) m x=some v
 | [],_,_,_,_,h,_,_=>by simp at h
 | _::_,[],_,_,_,_,h,_=>by simp at h
 | p::P,w::vs,0,m,nd,h1,h2,hk=>by
  simp at h1 h2;subst h1;subst h2
  show bindL kindOf ((p,w)::P.zip vs) m p=_
  unfold bindL
  rw [mw fun v hv=>(List.nodup_cons.mp nd).1 (List.of_mem_zip hv).1,if_pos hk]
  simp
 | p::P,w::vs,i+1,m,nd,h1,h2,hk=>by
  show bindL kindOf ((p,w)::P.zip vs) m x=_
  unfold bindL
  exact mx (i:=i) (List.nodup_cons.mp nd).2 (by simpa using h1) (by simpa using h2) hk
theorem mz{kindOf:Str→Option NameKind}{x:Str}{v:Value}:∀{P:List Str} {vs:List Value} {i:Nat} {m:Str→Option Value},P.Nodup→P[i]? =some x→vs[i]? =some v→kindOf x≠some .local→
  bindC kindOf (P.zip vs) m x=some v
 | [],_,_,_,_,h,_,_=>by simp at h
 | _::_,[],_,_,_,_,h,_=>by simp at h
 | p::P,w::vs,0,m,nd,h1,h2,hk=>by
  simp at h1 h2;subst h1;subst h2
  show bindC kindOf ((p,w)::P.zip vs) m p=_
  unfold bindC
  rw [my fun v hv=>(List.nodup_cons.mp nd).1 (List.of_mem_zip hv).1,if_neg hk]
  simp
 | p::P,w::vs,i+1,m,nd,h1,h2,hk=>by
  show bindC kindOf ((p,w)::P.zip vs) m x=_
  unfold bindC
  exact mz (i:=i) (List.nodup_cons.mp nd).2 (by simpa using h1) (by simpa using h2) hk
def h8(N:List Str)(vs:List V):St:=vs.map some++List.replicate (N.length - vs.length) none
def mH(CX:CXT)(P:Program)(w:World)(K:PySem.W.Frag)(mg:Str→Option Value)(base:Heap)(N:List Str)(qual:Str)(scope:Scope)(f:Addr)(cd:Value)(A:Around)(outer:List Env)(s:Shared)(H:Hp)(E:XK):Cx where
 prog:=P
 w:=w
 K:=K
 mg:=mg
 base:=base
 A:=A.deeper (envOfC qual scope s.heap.objs.size f cd)
 N:=N
 s₀:=s
 H₀:=H
 env:=envOfC qual scope s.heap.objs.size f cd
 outer:=outer
 stack:=envOfC qual scope s.heap.objs.size f cd::outer
 ex:=[]
 calm:=true
 fn:=fun _=>true
 pn:=[]
 xe:=fun e s'=>wpAny (model P w) (A.deeper (envOfC qual scope s.heap.objs.size f cd)) (leaving (envOfC qual scope s.heap.objs.size f cd) e) (fun _ s''=>CX outer H s E e s'') (fun e' s''=>CX outer H s E e' s'') s'
theorem pE{sc:Scope}{n:Nat}{x:Str}(h:sc.names.lookup x=some .cell):∃c,(cellsFrom n sc.names []).lookup x=some c:=by
 have q:=PySem.W.cellsFrom_some sc.names n [] (.inl h)
 exact Option.isSome_iff_exists.mp q
theorem sO{CX:CXT}{P:Program}{w:World}{K:PySem.W.Frag}{mg:Str→Option Value}{base:Heap}{N ps:List Str}{qual:Str}{scope:Scope}{f:Addr}{cd:Value}{A:Around}{outer:List Env}{s s1:Shared}{H:Hp}{E:XK}{us:List Value}{vs:List V}
  (S:au N ps scope) (hd:A.handled=none) (e0:y6 P w K mg base A outer s H) (hl:vs.length=ps.length) (r:bz vs us)
  (x:InCallC s s.heap.objs.size (bindL (envOfC qual scope s.heap.objs.size f cd).kindOf (ps.zip us) fun _=>none) (cellsFrom (s.heap.objs.size+1) scope.names []) (bindC (envOfC qual scope s.heap.objs.size f cd).kindOf (ps.zip us) fun _=>none) s1):
  Inv (mH CX P w K mg base N qual scope f cd A outer s H E) [] (h8 N vs) H s1:=by
 have hpl:ps.length≤N.length:=by have:=congrArg List.length S.pre;rw [List.length_take] at this;omega
 obtain ⟨h1,tk,rfl,hk⟩:=x.done
 have noA:∀b:Addr,b∉(mH CX P w K mg base N qual scope f cd A outer s H E).ex:=fun b z=>absurd (show b∈([]:List Addr) from z) (by simp)
 refine ⟨⟨e0.mod,S.kind,rfl,rfl,Nat.le_refl _,fun y z c h1 h2=> ?_,fun y hy=> ?_,fun y c _ h=> ?_,fun _=>hd,Around.frames_deeper e0.frames, .inr ⟨rfl,rfl⟩,fun b z=>absurd z (noA b),e0.bs,e0.bsz,fun b _ _=>noA b,fun b z=>absurd z (noA b),e0.funs,e0.frf⟩,
  rfl,e0.bare,Un.kept hk,⟨_,x.toInCall.ns,fun i y v h1 h2 h3=> ?_⟩,fun y c h=>⟨_,x.cell y c h⟩,e0.hok.fresh (Nat.le_refl _),fun y c h=> ?_,fun p hp=>absurd (show p∈([]:List (Addr×Obj)) from hp) (by simp),e0.hok.kept hk, ?_⟩
 ·exact name_of_addr x.apart (PySem.mem_of_lookup h1) (PySem.mem_of_lookup h2)
 ·have hy:scope.names.lookup y=some .cell∨scope.names.lookup y=some .free:=hy
  rcases hy with hy | hy
  ·exact pE hy
  ·exact absurd rfl (S.nofree _ (PySem.mem_of_lookup hy))
 ·exact Nat.le_of_lt (x.above y c (PySem.mem_of_lookup h))
 ·have hi:i < vs.length:=by
   unfold h8 at h2
   by_cases hi:i < vs.length
   ·exact hi
   ·rw [List.getElem?_append_right (by simpa using hi)] at h2
    rw [List.getElem?_replicate] at h2
    split at h2 <;> cases h2
  have ha:vs[i]? =some v:=by
   unfold h8 at h2
   rw [List.getElem?_append_left (by simpa using hi),List.getElem?_map] at h2
   cases e:vs[i]? with
   | none=>rw [e] at h2;cases h2
   | some a=>rw [e] at h2;cases h2;rfl
  obtain ⟨u,hu,rv⟩:=r.get ha
  have hp:ps[i]? =some y:=by
   rw [←S.pre,List.getElem?_take_of_lt (by omega)];exact h1
  have ndP:ps.Nodup:=by rw [←S.pre];exact S.nd.sublist (List.take_sublist _ _)
  refine ⟨u,rv, ?_⟩
  rcases S.par y (List.mem_of_getElem? hp) with k | k
  ·exact .inl ⟨k,mx ndP hp hu k⟩
  ·obtain ⟨c,e⟩:=pE (n:=s.heap.objs.size+1) k
   refine .inr ⟨.inl k,c,e, ?_⟩
   have q:=x.cell y c e
   rw [mz ndP hp hu (by show scope.names.lookup y≠_;rw [k];decide)] at q
   exact q
 ·exact e0.hok.fresh (Nat.le_of_lt (x.above y c (PySem.mem_of_lookup h)))
 ·unfold h8
  show _=N.length
  rw [List.length_append,List.length_map,List.length_replicate]
  omega
theorem C4{CX:CXT}{P:Program}{w:World}{K:PySem.W.Frag}{mg:Str→Option Value}{base:Heap}{k:Nat}{f:Addr}{name qual:Str}{params:Arguments}{body:List Stmt}{scope:Scope}{dV kV doc pm cdv ct oc:Value}{an od:Option Addr}
  {osl:Array (Option Value)} {N ps:List Str} {sp:Sp} (lk:K.lookup f=some ⟨oc,od, .func (PySem.W.fnOf name qual params body scope dV kV doc pm an cdv ct),osl⟩) (hcd:PySem.W.codeIn K cdv qual=true) (S:au N ps scope)
  (len:∀vs H Q E,sp vs H Q E→vs.length=ps.length)
  (hbody:∀(A:Around) (outer:List Env) (s:Shared) (H:Hp) (vs:List V) (Q:VK) (E:XK),cT k (A.deeper (envOfC qual scope s.heap.objs.size f cdv))→sp vs H Q E→
   ∃t,PSs (mH CX P w K mg base N qual scope f cdv A outer s H E) body t∧t {nx:=fun _ H'=>Q .non H',rt:=Q} (h8 N vs) H):
  bC P w K mg base CX (k+1) f (PySem.W.fnOf name qual params body scope dV kV doc pm an cdv ct) ps sp:=by
 refine ⟨len,fun A outer s H args us vs Q E hr e0 hb r hsp=> ?_⟩
 have hl:=len _ _ _ _ hsp
 have KX:K.In s.heap:=e0.mod.kin.keeps fun b o e=>(e0.bs b o e).1
 have lim:s.heap.NoLimit:=e0.mod.nolimit.keeps fun b o e=>(e0.bs b o e).1
 have hkind:∀y∈ps.zip us,scope.names.lookup y.1=some .local∨(scope.names.lookup y.1=some .cell∧((cellsFrom (s.heap.objs.size+1) scope.names []).lookup y.1).isSome=true):=fun ⟨n,v⟩ hy=>by
  rcases S.par n (List.of_mem_zip hy).1 with q | q
  ·exact .inl q
  ·exact .inr ⟨q,PySem.W.cellsFrom_some _ _ _ (.inl q)⟩
 refine codeAny_call_function hr.depth (KX _ _ lk) rfl S.co S.gen rfl (PySem.W.codeRec_of KX hcd) (hb _ _ _ _ ?_)
 refine wpAny_newFunctionEnv_cells S.kind hkind fun env he s1 x=> ?_
 subst he
 refine ⟨lim.keeps x.toInCall.keep,codeAny_func ?_⟩
 obtain ⟨t,ht,hq⟩:=hbody A outer s H vs Q E (hr.deeper _) hsp
 have I:Inv (mH CX P w K mg base N qual scope f cdv A outer s H E) [] (h8 N vs) H s1:=sO S hr.hd e0 hl r x
 refine wpAny_mono (ht [] s1 (h8 N vs) H _ I hq) (fun fl s' hs=> ?_) fun e s' hs=>hs
 have fin:∀{σ':St} {H':Hp} {v:V} {u:Value},Inv (mH CX P w K mg base N qual scope f cdv A outer s H E) [] σ' H' s'→bh v u→Q v H'→CE outer P w H s Q u s':=
  fun {σ' H' v u} J rv q=>⟨v,H',J.os,J.bare,J.base,J.hok,rv,q⟩
 cases fl with
 | ret u=>
  obtain ⟨v,σ',H',J,rv,q⟩:=hs
  exact fin J rv q
 | next=>
  obtain ⟨σ',H',J,q⟩:=hs
  exact fin (v:=V.non) (u:=Value.none) J rfl q
 | brk=>
  obtain ⟨_,_,_,q⟩:=hs
  exact False.elim q
 | cont=>
  obtain ⟨_,_,_,q⟩:=hs
  exact False.elim q
end L2
namespace L2
open PySem PySem.Spec PyProof.Rows
section
variable{X:Cx}{x:Str}{p pos:Pos}{e:Expr}{es:List Expr}{t:TA}{id T:String}{r:List V→Hp→VK→Prop}
def tCB(r:List V→Hp→VK→Prop)(t:TA):TE:=fun σ H Q=>t σ H fun vs H1=>r vs H1 Q
theorem va(hc:dH X (.builtin id) r)(hg:Gl X x)(hm:X.mg x=none)(hv:bootBuiltins x=some (.builtin id))(ha:PA X (e::es) t)(hn:x≠"__name__":=by decide)(hdb:(x==("__debug__":Str))=false:=by decide)
  (he:starEach (e::es) X.env=(false,eval e X.env)::starEach es X.env:=by rfl) (hpl:(backTo pos (starEach es X.env)).any (·.1)=false:=by rfl):PE X (.Call (.Name x p) (e::es) [] pos) (tCB r t):=by
 intro pins s σ H Q I h
 refine wpAny_Call_Name_kw (jx I hg hm hv ?_ hn hdb)
 exact PyProof.Rows.callWith_builtin1 (thn (ha pos pins s σ H _ I h) fun us s1 ⟨vs,H1,I1,r1,q1⟩=>hc pins s1 σ H1 vs us Q I1 r1 q1) he hpl
theorem rM(hc:dH X (.type T) r)(hg:Gl X x)(hm:X.mg x=none)(hv:bootBuiltins x=some (.type T))(ha:PA X (e::es) t)(hn:x≠"__name__":=by decide)(hdb:(x==("__debug__":Str))=false:=by decide)
  (he:starEach (e::es) X.env=(false,eval e X.env)::starEach es X.env:=by rfl) (hpl:(backTo pos (starEach es X.env)).any (·.1)=false:=by rfl):PE X (.Call (.Name x p) (e::es) [] pos) (tCB r t):=by
 intro pins s σ H Q I h
 refine wpAny_Call_Name_kw (jx I hg hm hv ?_ hn hdb)
 exact PyProof.Rows.callWith_type1 (thn (ha pos pins s σ H _ I h) fun us s1 ⟨vs,H1,I1,r1,q1⟩=>hc pins s1 σ H1 vs us Q I1 r1 q1) he hpl
end
end L2
namespace HT
open PySem PyProof.Rows
section
open PySem.SeqAt
open PySem.AutoSeq1 (wpAny_loadPart')
open PySem.MeetsSeq PySem.MeetsSeq2 PySem.MeetsSeq3
end
section
variable{prog:Program}{w:World}{A:Around}{E:Value→Shared→Prop}{s:Shared}
theorem yO{t b:Addr}{vs ws:List Value}{Q:Value→Shared→Prop}(ht:IsTup s.heap t vs.toArray)(hb:IsTup s.heap b ws.toArray)(hv:vs≠[])
  (h1:ws=[]→Q (.ref t) s) (h2:ws≠[]→Q (.ref s.heap.objs.size) {s with heap:=s.heap.push {cls:= .type "tuple",data:= .seq (vs++ws).toArray}})
  (hsz:vs.length+ws.length≤sizeLine):wpAny (model prog w) A (binaryOp .Add (.ref t) (.ref b)) Q E s:=by
 obtain ⟨⟨cls,dd,data,sl⟩,ho,hc,n,hd⟩:=id ht
 obtain ⟨⟨cls2,dd2,data2,sl2⟩,ho2,hc2,n2,hd2⟩:=id hb
 simp only at hc hd hc2 hd2
 subst hc hd hc2 hd2
 have e:vs.toArray++ws.toArray=(vs++ws).toArray:=by simp
 by_cases hw:ws=[]
 ·exact concat_meets ⟨_,ho,rfl⟩ ⟨_,ho2,rfl⟩ noFill_tuple_add seq_tuple_add PySem.F.slot_tuple_add PySem.F.entry_tuple_add (PySem.F.args_tuple_add_2 _ _)
   (tuple_addW1 t b vs.toArray ws.toArray n n2 dd dd2 sl sl2 (by simpa using hv) (by simp [hw])) ⟨ho,ho2,h1 hw⟩
 ·refine concat_meets ⟨_,ho,rfl⟩ ⟨_,ho2,rfl⟩ noFill_tuple_add seq_tuple_add PySem.F.slot_tuple_add PySem.F.entry_tuple_add (PySem.F.args_tuple_add_2 _ _)
   (tuple_addW2 t b vs.toArray ws.toArray n n2 dd dd2 sl sl2 (by simpa using hv) (by simpa using hw) (by rw [List.size_toArray,List.size_toArray];exact hsz)) ⟨ho,ho2, ?_⟩
  rw [e]
  exact h2 hw
end
end HT
namespace L2
open PySem PySem.Spec PyProof.Rows
section
variable{X:Cx}{e:Expr}{te:TE}{lo hi:Option Expr}{tl th:TO}{pos p2:Pos}
def zI(K:PySem.W.Frag):R2:=fun x y H Q=>∃a b xs ys,x= .ref a∧y= .ref b∧SqT K H a xs∧SqT K H b ys∧xs≠[]∧xs.length+ys.length≤sizeLine∧
 (ys=[]→Q (.ref a) H)∧(ys≠[]→∀p,H p=none→Q (.ref p) (upd H p (.tup (xs++ys))))
theorem bz.nil_iff{xs:List V}{us:List Value}(r:bz xs us):us=[]↔xs=[]:=by
 cases r with
 | nil=>simp
 | cons _ _=>simp
theorem x5:OpR X (binaryOp .Add) (zI X.K):=by
 intro pins s σ H x y v u Q I rx ry h
 obtain ⟨a,b,xs,ys,rfl,rfl,ha,hb,hx,hz,q1,q2⟩:=h
 cases rx
 cases ry
 obtain ⟨its,r1,p1,_⟩:=I.tuple ha
 obtain ⟨its2,r2,p2,_⟩:=I.tuple hb
 refine HT.yO p1 p2 (fun z=>hx (r1.nil_iff.mp z)) (fun z=>⟨.ref a,H,I,rfl,q1 (r2.nil_iff.mp z)⟩) (fun z=> ?_) (by rw [←r1.length,←r2.length];exact hz)
 refine ⟨.ref s.heap.objs.size,_,I.laid (t':=s.toks) (o:= .tup (xs++ys)) (fun b ob q=>Heap.get?_push_of_some _ q) (Nat.le_refl _) ?_,rfl,q2 (fun w=>z (r2.nil_iff.mpr w)) _ (I.hok.fresh (Nat.le_refl _))⟩
 exact ⟨by rw [List.length_append];exact hz,_,r1.append r2,IsTup.new _ _⟩
end
end L2
namespace L2
open PySem PySem.Spec PyProof.Rows
def ixN(n:Nat)(i:Int):Option Nat:=if 0≤i then (if i < n then some i.toNat else none) else if -(n:Int)≤i then some (i+n).toNat else none
def atI{α:Type}(xs:List α)(i:Int):Option α:=(ixN xs.length i).bind fun j=>xs[j]?
theorem sM{n:Nat}{i:Int}{j:Nat}(h:ixN n i=some j):seqIndex? i n=some j∧j < n∧ -(n:Int)≤i∧i < n:=by
 unfold ixN at h
 by_cases h0:0≤i
 ·rw [if_pos h0] at h
  by_cases h1:i < n
  ·rw [if_pos h1] at h
   have e:i.toNat=j:=Option.some.inj h
   exact ⟨by rw [seqIndex_of h0 h1,e],by omega,by omega,h1⟩
  ·rw [if_neg h1] at h;cases h
 ·rw [if_neg h0] at h
  by_cases h1: -(n:Int)≤i
  ·rw [if_pos h1] at h
   have e:(i+n).toNat=j:=Option.some.inj h
   exact ⟨by rw [seqIndex_neg (by omega) h1,e],by omega,h1,by omega⟩
  ·rw [if_neg h1] at h;cases h
theorem oi{α:Type}{xs:List α}{i:Int}{v:α}(h:atI xs i=some v):∃j,seqIndex? i xs.length=some j∧xs[j]? =some v∧j < xs.length∧ -(xs.length:Int)≤i∧i < xs.length:=by
 unfold atI at h
 cases e:ixN xs.length i with
 | none=>rw [e] at h;cases h
 | some j=>
  rw [e] at h
  obtain ⟨h1,h2,h3,h4⟩:=sM e
  exact ⟨j,h1,h,h2,h3,h4⟩
theorem aG{α:Type}{xs:List α}{j:Nat}{v:α}(h:xs[j]? =some v):atI xs (j:Int)=some v:=by
 have hj:j < xs.length:=(List.getElem?_eq_some_iff.mp h).1
 have e:ixN xs.length (j:Int)=some j:=by
  unfold ixN
  rw [if_pos (by omega),if_pos (by omega)];simp
 unfold atI;rw [e];exact h
def ow(b:Expr):Prop:=∀o i,subscripted b false o i=operate [o,i] (getItem o i)
def IxR(X:Cx)(r:R2):Prop:=
 ∀(value slice:Expr) (pins:List (Addr×Obj)) (s:Shared) (σ:St) (H:Hp) (x y:V) (v u:Value) (Q:VK),Inv X pins σ H s→bh x v→bh y u→r x y H Q→
  subscripted slice false v u=operate [v,u] (getItem v u)→wpAny (model X.prog X.w) X.A (subscriptTail value slice v u) (EP X pins σ Q) X.xe s
def MtR(X:Cx)(id:String)(r:V→List V→Hp→VK→Prop):Prop:=
 ∀(pins:List (Addr×Obj)) (s:Shared) (σ:St) (H:Hp) (x:V) (xs:List V) (v:Value) (us:List Value) (Q:VK),Inv X pins σ H s→bh x v→bz xs us→r x xs H Q→
  wpAny (model X.prog X.w) X.A (call (.builtin id) (v::us)) (EP X pins σ Q) X.xe s
section
variable{X:Cx}{a b:Expr}{ta tb:TE}{pos:Pos}
theorem IxR.or{r r':R2}(h:IxR X r)(h':IxR X r'):IxR X (fun x y H Q=>r x y H Q∨r' x y H Q):=by
 intro value slice pins s σ H x y v u Q I rx ry q hs
 rcases q with q | q
 ·exact h value slice pins s σ H x y v u Q I rx ry q hs
 ·exact h' value slice pins s σ H x y v u Q I rx ry q hs
theorem Cu{r:R2}(hr:IxR X r)(ha:PE X a ta)(hb:PE X b tb)(hs:ow b):PE X (.Subscript a b pos) (tOp r ta tb):=by
 intro pins s σ H Q I h
 exact Subscript_ (DB ha hb I h fun v u s2 x y H2 I2 rx ry q=>hr a b pins s2 σ H2 x y v u Q I2 rx ry q (hs _ _))
def D6(K:PySem.W.Frag):R2:=fun x y H Q=>∃p xs i v,x= .ref p∧y= .int i∧SqL K H p xs∧atI xs i=some v∧Q v H
def D4(K:PySem.W.Frag):R2:=fun x y H Q=>∃p xs i v,x= .ref p∧y= .int i∧SqT K H p xs∧atI xs i=some v∧Q v H
def D5:R2:=fun x y H Q=>∃z i c,x= .str z∧y= .int i∧z.length≤sizeLine∧atI z.cps.toList i=some c∧Q (.str ⟨#[c]⟩) H
theorem yr:IxR X (D6 X.K):=by
 intro value slice pins s σ H x y v u Q I rx ry h hs
 obtain ⟨p,xs,i,z,rfl,rfl,hq,he,q⟩:=h
 cases rx
 obtain ⟨t,rfl⟩:=ry
 obtain ⟨its,r,pl,hz⟩:=I.list hq
 obtain ⟨j,h1,h2,h3,h4,h5⟩:=oi he
 obtain ⟨w,ew,rw'⟩:=r.get h2
 have hl:=r.length
 have hn:=jw
 have fin:EP X pins σ Q w s:=⟨z,H,I,rw',q⟩
 by_cases h0:0≤i
 ·have hj:i.toNat=j:=by
   rw [seqIndex_of h0 h5] at h1
   exact Option.some.inj h1
  exact item_listR pl.isList h0 (by omega) (by rw [hj];simpa using ew) fin hs
 ·have hj:(i+(its.toArray.size:Int)).toNat=j:=by
   rw [seqIndex_neg (by omega) h4] at h1
   rw [List.size_toArray,←hl]
   exact Option.some.inj h1
  exact subscriptTail_builtinR (x:=w) pl.isList.typeIs slot_list_getitem.lookup
   (wpAny_getItem_list_neg (Q:=fun r s'=>r=w∧EP X pins σ Q r s') pl.isList (by omega) (by rw [List.size_toArray] <;> omega) (by omega) (by rw [hj];simpa using ew) ⟨rfl,fin⟩) hs
theorem AV:IxR X (D4 X.K):=by
 intro value slice pins s σ H x y v u Q I rx ry h hs
 obtain ⟨p,xs,i,z,rfl,rfl,hq,he,q⟩:=h
 cases rx
 obtain ⟨t,rfl⟩:=ry
 obtain ⟨its,r,pl,hz⟩:=I.tuple hq
 obtain ⟨j,h1,h2,h3,h4,h5⟩:=oi he
 obtain ⟨w,ew,rw'⟩:=r.get h2
 have hl:=r.length
 have hn:=jw
 have fin:EP X pins σ Q w s:=⟨z,H,I,rw',q⟩
 exact subscriptTail_builtinR (x:=w) pl.typeIs slot_tuple_getitem.lookup
  (getItem_tuple (j:=j) (Q:=fun r s'=>r=w∧EP X pins σ Q r s') pl (by omega) (by omega) (by rw [List.size_toArray,←hl];exact h1) (by simpa using ew) ⟨rfl,fin⟩) hs
theorem AW:IxR X D5:=by
 intro value slice pins s σ H x y v u Q I rx ry h hs
 obtain ⟨z,i,c,rfl,rfl,hz,he,q⟩:=h
 obtain ⟨t,rfl⟩:=rx
 obtain ⟨t',rfl⟩:=ry
 obtain ⟨j,h1,h2,h3,h4,h5⟩:=oi he
 have hl:z.cps.toList.length=z.length:=by simp [Str.length]
 rw [hl] at h1 h4 h5
 have hn:=jw
 exact tail_any (typeIs_str s z t) slot_str_getitem.lookup (getItem_str (c:=c) (by
  have e1:decide (i < -(2 ^ 63:Int))=false:=decide_eq_false (by omega)
  have e2:decide (i ≥ 2 ^ 63)=false:=decide_eq_false (by omega)
  rw [e1,e2,Bool.or_false]) (by rw [h1];simpa using h2) ⟨.str ⟨#[c]⟩,H,I.tok _,⟨_,rfl⟩,q⟩) hs
def rIx(K:PySem.W.Frag):R2:=fun x y H Q=>D6 K x y H Q∨D4 K x y H Q∨D5 x y H Q
theorem AX:IxR X (rIx X.K):=yr.or (AV.or AW)
theorem qb(its:List Value)(n j:Nat)(u:Value):Obj.mapSeq (·.setIfInBounds j u) {cls:= .type "list",data:= .seq its.toArray n}={cls:= .type "list",data:= .seq (its.set j u).toArray n}:=by
 simp [Obj.mapSeq]
theorem Inv.lst{pins:List (Addr×Obj)}{σ:St}{H:Hp}{s:Shared}{p:Addr}{xs:List V}(I:Inv X pins σ H s)(h:H p=some (.lst xs)):
  ∃(its:List Value) (n:Nat),bz xs its∧s.heap.get? p=some {cls:= .type "list",data:= .seq its.toArray n}∧xs.length≤sizeLine:=by
 obtain ⟨z,its,n,r,e⟩:=I.hok p _ h
 exact ⟨its,n,r,e,z⟩
theorem Inv.lstUpd{pins:List (Addr×Obj)}{σ:St}{H:Hp}{s:Shared}{p:Addr}{xs ys:List V}{its its':List Value}{n n':Nat}{f:Obj→Obj}(I:Inv X pins σ H s)(h:H p=some (.lst xs))
  (ho:s.heap.get? p=some {cls:= .type "list",data:= .seq its.toArray n}) (hf:f {cls:= .type "list",data:= .seq its.toArray n}={cls:= .type "list",data:= .seq its'.toArray n'}) (r:bz ys its') (hz:ys.length≤sizeLine) (t:Nat):
  Inv X pins σ (upd H p (.lst ys)) {s with heap:=s.heap.update p f,toks:=t}:=by
 have e:(s.heap.update p f).get? p=some {cls:= .type "list",data:= .seq its'.toArray n'}:=by
  rw [Heap.get?_update_self f ho (by rw [hf] <;> rfl),hf]
 refine I.write (x:=p) (e:=p) (by rw [h];trivial) (.inl rfl) (fun b u hb q=>(Heap.get?_update_other _ _ (Ne.symm hb)).trans q) ⟨_,e⟩ ?_
 exact ⟨hz,its',n',r,e⟩
def zF:V→V→V→Hp→(Hp→Prop)→Prop:=fun o i v H Q=>∃p xs k j,o= .ref p∧i= .int k∧H p=some (.lst xs)∧ixN xs.length k=some j∧Q (upd H p (.lst (xs.set j v)))
theorem uN:EC X zF:=by
 intro pins s σ H o i v ov iv u Q I ro ri rv h
 obtain ⟨p,xs,k,j,rfl,rfl,hp,hj,q⟩:=h
 cases ro
 obtain ⟨t,rfl⟩:=ri
 obtain ⟨its,n,r,ho,hz⟩:=I.lst hp
 obtain ⟨h1,h2,h3,h4⟩:=sM hj
 have hl:=r.length
 have hn:=jw
 have I':Inv X pins σ (upd H p (.lst (xs.set j v))) {s with heap:=s.heap.update p (Obj.mapSeq (·.setIfInBounds j u))}:=
  I.lstUpd hp ho (qb its n j u) (r.set rv j) (by rw [List.length_set];exact hz) s.toks
 by_cases h0:0≤k
 ·have hk:k.toNat=j:=by
   rw [seqIndex_of h0 h4] at h1
   exact Option.some.inj h1
  exact PySem.W.ki_setAt ho h0 (by omega) (by rw [List.size_toArray,←hl];exact h4) (by rw [hk];exact ⟨_,I',q⟩)
 ·have hk:(k+(its.toArray.size:Int)).toNat=j:=by
   rw [seqIndex_neg (by omega) h3] at h1
   rw [List.size_toArray,←hl]
   exact Option.some.inj h1
  exact PySem.W.ki_setBack ho (by omega) (by rw [List.size_toArray,←hl];exact h3) (by omega) (by rw [hk];exact ⟨_,I',q⟩)
def cY:V→Bool
 | .non=>true
 | .bl _=>true
 | .int _=>true
 | .str _=>true
 | _=>false
def eqV:V→V→Bool
 | .non, .non=>true
 | .bl a, .bl b=>a==b
 | .bl a, .int b=>(if a then 1 else 0)==b
 | .int a, .bl b=>a==(if b then 1 else 0)
 | .int a, .int b=>a==b
 | .str a, .str b=>a==b
 | _,_=>false
theorem lZ{A:Around}{s:Shared}{y x:V}{u v:Value}(ry:bh y u)(rx:bh x v)(fy:cY y=true)(fx:cY x=true):SeqAt.EqAt A s u v (eqV y x):=by
 cases y with
 | non=>
  cases ry
  cases x with
  | non=>cases rx;exact SeqAt.EqAt.same _
  | bl b=>cases rx;exact SeqAt.EqAt.none_bool b
  | int b=>obtain ⟨t,rfl⟩:=rx;exact SeqAt.EqAt.none_int b t
  | str b=>obtain ⟨t,rfl⟩:=rx;exact SeqAt.EqAt.none_str b t
  | _=>exact absurd (show false=true from fx) Bool.false_ne_true
 | bl a=>
  cases ry
  cases x with
  | non=>cases rx;exact SeqAt.EqAt.bool_none a
  | bl b=>cases rx;exact SeqAt.EqAt.bool_bool a b
  | int b=>obtain ⟨t,rfl⟩:=rx;exact SeqAt.EqAt.bool_int a b t
  | str b=>obtain ⟨t,rfl⟩:=rx;exact SeqAt.EqAt.bool_str a b t
  | _=>exact absurd (show false=true from fx) Bool.false_ne_true
 | int a=>
  obtain ⟨t',rfl⟩:=ry
  cases x with
  | non=>cases rx;exact SeqAt.EqAt.int_none a t'
  | bl b=>cases rx;exact SeqAt.EqAt.int_bool a t' b
  | int b=>obtain ⟨t,rfl⟩:=rx;exact SeqAt.EqAt.int_int a t' b t
  | str b=>obtain ⟨t,rfl⟩:=rx;exact SeqAt.EqAt.int_str a t' b t
  | _=>exact absurd (show false=true from fx) Bool.false_ne_true
 | str a=>
  obtain ⟨t',rfl⟩:=ry
  cases x with
  | non=>cases rx;exact SeqAt.EqAt.str_none a t'
  | bl b=>cases rx;exact SeqAt.EqAt.str_bool a t' b
  | int b=>obtain ⟨t,rfl⟩:=rx;exact SeqAt.EqAt.str_int a t' b t
  | str b=>obtain ⟨t,rfl⟩:=rx;exact SeqAt.EqAt.str_str a t' b t
  | _=>exact absurd (show false=true from fx) Bool.false_ne_true
 | _=>exact absurd (show false=true from fy) Bool.false_ne_true
def eqU(x:V)(u:Value):Bool:=match u with
 | .none=>eqV .non x
 | .bool b=>eqV (.bl b) x
 | .int i _=>eqV (.int i) x
 | .str z _=>eqV (.str z) x
 | _=>false
theorem xc{x y:V}{u:Value}(r:bh y u)(f:cY y=true):eqU x u=eqV y x:=by
 cases y with
 | non=>cases r;rfl
 | bl b=>cases r;rfl
 | int i=>obtain ⟨t,rfl⟩:=r;rfl
 | str z=>obtain ⟨t,rfl⟩:=r;rfl
 | _=>exact absurd (show false=true from f) Bool.false_ne_true
theorem oj{x:V}:∀{xs:List V} {us:List Value},bz xs us→xs.all cY=true→us.any (eqU x)=xs.any fun y=>eqV y x
 | _,_, .nil,_=>rfl
 | y::xs,u::us, .cons r t,f=>by
  rw [List.all_cons,Bool.and_eq_true] at f
  rw [List.any_cons,List.any_cons,xc r f.1,oj t f.2]
theorem j7{A:Around}{s:Shared}{x:V}{v:Value}(rx:bh x v)(fx:cY x=true):∀{xs:List V} {us:List Value},bz xs us→xs.all cY=true→∀u∈us,SeqAt.EqAt A s u v (eqU x u)
 | _,_, .nil,_=>fun u hu=>by cases hu
 | y::xs,u::us, .cons r t,f=>fun u' hu=>by
  rw [List.all_cons,Bool.and_eq_true] at f
  rcases List.mem_cons.mp hu with rfl | hu
  ·rw [xc r f.1];exact lZ r rx f.1 fx
  ·exact j7 rx fx t f.2 u' hu
def inV(x:V)(xs:List V):Bool:=xs.any fun y=>eqV y x
def rIn(K:PySem.W.Frag)(neg:Bool):R2:=fun x y H Q=>∃p xs,y= .ref p∧(SqL K H p xs∨SqT K H p xs)∧cY x=true∧xs.all cY=true∧Q (.bl (if neg then !inV x xs else inV x xs)) H
theorem rQ:OpR X (compareOp .In) (rIn X.K false):=by
 intro pins s σ H x y v u Q I rx ry h
 obtain ⟨p,xs,rfl,hq,fx,fs,q⟩:=h
 cases ry
 rcases hq with hq | hq
 ·obtain ⟨its,r,pl,hz⟩:=I.list hq
  refine SeqAt.in_listAt (eqU x) pl.isList (fun w hw=>j7 rx fx r fs w (by simpa using hw)) ⟨.bl _,H,I,rfl, ?_⟩
  rw [show its.toArray.any (eqU x)=its.any (eqU x) by simp,oj r fs]
  exact q
 ·obtain ⟨its,r,pl,hz⟩:=I.tuple hq
  refine SeqAt.in_tupleAt (eqU x) pl (fun w hw=>j7 rx fx r fs w (by simpa using hw)) ⟨.bl _,H,I,rfl, ?_⟩
  rw [show its.toArray.any (eqU x)=its.any (eqU x) by simp,oj r fs]
  exact q
theorem mr:dH X (.builtin "len") (fun xs H Q=>∃p ys,xs=[.ref p]∧(SqL X.K H p ys∨SqT X.K H p ys)∧Q (.int ys.length) H):=by
 intro pins s σ H xs us Q I r h
 obtain ⟨p,ys,rfl,hq,q⟩:=h
 obtain ⟨u,rfl,rx⟩:=kH r
 cases rx
 have hn:=jw
 rcases hq with hq | hq
 ·obtain ⟨its,r',pl,hz⟩:=I.list hq
  have hlen:=r'.length
  exact Calls.call_len_list pl.isList (by simp only [List.size_toArray] <;> omega) ⟨.int ys.length,H,I.tok _,⟨s.toks+1,by rw [List.size_toArray,hlen]⟩,q⟩
 ·obtain ⟨its,r',pl,hz⟩:=I.tuple hq
  have hlen:=r'.length
  exact len_tuple pl (by simp only [List.size_toArray] <;> omega) ⟨.int ys.length,H,I.tok _,⟨s.toks+1,by rw [List.size_toArray,hlen]⟩,q⟩
theorem mq:dH X (.builtin "len") (fun xs H Q=>∃z,xs=[.str z]∧z.length≤sizeLine∧Q (.int z.length) H):=by
 intro pins s σ H xs us Q I r h
 obtain ⟨z,rfl,hz,q⟩:=h
 obtain ⟨u,rfl,t,rfl⟩:=kH r
 have hn:=jw
 exact len_str (by omega) ⟨.int z.length,H,I.tok _,⟨_,rfl⟩,q⟩
theorem dH.or{f:Value}{r r':List V→Hp→VK→Prop}(h:dH X f r)(h':dH X f r'):dH X f (fun xs H Q=>r xs H Q∨r' xs H Q):=by
 intro pins s σ H xs us Q I rs q
 rcases q with q | q
 ·exact h pins s σ H xs us Q I rs q
 ·exact h' pins s σ H xs us Q I rs q
theorem mn:dH X (.type "list") (fun xs H Q=>∃p ys,xs=[.ref p]∧(SqL X.K H p ys∨SqT X.K H p ys)∧∀l,H l=none→Q (.ref l) (upd H l (.lst ys))):=by
 intro pins s σ H xs us Q I r h
 obtain ⟨p,ys,rfl,hq,q⟩:=h
 obtain ⟨u,rfl,rx⟩:=kH r
 cases rx
 have fin:∀(its:List Value),bz ys its→ys.length≤sizeLine→∀(h':Heap) (c':Nat),(∀b o',s.heap.get? b=some o'→h'.get? b=some o')→
   h'.get? s.heap.objs.size=some {cls:= .type "list",dict:=none,data:= .seq its.toArray c',slots:= #[]}→EP X pins σ Q (.ref s.heap.objs.size) {s with heap:=h'}:=fun its r' hz h' c' kp e=>
  ⟨.ref s.heap.objs.size,_,I.laid (t':=s.toks) kp (Nat.le_refl _) (show ba X.prog X.w _ h' _ (.lst ys) from ⟨hz,its,c',r',e⟩),rfl,q _ (I.hok.fresh (Nat.le_refl _))⟩
 rcases hq with hq | hq
 ·obtain ⟨its,r',pl,hz⟩:=I.list hq
  have hlen:=r'.length
  obtain ⟨o,ho,hc,n,hd⟩:=pl.isList
  exact call_list_seq p (.inl rfl) ho hc hd (fun h' c' kp e=>fin its r' hz h' c' kp e) (by simp only [List.size_toArray] <;> omega)
 ·obtain ⟨its,r',pl,hz⟩:=I.tuple hq
  have hlen:=r'.length
  obtain ⟨o,ho,hc,n,hd⟩:=pl
  exact call_list_seq p (.inr rfl) ho hc hd (fun h' c' kp e=>fin its r' hz h' c' kp e) (by simp only [List.size_toArray] <;> omega)
def tyV(K:PySem.W.Frag)(T:String)(x:V)(H:Hp):Prop:=match x with
 | .str _=>T="str"
 | .int _=>T="int"
 | .ref p=>(T="list"∧∃xs,SqL K H p xs)∨(T="tuple"∧∃o,K.lookup p=some o∧o.cls= .type "tuple"∧o.dict=none)∨
   (T="dict"∧((∃kvs,H p=some (.dK kvs))∨∃kvs,H p=some (.dT kvs)))∨(T="set"∧∃S n,H p=some (.set S n))
 | _=>False
theorem zj{pins:List (Addr×Obj)}{σ:St}{H:Hp}{s:Shared}{T:String}{x:V}{v:Value}(I:Inv X pins σ H s)(r:bh x v)(ty:tyV X.K T x H):
  s.TypeIs v T∧∀a,v= .ref a→∃ob,s.heap.get? a=some ob∧ob.dict=none:=by
 cases x with
 | str z=>
  obtain ⟨t,rfl⟩:=r
  cases (show T="str" from ty)
  exact ⟨typeIs_str s z t,fun _ e=>nomatch e⟩
 | int i=>
  obtain ⟨t,rfl⟩:=r
  cases (show T="int" from ty)
  exact ⟨typeIs_int s i t,fun _ e=>nomatch e⟩
 | ref p=>
  cases r
  rcases ty with ⟨rfl,xs,hq⟩ | ⟨rfl,o,hk,hc,hd⟩ | ⟨rfl,hk⟩ | ⟨rfl,S,n,hk⟩
  ·obtain ⟨its,_,pl,_⟩:=I.list hq
   refine ⟨pl.isList.typeIs,fun a e=> ?_⟩
   cases e
   obtain ⟨o,n,e,c,hd,_⟩:=pl
   exact ⟨o,e,hd⟩
  ·refine ⟨⟨o,I.kIn p o hk,hc⟩,fun a e=> ?_⟩
   cases e
   exact ⟨o,I.kIn _ o hk,hd⟩
  ·have z:∃o,s.heap.get? p=some o∧o.ExactDict:=by
    rcases hk with ⟨kvs,hk⟩ | ⟨kvs,hk⟩
    ·obtain ⟨_,_,_,_,o,_,_,e,ex,_⟩:=I.hok p _ hk
     exact ⟨o,e,ex⟩
    ·obtain ⟨_,_,_,_,o,_,_,e,ex,_⟩:=I.hok p _ hk
     exact ⟨o,e,ex⟩
   obtain ⟨o,e,ex⟩:=z
   refine ⟨⟨o,e,ex.1⟩,fun a e2=> ?_⟩
   cases e2
   exact ⟨o,e,ex.2.1⟩
  ·obtain ⟨o,_,_,_,e,ex,_⟩:=I.hok p _ hk
   refine ⟨⟨o,e,ex.1⟩,fun a e2=> ?_⟩
   cases e2
   exact ⟨o,e,ex.2.1⟩
 | _=>exact False.elim ty
def tBM(K:PySem.W.Frag)(T:String)(r:V→List V→Hp→VK→Prop)(to:TE)(t:TA):TE:=fun σ H Q=>to σ H fun x H1=>tyV K T x H1∧t σ H1 fun xs H2=>r x xs H2 Q
variable{o e:Expr}{es:List Expr}{to:TE}{t:TA}{name:Str}{apos cpos:Pos}{T id:String}{r:V→List V→Hp→VK→Prop}
theorem Cv(pa:PlainAttrs T)(slot:Slot T name id)(hty:typeOf (.builtin id)=pure (.type "method_descriptor"))(hm:MtR X id r)(ho:PE X o to)(ha:PA X (e::es) t)
  (hbase:attributeBase o name X.env (eval o X.env)=eval o X.env:=by rfl)
  (hfew:((backTo cpos (starEach (e::es) X.env)).all (fun x=> !x.1)&&(backToKw cpos (keywordEach [] X.env)).all (fun x=>x.1.isSome)
   &&decide ((e::es).length+([]:List Keyword).length+(if ([]:List Keyword).isEmpty then 0 else 1) < 30))=true:=by rfl)
  (hline:(apos.endLine==cpos.line)=true:=by rfl) (hs:starEach (e::es) X.env=(false,eval e X.env)::starEach es X.env:=by rfl) (hplain:(backTo cpos (starEach es X.env)).any (·.1)=false:=by rfl):
  PE X (.Call (.Attribute o name apos) (e::es) [] cpos) (tBM X.K T r to t):=by
 intro pins s σ H Q I h
 refine wpAny_Call_method_late hbase hfew hline rfl (thn (ho pins s σ H _ I h) fun v s1 ⟨x,H1,I1,r1,ty,q1⟩=> ?_)
 obtain ⟨h1,h2⟩:=zj I1 r1 ty
 refine ⟨T,id,pa,slot,hty,h1,h2, ?_⟩
 have hA:=ha cpos pins s1 σ H1 _ I1 q1
 rw [hs] at hA⊢
 refine Calls.callWith_builtin (by show (false || (backTo cpos (starEach es X.env)).any (·.1))=false;rw [hplain] <;> rfl) (Calls.evalArgs_plain ?_)
 exact thn hA fun us s2 ⟨vs,H2,I2,r2,q2⟩=>hm pins s2 σ H2 x vs v us Q I2 r1 r2 q2
/- xs.append(e),list.index on a module's tuple .. are MtR facts of 06m -/
end
end L2
namespace L2
open PySem PySem.Spec PyProof.Rows
def MtM(X:Cx)(id:String)(r:V→List V→Hp→VK→Prop):Prop:=
 ∀(pins:List (Addr×Obj)) (s:Shared) (σ:St) (H:Hp) (x:V) (xs:List V) (v:Value) (us:List Value) (Q:VK),Inv X pins σ H s→bh x v→bz xs us→r x xs H Q→
  wpAny (model X.prog X.w) X.A (call (.builtin id) (v::us)) (EP X pins σ Q) X.xe s
theorem bz.one:∀{x:V} {us:List Value},bz [x] us→∃u,us=[u]∧bh x u
 | _,_, .cons r .nil=>⟨_,rfl,r⟩
theorem bz.two:∀{x y:V} {us:List Value},bz [x,y] us→∃u v,us=[u,v]∧bh x u∧bh y v
 | _,_,_, .cons r (.cons q .nil)=>⟨_,_,rfl,r,q⟩
theorem bz.rep{xs:List V}{us:List Value}(h:bz xs us):∀k:Nat,bz (List.replicate k xs).flatten (List.replicate k us).flatten
 | 0=> .nil
 | k+1=>by
  rw [List.replicate_succ,List.replicate_succ,List.flatten_cons,List.flatten_cons]
  exact bz.append h (bz.rep h k)
theorem lX(its:List Value):∀(k:Nat) (acc:List Value),
  List.foldl (fun x1 x2=>x1++x2) acc.toArray (List.replicate k its.toArray)=(acc++(List.replicate k its).flatten).toArray
 | 0,acc=>by simp
 | k+1,acc=>by
  have e:acc.toArray++its.toArray=(acc++its).toArray:=by simp
  have e2:(acc++its)++(List.replicate k its).flatten=acc++(List.replicate (k+1) its).flatten:=by
   rw [List.replicate_succ,List.flatten_cons,List.append_assoc]
  rw [←e2,←lX its k (acc++its),←e,List.replicate_succ,List.foldl_cons]
section
variable{X:Cx}{pins:List (Addr×Obj)}{σ:St}{H:Hp}{s:Shared}{l b:Addr}{xs ys zs:List V}
theorem Inv.lset{its its':List Value}{n:Nat}{f:Array Value→Array Value}{t':Nat}(I:Inv X pins σ H s)(hH:H l=some (.lst xs))
  (e:s.heap.get? l=some {cls:= .type "list",data:= .seq its.toArray n}) (hf:f its.toArray=its'.toArray) (hv:bz ys its') (hz:ys.length≤sizeLine):
  Inv X pins σ (upd H l (.lst ys)) {s with heap:=s.heap.update l (Obj.mapSeq f),toks:=t'}:=by
 have q:=PySem.IsL.update e f
 rw [hf] at q
 refine I.write (x:=l) (e:=l) (by rw [hH];exact trivial) (.inl rfl) (fun b' u hb hu=>(Heap.get?_update_other s.heap (Obj.mapSeq f) (Ne.symm hb)).trans hu) ⟨_,q⟩ ?_
 exact ⟨hz,its',_,hv,q⟩
theorem Inv.lnew{its:List Value}{t':Nat}(I:Inv X pins σ H s)(hv:bz ys its)(hz:ys.length≤sizeLine):
  Inv X pins σ (upd H s.heap.objs.size (.lst ys)) {s with heap:=s.heap.push {cls:= .type "list",data:= .seq its.toArray},toks:=t'}:=
 I.laid (fun _ _ q=>Heap.get?_push_of_some _ q) (Nat.le_refl _) ⟨hz,its,0,hv,Heap.get?_push_size _ rfl⟩
theorem Inv.fresh(I:Inv X pins σ H s):H s.heap.objs.size=none:=I.hok.fresh (Nat.le_refl _)
theorem Inv.lstM(I:Inv X pins σ H s)(hH:H l=some (.lst xs)):xs.length≤sizeLine∧∃(its:List Value) (n:Nat),bz xs its∧xs.length=its.length∧s.heap.get? l=some {cls:= .type "list",data:= .seq its.toArray n}:=by
 obtain ⟨z,its,n,r,e⟩:=I.hok l _ hH
 exact ⟨z,its,n,r,r.length,e⟩
theorem vg{n:Nat}(h:n≤sizeLine):Builtin.List.listTooLong n=false:=by
 unfold Builtin.List.listTooLong
 exact decide_eq_false (by omega)
end
section
variable{X:Cx}
def rg:V→List V→Hp→VK→Prop:=fun x vs H Q=>∃l xs y,x= .ref l∧vs=[y]∧H l=some (.lst xs)∧xs.length < sizeLine∧Q .non (upd H l (.lst (xs++[y])))
theorem iq:MtM X "list.append" rg:=by
 intro pins s σ H x vs v us Q I rx rv h
 obtain ⟨l,xs,y,rfl,rfl,hH,hz,q⟩:=h
 cases rx
 obtain ⟨u,rfl,ru⟩:=rv.one
 obtain ⟨z,its,n,r,hl,e⟩:=I.lstM hH
 refine call_meets F.slot_list_append ⟨_,e,rfl⟩ F.entry_list_append (F.args_list_append_2 _ _) (PySem.list_append l its.toArray n u (by rw [List.size_toArray];omega)) ⟨e, ?_⟩
 refine ⟨.non,_,I.lset (its':=its++[u]) hH e (by simp) (r.append (.cons ru .nil)) ?_,rfl,q⟩
 rw [List.length_append,List.length_singleton]
 omega
def D9:R2:=fun x y H Q=>∃l b xs zs,x= .ref l∧y= .ref b∧H l=some (.lst xs)∧H b=some (.lst zs)∧xs.length+zs.length≤sizeLine∧∀p,H p=none→Q (.ref p) (upd H p (.lst (xs++zs)))
theorem Ag:OpR X (binaryOp .Add) D9:=by
 intro pins s σ H x y v u Q I rx ry h
 obtain ⟨l,b,xs,zs,rfl,rfl,hH,hB,hz,q⟩:=h
 cases rx
 cases ry
 obtain ⟨z,its,n,r,hl,e⟩:=I.lstM hH
 obtain ⟨z2,its2,n2,r2,hl2,e2⟩:=I.lstM hB
 refine PySem.P.add_list e e2 ?_ (by rw [List.size_toArray,List.size_toArray];omega)
 have ea:its.toArray++its2.toArray=(its++its2).toArray:=by simp
 rw [ea]
 exact ⟨.ref _,_,I.lnew (t':=s.toks) (r.append r2) (by rw [List.length_append];omega),rfl,q _ I.fresh⟩
def B9:R2:=fun x y H Q=>∃l k xs,x= .ref l∧y= .int k∧H l=some (.lst xs)∧ -(2 ^ 63)≤k∧k < 2 ^ 63∧xs.length * k.toNat≤sizeLine∧
 ∀p,H p=none→Q (.ref p) (upd H p (.lst (List.replicate k.toNat xs).flatten))
theorem yh{α:Type}(xs:List α)(k:Nat):(List.replicate k xs).flatten.length=k * xs.length:=by
 induction k with
 | zero=>simp
 | succ k ih=>rw [List.replicate_succ,List.flatten_cons,List.length_append,ih,Nat.succ_mul,Nat.add_comm]
theorem wC:OpR X (binaryOp .Mult) B9:=by
 intro pins s σ H x y v u Q I rx ry h
 obtain ⟨l,k,xs,rfl,rfl,hH,h1,h2,hz,q⟩:=h
 cases rx
 obtain ⟨t,rfl⟩:=ry
 obtain ⟨z,its,n,r,hl,e⟩:=I.lstM hH
 have hlen:its.toArray.size * k.toNat≤sizeLine:=by rw [List.size_toArray,←hl];exact hz
 have hcap:¬its.toArray.size * k.toNat > (2 ^ 63 - 1) / 8:=by
  have:(sizeLine:Nat)≤(2 ^ 63 - 1) / 8:=by decide
  omega
 have hfit:¬(!Builtin.List.listFitsIndex k)=true:=by
  rw [fitsIndex_both h1 h2]
  exact Bool.false_ne_true
 have hlong:¬Builtin.List.listTooLong (its.toArray.size * k.toNat)=true:=by
  rw [vg hlen]
  exact Bool.false_ne_true
 have hnew:List.foldl (fun x1 x2=>x1++x2) #[] (List.replicate (if its.toArray.isEmpty=true then 0 else k.toNat) its.toArray)=(List.replicate k.toNat its).flatten.toArray:=by
  have f0:∀m:Nat,List.foldl (fun x1 x2=>x1++x2) #[] (List.replicate m its.toArray)=(List.replicate m its).flatten.toArray:=fun m=>by
   have:=lX its m []
   rw [List.nil_append] at this
   exact this
  rw [f0]
  cases its with
  | nil=>simp
  | cons a r'=>rw [if_neg (by simp)]
 refine wpAny_binaryOp_repeat_ref (T:="list") (U:="int") (by decide) ⟨_,e,rfl⟩ (fun s'=>typeIs_int s' k t) noFill_list_mul F.fills_int_mul F.slot_int_rmul repeat_list F.slot_int_index.lookup
  (call_meets F.slot_int_rmul (typeIs_int s k t) F.entry_int_rmul (F.args_int_rmul_2 _ _) (int___rmul___int_list k t l its.toArray n)
   ⟨e,rfl,⟨_,e,rfl⟩,call_meets F.slot_list_mul ⟨_,e,rfl⟩ F.entry_list_mul (F.args_list_mul_2 _ _) (AutoListH.list___mul___list_int_3 l its.toArray n k t hfit hcap hlong) ⟨e, ?_⟩⟩)
 rw [hnew]
 exact ⟨.ref _,_,I.lnew (t':=s.toks) (r.rep k.toNat) (by rw [yh,Nat.mul_comm];exact hz),rfl,q _ I.fresh⟩
end
section
variable{prog:Program}{w:World}{A:Around}{E:Value→Shared→Prop}{s:Shared}
end
section
variable{X:Cx}
end
end L2
namespace Att
open PySem PySem.W PySem.Calls PyProof.Rows
theorem iF{P:Params}{h:Heap}:∀(ns:List Int) (vs:List Value),WellAll P h vs (ns.map WData.int)→IntsAre vs ns:=by
 intro ns
 induction ns with
 | nil=>
  intro vs w
  rw [List.map_nil] at w
  cases w
  exact .nil
 | cons n ns ih=>
  intro vs w
  rw [List.map_cons] at w
  cases w with
  | cons a b=>
   cases a
   exact .cons _ _ (ih _ b)
theorem qP{l:OpenLaw}{n:Nat}(hn:l.most=some n){P:Params}{h:Heap}{args:List WData}{vals:List Value}
  (hpre:l.row.toRowW.claim.pre args=true) (hwl:WellAll P h vals args):
  ∃a vs ns,vals=[Value.ref a]∧args=[WData.list (ns.map WData.int)]∧h.get? a=some {cls:= .type "list",data:= .seq vs.toArray}∧IntsAre vs ns∧ns.length≤n:=by
 have hsh:WShape.hasAll [] args [.list .int]=true:=(pre_splitW hpre).1
 have hc:l.pre.holds [] {args:=args}=true:=(pre_splitW hpre).2
 obtain ⟨d,r,rfl,h1,h2⟩:=hasAllW_cons hsh
 obtain rfl:=hasAllW_nil h2
 obtain ⟨xs,rfl,h3⟩:=hasW_list h1
 obtain ⟨ns,rfl⟩:=items_int h3
 have hlen:ns.length≤n:=by
  unfold OpenLaw.pre at hc
  have h4:(WTm.not (.lt (.lit (.int (n:Int))) (.len (.arg 0)))).holds [] {args:=[.list (ns.map .int)]}=true:=by
   have h4:=(holds_andW hc).1
   rw [hn] at h4
   exact h4
  have h5:=condW_of h4 (w_not (w_lt w_lit (w_len_list (w_arg rfl))))
  rw [List.length_map] at h5
  refine Nat.le_of_not_lt fun q=> ?_
  have q':(n:Int) < ((ns.length:Nat):Int):=by omega
  first
   | (rw [decide_eq_true q'] at h5;exact absurd h5 (by decide))
   | (simp at h5;omega)
 cases hwl with
 | cons w1 w2=>
  cases w2
  cases w1 with
  | list ho hall=>exact ⟨_,_,ns,rfl,rfl,ho,iF ns _ hall,hlen⟩
theorem rD(l:OpenLaw)(args:List WData):l.row.toRowW.claim.post args (.bool true) args=true:=
 postW_of (r:=l.row.toRowW) (X:=(true==true))
  (show WShape.has [] (.bool true) .bool=true by first | rfl | decide | simp [WShape.has,WShape.arms,WShape.armsAll])
  (show (WTm.eq .res (.lit (.bool true))).value [] {args:=args,res:=some (.bool true),after:=args}=some (.bool (true==true)) from w_eq_bool (w_res rfl) w_lit) rfl
theorem oh{l:OpenLaw}{n:Nat}{q:Program}{loose:List Str}{XP:(Str→Option Value)→Heap→Prop}{YP:World→Heap→Prop}{d:DefRec}
  (hn:l.most=some n) (hdf:d.params.defaults=[])
  (call:∀(w:World) (s₀ s₁:Shared) (mg mb:Str→Option Value) (fa:Addr) (o:Obj) (pm cd doc:Value) (a:Addr) (vs:List Value) (ns:List Int),
   Ground q loose [] XP w s₀ mg mb s₁.heap→YP w s₁.heap→
   s₁.heap.get? fa=some o→o.data= .func (docDef d.name d.params d.body d.scope pm cd doc)→s₁.heap.CodeRec cd d.name→mg d.name=some (.ref fa)→
   s₁.heap.get? a=some {cls:= .type "list",data:= .seq vs.toArray}→IntsAre vs ns→ns.length≤n→s₁.gens= #[]→
   codeAny (model l.prog w) callerA (.call (.ref fa) ⟨[.ref a],[]⟩) (fun r s'=>r= .ok (.ret (.bool true))∧OldK s₁.heap s'.heap∧s'.os=s₁.os∧AllBare s'.gens) s₁):
  WalkO q loose XP YP l.row.toRowW d [] (fun f vs=>PySem.call f vs):=by
 intro w s₀ s₁ mg mb G Y fa o pm cd doc dV kV ho hd hcd hD hmg hg args vals as hpre hlay hrd hwl hlo
 obtain rfl:dV= .none:=Dflts.none hD hdf
 obtain rfl:kV= .none:=Dflts.noKw hD
 obtain ⟨a,vs,ns,rfl,rfl,hobj,hints,hlen⟩:=qP hn hpre hwl
 refine enter_call (codeAny_mono (call w s₀ s₁ mg mb fa o pm cd doc a vs ns G Y ho (fd_plain hd) hcd hmg hobj hints hlen hg) fun r s' hq=> ?_)
 obtain ⟨rfl,h2,h3,h4⟩:=hq
 exact ⟨.inl ⟨.bool true, .bool true,[],rfl,fun _=>rfl, .bool true,rD l _,fun _=>⟨List.Pairwise.nil,fun _ hm=>(nomatch hm)⟩⟩,h2,h3,h4⟩
section
variable{prog:Program}{w:World}{A:Around}{E:Value→Shared→Prop}{s:Shared}{K:Frag}
end
end Att
namespace L2
open PySem PySem.Spec PyProof.Rows
theorem kG:∀{vs:List Value} {ns:List Int},IntsAre vs ns→bz (ns.map V.int) vs
 | _,_, .nil=> .nil
 | _,_, .cons n t h=> .cons ⟨t,rfl⟩ (kG h)
def DH(H:Hp):Prop:=∀b,H b=none∨∃o xs,H b=some (.frz o (.lst xs))
theorem vi{P:Program}{w:World}{K:PySem.W.Frag}{mg mb:Str→Option Value}{CX:CXT}{k:Nat}{fa a:Addr}{fd:FuncData}{x:Str}{sp:Sp}{s₁:Shared}{vs:List Value}{ns:List Int}
  (KX:K.In s₁.heap) (hns:s₁.heap.Ns mainGlobals mg) (hb:s₁.heap.Ns builtinsNs mb) (hbb:∀x:Str,x≠"__name__"→mb x=bootBuiltins x) (hlim:s₁.heap.NoLimit) (hg:s₁.gens= #[])
  (ha:s₁.heap.get? a=some {cls:= .type "list",data:= .seq vs.toArray}) (hi:IntsAre vs ns) (hl:ns.length≤sizeLine) (hr:cT k callerA)
  (F:∀base:Heap,K.In base→base.Ns mainGlobals mg→bC P w K mg base CX k fa fd [x] sp) (hbind:∀(s:Shared) (u:Value),BindsTo s fd ⟨[u],[]⟩ [(x,u)])
  (hsp:∀H:Hp,DH H→SqL K H a (ns.map V.int)→sp [.ref a] H (fun v _=>v= .bl true) fun _ _ _=>False)
  (hCX:∀H e s',CX [] H s₁ (fun _ _ _=>False) e s'→False):
  codeAny (model P w) callerA (.call (.ref fa) ⟨[.ref a],[]⟩) (fun r s'=>r= .ok (.ret (.bool true))∧OldK s₁.heap s'.heap∧s'.os=s₁.os∧AllBare s'.gens) s₁:=by
 have rv:=kG hi
 have lenV:=hi.length
 have core:∀H:Hp,DH H→SqL K H a (ns.map V.int)→HOk P w H s₁.heap→(∀b,H b≠none→b=a)→(H a≠none→K.lookup a=none)→
   codeAny (model P w) callerA (.call (.ref fa) ⟨[.ref a],[]⟩) (fun r s'=>r= .ok (.ret (.bool true))∧OldK s₁.heap s'.heap∧s'.os=s₁.os∧AllBare s'.gens) s₁:=by
  intro H hO hS hok hA hK
  have base_of:∀{b:Addr} {o:Obj},s₁.heap.get? b=some o→H b=none→(vt s₁.heap H).get? b=some o:=fun e n=>vq e n
  have noA:∀{b:Addr} {o:Obj} {es:Array DictEntry} {ep:Nat},s₁.heap.get? b=some o→o.data= .dict es ep→H b=none:=fun {b o es ep} e d=>by
   cases q:H b with
   | none=>rfl
   | some u=>
    have e':b=a:=hA b (by rw [q];simp)
    subst e'
    rw [ha] at e;cases e
    have d':Data.seq vs.toArray _=Data.dict es ep:=d
    cases d'
  have nsK:∀{b:Addr} {m:Str→Option Value},s₁.heap.Ns b m→(vt s₁.heap H).Ns b m:=fun {b m} ⟨o,es,ep,e,d,r⟩=>⟨o,es,ep,base_of e (noA e d),d,r⟩
  have hKb:K.In (vt s₁.heap H):=fun b o e=>base_of (KX b o e) (by
   cases q:H b with
   | none=>rfl
   | some u=>
    have e':b=a:=hA b (by rw [q];simp)
    subst e'
    rw [hK (by rw [q];simp)] at e;cases e)
  have hM:Mod K mg (vt s₁.heap H):=⟨hKb,nsK hns,⟨mb,nsK hb,hbb⟩,let ⟨mc,h1,h2⟩:=hlim;⟨mc,nsK h1,h2⟩⟩
  have e0:y6 P w K mg (vt s₁.heap H) callerA [] s₁ H:=⟨rfl,hM,fun b o e=>x8 e,Nat.le_of_eq (sQ _ _),trivial,fun b hb=>absurd (show b∈([]:List Addr) from hb) (by simp),hok, .of_eq hg⟩
  refine codeAny_mono ((F _ hKb (nsK hns)).run callerA [] s₁ H ⟨[.ref a],[]⟩ [.ref a] [.ref a] _ _ hr e0 (hbind s₁ (.ref a)) (.cons rfl .nil) (hsp H hO hS)) fun r s' h=> ?_
  cases r with
  | error e=>exact (hCX H e s' h).elim
  | ok fl=>
   cases fl with
   | next=>exact False.elim h
   | brk=>exact False.elim h
   | cont=>exact False.elim h
   | ret u=>
    obtain ⟨v,H',os,bare,un,hok',r',q⟩:=h
    have q':v= .bl true:=q
    subst q'
    obtain rfl:u=Value.bool true:=r'
    refine ⟨rfl,OldK.of_keep fun b o e=> ?_,os,bare⟩
    cases q:H b with
    | none=>exact un.keep b o e q (by intro z;exact absurd (show b∈([]:List Addr) from z) (by simp)) (by simp)
    | some u=>
     rcases hO b with z | ⟨ob,xs,z⟩
     ·rw [q] at z;cases z
     ·have z2:=un.frzs b ob _ z
      obtain ⟨e1,_⟩:=hok b _ z
      obtain ⟨e2,_⟩:=hok' b _ z2
      rw [e] at e1;cases e1
      exact e2
 cases hk:K.lookup a with
 | some o=>
  have e:=KX a o hk
  rw [ha] at e
  cases e
  refine core (fun _=>none) (fun _=> .inl rfl) (.inr ⟨_,vs.toArray,_,hk,rfl,rfl,rfl,by rw [List.size_toArray,lenV];exact hl,by simpa using rv⟩) (fun b u z=>by have z':(none:Option HO)=some u:=z;cases z') (fun b z=>absurd rfl z) fun z=>absurd rfl z
 | none=>
  refine core (fun b=>if b=a then some (.frz {cls:= .type "list",data:= .seq vs.toArray} (.lst (ns.map V.int))) else none) (fun b=> ?_) (.inl (.inr ⟨{cls:= .type "list",data:= .seq vs.toArray},if_pos rfl⟩)) (fun b u z=> ?_) (fun b z=> ?_) fun _=>hk
  ·by_cases hb:b=a
   ·exact .inr ⟨_,_,if_pos hb⟩
   ·exact .inl (if_neg hb)
  ·by_cases hb:b=a
   ·have z':=(if_pos hb).symm.trans z
    cases z'
    subst hb
    exact ⟨ha,by rw [List.length_map];exact hl,vs,_,rv,ha⟩
   ·have z':=(if_neg hb).symm.trans z
    cases z'
  ·by_cases hb:b=a
   ·exact hb
   ·exact absurd (if_neg hb) z
end L2
namespace L2
open PySem PySem.Spec PyProof.Rows
theorem mL{l:PySem.W.OpenLaw}{n k:Nat}{q:Program}{loose:List Str}{XP:(Str→Option Value)→Heap→Prop}{YP:World→Heap→Prop}{d:DefRec}{K:Params→PySem.W.Frag}{CX:World→CXT}{sp:World→Sp}{x:Str}
  (hn:l.most=some n) (hn2:n≤sizeLine) (hdf:d.params.defaults=[]) (hr:cT k callerA)
  (hY:∀(w:World) (h:Heap),YP w h→(K w.params).In h)
  (F:∀(w:World) (mg:Str→Option Value) (fa:Addr) (h:Heap),(K w.params).In h→h.Ns mainGlobals mg→mg d.name=some (.ref fa)→
   ∃fd:FuncData,(∀(s:Shared) (u:Value),BindsTo s fd ⟨[u],[]⟩ [(x,u)])∧
    ∀base:Heap,(K w.params).In base→base.Ns mainGlobals mg→bC l.prog w (K w.params) mg base (CX w) k fa fd [x] (sp w))
  (hsp:∀(w:World) (H:Hp) (a:Addr) (ns:List Int),ns.length≤n→DH H→SqL (K w.params) H a (ns.map V.int)→sp w [.ref a] H (fun v _=>v= .bl true) fun _ _ _=>False)
  (hCX:∀(w:World) (H:Hp) (s:Shared) (e:Value) (s':Shared),CX w [] H s (fun _ _ _=>False) e s'→False):
  PySem.W.WalkO q loose XP YP l.row.toRowW d [] (fun f vs=>PySem.call f vs):=by
 refine Att.oh hn hdf fun w s₀ s₁ mg mb fa o pm cd doc a vs ns G Y ho hd hcd hmg hobj hints hlen hg=> ?_
 have KX:=hY w _ Y
 obtain ⟨fd,hb,hF⟩:=F w mg fa _ KX G.T.g hmg
 exact vi KX G.T.g G.T.b G.T.builtins G.T.nolimit hg hobj hints (Nat.le_trans hlen hn2) hr hF hb (fun H hO hS=>hsp w H a ns hlen hO hS) fun H e s'=>hCX w H s₁ e s'
end L2
/- THE LAST THEOREM (shape;LID,My.* are yours):
  My.Adr:a structure of the addresses that your layer names (classes,functions);My.Txt K t:a structure (Prop) of the equations over K;
  My.txt_mk:{K} {implicit addresses ..} (e1:nsIn K mainGlobals "law"=some (some (.ref f))) (e2:K.lookup f=some ⟨oc,od, .func (fnOf "law" "law" params body scope dV kV doc pm an cdv ct),sl⟩) (e3:codeIn K cdv "law"=true) .. :∃t,My.Txt K t
set_option maxRecDepth 100000 in
set_option maxHeartbeats 0 in
theorem PySem.Challenge.cw_LID_holds : PySem.Challenge.rw_LID.Holds := by
 w_on;o_law;k_head;(case hw=>w_witness2)
 k_fill
 refine L2.mL (l:=PySem.Challenge.rw_LID) (n:=63) (k:=40) (x:="script") (CX:=fun w=> ..) (sp:=fun _=>My.sp_law) rfl (by decide) rfl ⟨rfl,by decide,by decide⟩ (fun w h Y=>PySem.W.kIn_of Y) ?F ?S ?C
 case F=>
  intro w mg fa h KX G hmg
  have T:∃t,My.Txt (L2.KOf KX) t:=by
   dsimp only [L2.KOf] -- K must stand as «<heap const> w.params» for k_is
   refine' My.txt_mk ?e1 ?e2 ?e3 ..
   (case e1=>PySem.W.k_is) -- in the order:a name->its address->its object->its parts
   (case e2=>PySem.W.k_is)
   ..
  obtain ⟨t,T⟩:=T
  have e0:=hmg.symm.trans (PySem.W.mg_of KX G T.law)
  cases e0 -- fa is the law's own address
  exact ⟨_,fun s u=> .of_eq rfl,fun base kb nb=>My.law_fn T kb nb⟩ -- if «.of_eq rfl» comes too early:refine' ⟨_, ?b,fun base kb nb=>My.law_fn T kb nb⟩;exact fun s u=> .of_eq rfl
 case S=>exact fun w H a ns hl hO hS=> ..
 case C=>exact ..
(the tactic k_is has no namespace:write k_is) -/
namespace L2
open PySem PySem.Spec PyProof.Rows
def ar(s:Stmt):Arguments:=match s with
 | .FunctionDef _ a _ _ _ _ _ _ _ _=>a
 | _=>{posonlyargs:=[],args:=[],vararg:=none,kwonlyargs:=[],kw_defaults:=[],kwarg:=none,defaults:=[]}
def aq(s:Stmt):List Stmt:=match s with
 | .FunctionDef _ _ b _ _ _ _ _ _ _=>b
 | _=>[]
def ae(s:Stmt):Scope:=match s with
 | .FunctionDef _ _ _ _ _ _ sc _ _ _=>sc
 | _=>{kind:= .function,names:=[],isGenerator:=false,isCoroutine:=false}
abbrev CX0:CXT:=fun _ _ _ _ _ _=>False
abbrev E0:XK:=fun _ _ _=>False
structure Fun(K:PySem.W.Frag)(x qual:Str)(st:Stmt)(f:Addr)(fd:FuncData):Prop where
 ex:∃(oc:Value) (od:Option Addr) (kV doc pm:Value) (an:Option Addr) (cdv ct:Value) (osl:Array (Option Value)),
  fd=PySem.W.fnOf x qual (ar st) (aq st) (ae st) .none kV doc pm an cdv ct∧K.lookup f=some ⟨oc,od, .func fd,osl⟩∧PySem.W.codeIn K cdv qual=true
 kp:PySem.W.keepIn K (.ref f)=true
section
variable{P:Program}{w:World}{K:PySem.W.Frag}{mg:Str→Option Value}{base:Heap}
theorem Fun.binds{x qual:Str}{st:Stmt}{f:Addr}{fd:FuncData}{ps:List Str}(F:Fun K x qual st f fd)
  (h:∀(kV doc pm:Value) (an:Option Addr) (cdv ct:Value) (us:List Value),us.length=ps.length→bindArgs (PySem.W.fnOf x qual (ar st) (aq st) (ae st) .none kV doc pm an cdv ct) ⟨us,[]⟩=pure (ps.zip us)):fX K fd ps []:=by
 obtain ⟨oc,od,kV,doc,pm,an,cdv,ct,osl,rfl,lk,hcd⟩:=F.ex
 exact .all (h kV doc pm an cdv ct)
theorem aC{x qual:Str}{st:Stmt}{f:Addr}{oc:Value}{od an:Option Addr}{osl:Array (Option Value)}{kV doc pm cdv ct:Value}(l:K.lookup f=some ⟨oc,od, .func (PySem.W.fnOf x qual (ar st) (aq st) (ae st) .none kV doc pm an cdv ct),osl⟩)
  (c:PySem.W.codeIn K cdv qual=true) (k:PySem.W.keepIn K (.ref f)=true):Fun K x qual st f (PySem.W.fnOf x qual (ar st) (aq st) (ae st) .none kV doc pm an cdv ct):=⟨⟨oc,od,kV,doc,pm,an,cdv,ct,osl,rfl,l,c⟩,k⟩
end
theorem sP{A:Around}{k:Nat}(hr:cT k A):A.units+1 < cLine:=Nat.lt_of_le_of_lt (Nat.add_le_add_left (by decide:1≤64) _) hr.units
section
variable{X:Cx}
end
theorem zb{A B:Prop}(h:B):if false=true then A else B:=by
 rw [if_neg Bool.false_ne_true]
 exact h
theorem za{A B:Prop}(h:A):if true=true then A else B:=by
 rw [if_pos rfl]
 exact h
def fK(H H':Hp):Prop:=∀b o,H b=some o→H' b=some o
theorem fK.refl(H:Hp):fK H H:=fun _ _ h=>h
theorem fK.trans{H H1 H2:Hp}(a:fK H H1)(b:fK H1 H2):fK H H2:=fun c o h=>b c o (a c o h)
theorem fK.free{H H':Hp}(e:fK H H'){l:Addr}(h:H' l=Option.none):H l=Option.none:=by
 cases q:H l with
 | none=>rfl
 | some o=>
  rw [e l o q] at h
  cases h
theorem fK.seq{K:PySem.W.Frag}{H H':Hp}{a:Addr}{xs:List V}(e:fK H H')(h:SqL K H a xs):SqL K H' a xs:=by
 rcases h with (h | ⟨o,h⟩) | h
 ·exact .inl (.inl (e _ _ h))
 ·exact .inl (.inr ⟨o,e _ _ h⟩)
 ·exact .inr h
end L2
set_option maxRecDepth 100000
set_option maxHeartbeats 4000000
namespace L2
open PySem PySem.Spec PyProof.Rows
section
variable{P:Program}{w:World}
theorem ba.here{H:Hp}{h:Heap}{a:Addr}{o:HO}(x:ba P w H h a o):∃ob,h.get? a=some ob:=by
 cases o with
 | lst xs=>obtain ⟨_,_,_,_,e⟩:=x;exact ⟨_,e⟩
 | tup xs=>obtain ⟨_,_,_,ob,e,_⟩:=x;exact ⟨ob,e⟩
 | dK kvs=>obtain ⟨_,_,_,_,ob,_,_,e,_⟩:=x;exact ⟨ob,e⟩
 | dT kvs=>obtain ⟨_,_,_,_,ob,_,_,e,_⟩:=x;exact ⟨ob,e⟩
 | set S n=>obtain ⟨ob,_,_,_,e,_⟩:=x;exact ⟨ob,e⟩
 | ins C dx fs=>obtain ⟨_,_,_,e,_⟩:=x;exact ⟨_,e⟩
 | own y=>exact x
 | xd fs=>obtain ⟨_,⟨ob,_,_,e,_⟩,_⟩:=x;exact ⟨ob,e⟩
 | rng lo hi=>obtain ⟨_,_,_,e⟩:=x;exact ⟨_,e⟩
 | frz ob u=>obtain ⟨e,_⟩:=x;exact ⟨_,e⟩
 | tbl ps=>exact ⟨_,show h.get? a=some _ from x⟩
 | met f y=>exact ⟨_,show h.get? a=some _ from x⟩
 | ext φ=>obtain ⟨_,z,_⟩:=x;exact z
def FlA(B:Heap)(l:List Env)(x:Addr)(o:Obj)(fl:Value)(h:Heap):Prop:=
 B.StaysIn h∧B.get? x=none∧h.FunFrames B l∧∃(vs:Array Value) (T:Addr) (oT:Obj) (ts:Array Value),h.get? x=some {o with data:= .fields vs}∧vs[2]? =some .none∧vs[1]? =some (.ref T)∧
  B.get? T=none∧T≠x∧h.get? T=some oT∧oT.data= .fields ts∧ts[3]? =some fl
section
variable{M:Model}{A:Around}{E:Value→Shared→Prop}{s:Shared}{B:Heap}{env:Env}{outer l:List Env}{L x:Addr}{o:Obj}{vs:Array Value}{Q:Unit→Shared→Prop}
theorem je{h h':Heap}{T:Addr}{oT:Obj}{ts:Array Value}(hT:h.get? T=some oT)(hd:oT.data= .fields ts)(k:∀b,b≠T→h'.get? b=h.get? b):h.UpToSlots h':=fun b ob e hn=>
 ⟨ob.slots,(k b fun z=>by rw [z,hT] at e;cases e;exact hn _ hd).trans e⟩
theorem lV{h h':Heap}(hl:h.FunFrames B l)(u:h.UpToSlots h'):h'.FunFrames B l:=hl.of_keeps fun b ob e hn=>by
 obtain ⟨sl,q⟩:=u b ob e hn
 exact ⟨_,q,rfl⟩
theorem pf{head:Value}{had:Bool}(hfr:A.frames=some (env::outer))(hf:env.frame=some L)(hB:B.StaysIn s.heap)(hn:B.get? x=none)(hl:s.heap.FunFrames B (env::outer))(hx:s.heap.get? x=some {o with data:= .fields vs})(h1:1 < vs.size)(h2:vs[2]? =some .none)
  (h:∀h',FlA B (env::outer) x o (rawInt L) h'→s.heap.UpToSlots h'→Q () {s with heap:=h'}):
  wpAny M A (do let a←frameOf env;let pl←entryPlaceOf L had;let n←EntryCells.newEntry head a .none (rawInt L) .none pl;setField (.ref x) 1 n) Q E s:=by
 refine wpAny_bind (wpAny_frameOf_fun hfr hl hf fun g1 S1=>wpAny_bind (wpAny_entryPlaceOf fun pl hpl=> ?_))
 have nx:x∉(env::outer).filterMap (·.frame):=fun z=>by
  obtain ⟨_,ob,e,d⟩:=hl.mem z
  rw [hx] at e;cases e
  exact d _ rfl
 have hx1:g1.get? x=some {o with data:= .fields vs}:=(S1.2.1 x nx).trans hx
 unfold EntryCells.newEntry newFields
 refine wpAny_bind (wpAny_newObj_type ?_ (hpl.sizeOk5 _ _ _ _ _))
 have hx2:=Heap.get?_push_of_some (h:=g1) {cls:= .type "traceback",dict:=none,data:= .fields ([head, .ref L, .none,rawInt L, .none]++(if pl.isEmpty then List.replicate 6 Value.none else pl)).toArray} hx1
 refine wpAny_setField hx2 rfl h1 (h _ ?_ ?_)
 ·have up1:∀b ob,b≠x→g1.get? b=some ob→((g1.push {cls:= .type "traceback",dict:=none,data:= .fields ([head, .ref L, .none,rawInt L, .none]++(if pl.isEmpty then List.replicate 6 Value.none else pl)).toArray}).update x (Obj.mapFields (·.setIfInBounds 1 (Value.ref g1.objs.size)))).get? b=some ob:=fun b ob nb e=>
   (Heap.get?_update_other _ _ (Ne.symm nb)).trans (Heap.get?_push_of_some _ e)
  have neT:g1.objs.size≠x:=Nat.ne_of_gt (Heap.lt_size hx1)
  refine ⟨fun b ob e=>up1 b ob (fun z=>by rw [z,hn] at e;cases e) ((S1.2.1 b fun z=>by rw [(hl.mem z).1] at e;cases e).trans (hB b ob e)),hn,hl.of_keeps fun b ob e d=> ?_,vs.setIfInBounds 1 (.ref g1.objs.size),g1.objs.size,_,_,Heap.get?_update_self _ hx2 rfl,by rw [Array.getElem?_setIfInBounds_ne (by decide)];exact h2,by simp [h1], ?_,neT,
   (Heap.get?_update_other _ _ (Ne.symm neT)).trans (Heap.get?_push_size g1 rfl),rfl, ?_⟩
  ·obtain ⟨sl,q⟩:=S1.2.2 b ob e
   exact ⟨_,up1 b _ (fun z=>by rw [z,hx] at e;cases e;exact d _ rfl) q,rfl⟩
  ·cases q:B.get? g1.objs.size with
   | none=>rfl
   | some ob=>
    have:=Heap.lt_size (hB _ _ q)
    rw [←S1.1] at this
    exact absurd this (Nat.lt_irrefl _)
  ·first
    | (simp;done)
    | (rcases hpl with rfl | ⟨_,_,_,_,_,_,_,rfl⟩ <;> simp)
 ·intro b ob e d
  obtain ⟨sl,q⟩:=S1.2.2 b ob e
  refine ⟨sl, ?_⟩
  rw [Heap.get?_update_other _ _ (fun z:x=b=>by rw [←z,hx] at e;cases e;exact d _ rfl)]
  exact Heap.get?_push_of_some _ q
theorem vB(hfr:A.frames=some (env::outer))(hf:env.frame=some L)(hB:B.StaysIn s.heap)(hn:B.get? x=none)(hl:s.heap.FunFrames B (env::outer))(hx:s.heap.get? x=some {o with data:= .fields vs})(h1:vs[1]? =some .none)(h2:vs[2]? =some .none)
  (h:∀h',FlA B (env::outer) x o (rawInt L) h'→s.heap.UpToSlots h'→Q () {s with heap:=h'}):wpAny M A (noteFrame (.ref x) env) Q E s:=by
 unfold noteFrame
 simp only [hf]
 refine wpAny_bind (wpAny_field hx rfl h1 ?_)
 rw [if_neg (by decide)]
 exact pf hfr hf hB hn hl hx (Array.getElem?_eq_some_iff.mp h1).1 h2 h
theorem A6(hfr:A.frames=some (env::outer))(hf:env.frame=some L)(R:FlA B (env::outer) x o .none s.heap)
  (h:∀h',FlA B (env::outer) x o (rawInt L) h'→s.heap.UpToSlots h'→Q () {s with heap:=h'}):wpAny M A (noteFrame (.ref x) env) Q E s:=by
 obtain ⟨hB,hn,hl,vs,T,oT,ts,hx,h2,h1,nT,nTx,hT,dT,h3⟩:=R
 unfold noteFrame
 simp only [hf]
 refine wpAny_bind (wpAny_field hx rfl h1 ?_)
 rw [if_pos (show (Value.ref T != Value.none)=true by simp)]
 refine wpAny_bind (wpAny_field hT dT h3 ?_)
 rw [if_neg (show¬((Value.none==rawInt L)=true) by simp [rawInt])]
 refine wpAny_bind (wpAny_setField hT dT (Array.getElem?_eq_some_iff.mp h3).1 ?_)
 have oth:∀b,b≠T→(s.heap.update T (Obj.mapFields (·.setIfInBounds 3 Value.none))).get? b=s.heap.get? b:=fun b nb=>Heap.get?_update_other _ _ (Ne.symm nb)
 have u:=je hT dT oth
 exact pf hfr hf (fun b ob e=>(oth b fun z=>by rw [z,nT] at e;cases e).trans (hB b ob e)) hn (lV hl u) ((oth x (Ne.symm nTx)).trans hx) (Array.getElem?_eq_some_iff.mp h1).1 h2 fun h' F' u'=>h h' F' (u.trans u')
theorem kn{fl:Value}(R:FlA B l x o fl s.heap)(h:∀h',FlA B l x o .none h'→s.heap.UpToSlots h'→Q () {s with heap:=h'}):wpAny M A (setFlight (.ref x) none) Q E s:=by
 obtain ⟨hB,hn,hl,vs,T,oT,ts,hx,h2,h1,nT,nTx,hT,dT,h3⟩:=R
 unfold setFlight
 refine wpAny_bind (wpAny_field hx rfl h1 ?_)
 rw [if_pos (show (Value.ref T != Value.none)=true by simp)]
 have z3:=(Array.getElem?_eq_some_iff.mp h3).1
 have oth:∀b,b≠T→(s.heap.update T (Obj.mapFields (·.setIfInBounds 3 ((none:Option Addr).elim Value.none fun f=>rawInt f)))).get? b=s.heap.get? b:=fun b nb=>Heap.get?_update_other _ _ (Ne.symm nb)
 have u:=je hT dT oth
 refine wpAny_setField hT dT z3 (h _ ⟨fun b ob e=>(oth b fun z=>by rw [z,nT] at e;cases e).trans (hB b ob e),hn,lV hl u,vs,T,_,_,(oth x (Ne.symm nTx)).trans hx,h2,h1,nT,nTx,Heap.get?_update_self _ hT (Obj.isFreed_of_fields (Obj.data_mapFields dT _)),Obj.data_mapFields dT _,by simp [z3]⟩ u)
theorem xb{fl:Value}{h:Heap}(R:FlA B (env::outer) x o fl h):FlA B outer x o fl h:=by
 obtain ⟨hB,hn,⟨_,_,hl⟩,r⟩:=R
 exact ⟨hB,hn,hl,r⟩
end
structure Fly(P:Program)(w:World)(l:List Env)(H H':Hp)(h h' B:Heap)(x:Addr)(o:Obj):Prop where
 un:Un (frs l) [] H H' h h'
 ok:HOk P w H' B
 fly:FlA B l x o .none h'
 inB:∀b u,h.get? b=some u→H b=none→b∉frs l→B.get? b=some u
 thB:∀b u,h.get? b=some u→b∉frs l→∃u',B.get? b=some u'
variable{l:List Env}{H H':Hp}{h h' h'' B:Heap}{x:Addr}{o:Obj}
theorem Fly.hok(F:Fly P w l H H' h h' B x o):HOk P w H' h':=F.ok.kept F.fly.1
theorem Fly.nx(F:Fly P w l H H' h h' B x o):H' x=none:=by
 cases e:H' x with
 | none=>rfl
 | some u=>
  obtain ⟨ob,q⟩:=ba.here (F.ok x u e)
  rw [F.fly.2.1] at q
  cases q
theorem Fly.on(F:Fly P w l H H' h h' B x o)(f:FlA B l x o .none h'')(u:h'.UpToSlots h''):Fly P w l H H' h h'' B x o where
 un :=⟨fun b o e n hb _=>f.1 b o (F.inB b o e n hb),
  fun b o e n hb hx=>by
   obtain ⟨sl,e1⟩:=F.un.slot b o e n hb hx
   obtain ⟨_,o',ho',hd⟩:=F.fly.2.2.1.mem hb
   rw [e1] at ho';cases ho'
   obtain ⟨sl2,e2⟩:=u b _ e1 hd
   exact ⟨sl2,e2⟩,
  F.un.free,
  fun b o e _=>by
   by_cases hb:b∈frs l
   ·obtain ⟨_,o',ho',hd⟩:=F.fly.2.2.1.mem hb
    obtain ⟨sl,e2⟩:=u b _ ho' hd
    exact ⟨_,e2⟩
   ·obtain ⟨o',q⟩:=F.thB b o e hb
    exact ⟨o',f.1 _ _ q⟩,
  F.un.tups,F.un.frzs,F.un.tbls⟩
 ok:=F.ok
 fly:=f
 inB:=F.inB
 thB:=F.thB
end
def CX1(P:Program)(w:World):CXT:=fun outer H s E e s'=>
 ∃x o H' B,e= .ref x∧s'.os=s.os∧AllBare s'.gens∧Fly P w outer H H' s.heap s'.heap B x o∧E o.cls o.dict H'
section
variable{X:Cx}{pins:List (Addr×Obj)}{σ:St}{H H':Hp}{s:Shared}{h'' B:Heap}{x:Addr}{ox:Obj}
theorem Fly.leave(I:Inv X pins σ H s)(hex:X.ex=[])(hst:∀b∈frs X.outer,b∈frs X.stack)(ok:HOk X.prog X.w H' B)(f:FlA B X.outer x ox .none h'')(nx0:X.s₀.heap.get? x=none)
  (inB:∀b o,b≠x→s.heap.get? b=some o→H b=none→b∉frs X.stack→B.get? b=some o)
  (thB:∀b o,b≠x→s.heap.get? b=some o→b∉frs X.stack→∃o',B.get? b=some o')
  (sl:∀b o,s.heap.get? b=some o→b∈frs X.stack→∃sl,h''.get? b=some {o with slots:=sl})
  (free:∀b o,s.heap.get? b=some o→H b=none→H' b=none)
  (tups:∀b xs,H b=some (.tup xs)→H' b=some (.tup xs)) (frzs:∀b o u,H b=some (.frz o u)→H' b=some (.frz o u))
  (tbls:∀b ps,H b=some (.tbl ps)→∃more,H' b=some (.tbl (ps++more))):Fly X.prog X.w X.outer X.H₀ H' X.s₀.heap h'' B x ox:=by
 have nX:∀b o,X.s₀.heap.get? b=some o→b≠x:=fun b o e z=>by rw [z,nx0] at e;cases e
 have noX:∀b:Addr,b∉X.ex:=fun b z=>by rw [hex] at z;cases z
 have nS:∀b o,X.s₀.heap.get? b=some o→b∉frs X.outer→b∉frs X.stack:=fun b o e hb z=>
  (List.mem_cons.mp (I.stkSub b z)).elim (fun q=>Nat.ne_of_lt (Nat.lt_of_lt_of_le (Heap.lt_size e) I.ok.above) q) hb
 refine ⟨⟨fun b o e n hb _=> ?_,fun b o e n hb _=> ?_,fun b o e n _=> ?_,fun b o e _=> ?_,fun b xs e=>tups b xs (I.base.tups b xs e),fun b o u e=>frzs b o u (I.base.frzs b o u e),fun b ps e=> ?_⟩,ok,f,fun b o e n hb=> ?_,fun b o e hb=> ?_⟩
 ·exact f.1 b o (inB b o (nX b o e) (I.base.keep b o e n hb (noX b)) (I.base.free b o e n (noX b)) (nS b o e hb))
 ·obtain ⟨s1,e1⟩:=I.base.slot b o e n hb (noX b)
  obtain ⟨s2,e2⟩:=sl b _ e1 (hst b hb)
  exact ⟨s2,e2⟩
 ·obtain ⟨o',e1⟩:=I.base.there b o e (noX b)
  exact free b o' e1 (I.base.free b o e n (noX b))
 ·obtain ⟨o',e1⟩:=I.base.there b o e (noX b)
  by_cases hb:b∈frs X.stack
  ·obtain ⟨s2,e2⟩:=sl b _ e1 hb
   exact ⟨_,e2⟩
  ·obtain ⟨o2,q⟩:=thB b o' (nX b o e) e1 hb
   exact ⟨o2,f.1 _ _ q⟩
 ·obtain ⟨m1,e1⟩:=I.base.tbls b ps e
  obtain ⟨m2,e2⟩:=tbls b _ e1
  exact ⟨m1++m2,by rw [e2,Array.append_assoc]⟩
 ·exact inB b o (nX b o e) (I.base.keep b o e n hb (noX b)) (I.base.free b o e n (noX b)) (nS b o e hb)
 ·obtain ⟨o',e1⟩:=I.base.there b o e (noX b)
  exact thB b o' (nX b o e) e1 (nS b o e hb)
end
def cq(CX:CXT)(X:Cx)(R:St→XK):Prop:=∀(pins:List (Addr×Obj)) (σ:St) (H:Hp) (s:Shared) (e:Value) (s':Shared),Inv X pins σ H s→CX X.stack H s (R σ) e s'→X.xe e s'
def mD(X:Cx)(R:St→XK):Prop:=∀(pins:List (Addr×Obj)) (σ:St) (H:Hp) (s:Shared) (x:Addr) (o:Obj) (vs:Array Value),Inv X pins σ H s→s.heap.get? x=some {o with data:= .fields vs}→vs[1]? =some .none→vs[2]? =some .none→X.s₀.heap.get? x=none→H x=none→
 R σ o.cls o.dict H→X.xe (.ref x) s
section
variable{P:Program}{w:World}{K:PySem.W.Frag}{mg:Str→Option Value}{base:Heap}{N:List Str}{qual:Str}{scope:Scope}{f:Addr}{cd:Value}{A:Around}{outer:List Env}{s₀:Shared}{H₀:Hp}{E:XK}
theorem mP{env:Env}{outer:List Env}:∀b∈frs outer,b∈frs (env::outer):=fun b hb=>by
 obtain ⟨en,he,hf⟩:=List.mem_filterMap.mp hb
 exact List.mem_filterMap.mpr ⟨en,List.mem_cons_of_mem _ he,hf⟩
theorem ak:cq (CX1 P w) (mH (CX1 P w) P w K mg base N qual scope f cd A outer s₀ H₀ E) (fun _=>E):=by
 intro pins σ H s e s' I hx
 obtain ⟨x,o,H',B,rfl,os,bare,F,hE⟩:=hx
 show wpAny _ _ (do noteFrame (.ref x) _;setFlight (.ref x) none) _ _ s'
 refine wpAny_bind (A6 (B:=B) I.ok.frames rfl F.fly fun h4 f4 u4=>kn f4 fun h5 f5 u5=> ?_)
 refine ⟨x,o,H',B,rfl,os.trans I.os,bare,Fly.leave I rfl mP F.ok (xb f5) ?_ (fun b o _=>F.inB b o) (fun b o _=>F.thB b o) (fun b o q hb=> ?_) (fun b o q n=>F.un.free b o q n (by simp)) F.un.tups F.un.frzs F.un.tbls,hE⟩
 ·show s₀.heap.get? x=none
  cases q:s₀.heap.get? x with
  | none=>rfl
  | some u=>
   obtain ⟨u',e1⟩:=I.base.there x u q (fun z=>nomatch z)
   by_cases hb:x∈frs (mH (CX1 P w) P w K mg base N qual scope f cd A outer s₀ H₀ E).stack
   ·obtain ⟨vs,_,_,_,hxx,_⟩:=F.fly.2.2.2
    obtain ⟨_,o',ho',hd⟩:=F.fly.2.2.1.mem hb
    rw [hxx] at ho';cases ho'
    exact absurd rfl (hd _)
   ·obtain ⟨u2,e2⟩:=F.thB x u' e1 hb
    rw [F.fly.2.1] at e2;cases e2
 ·obtain ⟨sl,e1⟩:=F.un.slot b o q (I.stkFree b hb) hb (by simp)
  obtain ⟨_,o',ho',hd⟩:=F.fly.2.2.1.mem hb
  rw [e1] at ho';cases ho'
  obtain ⟨sl2,e2⟩:=(u4.trans u5) b _ e1 hd
  exact ⟨sl2,e2⟩
theorem jT:mD (mH (CX1 P w) P w K mg base N qual scope f cd A outer s₀ H₀ E) (fun _=>E):=by
 intro pins σ H s x o vs I hx h1 h2 nx0 nH hE
 show wpAny _ _ (do noteFrame (.ref x) _;setFlight (.ref x) none) _ _ s
 have hin:∀env∈(mH (CX1 P w) P w K mg base N qual scope f cd A outer s₀ H₀ E).stack,∀b,env.frame=some b→b∈x::frs (mH (CX1 P w) P w K mg base N qual scope f cd A outer s₀ H₀ E).stack:=
  fun env he b hb=>List.mem_cons_of_mem _ (List.mem_filterMap.mpr ⟨env,he,hb⟩)
 refine wpAny_bind (vB (B:=PySem.W.hideAll s.heap (x::frs (mH (CX1 P w) P w K mg base N qual scope f cd A outer s₀ H₀ E).stack)) I.ok.frames rfl (fun b o q=>PySem.W.of_hideAll _ q) (PySem.W.hideAll_none _ List.mem_cons_self)
  (PySem.W.funFrames_hide I.stack hin) hx h1 h2 fun h4 f4 u4=>kn f4 fun h5 f5 u5=> ?_)
 have hid:∀b u,b≠x→s.heap.get? b=some u→b∉frs (mH (CX1 P w) P w K mg base N qual scope f cd A outer s₀ H₀ E).stack→(PySem.W.hideAll s.heap (x::frs (mH (CX1 P w) P w K mg base N qual scope f cd A outer s₀ H₀ E).stack)).get? b=some u:=
  fun b u nb q hb=>PySem.W.hideAll_get _ q fun z=>(List.mem_cons.mp z).elim nb hb
 refine ⟨x,o,H,_,rfl,I.os,I.bare,Fly.leave I rfl mP (fun a o e=>(I.hok a o e).stay (fun b v hb q=> ?_) (fun _ q=>q) fun _ _ q=>q) (xb f5) nx0
  (fun b o nb q _ hb=>hid b o nb q hb) (fun b o nb q hb=>⟨o,hid b o nb q hb⟩) (fun b o q hb=> ?_) (fun _ _ _ n=>n) (fun _ _ q=>q) (fun _ _ _ q=>q) (fun b ps q=>⟨#[],by rw [q];simp⟩),hE⟩
 ·have tr:H b≠none:=fun n=>by
   rcases hb with hb | hb
   ·rw [hb,e] at n;cases n
   ·rw [hb] at n;cases n
  exact hid b v (fun z=>tr (by rw [z];exact nH)) q fun z=>tr (I.stkFree b z)
 ·obtain ⟨_,o',ho',hd⟩:=I.stack.mem hb
  rw [q] at ho';cases ho'
  exact (u4.trans u5) b o q hd
end
def zu(sp:Sp)(dvs:List V)(R:St→XK)(t:TA):TE:=fun σ H Q=>t σ H fun vs H1=>sp (vs++dvs) H1 Q (R σ)
section
variable{X:Cx}{CX:CXT}{k:Nat}{f:Addr}{fd:FuncData}{ps:List Str}{sp:Sp}{dvs:List V}{ds:List Value}{R:St→XK}{x:Str}{p pos:Pos}{e:Expr}{es:List Expr}{t:TA}
theorem mW{pins:List (Addr×Obj)}{σ:St}{H:Hp}{s:Shared}{Q:VK}{us:List Value}{vs:List V}(F:bC X.prog X.w X.K X.mg X.base CX k f fd ps sp)(hr:cT k X.A)(hb:fX X.K fd ps ds)(hd:bz dvs ds)(hx:cq CX X R)
  (I:Inv X pins σ H s) (r:bz vs us) (h:sp (vs++dvs) H Q (R σ)):wpAny (model X.prog X.w) X.A (call (.ref f) us) (EP X pins σ Q) X.xe s:=by
 have r2:bz (vs++dvs) (us++ds):=r.append hd
 have hl:(us++ds).length=ps.length:=by rw [←r2.length];exact F.len _ _ _ _ h
 refine wpAny_call (codeAny_mono (F.run X.A X.stack s H ⟨us,[]⟩ (us++ds) (vs++dvs) Q (R σ) hr I.env0 (hb s us I.kIn hl) r2 h) fun r s' hq=> ?_)
 cases r with
 | error e=>exact hx pins σ H s e s' I hq
 | ok fl=>
  cases fl with
  | ret u=>exact I.after hq
  | next=>exact False.elim hq
  | brk=>exact False.elim hq
  | cont=>exact False.elim hq
theorem u7(F:bC X.prog X.w X.K X.mg X.base CX k f fd ps sp)(hr:cT k X.A)(hg:Gl X x)(hm:X.mg x=some (.ref f))(hk:PySem.W.keepIn X.K (.ref f)=true)(hb:fX X.K fd ps ds)(hd:bz dvs ds)(hx:cq CX X R)
  (ha:PA X (e::es) t) (hdb:(x==("__debug__":Str))=false:=by decide) (he:starEach (e::es) X.env=(false,eval e X.env)::starEach es X.env:=by rfl) (hpl:(backTo pos (starEach es X.env)).any (·.1)=false:=by rfl):
  PE X (.Call (.Name x p) (e::es) [] pos) (zu sp dvs R t):=by
 intro pins s σ H Q I h
 refine wpAny_Call_Name_kw (fE I hg hm ?_ hdb)
 refine PySem.W.callWith_K (h₀:=X.base) I.ok.mod.kin hk (thn (ha pos pins s σ H _ I h) fun us s1 ⟨vs,H1,I1,r,q⟩=>⟨I1.kIn, ?_⟩) he hpl
 exact mW F hr hb hd hx I1 r q
end
structure dG(K:PySem.W.Frag)(C:Addr)(bmB:List Value)(newId:String):Prop where
 ok:PySem.W.excIn K C bmB newId=true
theorem rY{K:PySem.W.Frag}{N:Addr}{h0 h:Heap}{m:Str→Option Value}(q:PySem.W.nsOkIn K N=true)(X0:K.In h0)(X:K.In h)(n:h0.Ns N m):h.Ns N m:=by
 obtain ⟨o,es,ep,e,r⟩:=n
 cases z:K.lookup N with
 | none=>unfold PySem.W.nsOkIn at q;rw [z] at q;cases q
 | some ob=>
  have e0:=X0 _ _ z
  rw [e] at e0
  cases e0
  exact ⟨o,es,ep,X _ _ z,r⟩
theorem dG.obj{K:PySem.W.Frag}{C:Addr}{bmB:List Value}{newId:String}{h0:Heap}(c:dG K C bmB newId)(X0:K.In h0):
  ∃bm N nm q bs hdct sn sub ab col dd k0 k1 k2 k3 k5 mN,mN ("__init__":Str)=none∧
   ∀h:Heap,K.In h→h.get? C=some (excClassObj nm q C N bs bm hdct sn sub ab col dd k0 k1 k2 k3 k5 newId)∧h.Ns N mN∧OwnTail h bmB bm:=by
 have q:=c.ok
 unfold PySem.W.excIn at q
 split at q
 ·rename_i dd cd sl ho
  split at q
  ·rename_i C' bm k0 k1 k2 k3 n k5 hm hs
   rw [Bool.and_eq_true,Bool.and_eq_true,Bool.and_eq_true,Bool.and_eq_true,Bool.and_eq_true] at q
   obtain ⟨⟨⟨⟨⟨q1,q2⟩,q3⟩,q4⟩,q5⟩,q6⟩:=q
   cases beq_iff_eq.mp q1
   cases beq_iff_eq.mp q2
   have q3:cd.hasDel=false:=by simpa using q3
   have hsl:sl= #[k0,k1,k2,k3,some (.builtin newId),k5]:=by
    cases sl with | mk l=>exact congrArg Array.mk hs
   obtain ⟨c1,c2,c3,c4,c5,c6,c7,c8,c9,c10,c11⟩:=cd
   cases (show c3=_ from hm)
   cases (show c11=_ from q3)
   subst hsl
   refine ⟨bm,c4,c1,c5,c2,c6,c7,c8,c9,c10,dd,k0,k1,k2,k3,k5,h0.nsMap c4,PySem.W.nsMap_none_of_in X0 q5 (beq_iff_eq.mp q6),fun h X=>⟨X _ _ ho, ?_,PySem.W.tail_of_in X q4⟩⟩
   exact rY q5 X0 X (.of_isNs (PySem.W.isNs_of_in X0 q5))
  ·cases q
 ·cases q
def zm(C:Addr)(R:St→XK)(t:TA):TS:=fun _ σ H=>t σ H fun vs H1=>vs.length≤sizeLine∧R σ (.ref C) none H1
section
variable{X:Cx}{C:Addr}{R:St→XK}{t:TA}{Bn newId initId:String}{bmB:List Value}{x:Str}{np cpos pos:Pos}{e:Expr}{es:List Expr}
theorem uU(hR:mD X R)(hc:X.calm=true)(hex:X.ex=[])(F:ExcBaseFacts Bn newId initId bmB)(c:dG X.K C bmB newId)(hg:Gl X x)(hm:X.mg x=some (.ref C))(ha:PA X (e::es) t)
  (hdb:(x==("__debug__":Str))=false:=by decide) (he:starEach (e::es) X.env=(false,eval e X.env)::starEach es X.env:=by rfl) (hpl:(backTo cpos (starEach es X.env)).any (·.1)=false:=by rfl):
  PS X (.Raise (some (.Call (.Name x np) (e::es) [] cpos)) none pos) (zm C R t):=by
 intro pins s σ H D I h
 obtain ⟨bm,N,nm,q,bs,hdct,sn,sub,ab,col,dd,k0,k1,k2,k3,k5,mN,hni,hob⟩:=c.obj I.kIn
 refine wpAny_Raise_call_subT (nm:=nm) (q:=q) (C:=C) (N:=N) (bs:=bs) (bm:=bm) (hdct:=hdct) (sn:=sn) (sub:=sub) (ab:=ab) (col:=col) (dd:=dd) (k0:=k0) (k1:=k1) (k2:=k2) (k3:=k3) (k5:=k5) F ((hob _ I.kIn).2.2.hasType F.hasBase) (I.ok.hd hc) (by rw [he];show (false || (backTo cpos (starEach es X.env)).any (·.1))=false;rw [hpl];rfl) hni (fE I hg hm ⟨rfl, ?_⟩ hdb)
 have h2:=ha cpos pins s σ H _ I h
 rw [he] at h2⊢
 refine Calls.evalArgs_plain (wpAny_mono h2 (fun us s2 z=> ?_) fun _ _ y=>y)
 obtain ⟨vs,H1,I1,r,hz,hq⟩:=z
 obtain ⟨g1,g2,g3⟩:=hob _ I1.kIn
 refine ⟨rfl,by rw [←r.length];exact hz,g1,g2,g3,fun h' x M=> ?_⟩
 obtain ⟨t,hx,_,_⟩:=M.there
 refine hR pins σ H1 {s2 with heap:=h'} x {cls:= .ref C,data:= .fields #[]} _ (I1.kept (t':=s2.toks) M.keeps) hx rfl rfl ?_ ?_ hq
 ·cases q:X.s₀.heap.get? x with
  | none=>rfl
  | some u=>
   obtain ⟨u',e1⟩:=I1.base.there x u q (by rw [hex];simp)
   rw [M.new] at e1;cases e1
 ·cases q:H1 x with
  | none=>rfl
  | some u=>
   obtain ⟨ob,e1⟩:=ba.here (I1.hok x u q)
   rw [M.new] at e1;cases e1
end
def Cx.tryC(X:Cx)(R:St→XK)(pins:List (Addr×Obj)):Cx:={X with
 pn:=X.pn++pins
 xe:=fun e s'=>∃pins' σ H s,Inv {X with pn:=X.pn++pins} pins' σ H s∧CX1 X.prog X.w X.stack H s (R σ) e s'}
def Cx.suite(X:Cx)(x:Addr)(pn:List (Addr×Obj)):Cx:={X with
 A:=X.A.mark (some (.ref x))
 calm:=false
 pn:=pn
 xe:=fun _ _=>False}
theorem Cx.Ok.pns{X:Cx}(ok:X.Ok)(pn:List (Addr×Obj))(E:Value→Shared→Prop):({X with pn:=pn,xe:=E}:Cx).Ok:=
 ⟨ok.mod,ok.kind,ok.glob,ok.blt,ok.above,ok.inj,ok.has,ok.cab,ok.hd,ok.frames,ok.stk,ok.exf,ok.bs,ok.bsz,ok.noex,ok.exfs,ok.funs,ok.frf⟩
theorem Cx.Ok.unpns{X:Cx}{pn:List (Addr×Obj)}{E:Value→Shared→Prop}(ok:({X with pn:=pn,xe:=E}:Cx).Ok):X.Ok:=
 ⟨ok.mod,ok.kind,ok.glob,ok.blt,ok.above,ok.inj,ok.has,ok.cab,ok.hd,ok.frames,ok.stk,ok.exf,ok.bs,ok.bsz,ok.noex,ok.exfs,ok.funs,ok.frf⟩
theorem Cx.Ok.suite{X:Cx}(ok:X.Ok)(x:Addr)(pn:List (Addr×Obj)):(Cx.suite X x pn).Ok:=
 ⟨ok.mod,ok.kind,ok.glob,ok.blt,ok.above,ok.inj,ok.has,ok.cab,(fun z=>nomatch z),ok.frames,ok.stk,ok.exf,ok.bs,ok.bsz,ok.noex,ok.exfs,ok.funs,ok.frf⟩
theorem Cx.Ok.unsuite{X:Cx}{x:Addr}{pn:List (Addr×Obj)}(ok:(Cx.suite X x pn).Ok)(hd:X.calm=true→X.A.handled=none):X.Ok:=
 ⟨ok.mod,ok.kind,ok.glob,ok.blt,ok.above,ok.inj,ok.has,ok.cab,hd,ok.frames,ok.stk,ok.exf,ok.bs,ok.bsz,ok.noex,ok.exfs,ok.funs,ok.frf⟩
section
variable{X:Cx}{pins pn:List (Addr×Obj)}{σ:St}{H:Hp}{s:Shared}{E:Value→Shared→Prop}
theorem Inv.pnsC(I:Inv X pins σ H s)(E:Value→Shared→Prop):Inv {X with pn:=X.pn++pins,xe:=E} [] σ H s:=
 ⟨I.ok.pns _ _,I.os,I.bare,I.base,I.loc,I.cell,I.free,I.freeC,fun p hp=>I.pin p (by rwa [List.append_nil] at hp),I.hok,I.len⟩
theorem Inv.unpnsC{p':List (Addr×Obj)}(I:Inv {X with pn:=X.pn++pins,xe:=E} p' σ H s):Inv X pins σ H s:=
 ⟨Cx.Ok.unpns I.ok,I.os,I.bare,I.base,I.loc,I.cell,I.free,I.freeC,fun p hp=>I.pin p (List.mem_append_left _ hp),I.hok,I.len⟩
theorem SP.unpnsC{D:qB}{f:Flow}{s':Shared}{p':List (Addr×Obj)}(h:SP {X with pn:=X.pn++pins,xe:=E} p' D f s'):SP X pins D f s':=by
 cases f with
 | next=>obtain ⟨a,b,I,q⟩:=h;exact ⟨a,b,Inv.unpnsC I,q⟩
 | brk=>obtain ⟨a,b,I,q⟩:=h;exact ⟨a,b,Inv.unpnsC I,q⟩
 | cont=>obtain ⟨a,b,I,q⟩:=h;exact ⟨a,b,Inv.unpnsC I,q⟩
 | ret u=>obtain ⟨v,a,b,I,r,q⟩:=h;exact ⟨v,a,b,Inv.unpnsC I,r,q⟩
theorem Inv.suiteC(I:Inv X pins σ H s)(x:Addr){oe:Obj}(hx:s.heap.get? x=some oe)(hn:H x=none)(hL:x≠X.env.locals)(hf:x∉X.fs)(hd:∀v,oe.data≠ .cell v):Inv (Cx.suite X x (X.pn++pins++[(x,oe)])) [] σ H s:=
 ⟨I.ok.suite _ _,I.os,I.bare,I.base,I.loc,I.cell,I.free,I.freeC,fun p hp=>by
  rw [List.append_nil] at hp
  rcases List.mem_append.mp hp with z | z
  ·exact I.pin p z
  ·have e:p=(x,oe):=by simpa using z
   subst e
   exact ⟨hx,hn,hL,hf,hd⟩,I.hok,I.len⟩
theorem Inv.suiteN(I:Inv X pins σ H s)(x:Addr):Inv (Cx.suite X x (X.pn++pins)) [] σ H s:=
 ⟨I.ok.suite _ _,I.os,I.bare,I.base,I.loc,I.cell,I.free,I.freeC,fun p hp=>I.pin p (by rwa [List.append_nil] at hp),I.hok,I.len⟩
theorem Inv.unsuiteC{x:Addr}{more:List (Addr×Obj)}{p':List (Addr×Obj)}(I:Inv (Cx.suite X x (X.pn++pins++more)) p' σ H s)(hd:X.calm=true→X.A.handled=none):Inv X pins σ H s:=
 ⟨Cx.Ok.unsuite I.ok hd,I.os,I.bare,I.base,I.loc,I.cell,I.free,I.freeC,fun p hp=>I.pin p (List.mem_append_left _ (List.mem_append_left _ hp)),I.hok,I.len⟩
theorem Fly.back{H':Hp}{s':Shared}{B:Heap}{x:Addr}{o:Obj}(I:Inv X pins σ H s)(os:s'.os=s.os)(bare:AllBare s'.gens)(F:Fly X.prog X.w X.stack H H' s.heap s'.heap B x o):Inv X pins σ H' s':=
 I.call' os F.un F.hok bare (fun b z=>absurd z (by simp))
end
section
variable{M:Model}{A:Around}{E:Value→Shared→Prop}{K:PySem.W.Frag}{s:Shared}
theorem nV{C D:Addr}{bmB':List Value}{newId':String}{x:Addr}{oe:Obj}{Q:Bool→Shared→Prop}(X:K.In s.heap)(d:dG K D bmB' newId')(hb:bmB'.contains (.type "BaseException")=true)
  (hu:PySem.W.subIn K (.ref C) (.ref D)=some true) (hx:s.heap.get? x=some oe) (hc:oe.cls= .ref C) (h:Q true s):wpAny M A (excMatches (.ref x) (.ref D)) Q E s:=by
 obtain ⟨hp,g,dr,t,os⟩:=s
 obtain ⟨bm',N',nm',q',bs',hdct',sn',sub',ab',col',dd',k0',k1',k2',k3',k5',mN',hni',hob'⟩:=d.obj X
 have hD:=(hob' _ X).1
 have hcD:(Value.ref D::bm').contains (.type "BaseException")=true:=by
  rw [List.contains_cons,(hob' _ X).2.2.hasType hb,Bool.or_true]
 have hcC:=PySem.W.looks_subIn (M:=M) X hu
 have f:=tc_notTuple
 unfold excMatches
 repeat (first | (with_reducible refine wpAny_loadPart_at hx ?_;rw [hc]) | with_reducible refine wpAny_loadPart_at hD ?_ | (with_reducible refine wpAny_isSubtype_exc hD ?_;rw [hcD]) | with_reducible refine hcC.at ?_ | wp_step)
 exact h
end
section
variable{X:Cx}{pins:List (Addr×Obj)}{σ:St}{H H' H1:Hp}{s s0:Shared}{B h0:Heap}{x:Addr}{o:Obj}
theorem uK(I:Inv X pins σ H' s)(hst:X.stack=X.env::X.outer)(hf:X.env.frame=some X.env.locals)(F:Fly X.prog X.w X.stack H1 H' h0 s.heap B x o):∃vs:Array Value,vs[2]? =some .none∧Inv (Cx.suite X x (X.pn++pins++[(x,{o with data:= .fields vs})])) [] σ H' s:=by
 obtain ⟨vs,_,_,_,hx,hv2,_⟩:=F.fly.2.2.2
 have nfr:∀b∈frs X.stack,x≠b:=fun b hb z=>by
  subst z
  obtain ⟨_,o',ho',hd⟩:=F.fly.2.2.1.mem hb
  rw [hx] at ho';cases ho'
  exact hd _ rfl
 refine ⟨vs,hv2,Inv.suiteC I x hx F.nx (nfr _ (by rw [hst];exact List.mem_filterMap.mpr ⟨X.env,List.mem_cons_self,hf⟩)) (fun z=>nfr x (by rw [hst];exact mP x z) rfl) (fun v q=>by cases q)⟩
end
section
variable{X:Cx}{body:List Stmt}{D:Addr}{dn:Str}{b₀:Stmt}{suite:List Stmt}{pos hpos np:Pos}{tb:(St→XK)→TS}{ts:TS}{bmB':List Value}{newId':String}
end
theorem xX{X:Cx}{R:St→XK}{pins:List (Addr×Obj)}:cq (CX1 X.prog X.w) (Cx.tryC X R pins) R:=by
 intro pins' σ H s e s' I hx
 exact ⟨pins',σ,H,s,⟨Cx.Ok.pns (Cx.Ok.unpns I.ok) _ _,I.os,I.bare,I.base,I.loc,I.cell,I.free,I.freeC,I.pin,I.hok,I.len⟩,hx⟩
end L2
namespace L2
open PySem PySem.Spec PyProof.Rows
def kD(env:Env):List (Str×NameKind)→List (Str×Addr)→List (Str×Addr)
 | [],acc=>acc
 | p::r,acc=>kD env r (if p.2== .free then (p.1,(env.cells.lookup p.1).getD 0)::acc else acc)
theorem gB{scope:Scope}{env:Env}(h:∀p∈scope.names,p.2= .free→(env.cells.lookup p.1).isSome=true):closureFor scope env=pure (kD env scope.names []):=by
 have key:∀(l:List (Str×NameKind)) (acc:List (Str×Addr)),(∀p∈l,p.2= .free→(env.cells.lookup p.1).isSome=true)→
   (forIn l acc (fun (p:Str×NameKind) (r:List (Str×Addr))=>(if p.2== .free then (do let c←cellOf env p.1;pure (ForInStep.yield ((p.1,c)::r))) else pure (ForInStep.yield r):Sem (ForInStep (List (Str×Addr))))))=(pure (kD env l acc):Sem (List (Str×Addr))):=by
  intro l
  induction l with
  | nil=>intro acc _;rfl
  | cons p r ih=>
   intro acc hp
   rw [List.forIn_cons]
   have ih':=fun a=>ih a fun q hq=>hp q (List.mem_cons_of_mem _ hq)
   obtain ⟨n,k⟩:=p
   by_cases hk:k= .free
   ·subst hk
    have hs:=hp (n, .free) List.mem_cons_self rfl
    cases hl:env.cells.lookup n with
    | none=>rw [show env.cells.lookup (n,NameKind.free).1=none from hl] at hs;cases hs
    | some c=>
     have e1:kD env ((n, .free)::r) acc=kD env r ((n,c)::acc):=by
      show kD env r (if (NameKind.free==NameKind.free)=true then (n,(env.cells.lookup n).getD 0)::acc else acc)=_
      rw [if_pos (by decide),hl]
      rfl
     have e2:cellOf env n=pure c:=by unfold cellOf;rw [hl]
     rw [e1]
     have e3:(NameKind.free==NameKind.free)=true:=by decide
     simp only [e3,if_true,e2,pure_bind]
     exact ih' _
   ·have hb:(k==NameKind.free)=false:=by simpa using hk
    have e1:kD env ((n,k)::r) acc=kD env r acc:=by
     show kD env r (if (k==NameKind.free)=true then (n,(env.cells.lookup n).getD 0)::acc else acc)=_
     rw [hb,if_neg (by decide)]
    rw [e1]
    simp only [hb,Bool.false_eq_true,if_false,pure_bind]
    exact ih' _
 have:=key scope.names [] h
 unfold closureFor
 first
  | exact this
  | (simp only [bind_pure];exact this)
  | (rw [bind_pure];exact this)
theorem iO{env:Env}{y:Str}{c:Addr}:∀(l:List (Str×NameKind)) (acc:List (Str×Addr)),(∀p∈l,p.2= .free→(env.cells.lookup p.1).isSome=true)→
  (acc.lookup y=some c→env.cells.lookup y=some c)→(kD env l acc).lookup y=some c→env.cells.lookup y=some c
 | [],acc,_,ha,h=>ha h
 | (n,k)::r,acc,hp,ha,h=>by
  refine iO r _ (fun q hq=>hp q (List.mem_cons_of_mem _ hq)) (fun e=> ?_) h
  split at e
  ·rename_i hk
   rw [List.lookup_cons] at e
   cases q:(y==n) with
   | true=>
    rw [q] at e
    have e':(env.cells.lookup n).getD 0=c:=Option.some.inj e
    have hn:y=n:=by simpa using q
    subst hn
    have hs:=hp (y,k) List.mem_cons_self (by simpa using hk)
    cases z:env.cells.lookup y with
    | none=>rw [show env.cells.lookup (y,k).1=none from z] at hs;cases hs
    | some d=>rw [z] at e';rw [←e'];rfl
   | false=>rw [q] at e;exact ha e
  ·exact ha e
theorem fV{env:Env}{y:Str}:∀(l:List (Str×NameKind)) (acc:List (Str×Addr)),((y,NameKind.free)∈l∨(acc.lookup y).isSome=true)→((kD env l acc).lookup y).isSome=true
 | [],acc,h=>by
  rcases h with h | h
  ·cases h
  ·exact h
 | (n,k)::r,acc,h=>by
  refine fV r _ ?_
  by_cases hy:y=n
  ·subst hy
   by_cases hk:k= .free
   ·subst hk
    right
    show (List.lookup y (if (NameKind.free==NameKind.free)=true then (y,(env.cells.lookup y).getD 0)::acc else acc)).isSome=true
    rw [if_pos (by decide),List.lookup_cons,beq_self_eq_true]
    rfl
   ·rcases h with h | h
    ·rcases List.mem_cons.mp h with z | z
     ·exact absurd (Prod.mk.inj z).2.symm hk
     ·exact .inl z
    ·right
     rw [if_neg (by simpa using hk)]
     exact h
  ·rcases h with h | h
   ·rcases List.mem_cons.mp h with z | z
    ·exact absurd (Prod.mk.inj z).1 hy
    ·exact .inl z
   ·right
    split
    ·rw [List.lookup_cons,show (y==n)=false by simpa using hy]
     exact h
    ·exact h
def Cx.comp(X:Cx)(Nc:List Str)(scope:Scope)(C:Addr)(s:Shared)(H:Hp)(fp:List Addr):Cx:={X with
 N:=Nc
 s₀:=s
 H₀:=H
 env:=compEnvC scope (kD X.env scope.names []) C X.env
 outer:=X.stack
 ex:=fp
 fn:=fun _=>false
 pn:=[]
 xe:=fun _ _=>False}
structure bZ(X:Cx)(scope:Scope)(x:Str)(ys:List Str)(caps:List Nat):Prop where
 kind:scope.kind= .function
 nocell:∀p∈scope.names,p.2≠ .cell
 names:∀p∈scope.names,p.2= .local→scope.names.lookup p.1=some .local
 own:scope.names.lookup x=some .local
 free:∀p∈scope.names,p.2= .free→X.env.scope.names.lookup p.1=some .cell
 nd:(x::ys).Nodup
 cap:∀q∈ys.zip caps,X.N[q.2]? =some q.1∧X.env.scope.names.lookup q.1=some .cell∧scope.names.lookup q.1=some .free
 len:ys.length=caps.length
theorem qX{env:Env}{y:Str}:∀{l:List (Str×NameKind)},(∀p∈l,p.2≠ .cell)→
  ((l.map fun (n,k)=>if (k==NameKind.free&&env.scope.kind== .function&&env.kindOf n==some .cell) then (n,NameKind.cell) else (n,k)).lookup y=some .cell∨
   (l.map fun (n,k)=>if (k==NameKind.free&&env.scope.kind== .function&&env.kindOf n==some .cell) then (n,NameKind.cell) else (n,k)).lookup y=some .free)→(y,NameKind.free)∈l
 | [],_,h=>by rcases h with h | h <;> cases h
 | (n,k)::r,hc,h=>by
  have ih:= @qX env y r (fun p hp=>hc p (List.mem_cons_of_mem _ hp))
  rw [List.map_cons] at h
  by_cases q:(k==NameKind.free&&env.scope.kind== .function&&env.kindOf n==some .cell)=true
  ·have hk:k= .free:=by
    rw [Bool.and_eq_true,Bool.and_eq_true] at q
    simpa using q.1.1
   subst hk
   by_cases hy:y=n
   ·subst hy;exact List.mem_cons_self
   ·refine List.mem_cons_of_mem _ (ih ?_)
    have hb:(y==n)=false:=by simpa using hy
    simp only [q,if_true,List.lookup_cons,hb] at h
    exact h
  ·by_cases hy:y=n
   ·subst hy
    have hb:(y==y)=true:=by simp
    simp only [q,Bool.false_eq_true,if_false,List.lookup_cons,hb] at h
    rcases h with h | h
    ·exact absurd (Option.some.inj h) (hc (y,k) List.mem_cons_self)
    ·rw [←Option.some.inj h];exact List.mem_cons_self
   ·refine List.mem_cons_of_mem _ (ih ?_)
    have hb:(y==n)=false:=by simpa using hy
    simp only [q,Bool.false_eq_true,if_false,List.lookup_cons,hb] at h
    exact h
theorem jR{env:Env}{y:Str}(hk:env.scope.kind= .function)(hy:env.kindOf y=some .cell):∀{l:List (Str×NameKind)},l.lookup y=some .free→
  (l.map fun (n,k)=>if (k==NameKind.free&&env.scope.kind== .function&&env.kindOf n==some .cell) then (n,NameKind.cell) else (n,k)).lookup y=some .cell
 | [],h=>by cases h
 | (n,k)::r,h=>by
  have ih:= @jR env y hk hy r
  rw [List.map_cons]
  rw [List.lookup_cons] at h
  by_cases e:y=n
  ·subst e
   have hb:(y==y)=true:=by simp
   rw [hb] at h
   have:k= .free:=Option.some.inj h
   subst this
   have q:(NameKind.free==NameKind.free&&env.scope.kind== .function&&env.kindOf y==some .cell)=true:=by rw [hk,hy];rfl
   simp only [q,if_true,List.lookup_cons,hb]
  ·have hb:(y==n)=false:=by simpa using e
   rw [hb] at h
   by_cases q:(k==NameKind.free&&env.scope.kind== .function&&env.kindOf n==some .cell)=true
   ·simp only [q,if_true,List.lookup_cons,hb];exact ih h
   ·simp only [q,Bool.false_eq_true,if_false,List.lookup_cons,hb];exact ih h
theorem bZ.has{X:Cx}{scope:Scope}{x:Str}{ys:List Str}{caps:List Nat}(S:bZ X scope x ys caps)(ok:X.Ok):∀p∈scope.names,p.2= .free→(X.env.cells.lookup p.1).isSome=true:=fun p hp hf=>by
 obtain ⟨c,e⟩:=ok.has p.1 (.inl (S.free p hp hf))
 rw [e];rfl
theorem qC{α β:Type}:∀{xs:List α} {ys:List β} {j:Nat} {x:α} {y:β},xs[j]? =some x→ys[j]? =some y→(x,y)∈xs.zip ys
 | x::xs,y::ys,0,_,_,h1,h2=>by cases h1;cases h2;exact List.mem_cons_self
 | x::xs,y::ys,j+1,_,_,h1,h2=>List.mem_cons_of_mem _ (qC (xs:=xs) (ys:=ys) (j:=j) h1 h2)
 | [],_,_,_,_,h1,_=>by simp at h1
 | _::_,[],_,_,_,_,h2=>by simp at h2
def fY(caps:List Nat)(σ:St):St:=caps.map fun i=>(σ[i]?).join
def wc(J:It)(te:TE)(cs:St)(Q:VK)(H1:Hp)(D:Addr):Prop:=
 ∃W:Nat→Nat→List V→Hp→Prop,(∃m,W 0 m [] (upd H1 D (.lst [])))∧∀i m ys H2,W i m ys H2→H2 D=some (.lst ys)∧
  ((J.stop i H2∧Q (.ref D) H2)∨(J.go i H2∧∀x H3,J.yld i H2 x H3→te (some x::cs) H3 fun y H4=>H4 D=some (.lst ys)∧ys.length < sizeLine∧∃m',m' < m∧W (i+1) m' (ys++[y]) (upd H4 D (.lst (ys++[y])))))
def zt(wi:TI)(te:TE)(caps:List Nat):TE:=fun σ H Q=>wi σ H fun J H1=>∀D,H1 D=none→wc J te (fY caps σ) Q H1 D
section
variable{X:Cx}{elt iter:Expr}{x:Str}{px:Pos}{scope:Scope}{pos:Pos}{wi:TI}{te:TE}{ys:List Str}{caps:List Nat}
theorem pC(S:bZ X scope x ys caps)(hc:X.calm=true)(he:∀C s H fp,PE (Cx.comp X (x::ys) scope C s H fp) elt te)
  {pins:List (Addr×Obj)} {σ:St} {H2:Hp} {s2:Shared} {it:Addr} {fp:List Addr} {tn:Nat→Heap→Prop} {J:It} {Q:V→Hp→Prop} {PQ:Value→Addr→Result→Shared→Prop} (I:Inv X pins σ H2 s2) (T:ux X.prog X.w X.K (.Name x px) J fp it tn) (t0:tn 0 s2.heap) (f2:∀b∈fp,qy X pins H2 b)
  (h:∀D,H2 D=none→wc J te (fY caps σ) Q H2 D)
  (hPQ:∀D C s' H',Inv X pins σ H' s'→Q (.ref D) H'→(∃m,s'.heap.Ns C m)→H' C=none→X.s₀.heap.objs.size≤C→C≠X.env.locals→(∀z c,X.env.cells.lookup z=some c→c≠C)→(∀p∈X.pn++pins,p.1≠C)→PQ (.ref D) C (.ok .next) s'):
  wpAny (model X.prog X.w) X.A (newList []) (fun acc s3=>wpAny (model X.prog X.w) X.A (newFunctionEnv scope X.env.globals (kD X.env scope.names []) [] X.env.qual none .none (some X.env)) (fun cenv s4=>
   codeAny (model X.prog X.w) X.A (.compStart (.ListComp elt [⟨.Name x px,iter,[],0⟩] scope pos) 0 (.ref it) acc {cenv with scope:=relabel scope X.env}) (PQ acc cenv.locals) s4) X.xe s3) X.xe s2:=by
 have hD:H2 s2.heap.objs.size=none:=I.fresh
 obtain ⟨W,⟨m0,w0⟩,step⟩:=h _ hD
 refine wpAny_newObj_type ?_
 have I3:Inv X pins σ (upd H2 s2.heap.objs.size (.lst [])) {s2 with heap:=s2.heap.push {cls:= .type "list",data:= .seq ([]:List Value).toArray}}:=Inv.lnew (t':=s2.toks) I (ys:=[]) (its:=[]) .nil (Nat.zero_le _)
 generalize hH3:upd H2 s2.heap.objs.size (.lst [])=H3 at I3 w0
 generalize hs3:({s2 with heap:=s2.heap.push {cls:= .type "list",data:= .seq ([]:List Value).toArray}}:Shared)=s3 at I3
 have hfp3:∀b∈fp,H3 b=none:=fun b hb=>by
  obtain ⟨o,e,_⟩:=T.obj _ _ t0 b hb
  rw [←hH3,ai (Nat.ne_of_lt (Heap.lt_size e))]
  exact (f2 b hb).1
 have t3:tn 0 s3.heap:=T.keep _ _ _ t0 fun b hb o e=>by rw [←hs3];exact Heap.get?_push_of_some _ e
 refine wpAny_newFunctionEnv S.nocell (fun y hy=>nomatch hy) (fun h4 ns4 sb4=> ?_) S.kind
 have hC:H3 s3.heap.objs.size=none:=I3.fresh
 have kp:∀b o,s3.heap.get? b=some o→h4.get? b=some o:=fun b o e=>
  (sb4.2 b (Nat.ne_of_lt (Heap.lt_size e))).trans (Heap.get?_push_of_some _ e)
 generalize hs4:({s3 with heap:=h4,toks:=s3.toks+([]:List (Str×Value)).length}:Shared)=s4
 have e4:s4.heap=h4:=by rw [←hs4]
 have cne:∀z c,X.env.cells.lookup z=some c→c≠s3.heap.objs.size:=fun z c e q=>by
  obtain ⟨v,w⟩:=I3.cell z c e
  exact Nat.lt_irrefl _ (q▸w.lt)
 have cl_in:∀z c,(kD X.env scope.names []).lookup z=some c→X.env.cells.lookup z=some c:=fun z c e=>iO scope.names [] (S.has I.ok) (fun q=>nomatch q) e
 have Lne:s3.heap.objs.size≠X.env.locals:=Nat.ne_of_gt I3.lt
 have ok:(Cx.comp X (x::ys) scope s3.heap.objs.size s3 H3 fp).Ok:=by
  refine ⟨I3.ok.mod,S.kind,I3.ok.glob,I3.ok.blt,Nat.le_refl _,fun z z' c e1 e2=>I3.ok.inj z z' c (cl_in z c e1) (cl_in z' c e2),fun z hz=> ?_,fun z c hz=>(by cases hz),I3.ok.hd,I3.ok.frames, .inl rfl,fun b hb=>⟨?_,fun z c e=> ?_⟩,I3.bs, ?_,fun b o e hb=> ?_,fun b hb hf=> ?_,I3.stack,I3.stkFree⟩
  ·have:=fV (env:=X.env) scope.names [] (.inl (qX S.nocell hz))
   exact Option.isSome_iff_exists.mp this
  ·obtain ⟨o,e,_⟩:=T.obj _ _ t3 b hb
   exact Nat.ne_of_lt (Heap.lt_size e)
  ·exact (f2 b hb).2.2.2.2.1 z c (cl_in z c e)
  ·exact Nat.le_trans I3.ok.bsz I3.sz
  ·obtain ⟨_,_,_,hy,_⟩:=f2 b hb
   have e0:=(I3.ok.bs b o e).1
   rcases hy with hy | hy
   ·exact I3.ok.noex b o e hy
   ·exact absurd (Nat.lt_of_lt_of_le (Heap.lt_size e0) hy) (Nat.lt_irrefl _)
  ·obtain ⟨_,hl,hfs,_⟩:=f2 b hb
   exact (List.mem_cons.mp (I3.stkSub b hf)).elim hl hfs
 have hlen:((none:Option V)::fY caps σ).length=(x::ys).length:=by
  rw [List.length_cons,List.length_cons,S.len]
  unfold fY
  rw [List.length_map]
 have I4:Inv X pins σ H3 s4:=by
  rw [←hs4]
  exact I3.kept kp
 have Ic:Inv (Cx.comp X (x::ys) scope s3.heap.objs.size s3 H3 fp) [] ((none:Option V)::fY caps σ) H3 s4:=by
  refine ⟨ok,by rw [←hs4];rfl,I4.bare,Un.kept (by rw [e4];exact kp),⟨_,by rw [e4];exact ns4,fun i z v e1 e2 e3=> ?_⟩,fun z c e=>I4.cell z c (cl_in z c e),hC,fun z c e=>I4.freeC z c (cl_in z c e),(fun p hp=>nomatch hp),I4.hok,hlen⟩
  cases i with
  | zero=>cases e2
  | succ j=>
   have e1:ys[j]? =some z:=e1
   have e2:(fY caps σ)[j]? =some (some v):=e2
   unfold fY at e2
   rw [List.getElem?_map] at e2
   cases hi:caps[j]? with
   | none=>rw [hi] at e2;cases e2
   | some i=>
    rw [hi] at e2
    have e2:(σ[i]?).join=some v:=Option.some.inj e2
    have e2:σ[i]? =some (some v):=by
     cases q:σ[i]? with
     | none=>rw [q] at e2;cases e2
     | some o=>rw [q] at e2;exact congrArg some e2
    obtain ⟨c1,c2,c3⟩:=S.cap (z,i) (qC e1 hi)
    have c4:=jR (env:=X.env) I.ok.kind c2 c3
    have c3:(z,NameKind.free)∈scope.names:=PySem.mem_of_lookup c3
    obtain ⟨m,hn,hl⟩:=I4.loc
    obtain ⟨u,r,lk⟩:=hl i z v c1 e2 (.inr (.inl c2))
    refine ⟨u,r, .inr ⟨.inl c4, ?_⟩⟩
    rcases lk with ⟨k,_⟩ | ⟨_,c,hc',z'⟩
    ·exact absurd ((show X.env.scope.names.lookup z=some .local from k).symm.trans c2) (by decide)
    ·obtain ⟨d,hd⟩:=Option.isSome_iff_exists.mp (fV (env:=X.env) scope.names [] (.inl c3))
     have:=cl_in z d hd
     rw [hc'] at this
     cases this
     exact ⟨c,hd,z'⟩
 have loop:codeAny (model X.prog X.w) X.A (.compLoop (.ListComp elt [⟨.Name x px,iter,[],0⟩] scope pos) 0 (.ref it) (.ref s2.heap.objs.size) (compEnvC scope (kD X.env scope.names []) s3.heap.objs.size X.env)) (PQ (.ref s2.heap.objs.size) s3.heap.objs.size) s4:=by
  have fpC:∀{H':Hp},(∀b∈fp,H' b=none)→∀b∈fp,qy (Cx.comp X (x::ys) scope s3.heap.objs.size s3 H3 fp) [] H' b:=fun hn b hb=>
   ⟨hn b hb,(ok.exf b hb).1,ok.exfs b hb, .inl hb,(ok.exf b hb).2,(fun p hp=>nomatch hp)⟩
  refine codeAny_loop rfl (fun n s'=>∃i zs v H',Inv (Cx.comp X (x::ys) scope s3.heap.objs.size s3 H3 fp) [] (v::fY caps σ) H' s'∧tn i s'.heap∧(∀b∈fp,H' b=none)∧W i n zs H') (fun n s5 z=> ?_) m0 ⟨0,[],none,H3,Ic,T.keep _ _ _ t3 (fun b hb o e=>by rw [e4];exact kp b o e),hfp3,w0⟩
  obtain ⟨i,zs,v,H5,I5,t5,fr5,w5⟩:=z
  show wpAny _ _ ((compTurn _ 0 (.ref it) _ _).onRaise _) _ _ s5
  refine wpAny_noted ?_
  rw [compTurn_list1]
  refine wpAny_bind (wpAny_standAt (wpAny_bind ?_))
  obtain ⟨hacc,stop | go⟩:=step i n zs H5 w5
  ·obtain ⟨stop,q⟩:=stop
   refine thn (T.done (Cx.comp X (x::ys) scope s3.heap.objs.size s3 H3 fp) rfl rfl rfl hc i [] s5 _ H5 _ I5 (fpC fr5) t5 stop) fun r s6 ⟨hr,I6⟩=> ?_
   subst hr
   refine wpAny_pure (hPQ _ _ s6 H5 ?_ q ?_ I6.free ?_ Lne cne fun p hp z=> ?_)
   ·refine I3.call' I6.os I6.base I6.hok I6.bare fun b hb=> ?_
    obtain ⟨_,g1,_,g3,g4,g5⟩:=f2 b hb
    exact ⟨g3,g1,g4,g5⟩
   ·obtain ⟨m,hn,_⟩:=I6.loc
    exact ⟨m,hn⟩
   ·exact I3.sz
   ·exact Nat.ne_of_lt (Heap.lt_size (I3.pin p hp).1) z
  ·obtain ⟨go,turn⟩:=go
   refine thn (T.item (Cx.comp X (x::ys) scope s3.heap.objs.size s3 H3 fp) rfl rfl rfl hc i [] s5 _ H5 _ I5 (fpC fr5) t5 go) fun r s6 ⟨u,hr,h6⟩=> ?_
   subst hr
   refine wpAny_bind (thn h6 fun _ s7 ⟨y,H7,I7,r7,y7,t7,fr7⟩=> ?_)
   have I7':=I7.pinned (fpC fr7) (T.obj _ _ t7)
   have hg:PG (Cx.comp X (x::ys) scope s3.heap.objs.size s3 H3 fp) (.Name x px) (i8 0):=aK S.nd rfl (.inl (lookup_relabel_local S.own)) (.inr (lookup_relabel_local S.own))
   refine wpAny_bind (wpAny_mono (hg _ s7 _ H7 y u (fun σ' H'=>σ'=some y::fY caps σ∧H'=H7) I7' r7 ⟨rfl,rfl⟩) (fun _ s8 z8=> ?_) fun _ _ f=>f.elim)
   obtain ⟨σ8,H8,I8,e8,e8'⟩:=z8
   subst e8 e8'
   refine wpAny_bind (wpAny_bind (wpAny_mono (he _ _ _ _ _ s8 _ _ _ I8 (turn y _ y7)) (fun u9 s9 z9=> ?_) fun _ _ f=>f.elim))
   obtain ⟨v9,H9,I9,r9,a9,l9,m9,hm9,w9⟩:=z9
   refine wpAny_bind (wpAny_mono (iq (X:=Cx.comp X (x::ys) scope s3.heap.objs.size s3 H3 fp) _ s9 _ H9 (.ref s2.heap.objs.size) [v9] _ [u9] (fun _ H'=>H'=upd H9 s2.heap.objs.size (.lst (zs++[v9]))) I9 rfl (.cons r9 .nil) ⟨_,zs,v9,rfl,rfl,a9,l9,rfl⟩) (fun _ s10 z10=> ?_) fun _ _ f=>f.elim)
   obtain ⟨_,H10,I10,_,e10⟩:=z10
   subst e10
   refine wpAny_pure (wpAny_pure ⟨rfl,m9,hm9,i+1,zs++[v9],some y,_,I10.unpinned,T.keep _ _ _ t7 fun b hb o e=>(I10.pin (b,o) (List.mem_append_right _ (List.mem_append_right _ (bP hb e)))).1,fun b hb=> ?_,w9⟩)
   obtain ⟨o,e,_⟩:=T.obj _ _ t7 b hb
   exact (I10.pin (b,o) (List.mem_append_right _ (List.mem_append_right _ (bP hb e)))).2.1
 exact codeAny_compStart_list loop (T.self X.A 0 _ _ _ (T.keep _ _ _ t3 (fun b hb o e=>by rw [e4];exact kp b o e)) loop)
theorem rL(S:bZ X scope x ys caps)(hc:X.calm=true)(hi:PI X (.Name x px) iter wi)(he:∀C s H fp,PE (Cx.comp X (x::ys) scope C s H fp) elt te)(hs:∀x,foldedSetIterable iter X.env x=pure x:=by intro _;rfl):
  PE X (.ListComp elt [⟨.Name x px,iter,[],0⟩] scope pos) (zt wi te caps):=by
 intro pins s σ H Q I h
 rw [eval_ListComp]
 refine wpAny_comprehension_free (use:=none) rfl hs (gB (S.has I.ok)) S.kind S.names (thn (hi pins s σ H _ I h) fun v s1 h1=>thn h1 fun itv s2 h2=> ?_)
 obtain ⟨it,fp,tn,J,H2,rfl,I2,T,t0,f2,q⟩:=h2
 refine pC S hc he (Q:=Q) I2 T t0 f2 q fun D C s' H' I' q' n' hC hz hL hcc hp=> ?_
 obtain ⟨m,n'⟩:=n'
 exact ⟨m,n',fun h' sb=>⟨.ref D,H',I'.turned (it:=C) (t':=s'.toks) (fun b o hb e=>(sb.2 b hb).trans e) hC hL (.inr hz) hcc hp,rfl,q'⟩⟩
def uH(i:Nat)(wi:TI)(te:TE)(caps:List Nat):TS:=fun D σ H=>zt wi te caps σ H fun v H1=>D.nx (σ.set i (some v)) H1
theorem js{i:Nat}{y:Str}{py spos:Pos}(hN:X.N.Nodup)(hiy:X.N[i]? =some y)(hy:Loc X.env.scope y)(S:bZ X scope x ys caps)(hc:X.calm=true)(hi:PI X (.Name x px) iter wi)(he:∀C s H fp,PE (Cx.comp X (x::ys) scope C s H fp) elt te)
  (hsw:swapsWith (.ListComp elt [⟨.Name x px,iter,[],0⟩] scope pos) (some (.Name y py)) spos.line X.env=pure true:=by rfl) (hs:∀x,foldedSetIterable iter X.env x=pure x:=by intro _;rfl)
  (hf:X.fn y=true∨X.env.scope.names.lookup y=some .local:=by first | exact .inl rfl | exact .inr rfl | assumption):
  PS X (.Assign [.Name y py] (.ListComp elt [⟨.Name x px,iter,[],0⟩] scope pos) spos) (uH i wi te caps):=by
 intro pins s σ H D I h
 rw [exec_Assign_Name_used _ _ _ _ hsw]
 refine wpAny_bind (wpAny_standAt (wpAny_bind ?_))
 show wpAny _ _ (do let _←comprehension (.ListComp elt [⟨.Name x px,iter,[],0⟩] scope pos) scope X.env _ (newList []) false (eval iter X.env) (some (assign (.Name y py) X.env))) _ _ s
 refine wpAny_bind (wpAny_mono (wpAny_comprehension_free (use:=some (assign (.Name y py) X.env)) (Q:=fun _ s'=>SP X pins D .next s') rfl hs (gB (S.has I.ok)) S.kind S.names (thn (hi pins s σ H _ I h) fun v s1 h1=>thn h1 fun itv s2 h2=> ?_)) (fun _ s' hq=>wpAny_pure (wpAny_pure hq)) fun _ _ e=>e)
 obtain ⟨it,fp,tn,J,H2,rfl,I2,T,t0,f2,q⟩:=h2
 refine pC S hc he (Q:=fun v H1=>D.nx (σ.set i (some v)) H1) I2 T t0 f2 q fun Dl C s' H' I' q' n' hC hz hL hcc hp=> ?_
 obtain ⟨m,n'⟩:=n'
 show wpAny _ _ (assign (.Name y py) X.env (.ref Dl)) _ _ s'
 refine wpAny_assign_Name (hZ I' hN hiy hy (v:= .ref Dl) rfl (fun s3 I3 sb3=> ?_) hf)
 obtain ⟨a,sb3,ha⟩:=sb3
 have hCa:C≠a:=by
  rcases ha with rfl | ha
  ·exact hL
  ·exact (hcc _ _ ha).symm
 exact ⟨m,n'.sameBut sb3 hCa,fun h' sb=>⟨_,H',I3.turned (it:=C) (t':=s3.toks) (fun b o hb e=>(sb.2 b hb).trans e) hC hL (.inr hz) hcc hp,q'⟩⟩
end
end L2
namespace L2
open PySem PySem.Spec PyProof.Rows
end L2
namespace L2
open PySem PySem.Spec PyProof.Rows
section
variable{P:Program}{w:World}{K:PySem.W.Frag}{mg:Str→Option Value}{base:Heap}
theorem Fun.okX{x qual:Str}{st:Stmt}{f:Addr}{fd:FuncData}{N ps:List Str}{k:Nat}{sp:Sp}(F:Fun K x qual st f fd)(S:au N ps (ae st))(len:∀vs H Q E,sp vs H Q E→vs.length=ps.length)
  (hbody:∀(cdv:Value) (A:Around) (outer:List Env) (s:Shared) (H:Hp) (vs:List V) (Q:VK) (E:XK),cT k (A.deeper (envOfC qual (ae st) s.heap.objs.size f cdv))→sp vs H Q E→
   ∃t,PSs (mH (CX1 P w) P w K mg base N qual (ae st) f cdv A outer s H E) (aq st) t∧t {nx:=fun _ H'=>Q .non H',rt:=Q} (h8 N vs) H):bC P w K mg base (CX1 P w) (k+1) f fd ps sp:=by
 obtain ⟨oc,od,kV,doc,pm,an,cdv,ct,osl,rfl,lk,hcd⟩:=F.ex
 exact C4 lk hcd S len fun A outer s H vs Q E hr hsp=>hbody cdv A outer s H vs Q E hr hsp
end
theorem fw{X:Cx}{P:Program}{w:World}:cq (CX1 P w) X (fun _=>E0):=by
 intro pins σ H s e s' _ hx
 obtain ⟨_,_,_,_,_,_,_,_,hE⟩:=hx
 exact hE.elim
theorem log2_lt{n:Nat}{k:Nat}(h:n < 2 ^ k)(hk:0 < k):n.log2 < k:=by
 by_cases h0:n=0
 ·rw [h0,show Nat.log2 0=0 from rfl];exact hk
 ·exact (Nat.log2_lt h0).mpr h
def Big(i:Int):Prop:=i.natAbs < 2 ^ 8000
theorem sd{i j:Int}(hi:Big i)(hj:Big j):IntMulOk i j:=by
 have b:∀{i:Int},Big i→Builtin.Int.intBits i≤8000:=fun {i} h=>by
  unfold Builtin.Int.intBits
  split
  ·exact Nat.zero_le _
  ·have:=log2_lt (k:=8000) h (by decide)
   omega
 have b1:=b hi
 have b2:=b hj
 have h3:Builtin.Int.intTooBig (Builtin.Int.intBits i+Builtin.Int.intBits j)=false:=by
  unfold Builtin.Int.intTooBig
  refine decide_eq_false ?_
  have:(bitsLine:Int)=134217728:=by decide
  omega
 unfold IntMulOk
 rw [h3,Bool.and_false]
 exact Bool.false_ne_true
section
variable{X:Cx}
theorem x3:OpR X (binaryOp .Mult) (rI (fun i j=>Big i∧Big j) fun i j=> .int (i * j)):=opI fun _ _ _ _ _ _ _ hc q=>mul_int q (sd hc.1 hc.2)
theorem oR:OpR X (binaryOp .FloorDiv) (rI (fun _ j=>j≠0∧Big j) fun i j=> .int (i.fdiv j)):=opI fun _ _ _ _ _ _ _ hc q=>
 floordiv_int hc.1 q (.inl (PyProof.noPylong_of_log2 (Nat.lt_of_lt_of_le (log2_lt (k:=8000) hc.2 (by decide)) (by decide))))
end
def yM:V→Option Value
 | .ty T=>some (.type T)
 | .ref C=>some (.ref C)
 | _=>none
theorem tX{c:V}{u t:Value}(r:bh c u)(h:yM c=some t):u=t:=by
 cases c with
 | ty T=>cases r;exact Option.some.inj h
 | ref C=>cases r;exact Option.some.inj h
 | _=>cases h
section
variable{X:Cx}
theorem iP:dH X (.builtin "isinstance") (fun xs H Q=>∃x c t t' b,xs=[x,c]∧kE X.K H x t∧yM c=some t'∧PySem.W.kitOne X.K t t'=some b∧Q (.bl b) H):=by
 intro pins s σ H xs us Q I r h
 obtain ⟨x,c,t,t',b,rfl,ty,hc,hk,q⟩:=h
 obtain ⟨u,u',rfl,r1,r2⟩:=zh r
 cases tX r2 hc
 exact sN I r1 ty hk fun tk=>⟨.bl b,H,I.tok tk,rfl,q⟩
end
def tH:List V→List V→Bool
 | [],[]=>true
 | x::xs,y::ys=>eqV x y&&tH xs ys
 | _,_=>false
theorem gy:∀(xs ys:List V) (e:Nat→Bool),(∀j x y,xs[j]? =some x→ys[j]? =some y→e j=eqV x y)→((List.range (min xs.length ys.length)).all e&&xs.length==ys.length)=tH xs ys
 | [],[],e,_=>rfl
 | [],_::_,e,_=>by simp [tH]
 | _::_,[],e,_=>by simp [tH]
 | x::xs,y::ys,e,h=>by
  have ih:=gy xs ys (fun j=>e (j+1)) fun j x y h1 h2=>h (j+1) x y h1 h2
  have h0:e 0=eqV x y:=h 0 x y rfl rfl
  show _=(eqV x y&&tH xs ys)
  rw [←ih,←h0]
  have e1:min (x::xs).length (y::ys).length=min xs.length ys.length+1:=by simp only [List.length_cons];omega
  rw [e1,List.range_succ_eq_map,List.all_cons,List.all_map]
  have e2:((x::xs).length==(y::ys).length)=(xs.length==ys.length):=by simp only [List.length_cons];rw [Bool.eq_iff_iff];simp
  rw [e2,Bool.and_assoc]
  rfl
def D7(K:PySem.W.Frag):R2:=fun x y H Q=>∃a b xs ys,x= .ref a∧y= .ref b∧SqT K H a xs∧SqT K H b ys∧xs.all cY=true∧ys.all cY=true∧Q (.bl (tH xs ys)) H
def D1(K:PySem.W.Frag):R2:=fun x y H Q=>∃a b xs ys,x= .ref a∧y= .ref b∧SqT K H a xs∧SqT K H b ys∧xs.all cY=true∧ys.all cY=true∧Q (.bl (!tH xs ys)) H
theorem iJ:∀{xs:List V} {j:Nat} {x:V},xs.all cY=true→xs[j]? =some x→cY x=true
 | _::_,0,_,h,e=>by
  rw [List.all_cons,Bool.and_eq_true] at h
  cases e
  exact h.1
 | _::_,j+1,_,h,e=>by
  rw [List.all_cons,Bool.and_eq_true] at h
  exact iJ h.2 e
section
variable{X:Cx}
theorem z5(hu:X.A.units < cLine):OpR X (compareOp .NotEq) (D1 X.K):=by
 intro pins s σ H x y v u Q I rx ry h
 obtain ⟨a,b,xs,ys,rfl,rfl,h1,h2,f1,f2,q⟩:=h
 cases rx
 cases ry
 obtain ⟨i1,v1,t1,_⟩:=I.tuple h1
 obtain ⟨i2,v2,t2,_⟩:=I.tuple h2
 have l1:=v1.length
 have l2:=v2.length
 refine SeqAt.RcNeAt.tuples (e:=fun j=>match xs[j]?,ys[j]? with | some x,some y=>eqV x y | _,_=>true) (show s.heap.IsTuple a i1.toArray from t1) (show s.heap.IsTuple b i2.toArray from t2) hu (fun j h1 h2=> ?_) _ _ _ _ ?_
 ·have b1:j < i1.length:=by simpa using h1
  have b2:j < i2.length:=by simpa using h2
  have e1:xs[j]? =some (xs[j]'(by omega)):=List.getElem?_eq_getElem _
  have e2:ys[j]? =some (ys[j]'(by omega)):=List.getElem?_eq_getElem _
  obtain ⟨u1,g1,r1⟩:=v1.get e1
  obtain ⟨u2,g2,r2⟩:=v2.get e2
  rw [List.getElem?_eq_getElem b1] at g1
  rw [List.getElem?_eq_getElem b2] at g2
  have w1:i1.toArray[j]=u1:=by simpa using Option.some.inj g1
  have w2:i2.toArray[j]=u2:=by simpa using Option.some.inj g2
  rw [w1,w2]
  simp only [e1,e2]
  exact lZ r1 r2 (iJ f1 e1) (iJ f2 e2)
 ·rw [List.size_toArray,List.size_toArray,←l1,←l2,gy xs ys _ (fun j x y h1 h2=>by simp only [h1,h2])]
  exact ⟨.bl (!tH xs ys),H,I,rfl,q⟩
theorem wD(hu:X.A.units < cLine):OpR X (compareOp .Eq) (D7 X.K):=by
 intro pins s σ H x y v u Q I rx ry h
 obtain ⟨a,b,xs,ys,rfl,rfl,h1,h2,f1,f2,q⟩:=h
 cases rx
 cases ry
 obtain ⟨i1,v1,t1,_⟩:=I.tuple h1
 obtain ⟨i2,v2,t2,_⟩:=I.tuple h2
 have l1:=v1.length
 have l2:=v2.length
 refine SeqAt.eq_tupleAt (e:=fun j=>match xs[j]?,ys[j]? with | some x,some y=>eqV x y | _,_=>true) (show s.heap.IsTuple a i1.toArray from t1) (show s.heap.IsTuple b i2.toArray from t2) hu (fun j h1 h2=> ?_) ?_
 ·have b1:j < i1.length:=by simpa using h1
  have b2:j < i2.length:=by simpa using h2
  have e1:xs[j]? =some (xs[j]'(by omega)):=List.getElem?_eq_getElem _
  have e2:ys[j]? =some (ys[j]'(by omega)):=List.getElem?_eq_getElem _
  obtain ⟨u1,g1,r1⟩:=v1.get e1
  obtain ⟨u2,g2,r2⟩:=v2.get e2
  rw [List.getElem?_eq_getElem b1] at g1
  rw [List.getElem?_eq_getElem b2] at g2
  have w1:i1.toArray[j]=u1:=by simpa using Option.some.inj g1
  have w2:i2.toArray[j]=u2:=by simpa using Option.some.inj g2
  rw [w1,w2]
  simp only [e1,e2]
  exact lZ r1 r2 (iJ f1 e1) (iJ f2 e2)
 ·rw [List.size_toArray,List.size_toArray,←l1,←l2,gy xs ys _ (fun j x y h1 h2=>by simp only [h1,h2])]
  exact ⟨.bl (tH xs ys),H,I,rfl,q⟩
end
end L2
set_option maxHeartbeats 4000000
namespace L2
open PySem PySem.Spec PyProof.Rows
section
variable{prog:Program}{w:World}{A:Around}{E:Value→Shared→Prop}{s:Shared}{K:PySem.W.Frag}{x D:Addr}{ox:Obj}{od:Option Obj}
theorem i9{Q:Option Value→Shared→Prop}(X:K.In s.heap)(I:PySem.W.InstAt s.heap x ox D od)(hga:PySem.W.findIn K (.ref D) "__getattribute__"=some (some (.builtin "BaseException.__getattribute__")))
  (hgt:PySem.W.findIn K (.ref D) "__getattr__"=some none) (ha:PySem.W.findIn K (.ref D) "__class__"=some (some (.builtin "object.__class__"))) (hm:PySem.W.mroIn K D (.type "object")=some true) (hsb:PySem.W.subIn K (.ref D) (.type "BaseException")=some true)
  (h:Q (some (.ref D)) {s with toks:=s.toks+1}):wpAny (model prog w) A (getAttr? (.ref x) "__class__") Q E s:=by
 obtain ⟨hh,g,d,t,os⟩:=s
 have L0:=I.type (M:=model prog w)
 have L1:=PySem.W.looks_findIn (M:=model prog w) X hga
 have L2:=PySem.W.looks_findIn (M:=model prog w) X hgt
 have L4:=PySem.W.looks_subIn (M:=model prog w) X hsb
 have f3:=F.excAttr_ValueError.ga.bind (.ref x)
 have hx2:(Value.builtin "BaseException.__getattribute__"==Value.builtin "object.__getattribute__")=false:=by decide+kernel
 have hx1:(onTheHeap (Value.ref D)&&Value.builtin "BaseException.__getattribute__"==Value.builtin "object.__getattribute__")=false:=by rw [hx2];rfl
 have hx0:(false&&onTheHeap (Value.builtin "BaseException.__getattribute__"))=false:=rfl
 unfold getAttr? getAttrBy? getAttrBy
 repeat (any_goals (first | assumption | with_reducible refine L0.at ?_ | with_reducible refine L1.at ?_ | with_reducible refine L2.at ?_ | wp_step))
 refine codeAny_call_builtin F.excAttr_ValueError.ga.plain F.entry_bexc_ga ?_
 have hk:builtinKind "BaseException.__getattribute__"=some .slot:=by decide+kernel
 have hsp:splitId "BaseException.__getattribute__"=some ("BaseException","__getattribute__"):=by decide+kernel
 have har:=F.args_bexc_ga (.ref x) (.str "__class__" t)
 simp only [checkBuiltinCall,hk,hsp]
 refine wpAny_bind ?_
 unfold isInstance
 have L3:=PySem.W.looks_findIn (M:=model prog w) X ha
 have f5:=F.typeOf_object_class
 have f6:=F.slot_gs_get.lookup
 have f7:=F.slot_gs_set.lookup
 have hg:∀{R:Result→Shared→Prop} {A:Around},R (.ok (.ret (.ref D))) ⟨hh,g,d,t+1,os⟩→codeAny (model prog w) A (.call (.builtin "getset_descriptor.__get__") ⟨[.builtin "object.__class__", .ref x, .ref D],[]⟩) R ⟨hh,g,d,t+1,os⟩:=fun hr=>PySem.W.class_get (s:=⟨hh,g,d,t+1,os⟩) X I hm hr
 repeat (any_goals (first | assumption | with_reducible refine L0.at ?_ | with_reducible refine L4.at ?_ | with_reducible refine L3.at ?_ | wp_step))
 refine hg ?_
 repeat (any_goals (first | assumption | wp_step))
end
structure mE(K:PySem.W.Frag)(C:Addr):Prop where
 cls:PySem.W.isClsIn K C=true
 ga:PySem.W.findIn K (.ref C) "__getattribute__"=some (some (.builtin "BaseException.__getattribute__"))
 gt:PySem.W.findIn K (.ref C) "__getattr__"=some none
 cl:PySem.W.findIn K (.ref C) "__class__"=some (some (.builtin "object.__class__"))
 ob:PySem.W.mroIn K C (.type "object")=some true
 be:PySem.W.subIn K (.ref C) (.type "BaseException")=some true
theorem mE.data{K:PySem.W.Frag}{C:Addr}(c:mE K C):∃cl dd cd sl,K.lookup C=some ⟨cl,dd, .cls cd,sl⟩:=by
 have q:=c.cls
 unfold PySem.W.isClsIn PySem.W.clsIn at q
 split at q
 ·rename_i cl dd cd sl ho
  exact ⟨cl,dd,cd,sl,ho⟩
 ·cases q
theorem vj{K:PySem.W.Frag}{x C:Addr}{ox:Obj}(c:mE K C):PySem.W.KitX K (.ref x) (.ref C) (fun h=>∃od,PySem.W.InstAt h x ox C od) where
 ty:=fun _ _ _ ⟨_,I⟩=>I.type
 it:=fun M h X _=>by
  obtain ⟨cl,dd,cd,sl,ho⟩:=c.data
  intro A' Q' E' s' k q
  unfold isType loadHead
  exact wpAny_bind (wpAny_loadPart (k _ _ (X _ _ ho)) (wpAny_pure q))
 ne:=fun h tp dd its n sl X htp=>by
  obtain ⟨cl,dd',cd,sl',ho⟩:=c.data
  refine Bool.eq_false_iff.mpr fun q=> ?_
  have e:C=tp:=Value.ref.inj (beq_iff_eq.mp q)
  rw [←e,X _ _ ho] at htp
  cases htp
 ca:=fun X ⟨_,I⟩ k=>i9 X I c.ga c.gt c.cl c.ob c.be k
section
variable{X:Cx}
end
section
variable{X:Cx}{pins:List (Addr×Obj)}{σ:St}{H:Hp}{s:Shared}{M:Model}{A:Around}{E:Value→Shared→Prop}{Q:Unit→Shared→Prop}{i:Nat}{n:Str}
theorem tD{v:V}(I:Inv X pins σ H s)(hN:X.N.Nodup)(hi:X.N[i]? =some n)(hk:X.env.scope.names.lookup n=some .local)(hv:σ[i]? =some (some v))(h:∀s',Inv X pins (σ.set i none) H s'→Q () s'):wpAny M A (unbindName X.env n) Q E s:=by
 obtain ⟨m,hn,hl⟩:=id I.loc
 obtain ⟨u,r,lk⟩:=hl i n v hi hv (.inl hk)
 have hm:m n=some u:=by
  rcases lk with ⟨_,e⟩ | ⟨k,_⟩
  ·exact e
  ·rcases k with k | k
   ·exact absurd ((show X.env.scope.names.lookup n=some .cell from k).symm.trans hk) (by decide)
   ·exact absurd ((show X.env.scope.names.lookup n=some .free from k).symm.trans hk) (by decide)
 have hcls:(X.env.scope.kind== .class || (X.env.scope.kind== .module&&X.env.locals != X.env.globals))=false:=by rw [I.ok.kind];rfl
 obtain ⟨oL,_,_,hoL,_⟩:=id hn
 refine wpAny_unbindName_local hk hn hm hcls fun h' u' hn' hs=>h _ ⟨I.ok,I.os,I.bare,⟨fun b o e n hb hx=> ?_,fun b o e n hb hx=> ?_,I.base.free,fun b o e hx=> ?_,I.base.tups,I.base.frzs,I.base.tbls⟩,⟨_,hn',fun j y v' e1 e2 e3=> ?_⟩,fun y c e=> ?_,I.free,I.freeC,fun p hp=> ?_,fun b ob e=> ?_,by simpa using I.len⟩
 ·exact (hs.2 b (Nat.ne_of_lt (Nat.lt_of_lt_of_le (Heap.lt_size e) I.ok.above))).trans (I.base.keep b o e n hb hx)
 ·obtain ⟨sl,e1⟩:=I.base.slot b o e n hb hx
  exact ⟨sl,(hs.2 b (Nat.ne_of_lt (Nat.lt_of_lt_of_le (Heap.lt_size e) I.ok.above))).trans e1⟩
 ·obtain ⟨o',e1⟩:=I.base.there b o e hx
  exact ⟨o',(hs.2 b (Nat.ne_of_lt (Nat.lt_of_lt_of_le (Heap.lt_size e) I.ok.above))).trans e1⟩
 ·by_cases hj:j=i
  ·subst hj
   have hlt:j < σ.length:=(List.getElem?_eq_some_iff.mp hv).1
   rw [List.getElem?_set_self hlt] at e2
   cases e2
  ·rw [List.getElem?_set_ne (Ne.symm hj)] at e2
   obtain ⟨u2,r2,q⟩:=hl j y v' e1 e2 e3
   refine ⟨u2,r2, ?_⟩
   rcases q with ⟨k,e⟩ | ⟨k,c,e,z⟩
   ·refine .inl ⟨k, ?_⟩
    have:y≠n:=fun e=>hj (j5 hN e1 (e▸hi))
    simp [this,e]
   ·exact .inr ⟨k,c,e,z.sameBut hs (I.cne y c e)⟩
 ·obtain ⟨w',z⟩:=I.cell y c e
  exact ⟨w',z.sameBut hs (I.cne y c e)⟩
 ·obtain ⟨e,n,ne,nf,d⟩:=I.pin p hp
  exact ⟨(hs.2 p.1 ne).trans e,n,ne,nf,d⟩
 ·refine (I.hok b ob e).stay (fun c w' hc q=>(hs.2 c ?_).trans q) (fun _ q=>q) fun _ _ q=>q
  rintro rfl
  have fr:=I.free
  rcases hc with hc | hc
  ·rw [hc,e] at fr;cases fr
  ·rw [hc] at fr;cases fr
theorem r8{pos:Pos}(I:Inv X pins σ H s)(hN:X.N.Nodup)(hi:X.N[i]? =some n)(hk:X.env.scope.names.lookup n=some .local)(h:∀s',Inv X pins (σ.set i none) H s'→Q () s'):
  wpAny M A (do bindName X.env n .none;unbindBehindTheSuite X.env n pos) Q E s:=by
 have hlt:i < σ.length:=by rw [I.len];exact (List.getElem?_eq_some_iff.mp hi).1
 refine wpAny_bind (wpAny_bindName (eT I hN hi (.inl hk) (v:= .non) rfl (fun s1 I1=> ?_) (.inr hk)))
 unfold unbindBehindTheSuite
 refine wpAny_onRaise (tD I1 hN hi hk (v:= .non) (by rw [List.getElem?_set_self hlt]) fun s2 I2=>h s2 ?_)
 rw [List.set_set] at I2
 exact I2
end
section
variable{X:Cx}{body:List Stmt}{D:Addr}{dn n:Str}{i:Nat}{b₀:Stmt}{suite:List Stmt}{pos hpos np:Pos}{tb:(St→XK)→TS}{ts:Addr→Addr→Option Addr→TS}{bmB':List Value}{newId':String}
end
section
variable{prog:Program}{w:World}{A:Around}{E:Value→Shared→Prop}{s:Shared}
end
theorem qZ(bs:List Bool):(List.range bs.length).any (fun i=>bs.getD i false)=bs.any id:=by
 induction bs with
 | nil=>rfl
 | cons b bs ih=>
  rw [List.length_cons,List.range_succ_eq_map,List.any_cons,List.any_map,List.any_cons,←ih]
  rfl
theorem mM:∀{bs:List Bool} {us:List Value},bz (bs.map V.bl) us→us=bs.map Value.bool
 | [],_,r=>by cases r;rfl
 | b::bs,_,r=>by
  cases r with
  | cons h t=>
   cases h
   rw [mM t]
   rfl
theorem oz{prog:Program}{w:World}{A:Around}{bs:List Bool}:TruthOf prog w A (fun i v=>(bs.map Value.bool).toArray[i]? =some v) (fun i=>bs.getD i false):=by
 intro i v s Q E h q
 have h':(bs.map Value.bool)[i]? =some v:=by simpa using h
 rw [List.getElem?_map] at h'
 cases e:bs[i]? with
 | none=>rw [e] at h';cases h'
 | some b=>
  rw [e] at h'
  cases h'
  have q':Q b s:=by
   have eb:bs.getD i false=b:=by rw [List.getD_eq_getElem?_getD,e];rfl
   exact eb▸q
  exact wpAny_truthy_bool q'
def Ea(K:PySem.W.Frag):List V→Hp→VK→Prop:=fun xs H Q=>∃(p:Addr) (bs:List Bool),xs=[.ref p]∧SqL K H p (bs.map V.bl)∧Q (.bl (bs.any id)) H
section
variable{X:Cx}
theorem vS (hc : X.calm = true) : dH X (.builtin "any") (Ea X.K) := by
  intro pins s σ H xs us Q I r h
  obtain ⟨p, bs, rfl, hq, q⟩ := h
  obtain ⟨u, rfl, r1⟩ := kH r
  cases r1
  obtain ⟨its, rv, pl, hz⟩ := I.list hq
  have eits := mM rv
  subst eits
  refine call_any_walk (wpAny_pyIter_list pl.isList ?_)
  have lp : p < s.heap.objs.size := by obtain ⟨o, e, _⟩ := pl.isList; exact Heap.lt_size e
  refine ⟨s.heap.objs.size, _, _, _, _, _, fun i => bs.getD i false, rfl, Walks.list (show X.A.in1.handled = none from I.ok.hd hc) s.heap.objs.size p (Nat.ne_of_lt lp) (bs.map Value.bool).toArray, ⟨⟨_, Heap.get?_push_size _ rfl, rfl, rfl⟩, pl.isList.at fun o e => Heap.get?_push_of_some _ e⟩, oz, fun h' tk hk => ?_⟩
  refine ⟨.bl (bs.any id), H, I.kept fun b o e => hk b o (fun z => by have : b = s.heap.objs.size := by simpa using z
                                                                      exact Nat.lt_irrefl _ (this ▸ Heap.lt_size e)) (Heap.get?_push_of_some _ e), ?_, q⟩
  rw [List.size_toArray, List.length_map, qZ]
  rfl
end
end L2
set_option maxRecDepth 100000
set_option maxHeartbeats 4000000
namespace PySem
open Sem (wp)
section
variable{prog:Program}{w:World}{A:Around}{E:Value→Shared→Prop}{h:Heap}{g:Array GenState}{d:Drawn}{t:Nat}{os:OsState}
variable{nm q:Str}{C N:Addr}{bs bm bmB:List Value}{hdct:Bool}{sn:List Str}{sub:List Value}{ab:Bool}{col:Option Bool}{dd:Option Addr}{k0 k1 k2 k3 k5:Option Value}{B newId initId:String}
theorem hJ(F:ExcBaseFacts B newId initId bmB)(T:OwnTail h bmB bm){mN:Str→Option Value}{rest:List Value}{fI:Addr}{oI:Obj}{Q:Fin→Shared→Prop}
  (hC:h.get? C=some (excClassObj nm q C N bs bm hdct sn sub ab col dd k0 k1 k2 k3 k5 newId)) (hn:h.Ns N mN) (hi:mN "__init__"=some (.ref fI))
  (hfI:h.get? fI=some oI) (hfc:oI.cls= .type "function")
  (hq:∀h' e,Heap.MadeExcOf h h' e (.ref C) rest→
   wpAny (model prog w) A (call (.ref fI) (.ref e::rest)) (fun r s'=>r= .none∧Q (.done (.ret (.ref e))) s') E ⟨h',g,d,t,os⟩) (hrest:rest.length≤sizeLine:=by size_fits):
  wpAny (model prog w) A (Builtin.«type.__call__» ⟨.ref C::rest,[]⟩) Q E ⟨h,g,d,t,os⟩:=by
 repeat (first | with_reducible refine wpAny_loadPart_at hC ?_ | with_reducible refine wpAny_madeBy_exc hC ?_ | wp_step)
 refine codeAny_call_builtin_code (Code.quiet_builtin _ F.quiet) (wpAny_check_new_subT F T hC ?_)
 refine codeAny_exc_new_subT F T hC ?_ hrest
 show wpAny _ _ _ _ _ _
 have hC₁:=Heap.get?_push_of_some {cls:= .ref C,data:= .fields #[.ref h.objs.size, .none, .none, .none, .bool false, .none]}
  (Heap.get?_push_of_some {cls:= .type "tuple",data:= .seq rest.toArray} hC)
 have hfI₁:=Heap.get?_push_of_some {cls:= .ref C,data:= .fields #[.ref h.objs.size, .none, .none, .none, .bool false, .none]}
  (Heap.get?_push_of_some {cls:= .type "tuple",data:= .seq rest.toArray} hfI)
 have hn₁:((h.push {cls:= .type "tuple",data:= .seq rest.toArray}).push {cls:= .ref C,data:= .fields #[.ref h.objs.size, .none, .none, .none, .bool false, .none]}).Ns N mN:=
  let ⟨o,es,ep,e,r⟩:=hn;⟨o,es,ep,Heap.get?_push_of_some _ (Heap.get?_push_of_some _ e),r⟩
 have hget:((h.push {cls:= .type "tuple",data:= .seq rest.toArray}).push
   {cls:= .ref C,data:= .fields #[.ref h.objs.size, .none, .none, .none, .bool false, .none]}).get? (h.objs.size+1)=some
   {cls:= .ref C,data:= .fields #[.ref h.objs.size, .none, .none, .none, .bool false, .none]}:=by heap_get
 have hcC:(Value.ref C::bm).contains (.ref C)=true:=by simp
 have T₁:=T.keeps (h':=(h.push {cls:= .type "tuple",data:= .seq rest.toArray}).push {cls:= .ref C,data:= .fields #[.ref h.objs.size, .none, .none, .none, .bool false, .none]})
  fun b o e=>Heap.get?_push_of_some _ (Heap.get?_push_of_some _ e)
 unfold isInstance
 repeat (first | with_reducible refine wpAny_loadPart_at hget ?_ | (with_reducible refine wpAny_isSubtype_exc hC₁ ?_;rw [hcC]) | wp_step)
 show wpAny _ _ (typeLookup (.ref C) _) _ _ _
 refine wpAny_typeLookup_tail hC₁ hn₁ T₁ F.mroIs F.init.lookup ?_
 rw [hi]
 refine wpAny_holding (wpAny_bind ?_)
 unfold bindSpecial
 refine wpAny_bind (wpAny_typeOf (T:="function") ⟨_,hfI₁,hfc⟩ ?_)
 rw [if_pos (by decide)]
 refine wpAny_pure (wpAny_bind (wpAny_mono (hq _ (h.objs.size+1) ⟨fun b o hb=>Heap.get?_push_of_some _ (Heap.get?_push_of_some _ hb),Heap.get?_none_of_le (Nat.le_succ _),h.objs.size,hget,Heap.get?_none_of_le (Nat.le_refl _), ?_⟩) (fun r s' hr=> ?_) fun _ _ x=>x))
 ·exact Heap.get?_push_of_some _ (Heap.get?_push_at rfl rfl)
 ·obtain ⟨rfl,hQ⟩:=hr
  wp_walk
  exact hQ
theorem pH(F:ExcBaseFacts B newId initId bmB)(T:OwnTail h bmB bm){mN:Str→Option Value}{rest:List Value}{fI:Addr}{oI:Obj}{Q:Value→Shared→Prop}
  (hC:h.get? C=some (excClassObj nm q C N bs bm hdct sn sub ab col dd k0 k1 k2 k3 k5 newId)) (hn:h.Ns N mN) (hi:mN "__init__"=some (.ref fI))
  (hfI:h.get? fI=some oI) (hfc:oI.cls= .type "function")
  (hq:∀h' e,Heap.MadeExcOf h h' e (.ref C) rest→
   wpAny (model prog w) (A.under (.builtin "type.__call__" ⟨.ref C::rest,[]⟩)) (call (.ref fI) (.ref e::rest)) (fun r s'=>r= .none∧Q (.ref e) s') E ⟨h',g,d,t,os⟩) (hrest:rest.length≤sizeLine:=by size_fits):
  wpAny (model prog w) A (call (.ref C) rest) Q E ⟨h,g,d,t,os⟩:=by
 have f1:=tc_lookup
 have f2:=tc_bind (.ref C)
 have hT:(⟨h,g,d,t,os⟩:Shared).TypeIs (.ref C) "type":=⟨_,hC,rfl⟩
 refine wpAny_call (codeAny_of_tree ?_)
 show wpAny _ _ (callAny (.ref C) _) _ _ _
 repeat (any_goals (first | assumption | with_reducible refine wpAny_loadPart_at hC ?_ | wp_step))
 refine ⟨rfl, ?_⟩
 refine codeAny_call_builtin_at (Code.quiet_builtin _ (by decide+kernel)) entry_typeCall (wpAny_check_type_call_sub hC (hJ (hrest:=hrest) F T hC hn hi hfI hfc fun h' e hm=> ?_))
 exact hq h' e hm
theorem pI(F:ExcBaseFacts B newId initId bmB)(T:OwnTail h bmB bm){rest:List Value}{e t0:Addr}{oe:Obj}{vs:Array Value}{Q:Value→Shared→Prop}
  (hC:h.get? C=some (excClassObj nm q C N bs bm hdct sn sub ab col dd k0 k1 k2 k3 k5 newId)) (he:h.get? e=some oe) (hcls:oe.cls= .ref C) (hdat:oe.data= .fields vs) (h0:vs[0]? =some (.ref t0))
  (hq:∀h',(∀b o,b≠e→h.get? b=some o→h'.get? b=some o)→h'.get? e=some (Obj.mapFields (·.setIfInBounds 0 (.ref h.objs.size)) oe)→Q .none ⟨h',g,d,t,os⟩) (hrest:rest.length≤sizeLine:=by size_fits):
  wpAny (model prog w) A (call (.builtin initId) (.ref e::rest)) Q E ⟨h,g,d,t,os⟩:=by
 refine wpAny_call (codeAny_call_builtin F.init.plain F.initEntry (wpAny_check_init_subT F T hC he hcls ?_))
 unfold Builtin.«BaseException.__init__»
 dsimp only
 rw [if_neg (by simp)]
 unfold newTuple Builtin.BaseException.bexcPut
 have hsz:0 < vs.size:=(Array.getElem?_eq_some_iff.mp h0).1
 have he₁:=Heap.get?_push_of_some (h:=h) {cls:= .type "tuple",data:= .seq rest.toArray} he
 refine wpAny_bind (wpAny_newObj_type (wpAny_bind (wpAny_bind (wpAny_field he₁ hdat h0 (wpAny_bind (wpAny_setField he₁ hdat hsz ?_))))) (by show rest.toArray.size≤sizeLine;rw [List.size_toArray];exact hrest))
 refine wpAny_letGo (wpAny_pure (hq _ (fun b o nb hb=> ?_) ?_))
 ·rw [Heap.get?_update_other _ _ (Ne.symm nb)]
  exact Heap.get?_push_of_some _ hb
 ·rw [Heap.get?_update_self _ he₁ (Obj.isFreed_of_fields (Obj.data_mapFields hdat _))]
end
end PySem
namespace PySem.W
open PySem PySem.Builtin PySem.Builtin.ObjectAttr
theorem oE:Slot "BaseException" "__getattribute__" "BaseException.__getattribute__":=
 .of (owner:="BaseException") (n:="__getattribute__") (by rw [typeLookup_type,builtinLookup_eq_fast];kernel_rfl) (by decide+kernel) (by decide+kernel) (by decide+kernel)
  (by first | exact .inl (by decide+kernel) | exact .inr (by decide+kernel)) (by rw [isSubtype_type];kernel_rfl)
theorem tM:entryFor table "BaseException.__getattribute__"=some Builtin.«object.__getattribute__»:=entryFor_alias (id':="object.__getattribute__") (by rw [fastTable_eq_tree];kernel_rfl) (by decide+kernel) (by decide+kernel) (by rw [fastTable_eq_tree];kernel_rfl)
theorem vV(a b:Value):argsOk "BaseException.__getattribute__" ⟨[a,b],[]⟩:=by unfold argsOk;kernel_rfl
def jJ(l:List Value):Bool:=l==[.type "ValueError", .type "Exception", .type "BaseException", .type "object"]
def mO:List Value→Bool
 | .ref c::r=>jJ (.ref c::r) || mO r
 | l=>jJ l
theorem ig(self:Value){l:List Value}(e:jJ l=true):refuseLoop self "__setattr__" l=pure ():=by rw [beq_iff_eq.mp e];exact PySem.F.store_ValueError.passes self
theorem jn(self:Value):∀(l:List Value),mO l=true→refuseLoop self "__setattr__" l=pure ()
 | [],e=>ig self e
 | v::r,e=>by
  cases v with
  | ref c=>
   rw [refuseLoop_ref]
   rcases (Bool.or_eq_true _ _).mp e with z | z
   ·exact absurd z (by unfold jJ;simp)
   ·exact jn self r z
  | _=>exact ig self e
section
variable{prog:Program}{w:World}{A:Around}{E:Value→Shared→Prop}{s:Shared}{K:Frag}{x C:Addr}{ox:Obj}{od:Option Obj}{name:Str}{v:Value}
theorem xget{expr:Bool}{Q:Value→Shared→Prop}(X:K.In s.heap)(I:InstAt s.heap x ox C od)(hga:findIn K (.ref C) "__getattribute__"=some (some (.builtin "BaseException.__getattribute__")))(hk:findIn K (.ref C) "__getattr__"=some none)
  (hi:subIn K (.ref C) (.type "BaseException")=some true) (hf:findObj K C od name=some (.value v)) (hh:handedIn v=true) (h:Q v {s with toks:=s.toks+1}):wpAny (model prog w) A (getAttr (.ref x) name expr) Q E s:=by
 have L0:=I.type (M:=model prog w)
 refine wpAny_bind (wpAny_mkText (wpAny_holding (wpAny_bind (L0 _ _ _ _ (fun _ _ e=>e) (wpAny_bind (looks_findIn X hga _ _ _ _ (fun _ _ e=>e) ?_))))))
 dsimp only
 rw [show (onTheHeap (Value.ref C)&&Value.builtin "BaseException.__getattribute__"==Value.builtin "object.__getattribute__")=false from by rw [show (Value.builtin "BaseException.__getattribute__"==Value.builtin "object.__getattribute__")=false from by decide+kernel,Bool.and_false],if_neg (by decide)]
 have hb:Looks (model prog w) s.heap (hookBefore (.ref C)) none:=looks_hook X (mc:= .ref C) hk
 refine wpAny_bind (hb _ _ _ _ (fun _ _ e=>e) (wpAny_bind (wpAny_attempt (wpAny_holding ?_))))
 unfold callGetattribute
 rw [show (expr&&onTheHeap (Value.builtin "BaseException.__getattribute__"))=false from Bool.and_false _,if_neg (by decide)]
 unfold boundAndCalled
 rw [oE.bind]
 refine wpAny_bind (wpAny_pure ?_)
 show wpAny _ _ (call (.builtin "BaseException.__getattribute__") [.ref x, .str name s.toks]) _ _ _
 refine wpAny_call ?_
 refine codeAny_call_builtin oE.plain tM ?_
 refine @check_slot (model prog w) _ _ {s with toks:=s.toks+1} "BaseException.__getattribute__" "BaseException" "__getattribute__" (.ref x) [.str name s.toks] [] _ (by decide+kernel) (by decide+kernel) (L0.andThen (looks_subIn X hi)) (vV (.ref x) (.str name s.toks)) ?_
 have L1:=looks_find (M:=model prog w) X I hf
 unfold Builtin.«object.__getattribute__»
 refine wpAny_bind (wpAny_pure ?_)
 refine wpAny_bind (wpAny_pure (wpAny_bind (L0.here (s:={s with toks:=s.toks+1}) (wpAny_bind (L1.here (s:={s with toks:=s.toks+1}) ?_)))))
 refine wpAny_pure ?_
 show wpAny _ _ (handedOut v) _ _ _
 rw [handedOut_of hh];exact wpAny_pure h
end
end PySem.W
namespace PySem.W
open PySem PySem.Builtin PySem.Builtin.ObjectAttr
section
variable{prog:Program}{w:World}{A:Around}{E:Value→Shared→Prop}{s:Shared}{K:Frag}{x C:Addr}{ox:Obj}{od:Option Obj}{name:Str}{v:Value}{R:Result→Shared→Prop}
def excOver(K:Frag)(C:Addr):Bool:=(clsIn K C).any fun cd=>mO cd.mro&&cd.mro.contains (.type "object")&& !cd.mro.isEmpty&&cd.hasDict
theorem DR{tk:Tok}(X:K.In s.heap)(I:InstAt s.heap x ox C od)(hp:excOver K C=true)(ht:takerIn K C name=some none)
  (h:∀b cd,clsIn K C=some cd→cd.hasDict=true→wpAny (model prog w) A.in1 (storeInOwnDict (.ref x) (.ref C) (.str name tk) name v b)
   (fun fin s'=>match fin with | .done f=>R (.ok f) s' | .again c'=>c'.quiet=true∧codeAny (model prog w) A c' R s') (fun e s'=>R (.error e) s') s):
  codeAny (model prog w) A (.call (.builtin "object.__setattr__") ⟨[.ref x, .str name tk,v],[]⟩) R s:=by
 have SF:=PySem.F.store_object
 obtain ⟨cd,hc,ho⟩:=any_some hp
 rw [Bool.and_eq_true,Bool.and_eq_true,Bool.and_eq_true] at ho
 obtain ⟨⟨⟨ho,h2⟩,h3⟩,h4⟩:=ho
 have ne:cd.mro.isEmpty=false:=by simpa using h3
 have sub:Looks (model prog w) s.heap (isInstance (.ref x) (.type "object")) true:=I.type.andThen (looks_mroIn X (by unfold mroIn;rw [hc,Option.bind_some,if_neg (by rw [ne];decide),h2]))
 refine codeAny_call_builtin SF.slot.plain SF.entry (@check_slot (model prog w) _ _ s "object.__setattr__" "object" "__setattr__" (.ref x) [.str name tk,v] [] _ SF.kind SF.split sub (SF.args (.ref x) (.str name tk) v) ?_)
 obtain ⟨attr,ha,hr⟩:=Option.bind_eq_some_iff.mp ht
 have hm:Looks (model prog w) s.heap (mroOf (.ref C)) cd.mro:=(looks_clsIn X hc).andThen .now
 have L3:Looks (model prog w) s.heap (storeTaker? attr) none:=by
  cases attr with
  | none=>exact .now
  | some a=>
   obtain ⟨b,hb,e⟩:=Option.map_eq_some_iff.mp hr
   refine (looks_takesIn X hb).andThen ?_
   cases b
   ·exact .now
   ·cases e
 rw [osa_eq,refuse_eq]
 refine wpAny_bind (wpAny_bind (I.type.here (wpAny_bind (hm.here ?_))))
 rw [jn _ _ ho]
 refine wpAny_pure (wpAny_bind (I.type.here (wpAny_bind ((looks_findIn X ha).here (wpAny_bind (L3.here ?_))))))
 exact h _ cd hc h4
abbrev excObj(C:Addr)(od:Option Addr)(vs:Array Value):Obj:={cls:= .ref C,dict:=od,data:= .fields vs}
theorem xset0{vs:Array Value}{Q:Unit→Shared→Prop}(X:K.In s.heap)(hx:s.heap.get? x=some (excObj C none vs))
  (hs:findIn K (.ref C) "__setattr__"=some (some (.builtin "object.__setattr__"))) (hp:excOver K C=true) (ht:takerIn K C name=some none)
  (h:∀h' dx,s.heap.get? dx=none→dx≠x→(∀b o,b≠x→s.heap.get? b=some o→h'.get? b=some o)→h'.get? x=some (excObj C (some dx) vs)→h'.Ns1 dx (fun y=>if y=name then some v else none)→Q () {s with heap:=h',toks:=s.toks+2}):
  wpAny (model prog w) A (setAttr (.ref x) name v) Q E s:=by
 have I:InstAt s.heap x (excObj C none vs) C none:=⟨hx,rfl,rfl,trivial⟩
 refine set_plain X I hs (DR (s:={s with toks:=s.toks+1}) X I hp ht fun b cd hc hd'=> ?_)
 refine wpAny_bind (wpAny_pure (wpAny_bind ?_))
 show wpAny _ _ (instanceDict x true) _ _ _
 unfold instanceDict
 refine wpAny_bind (wpAny_loadPart hx ?_)
 dsimp only
 refine wpAny_bind (Looks.here (s:={s with toks:=s.toks+1}) (looks_clsIn X hc) ?_)
 rw [hd',if_neg (by decide),if_neg (by simp [typeHasDict])]
 have hx₁:(s.heap.push {cls:= .type "dict",data:= .dict #[]}).get? x=some (excObj C none vs):=Heap.get?_push_of_some _ hx
 have hxs:x≠s.heap.objs.size:=Nat.ne_of_lt (Heap.lt_size hx)
 refine wpAny_bind (wpAny_alloc' ?_)
 refine wpAny_bind (wpAny_update' hx₁ ?_)
 refine wpAny_pure ?_
 have hgd:((s.heap.push {cls:= .type "dict",data:= .dict #[]}).update x fun o=>{cls:=o.cls,dict:=some s.heap.objs.size,data:=o.data,slots:=o.slots}).get? s.heap.objs.size
   =some {cls:= .type "dict",data:= .dict #[]}:=
  (Heap.get?_update_ne _ _ _ _ hxs.symm).trans (Heap.get?_push_at rfl rfl)
 have hnd:((s.heap.push {cls:= .type "dict",data:= .dict #[]}).update x fun o=>{cls:=o.cls,dict:=some s.heap.objs.size,data:=o.data,slots:=o.slots}).Ns s.heap.objs.size (fun _=>none):=
  ⟨_, #[],_,hgd,rfl,fun e he=>absurd he (by simp),fun _=>rfl⟩
 show wpAny _ _ (storeInDict s.heap.objs.size (.str name s.toks) name v) _ _ _
 unfold storeInDict newKeyGuard
 refine wpAny_bind (wpAny_pure (wpAny_bind (wpAny_nsSet1 (Heap.Ns1.of_empty hnd) fun h' hn' hs=> ?_)))
 obtain ⟨oD,esD,epD,hoD,hdD,hcD⟩:=hn'.count (Within.cons name v Within.nil)
 refine wpAny_bind (wpAny_lookBehind hoD (by rw [hdD];exact pastItsLine_dict (Nat.le_trans hcD (by rw [List.length_cons,List.length_nil,sizeLine_eq];omega))) ?_)
 refine wpAny_pure (h h' s.heap.objs.size (Heap.get?_none_of_le (Nat.le_refl _)) hxs.symm (fun b ob hbx hb=> ?_) ?_ hn')
 ·exact (hs.2 b (Nat.ne_of_lt (Heap.lt_size hb))).trans ((Heap.get?_update_ne _ _ _ _ hbx).trans (Heap.get?_push_of_some _ hb))
 ·exact (hs.2 x hxs).trans (Heap.get?_update_self _ hx₁ rfl)
theorem xset1{vs:Array Value}{dx:Addr}{mA:Str→Option Value}{ns:List Str}{Q:Unit→Shared→Prop}(X:K.In s.heap)(hx:s.heap.get? x=some (excObj C (some dx) vs))(hne:dx≠x)(hns:s.heap.Ns1 dx mA)(hw:Within mA ns)(hsz:ns.length≤1000)
  (hs:findIn K (.ref C) "__setattr__"=some (some (.builtin "object.__setattr__"))) (hp:excOver K C=true) (ht:takerIn K C name=some none)
  (h:∀h',(∀b o,b≠dx→s.heap.get? b=some o→h'.get? b=some o)→h'.Ns1 dx (fun y=>if y=name then some v else mA y)→Q () {s with heap:=h',toks:=s.toks+2}):
  wpAny (model prog w) A (setAttr (.ref x) name v) Q E s:=by
 obtain ⟨o0,_,_,ho0,_⟩:=id hns
 have I:InstAt s.heap x (excObj C (some dx) vs) C (some o0):=⟨hx,rfl,rfl,ho0⟩
 refine set_plain X I hs (DR (s:={s with toks:=s.toks+1}) X I hp ht fun b cd hc hd'=> ?_)
 refine wpAny_bind (wpAny_pure (wpAny_bind ?_))
 show wpAny _ _ (instanceDict x true) _ _ _
 unfold instanceDict
 refine wpAny_bind (wpAny_loadPart hx ?_)
 dsimp only
 refine wpAny_bind (Looks.here (s:={s with toks:=s.toks+1}) (looks_clsIn X hc) ?_)
 rw [hd',if_neg (by decide)]
 refine wpAny_pure ?_
 show wpAny _ _ (storeInDict dx (.str name s.toks) name v) _ _ _
 unfold storeInDict newKeyGuard
 refine wpAny_bind (wpAny_pure (wpAny_bind (wpAny_nsSet1 (s:={s with toks:=s.toks+1}) hns fun h' hn' hs=> ?_)))
 obtain ⟨oD,esD,epD,hoD,hdD,hcD⟩:=hn'.count (Within.cons name v hw)
 refine wpAny_bind (wpAny_lookBehind hoD (by rw [hdD];exact pastItsLine_dict (Nat.le_trans hcD (by rw [List.length_cons,sizeLine_eq];omega))) ?_)
 exact wpAny_pure (h h' (fun b ob hb e=>(hs.2 b hb).trans e) hn')
end
end PySem.W
namespace PySem
open Sem (wp)
section
variable{M:Model}{A:Around}{E:Value→Shared→Prop}{env:Env}
variable{nm q:Str}{C N:Addr}{bs bm:List Value}{hdct:Bool}{sn:List Str}{sub:List Value}{ab:Bool}{col:Option Bool}{dd:Option Addr}{k0 k1 k2 k3 k5:Option Value}{newId:String}
theorem fZ{s:Shared}{x:Sem Value}{Q:Flow→Shared→Prop}(hbase:bm.contains (.type "BaseException")=true)(hh:A.handled=none)
  (h:wpAny M A x (fun v s₁=>∃e od vs,v= .ref e∧s₁.heap.get? C=some (excClassObj nm q C N bs bm hdct sn sub ab col dd k0 k1 k2 k3 k5 newId)∧
   s₁.heap.get? e=some (PySem.W.excObj C od vs)∧vs[1]? =some .none∧E (.ref e) s₁) E s):
  wpAny M A (raiseStmt env (some x) none) Q E s:=by
 have hcB:(Value.ref C::bm).contains (.type "BaseException")=true:=by rw [List.contains_cons,hbase,Bool.or_true]
 unfold raiseStmt
 refine wpAny_bind (wpAny_mono h (fun v s₁ h₁=> ?_) fun _ _ x=>x)
 obtain ⟨e,od,vs,rfl,hC,he,h1,hE⟩:=h₁
 obtain ⟨hp,g,d,tk,os⟩:=s₁
 repeat (first | with_reducible refine wpAny_field he rfl h1 ?_ | with_reducible refine wpAny_loadPart_at he ?_ | with_reducible refine wpAny_loadPart_at hC ?_ | (with_reducible refine wpAny_isSubtype_exc hC ?_;rw [hcB]) | wp_step)
 exact wpAny_raiseNew_none hh hE
end
section
variable{prog:Program}{w:World}{A:Around}{E:Value→Shared→Prop}{s:Shared}{env:Env}
variable{nm q:Str}{C N fI:Addr}{bs bm bmB:List Value}{hdct:Bool}{sn:List Str}{sub:List Value}{ab:Bool}{col:Option Bool}{dd:Option Addr}{k0 k1 k2 k3 k5:Option Value}{B newId initId:String}
theorem mK(F:ExcBaseFacts B newId initId bmB){mN:Str→Option Value}{x:Str}{np cpos pos:Pos}{args:List Expr}{Q:Flow→Shared→Prop}
  (hbase:bm.contains (.type "BaseException")=true) (hh:A.handled=none) (hplain:(backTo cpos (starEach args env)).any (·.1)=false) (hi:mN "__init__"=some (.ref fI))
  (h :wpAny (model prog w) A (eval (.Name x np) env) (fun f s₁=>f= .ref C∧wpAny (model prog w) A (evalArgs (.ref C) true (backTo cpos (starEach args env)) [])
   (fun a s₂=>a.kw=[]∧a.pos.length≤sizeLine∧s₂.heap.get? C=some (excClassObj nm q C N bs bm hdct sn sub ab col dd k0 k1 k2 k3 k5 newId)∧s₂.heap.Ns N mN∧OwnTail s₂.heap bmB bm∧(∃oI,s₂.heap.get? fI=some oI∧oI.cls= .type "function")∧
    ∀h' e,Heap.MadeExcOf s₂.heap h' e (.ref C) a.pos→wpAny (model prog w) (A.under (.builtin "type.__call__" ⟨.ref C::a.pos,[]⟩)) (call (.ref fI) (.ref e::a.pos))
     (fun r s'=>r= .none∧s'.heap.get? C=some (excClassObj nm q C N bs bm hdct sn sub ab col dd k0 k1 k2 k3 k5 newId)∧∃od vs,s'.heap.get? e=some (PySem.W.excObj C od vs)∧vs[1]? =some .none∧E (.ref e) s') E {s₂ with heap:=h'}) E s₁) E s):
  wpAny (model prog w) A (exec (.Raise (some (.Call (.Name x np) args [] cpos)) none pos) env) Q E s:=by
 rw [arm_exec_Raise]
 first
  | refine wpAny_bind (wpAny_standAt (fZ (C:=C) (nm:=nm) (q:=q) (N:=N) (bs:=bs) (bm:=bm) (hdct:=hdct) (sn:=sn) (sub:=sub) (ab:=ab) (col:=col) (dd:=dd) (k0:=k0) (k1:=k1) (k2:=k2) (k3:=k3) (k5:=k5) (newId:=newId) hbase hh (wpAny_bind (wpAny_mono (wpAny_Call_ofName (wpAny_mono h (fun f s₁ h₁=> ?_) fun _ _ x=>x)) (fun v s₃ h₃=>wpAny_bind (wpAny_standAt (wpAny_pure h₃))) fun _ _ x=>x))))
  | (simp only [evalOpt,Option.map];refine wpAny_bind (wpAny_standAt (fZ (C:=C) (nm:=nm) (q:=q) (N:=N) (bs:=bs) (bm:=bm) (hdct:=hdct) (sn:=sn) (sub:=sub) (ab:=ab) (col:=col) (dd:=dd) (k0:=k0) (k1:=k1) (k2:=k2) (k3:=k3) (k5:=k5) (newId:=newId) hbase hh (wpAny_bind (wpAny_mono (wpAny_Call_ofName (wpAny_mono h (fun f s₁ h₁=> ?_) fun _ _ x=>x)) (fun v s₃ h₃=>wpAny_bind (wpAny_standAt (wpAny_pure h₃))) fun _ _ x=>x)))))
  | (refine wpAny_bind (wpAny_standAt (fZ (C:=C) (nm:=nm) (q:=q) (N:=N) (bs:=bs) (bm:=bm) (hdct:=hdct) (sn:=sn) (sub:=sub) (ab:=ab) (col:=col) (dd:=dd) (k0:=k0) (k1:=k1) (k2:=k2) (k3:=k3) (k5:=k5) (newId:=newId) hbase hh ?_));refine wpAny_bind (wpAny_mono (wpAny_Call_ofName (wpAny_mono h (fun f s₁ h₁=> ?_) fun _ _ x=>x)) (fun v s₃ h₃=>wpAny_bind (wpAny_standAt (wpAny_pure h₃))) fun _ _ x=>x))
 obtain ⟨rfl,h₁⟩:=h₁
 unfold callWith
 refine wpAny_bind (wpAny_holding (wpAny_mono h₁ (fun a s₂ h₂=>wpAny_bind (wpAny_standAt ?_)) fun _ _ x=>x))
 obtain ⟨apos,akw⟩:=a
 obtain ⟨hkw,hlen,hC,hn,T,⟨oI,hfI,hfc⟩,h₂⟩:=h₂
 obtain rfl:akw=[]:=hkw
 obtain ⟨hp,g,d,tk,os⟩:=s₂
 simp only [hplain]
 refine wpAny_bind (wpAny_keeperOf_exc hC ?_)
 refine wpAny_bind (pH (hrest:=hlen) F T hC hn hi hfI hfc fun h' e hm=>wpAny_mono (h₂ h' e hm) (fun r s' hr=> ?_) fun _ _ x=>x)
 obtain ⟨rfl,hC',od,vs,he,h1,hE⟩:=hr
 exact ⟨rfl,wpAny_bind (wpAny_holding (wpAny_point (wpAny_pure ⟨e,od,vs,rfl,hC',he,h1,hE⟩)))⟩
end
end PySem
namespace L2
open PySem PySem.Spec PyProof.Rows
def xO(a C:Addr)(od:Option Addr):HO:= .ext fun h=>∃ob vs,h.get? a=some ob∧ob.cls= .ref C∧ob.dict=od∧ob.data= .fields vs
def xN(a C:Addr)(od:Option Addr):HO:= .ext fun h=>∃(vs:Array Value) (t0:Addr),h.get? a=some (PySem.W.excObj C od vs)∧vs[0]? =some (.ref t0)∧vs[1]? =some .none∧vs[2]? =some .none
section
variable{P:Program}{w:World}{H:Hp}{h:Heap}{a C:Addr}{od:Option Addr}
theorem BM{ob:Obj}{vs:Array Value}(e:h.get? a=some ob)(h1:ob.cls= .ref C)(h2:ob.dict=od)(h3:ob.data= .fields vs):ba P w H h a (xO a C od):=
 ⟨⟨ob,vs,e,h1,h2,h3⟩,⟨_,e⟩,fun g1 g2 ⟨ob,vs,e,h1,h2,h3⟩ k=>⟨ob,vs,k _ e,h1,h2,h3⟩⟩
theorem xl{vs:Array Value}{t0:Addr}(e:h.get? a=some (PySem.W.excObj C od vs))(h0:vs[0]? =some (.ref t0))(h1:vs[1]? =some .none)(h2:vs[2]? =some .none):ba P w H h a (xN a C od):=
 ⟨⟨vs,t0,e,h0,h1,h2⟩,⟨_,e⟩,fun g1 g2 ⟨vs,t0,e,h0,h1,h2⟩ k=>⟨vs,t0,k _ e,h0,h1,h2⟩⟩
theorem zg(x:HOk P w H h)(e:H a=some (xO a C od)):∃ob vs,h.get? a=some ob∧ob.cls= .ref C∧ob.dict=od∧ob.data= .fields vs:=(x a _ e).1
theorem uF(x:HOk P w H h)(e:H a=some (xN a C od)):∃(vs:Array Value) (t0:Addr),h.get? a=some (PySem.W.excObj C od vs)∧vs[0]? =some (.ref t0)∧vs[1]? =some .none∧vs[2]? =some .none:=(x a _ e).1
theorem HOk.non{P:Program}{w:World}{H:Hp}{h:Heap}{a:Addr}(x:HOk P w H h)(e:h.get? a=none):H a=none:=by
 cases q:H a with
 | none=>rfl
 | some u=>
  obtain ⟨ob,z⟩:=ba.here (x a u q)
  rw [e] at z;cases z
end
def drp(x:Addr)(H:Hp):Hp:=fun b=>if b=x then none else H b
theorem ko{x:Addr}{H:Hp}:drp x H x=none:=by unfold drp;rw [if_pos rfl]
theorem cP{x b:Addr}{H:Hp}(h:b≠x):drp x H b=H b:=by unfold drp;rw [if_neg h]
section
variable{X:Cx}{pins:List (Addr×Obj)}{σ:St}{H:Hp}{s:Shared}{a x dx:Addr}{o:HO}{h':Heap}
theorem Inv.track(I:Inv X pins σ H s)(hn:H a=none)(h0:X.s₀.heap.get? a=none)(hl:X.env.locals≠a)(hc:∀z c,X.env.cells.lookup z=some c→c≠a)(hp:∀p∈X.pn++pins,p.1≠a)(new:ba X.prog X.w (upd H a o) s.heap a o):Inv X pins σ (upd H a o) s:=by
 refine ⟨I.ok,I.os,I.bare,⟨I.base.keep,I.base.slot,fun b u q n hx=> ?_,I.base.there,fun b xs q=> ?_,fun b u xs q=> ?_,fun b ps q=> ?_⟩,I.loc,I.cell, ?_,fun z c q=> ?_,fun p q=> ?_,fun b u e=> ?_,I.len⟩
 ·rw [ai (fun z=>by rw [z,h0] at q;cases q)];exact I.base.free b u q n hx
 ·have:=I.base.tups b xs q
  rw [ai (aH this hn)];exact this
 ·have:=I.base.frzs b u xs q
  rw [ai (aH this hn)];exact this
 ·obtain ⟨m,e⟩:=I.base.tbls b ps q
  exact ⟨m,by rw [ai (aH e hn)];exact e⟩
 ·rw [ai hl];exact I.free
 ·rw [ai (hc z c q)];exact I.freeC z c q
 ·obtain ⟨e,n,r⟩:=I.pin p q
  exact ⟨e,by rw [ai (hp p q)];exact n,r⟩
 ·by_cases hb:b=a
  ·subst hb;rw [ao] at e;cases e;exact new
  ·rw [ai hb] at e
   exact (I.hok b u e).stay (fun c v _ q=>q) (fun c q=>by rw [ai (aH q hn)];exact q) fun c xs q=>by rw [ai (aH q hn)];exact q
theorem Inv.trackN{s1:Shared}{H1:Hp}{σ1:St}(I1:Inv X pins σ1 H1 s1)(hex:X.ex=[])(hg:s1.heap.get? a=none)(I:Inv X pins σ H s)(hn:H a=none)(new:ba X.prog X.w (upd H a o) s.heap a o):Inv X pins σ (upd H a o) s:=by
 have no:∀b u,s1.heap.get? b=some u→b≠a:=fun b u q z=>by rw [z,hg] at q;cases q
 refine I.track hn ?_ ?_ (fun z c q=> ?_) (fun p q=> ?_) new
 ·cases q:X.s₀.heap.get? a with
  | none=>rfl
  | some u=>
   obtain ⟨u',e1⟩:=I1.base.there a u q (by rw [hex];simp)
   rw [hg] at e1;cases e1
 ·obtain ⟨m,⟨ob,_,_,e,_⟩,_⟩:=I1.loc
  exact no _ _ e
 ·obtain ⟨v,ob,e,_⟩:=I1.cell z c q
  exact no _ _ e
 ·exact no _ _ (I1.pin p q).1
theorem Inv.drop{φ:Heap→Prop}(I:Inv X pins σ H s)(e:H x=some (.ext φ)):Inv X pins σ (drp x H) s:=by
 have nx:∀b u,H b=some u→(∀ψ,u≠ .ext ψ)→b≠x:=fun b u q nu z=>by rw [z,e] at q;cases q;exact nu _ rfl
 refine ⟨I.ok,I.os,I.bare,⟨I.base.keep,I.base.slot,fun b u q n hx=> ?_,I.base.there,fun b xs q=> ?_,fun b u xs q=> ?_,fun b ps q=> ?_⟩,I.loc,I.cell, ?_,fun z c q=> ?_,fun p q=> ?_,fun b u q=> ?_,I.len⟩
 ·by_cases hb:b=x
  ·rw [hb,ko]
  ·rw [cP hb];exact I.base.free b u q n hx
 ·have:=I.base.tups b xs q
  rw [cP (nx b _ this fun _ z=>nomatch z)];exact this
 ·have:=I.base.frzs b u xs q
  rw [cP (nx b _ this fun _ z=>nomatch z)];exact this
 ·obtain ⟨m,z⟩:=I.base.tbls b ps q
  exact ⟨m,by rw [cP (nx b _ z fun _ y=>nomatch y)];exact z⟩
 ·rw [cP fun z=>by have:=I.free;rw [z,e] at this;cases this];exact I.free
 ·have:=I.freeC z c q
  rw [cP fun y=>by rw [y,e] at this;cases this];exact this
 ·obtain ⟨e1,n,r⟩:=I.pin p q
  exact ⟨e1,by rw [cP fun y=>by rw [y,e] at n;cases n];exact n,r⟩
 ·by_cases hb:b=x
  ·rw [hb,ko] at q;cases q
  ·rw [cP hb] at q
   exact (I.hok b u q).stay (fun c v _ z=>z) (fun c z=>by rw [cP (nx c _ z fun _ y=>nomatch y)];exact z) fun c xs z=>by rw [cP (nx c _ z fun _ y=>nomatch y)];exact z
end
end L2
namespace L2
open PySem PySem.Spec PyProof.Rows
def tG (K:PySem.W.Frag) (C:Addr) (bmB:List Value) (newId:String) (fI:Addr):Bool:=
 match List.lookup C K with
 | some {cls:=Value.type "type",dict:=_,data:=Data.cls cd,slots:=sl}=>
  match cd.mro,sl.toList with
  | Value.ref C'::bm,[_,_,_,_,some (Value.builtin n),_]=>
   C'==C&&n==newId&& !cd.hasDel&&PySem.W.tailIn K bmB bm&&PySem.W.nsOkIn K cd.ns&&
    PySem.W.nsIn K cd.ns "__init__"==some (some (.ref fI))
  | _,_=>false
 | _=>false
theorem qa{K:PySem.W.Frag}{h:Heap}{N:Addr}{mg:Str→Option Value}{n:Str}{v:Value}(X:K.In h)(G:h.Ns N mg)(e:PySem.W.nsIn K N n=some (some v)):mg n=some v:=by
 obtain ⟨o,es,ep,ho,hd,_,hf⟩:=G
 unfold PySem.W.nsIn at e
 split at e
 ·rename_i c d es' n' sl q
  have:=X _ _ q
  rw [ho] at this
  cases this
  cases hd
  split at e
  ·rename_i he
   cases e
   rw [←hf]
   unfold nsFind findBy
   rw [←Array.find?_toList,he]
   rfl
  ·split at e <;> cases e
 ·cases e
structure ee(K:PySem.W.Frag)(C:Addr)(bmB:List Value)(newId:String)(fI:Addr):Prop where
 ok:tG K C bmB newId fI=true
 fn:PySem.W.isFn K (.ref fI)=true
 sa:PySem.W.findIn K (.ref C) "__setattr__"=some (some (.builtin "object.__setattr__"))
 over:PySem.W.excOver K C=true
theorem ee.obj{K:PySem.W.Frag}{C fI:Addr}{bmB:List Value}{newId:String}{h0:Heap}(c:ee K C bmB newId fI)(X0:K.In h0):
  ∃bm N nm q bs hdct sn sub ab col dd k0 k1 k2 k3 k5 mN,mN ("__init__":Str)=some (.ref fI)∧
   ∀h:Heap,K.In h→h.get? C=some (excClassObj nm q C N bs bm hdct sn sub ab col dd k0 k1 k2 k3 k5 newId)∧h.Ns N mN∧OwnTail h bmB bm:=by
 have q:=c.ok
 unfold tG at q
 split at q
 ·rename_i dd cd sl ho
  split at q
  ·rename_i C' bm k0 k1 k2 k3 n k5 hm hs
   rw [Bool.and_eq_true,Bool.and_eq_true,Bool.and_eq_true,Bool.and_eq_true,Bool.and_eq_true] at q
   obtain ⟨⟨⟨⟨⟨q1,q2⟩,q3⟩,q4⟩,q5⟩,q6⟩:=q
   cases beq_iff_eq.mp q1
   cases beq_iff_eq.mp q2
   have q3:cd.hasDel=false:=by simpa using q3
   have hsl:sl= #[k0,k1,k2,k3,some (.builtin newId),k5]:=by
    cases sl with | mk l=>exact congrArg Array.mk hs
   obtain ⟨c1,c2,c3,c4,c5,c6,c7,c8,c9,c10,c11⟩:=cd
   cases (show c3=_ from hm)
   cases (show c11=_ from q3)
   subst hsl
   refine ⟨bm,c4,c1,c5,c2,c6,c7,c8,c9,c10,dd,k0,k1,k2,k3,k5,h0.nsMap c4,qa X0 (.of_isNs (PySem.W.isNs_of_in X0 q5)) (beq_iff_eq.mp q6),fun h X=>⟨X _ _ ho, ?_,PySem.W.tail_of_in X q4⟩⟩
   exact rY q5 X0 X (.of_isNs (PySem.W.isNs_of_in X0 q5))
  ·cases q
 ·cases q
structure ur(K:PySem.W.Frag)(D:Addr)(initId:String):Prop where
 sp:PySem.W.specialIn K (.ref D) "__getattribute__"=some (some (.builtin "type.__getattribute__"))
 rd:PySem.W.readsIn K D (.type "type")=true
 fd:PySem.W.findCls K (.ref D) (.type "type") "__init__"=some (.val (.builtin initId))
 hi:PySem.W.handedIn (.builtin initId)=true
def tBI(C:Addr)(t:TA):TE:=fun σ H Q=>t σ H fun vs H1=>∃x y od,vs=[.ref x,y]∧H1 x=some (xN x C od)∧Q .non H1
section
variable{X:Cx}{C D fI:Addr}{t:TA}{te ta:TE}{Bn newId initId:String}{bmB:List Value}{dn:Str}{p apos pos pos':Pos}{e1 e2 o value:Expr}{f:Str}
theorem vc{pl:Sem Bool}(F:ExcBaseFacts Bn newId initId bmB)(c:ee X.K C bmB newId fI)(d:ur X.K D initId)(hg:Gl X dn)(hm:X.mg dn=some (.ref D))(ha:PA X [e1,e2] t)(hdb:(dn==("__debug__":Str))=false:=by decide)
  (hst:starEach [e1,e2] X.env=(false,eval e1 X.env)::starEach [e2] X.env:=by rfl) (hpl:(backTo pos (starEach [e2] X.env)).any (·.1)=false:=by rfl)
  (ht:eval (.Call (.Attribute (.Name dn p) "__init__" apos) [e1,e2] [] pos) X.env=(do
   let ov←eval (.Name dn p) X.env
   standAt apos.atName
   let (f,first)←holding [ov] (getMethod ov "__init__" pl)
   callWith pos f first (backTo pos (starEach [e1,e2] X.env)) (backToKw pos (keywordEach [] X.env))):=by rfl):
  PE X (.Call (.Attribute (.Name dn p) "__init__" apos) [e1,e2] [] pos) (tBI C t):=by
 intro pins s σ H Q I h
 refine PySem.W.methodCall_KW (pl:=pl) (fE I hg hm ?_ hdb) ht
 refine PySem.W.method_cls I.kIn d.sp (PySem.W.cls_value I.kIn d.rd d.fd d.hi ?_)
 have I0:=I.tok (s.toks+1)
 have h2:=ha pos pins _ σ H _ I0 h
 show wpAny _ _ (callWith pos (.builtin initId) [] (backTo pos (starEach [e1,e2] X.env)) []) _ _ _
 rw [hst] at h2⊢
 refine Calls.callWith_builtin (by show (false || (backTo pos (starEach [e2] X.env)).any (·.1))=false;rw [hpl] <;> rfl) (Calls.evalArgs_plain ?_)
 refine thn h2 fun us s2 ⟨vs,H2,I2,r2,x,y,od,ev,hx,q⟩=> ?_
 subst ev
 obtain ⟨u1,u2,rfl,ru1,ru2⟩:=r2.two
 cases ru1
 obtain ⟨bm,N,nm,q',bs,hdct,sn,sub,ab,col,dd,k0,k1,k2,k3,k5,mN,hni,hob⟩:=c.obj I2.kIn
 obtain ⟨g1,g2,g3⟩:=hob _ I2.kIn
 obtain ⟨ws,t0,hx2,w0,w1,w2⟩:=uF I2.hok hx
 obtain ⟨hp,gg,dr,tk,os⟩:=s2
 refine pI (rest:=[u2]) F g3 g1 hx2 rfl rfl w0 (fun h' hk he=> ?_) (by show 1≤sizeLine;decide)
 have I3:Inv X pins σ (upd H2 x (xN x C od)) {(⟨hp,gg,dr,tk,os⟩:Shared) with heap:=h',toks:=tk}:=by
  refine I2.write (x:=x) (e:=x) (by rw [hx];exact trivial) (.inl rfl) hk ⟨_,he⟩ ?_
  have he':h'.get? x=some (PySem.W.excObj C od (ws.setIfInBounds 0 (.ref hp.objs.size))):=he
  have hz:0 < ws.size:=(Array.getElem?_eq_some_iff.mp w0).1
  exact xl he' (t0:=hp.objs.size) (by simp [hz]) (by rw [Array.getElem?_setIfInBounds_ne (by decide)];exact w1) (by rw [Array.getElem?_setIfInBounds_ne (by decide)];exact w2)
 have eH:upd H2 x (xN x C od)=H2:=by
  funext b
  by_cases hb:b=x
  ·rw [hb,ao,hx]
  ·rw [ai hb]
 rw [eH] at I3
 exact ⟨.non,H2,I3,rfl,q⟩
theorem Inv.writeX{pins:List (Addr×Obj)}{σ:St}{H:Hp}{s:Shared}{dx:Addr}{fs gs:List (Str×V)}{h':Heap}{t':Nat}(I:Inv X pins σ H s)(e:H dx=some (.xd fs))(k:∀b u,b≠dx→s.heap.get? b=some u→h'.get? b=some u)(heo:∃u,h'.get? dx=some u)
  (new:ba X.prog X.w (upd H dx (.xd gs)) h' dx (.xd gs)):Inv X pins σ (upd H dx (.xd gs)) {s with heap:=h',toks:=t'}:=by
 have nd:∀b,H b=none→b≠dx:=fun b n z=>by rw [z,e] at n;cases n
 have nx:∀b u,H b=some u→(∀l,u≠ .xd l)→b≠dx:=fun b u q nu z=>by rw [z,e] at q;cases q;exact nu _ rfl
 refine I.un ⟨fun b u q n _ _=>k b u (nd b n) q,fun b u q n _ _=>⟨u.slots,k b u (nd b n) q⟩,fun b u q n _=>by rw [ai (nd b n)];exact n,fun b u q _=> ?_,
  fun b xs q=>by rw [ai (nx b _ q fun _ z=>nomatch z)];exact q,fun b u xs q=>by rw [ai (nx b _ q fun _ z=>nomatch z)];exact q,fun b ps q=>⟨#[],by rw [ai (nx b _ q fun _ z=>nomatch z),q];simp⟩⟩ fun b u q=> ?_
 ·by_cases hb:b=dx
  ·rw [hb];exact heo
  ·exact ⟨u,k b u hb q⟩
 ·by_cases hb:b=dx
  ·subst hb;rw [ao] at q;cases q;exact new
  ·rw [ai hb] at q
   refine (I.hok b u q).stay (fun c v hc z=>k c v ?_ z) (fun c z=>by rw [ai (nx c _ z fun _ y=>nomatch y)];exact z) fun c xs z=>by rw [ai (nx c _ z fun _ y=>nomatch y)];exact z
   rcases hc with hc | hc
   ·rw [hc];exact hb
   ·exact nx c _ hc fun _ y=>nomatch y
structure y3(K:PySem.W.Frag)(C:Addr)(f:Str):Prop where
 at_:PySem.W.takerIn K C f=some none
def sXF(C:Addr)(f:Str)(to tv:TE):TS:=fun D σ H=>tv σ H fun y H1=>to σ H1 fun u H2=>∃x,u= .ref x∧
 ((H2 x=some (xN x C none)∧∀dx,H2 dx=none→dx≠x→D.nx σ (upd (upd H2 x (xN x C (some dx))) dx (.xd [(f,y)])))∨
  (∃dx fs,H2 x=some (xN x C (some dx))∧dx≠x∧H2 dx=some (.xd fs)∧fs.length < 1000∧D.nx σ (upd H2 dx (.xd (iW f y fs)))))
theorem xJ(hex:X.ex=[])(c:ee X.K C bmB newId fI)(n:y3 X.K C f)(ho:PE X o ta)(hv:PE X value te)(hs:swapsWith value (some (.Attribute o f pos')) pos.line X.env=pure false:=by rfl):PS X (.Assign [.Attribute o f pos'] value pos) (sXF C f ta te):=by
 intro pins s σ H D I h
 refine plainObj_wpAny_Assign_Attribute (thn (hv pins s σ H _ I h) fun u s1 ⟨y,H1,I1,ry,q⟩=>thn (ho pins s1 σ H1 _ I1 q) fun ov s2 ⟨xv,H2,I2,rx,x,ex,q2⟩=> ?_) hs
 subst ex
 obtain rfl:ov=Value.ref x:=rx
 rcases q2 with ⟨hx,q2⟩ | ⟨dx,fs,hx,hne,hdx,hlen,q2⟩
 ·obtain ⟨ws,t0,hx2,w0,w1,w2⟩:=uF I2.hok hx
  refine PySem.W.xset0 I2.kIn hx2 c.sa c.over n.at_ fun h' dx hn hne hk he hns=> ?_
  have hHdx:H2 dx=none:=I2.hok.non hn
  have I3:Inv X pins σ (upd H2 x (xN x C (some dx))) {s2 with heap:=h',toks:=s2.toks+2}:=I2.write (x:=x) (e:=x) (by rw [hx];exact trivial) (.inl rfl) hk ⟨_,he⟩ (xl he w0 w1 w2)
  have hn3:upd H2 x (xN x C (some dx)) dx=none:=by rw [ai hne];exact hHdx
  refine ⟨σ,_,I2.trackN (o:= .xd [(f,y)]) hex hn I3 hn3 (show∃mA,h'.Ns1 dx mA∧∀g,iU (List.lookup g [(f,y)]) (mA g) from ⟨_,hns,fun g=> ?_⟩),q2 dx hHdx hne⟩
  show iU (List.lookup g [(f,y)]) (if g=f then some u else none)
  by_cases hg:g=f
  ·subst hg
   rw [if_pos rfl]
   have:List.lookup g [(g,y)]=some y:=by rw [List.lookup_cons,beq_self_eq_true]
   rw [this];exact ry
  ·rw [if_neg hg]
   have:List.lookup g [(f,y)]=none:=by
    rw [List.lookup_cons,show (g==f)=false by simpa using hg];rfl
   rw [this];trivial
 ·obtain ⟨ws,t0,hx2,w0,w1,w2⟩:=uF I2.hok hx
  obtain ⟨mA,hns,hr⟩:=(show ba X.prog X.w H2 s2.heap dx (.xd fs) from I2.hok dx _ hdx)
  have hw:PySem.Within mA (fs.map (·.1)):=fun g hg=>by
   have:=hr g
   cases hl:fs.lookup g with
   | none=>rw [hl] at this;cases hm:mA g with
    | none=>exact absurd hm hg
    | some z=>rw [hm] at this;exact this.elim
   | some v=>
    have:=PySem.mem_of_lookup hl
    exact List.mem_map.mpr ⟨_,this,rfl⟩
  refine PySem.W.xset1 I2.kIn hx2 hne hns hw (by rw [List.length_map];omega) c.sa c.over n.at_ fun h' hk hns'=> ?_
  refine ⟨σ,_,I2.writeX hdx hk (let ⟨ob,_,_,e,_⟩:=hns';⟨ob,e⟩) (show∃mA,h'.Ns1 dx mA∧∀g,iU ((iW f y fs).lookup g) (mA g) from ⟨_,hns',fun g=> ?_⟩),q2⟩
  show iU ((iW f y fs).lookup g) (if g=f then some u else mA g)
  rw [fC]
  by_cases q:g=f
  ·rw [if_pos q,if_pos q];exact ry
  ·rw [if_neg q,if_neg q];exact hr g
end
end L2
namespace L2
open PySem PySem.Spec PyProof.Rows
def xo(C:Addr)(sp:Sp)(R:St→XK)(t:TA):TS:=fun _ σ H=>t σ H fun vs H1=>vs.length≤sizeLine∧∀x,H1 x=none→
 sp (.ref x::vs) (upd H1 x (xN x C none)) (fun v H2=>v= .non∧∃od,H2 x=some (xN x C od)∧R σ (.ref C) od (drp x H2)) E0
section
variable{X:Cx}{C fI:Addr}{R:St→XK}{t:TA}{Bn newId initId:String}{bmB:List Value}{x:Str}{np cpos pos:Pos}{e:Expr}{es:List Expr}{k:Nat}{fd:FuncData}{ps:List Str}{sp:Sp}
theorem rq(hR:mD X R)(hc:X.calm=true)(hex:X.ex=[])(F:ExcBaseFacts Bn newId initId bmB)(c:ee X.K C bmB newId fI)(G:bC X.prog X.w X.K X.mg X.base (CX1 X.prog X.w) k fI fd ps sp)(hr:cT (k+1) X.A)(hb:fX X.K fd ps [])(hg:Gl X x)(hm:X.mg x=some (.ref C))(ha:PA X (e::es) t)
  (hdb:(x==("__debug__":Str))=false:=by decide) (he:starEach (e::es) X.env=(false,eval e X.env)::starEach es X.env:=by rfl) (hpl:(backTo cpos (starEach es X.env)).any (·.1)=false:=by rfl):
  PS X (.Raise (some (.Call (.Name x np) (e::es) [] cpos)) none pos) (xo C sp R t):=by
 intro pins s σ H D I h
 obtain ⟨bm,N,nm,q,bs,hdct,sn,sub,ab,col,dd,k0,k1,k2,k3,k5,mN,hni,hob⟩:=c.obj I.kIn
 refine mK (nm:=nm) (q:=q) (C:=C) (N:=N) (bs:=bs) (bm:=bm) (hdct:=hdct) (sn:=sn) (sub:=sub) (ab:=ab) (col:=col) (dd:=dd) (k0:=k0) (k1:=k1) (k2:=k2) (k3:=k3) (k5:=k5) F ((hob _ I.kIn).2.2.hasType F.hasBase) (I.ok.hd hc) (by rw [he];show (false || (backTo cpos (starEach es X.env)).any (·.1))=false;rw [hpl];rfl) hni (fE I hg hm ⟨rfl, ?_⟩ hdb)
 have h2:=ha cpos pins s σ H _ I h
 rw [he] at h2⊢
 refine Calls.evalArgs_plain (wpAny_mono h2 (fun us s2 z=> ?_) fun _ _ y=>y)
 obtain ⟨vs,H1,I1,r,hz,hq⟩:=z
 obtain ⟨g1,g2,g3⟩:=hob _ I1.kIn
 have hfn:∃oI,s2.heap.get? fI=some oI∧oI.cls= .type "function":=by
  have q:PySem.W.typeIn X.K (.ref fI)=some (.type "function"):=beq_iff_eq.mp c.fn
  unfold PySem.W.typeIn at q
  dsimp only at q
  obtain ⟨ob,ho,hcl⟩:=Option.map_eq_some_iff.mp q
  exact ⟨ob,I1.kIn _ _ ho,hcl⟩
 refine ⟨rfl,by rw [←r.length];exact hz,g1,g2,g3,hfn,fun h' e M=> ?_⟩
 obtain ⟨t0,hx,_,_⟩:=M.there
 have hHe:H1 e=none:=I1.hok.non M.new
 have I2:Inv X pins σ (upd H1 e (xN e C none)) {s2 with heap:=h'}:=I1.trackN (o:=xN e C none) hex M.new (I1.kept (t':=s2.toks) M.keeps) hHe (xl hx rfl rfl rfl)
 have hsp:=hq e hHe
 have r2:bz (V.ref e::vs) (Value.ref e::us):= .cons rfl r
 have hl:(Value.ref e::us).length=ps.length:=by rw [←r2.length];exact G.len _ _ _ _ hsp
 refine wpAny_call (codeAny_mono (G.run _ X.stack _ _ ⟨Value.ref e::us,[]⟩ (Value.ref e::us) _ _ E0 (hr.make C us []) (I2.env0.make C us []) (by have:=hb _ (Value.ref e::us) I2.kIn (by rw [List.append_nil];exact hl);rwa [List.append_nil] at this) r2 hsp) fun rr s' hq'=> ?_)
 cases rr with
 | error er=>exact (fw (X:=X) pins σ _ _ er s' I2 hq':X.xe er s')
 | ok fl=>
  cases fl with
  | ret u=>
   obtain ⟨v,H',I3,rv,ev,od,hxN,hRq⟩:=I2.after hq'
   subst ev
   obtain ⟨ws,t1,hx3,w0,w1,w2⟩:=uF I3.hok hxN
   refine ⟨rv,(hob _ I3.kIn).1,od,ws,hx3,w1, ?_⟩
   refine hR pins σ (drp e H') s' e (PySem.W.excObj C od ws) ws (I3.drop hxN) hx3 w1 w2 ?_ ko hRq
   cases q0:X.s₀.heap.get? e with
   | none=>rfl
   | some u0=>
    obtain ⟨u',e1⟩:=I1.base.there e u0 q0 (by rw [hex];simp)
    rw [M.new] at e1;cases e1
  | next=>exact False.elim hq'
  | brk=>exact False.elim hq'
  | cont=>exact False.elim hq'
end
theorem Fly.fresh{X:Cx}{H H1:Hp}{s:Shared}{h1 B:Heap}{x:Addr}{o:Obj}(F:Fly X.prog X.w X.stack H H1 s.heap h1 B x o):s.heap.get? x=none:=by
 cases q:s.heap.get? x with
 | none=>rfl
 | some u=>
  by_cases hb:x∈frs X.stack
  ·obtain ⟨vs,_,_,_,hxx,_⟩:=F.fly.2.2.2
   obtain ⟨_,o',ho',hd⟩:=F.fly.2.2.1.mem hb
   rw [hxx] at ho';cases ho'
   exact absurd rfl (hd _)
  ·obtain ⟨u2,e2⟩:=F.thB x u q hb
   rw [F.fly.2.1] at e2;cases e2
def A3(i:Nat)(x C:Addr)(od:Option Addr)(D:qB):qB:=⟨fun σ H=>H x=none→D.nx (σ.set i none) (upd H x (xO x C od)),fun _ _=>False,fun _ _=>False,fun _ _=>False⟩
def BQ(K:PySem.W.Frag)(D:Addr)(i:Nat)(tb:(St→XK)→TS)(ts:Addr→TS):TS:=fun Dn σ H=>∃R:St→XK,tb R Dn σ H∧
 ∀σ' cls od H',R σ' cls od H'→∃C,cls= .ref C∧PySem.W.subIn K (.ref C) (.ref D)=some true∧∀x,H' x=none→ts x (A3 i x C od Dn) (σ'.set i (some (.ref x))) H'
section
variable{X:Cx}{body:List Stmt}{D:Addr}{dn n:Str}{i:Nat}{b₀:Stmt}{suite:List Stmt}{pos hpos np:Pos}{tb:(St→XK)→TS}{ts:Addr→TS}{bmB':List Value}{newId':String}
theorem xK(hN:X.N.Nodup)(hi:X.N[i]? =some n)(hk:X.env.scope.names.lookup n=some .local)(hc:X.calm=true)(hex:X.ex=[])(hst:X.stack=X.env::X.outer)(hf:X.env.frame=some X.env.locals)(d:dG X.K D bmB' newId')(hbe:bmB'.contains (.type "BaseException")=true)(hg:Gl X dn)(hm:X.mg dn=some (.ref D))
  (hb:∀(R:St→XK) (pins:List (Addr×Obj)),PSs (Cx.tryC X R pins) body (tb R))
  (hs:∀(x:Addr) (pn:List (Addr×Obj)),PSs (Cx.suite X x pn) (b₀::suite) (ts x)) (hdb:(dn==("__debug__":Str))=false:=by decide):
  PS X (.Try body [.ExceptHandler (some (.Name dn np)) (some n) (b₀::suite) hpos] [] [] pos) (BQ X.K D i tb ts):=by
 intro pins s σ H Dn I h
 obtain ⟨R,h1,h2⟩:=h
 refine wpAny_Try_except (wpAny_mono (hb R pins [] s σ H Dn (Inv.pnsC I _) h1) (fun fl s1 z=> ?_) fun e s1 z=> ?_)
 ·have z':SP X pins Dn fl s1:=SP.unpnsC z
  cases fl with
  | next=>exact wpAny_execs_nil z'
  | brk=>exact z'
  | cont=>exact z'
  | ret u=>exact z'
 ·obtain ⟨pins',σ',H1,s0,I0,hx⟩:=z
  obtain ⟨x,o,H',B,rfl,os,bare,F,hE⟩:=hx
  have I0:Inv X pins σ' H1 s0:=Inv.unpnsC (E:=X.xe) I0
  obtain ⟨C,ec,hu,hts⟩:=h2 σ' _ _ H' hE
  have hfr:X.A.frames=some (X.env::X.outer):=by rw [←hst];exact I0.ok.frames
  have hx0:s0.heap.get? x=none:=F.fresh
  refine A6 (B:=B) hfr hf (by rw [←hst];exact F.fly) fun h4 f4 u4=> ?_
  refine kn f4 fun h5 f5 u5=> ?_
  have F5:=F.on (by rw [hst];exact f5) (u4.trans u5)
  have I5:Inv X pins σ' H' {s1 with heap:=h5}:=F5.back I0 os bare
  obtain ⟨v5,_,_,_,hx5,_⟩:=f5.2.2.2
  refine wpAny_handleBy_cons (codeAny_handlers_test (fE (X:=Cx.suite X x (X.pn++pins)) (Inv.suiteN I5 x) hg hm ?_ hdb)) (by intro q;cases q)
  refine nV I5.kIn d hbe hu hx5 ec (codeAny_handlers_suite_as ?_)
  refine kn f5 fun h6 f6 u6=> ?_
  have F6:=F5.on (by rw [hst];exact f6) u6
  have I6:Inv X pins σ' H' {s1 with heap:=h6}:=F6.back I0 os bare
  obtain ⟨vs,hv2,J⟩:=uK I6 hst hf F6
  refine eT (X:=Cx.suite X x (X.pn++pins++[(x,{o with data:= .fields vs})])) J hN hi (.inl hk) (v:= .ref x) rfl (fun s7 I7=> ?_) (.inr hk)
  refine wpAny_mono (hs x _ [] s7 _ H' (A3 i x C o.dict Dn) I7 (hts x F6.nx)) (fun fl s8 z=> ?_) fun _ _ z=>z.elim
  cases fl with
  | next=>
   obtain ⟨a,b,I8,q⟩:=z
   obtain ⟨p1,p2,_⟩:=I8.pin (x,{o with data:= .fields vs}) (List.mem_append_left _ (List.mem_append_right _ List.mem_cons_self))
   have I8':Inv X pins a b s8:=Inv.unsuiteC I8 I0.ok.hd
   have I9:=I0.trackN (o:=xO x C o.dict) hex hx0 I8' p2 (BM p1 ec rfl rfl)
   exact r8 I9 hN hi hk fun s9 I9=>⟨_,_,I9,q p2⟩
  | brk=>obtain ⟨a,b,I8,q⟩:=z;exact q.elim
  | cont=>obtain ⟨a,b,I8,q⟩:=z;exact q.elim
  | ret u=>obtain ⟨v,a,b,I8,r,q⟩:=z;exact q.elim
end
structure XAt(K:PySem.W.Frag)(C:Addr)(f:Str):Prop where
 no:PySem.W.findIn K (.ref C) f=some none
 hd:PySem.W.hasDictIn K C=true
def tXA(K:PySem.W.Frag)(f:Str)(ta:TE):TE:=fun σ H Q=>ta σ H fun u H1=>∃a C dx fs v,u= .ref a∧H1 a=some (xO a C (some dx))∧H1 dx=some (.xd fs)∧mE K C∧XAt K C f∧fs.lookup f=some v∧Q v H1
def Co(K:PySem.W.Frag):List V→Hp→VK→Prop:=fun xs H Q=>∃a C od c t' b,xs=[.ref a,c]∧H a=some (xO a C od)∧(∀dx,od=some dx→∃o,H dx=some o)∧mE K C∧yM c=some t'∧PySem.W.kitOne K (.ref C) t'=some b∧Q (.bl b) H
section
variable{X:Cx}{e:Expr}{f:Str}{pos:Pos}{ta:TE}
theorem xQ(he:PE X e ta)(hb:attributeBase e f X.env (eval e X.env)=eval e X.env:=by rfl):PE X (.Attribute e f pos) (tXA X.K f ta):=by
 intro pins s σ H Q I h
 refine ug hb (thn (he pins s σ H _ I h) fun u s1 ⟨xv,H1,I1,rx,a,C,dx,fs,v,ex,ha,hd,ty,xa,hl,q⟩=> ?_)
 subst ex
 obtain rfl:u=Value.ref a:=rx
 obtain ⟨⟨oc,odd,odt,osl⟩,vs,h1,h2,h3,h4⟩:=zg I1.hok ha
 obtain ⟨mA,hns,hr⟩:=(show ba X.prog X.w H1 s1.heap dx (.xd fs) from I1.hok dx _ hd)
 obtain ⟨od,hod,hlk⟩:=lH hns
 obtain ⟨w,hw,rw'⟩:=iU.some_of (v:=v) (o:=mA f) (by rw [←hl];exact hr f)
 cases h2;cases h3;cases h4
 have J:PySem.W.InstAt s1.heap a ⟨.ref C,some dx, .fields vs,osl⟩ C (some od):=⟨h1,rfl,rfl,hod⟩
 exact PySem.W.xget I1.kIn J ty.ga ty.gt ty.be (PySem.W.findObj_own xa.hd xa.no rfl (by rw [hlk,hw])) (lT rw') ⟨v,H1,I1.tok _,rw',q⟩
theorem vR:dH X (.builtin "isinstance") (Co X.K):=by
 intro pins s σ H xs us Q I r h
 obtain ⟨a,C,od,c,t',b,rfl,ha,hdx,ty,hc,hk,q⟩:=h
 obtain ⟨u,u',rfl,r1,r2⟩:=zh r
 cases tX r2 hc
 cases r1
 obtain ⟨⟨oc,odd,odt,osl⟩,vs,h1,h2,h3,h4⟩:=zg I.hok ha
 cases h2;cases h3;cases h4
 have J:∃od',PySem.W.InstAt s.heap a ⟨.ref C,odd, .fields vs,osl⟩ C od':=by
  cases odd with
  | none=>exact ⟨none,h1,rfl,rfl,trivial⟩
  | some d=>
   obtain ⟨ho',e1⟩:=hdx d rfl
   obtain ⟨ob,e2⟩:=ba.here (I.hok d ho' e1)
   exact ⟨some ob,h1,rfl,rfl,e2⟩
 exact PySem.W.kia_one (vj ty) I.kIn J hk (fun z=>nomatch z) fun tk=>⟨.bl b,H,I.tok tk,rfl,q⟩
end
end L2
namespace L2
open PySem PySem.Spec PyProof.Rows
section
variable{M:Model}{A:Around}{E:Value→Shared→Prop}{K:PySem.W.Frag}{s:Shared}
end
section
variable{X:Cx}{body:List Stmt}{D D2:Addr}{dn dn2 n:Str}{i:Nat}{b₀ b₂:Stmt}{suite suite2:List Stmt}{pos hpos hpos2 np np2:Pos}{tb:(St→XK)→TS}{ts ts2:Addr→Addr→Option Addr→TS}{bmB' bmB2:List Value}{newId' newId2:String}
end
section
variable{X:Cx}{e:Expr}{f:Str}{pos:Pos}{ta:TE}{x C:Addr}{od:Option Addr}
end
end L2
namespace L2
open PySem PySem.Spec PyProof.Rows
section
variable{X:Cx}{elt iter:Expr}{x:Str}{px:Pos}{scope:Scope}{pos:Pos}{wi:TI}{te:TE}{ys:List Str}{caps:List Nat}
end
end L2
set_option maxRecDepth 100000
set_option maxHeartbeats 4000000
namespace L2
open PySem PySem.Spec PyProof.Rows
inductive Dt where
 | non
 | bl (b:Bool)
 | int (i:Int)
 | str (x:Str)
 | tup (xs:List Dt)
 | lst (xs:List Dt)
 | obj (C:Addr) (ns:List Str) (xs:List Dt)
 | loc (k:Nat)
 | ref (a:Addr)
 | ty (n:String)
 | scr (ns:List Int)
 | kt (xs:List Dt)
 | exc (C:Addr) (ns:List Str) (xs:List Dt)
 | exn (x C:Addr) (od:Option Addr) (ns:List Str) (xs:List Dt)
inductive MO where
 | lst (xs:List Dt)
 | ins (C:Addr) (ns:List Str) (xs:List Dt)
 | dct (ks:List Key) (xs:List Dt)
abbrev Ms:=List MO
abbrev En:=List (Option Dt)
mutual
def Den(K:PySem.W.Frag)(G:Hp)(L:List Addr):Dt→V→Prop
 | .non,v=>v= .non
 | .bl b,v=>v= .bl b
 | .int i,v=>v= .int i
 | .str x,v=>v= .str x
 | .tup ds,v=>∃a vs,v= .ref a∧G a=some (.tup vs)∧aJ K G L ds vs
 | .lst ds,v=>∃a vs,v= .ref a∧G a=some (.lst vs)∧aJ K G L ds vs
 | .obj C ns ds,v=>∃a dx vs,v= .ref a∧G a=some (.ins C dx (ns.zip vs))∧ns.length=ds.length∧aJ K G L ds vs
 | .loc k,v=>∃a,v= .ref a∧L[k]? =some a
 | .ref a,v=>v= .ref a
 | .ty n,v=>v= .ty n
 | .scr ns,v=>∃a,v= .ref a∧SqL K G a (ns.map V.int)
 | .kt ds,v=>∃a vs,v= .ref a∧SqT K G a vs∧aJ K G L ds vs
 | .exc C ns ds,v=>∃a od vs,v= .ref a∧G a=some (xO a C od)∧((ns=[]∧od=none)∨∃dx,od=some dx∧G dx=some (.xd (ns.zip vs)))∧ns.length=ds.length∧aJ K G L ds vs
 | .exn x _ od ns ds,v=>∃vs,v= .ref x∧((ns=[]∧od=none)∨∃dx,od=some dx∧G dx=some (.xd (ns.zip vs)))∧ns.length=ds.length∧aJ K G L ds vs
def aJ(K:PySem.W.Frag)(G:Hp)(L:List Addr):List Dt→List V→Prop
 | [],vs=>vs=[]
 | d::ds,vs=>∃v r,vs=v::r∧Den K G L d v∧aJ K G L ds r
end
def Pre(L L':List Addr):Prop:=∃t,L'=L++t
theorem Pre.refl(L:List Addr):Pre L L:=⟨[],by simp⟩
theorem Pre.trans{a b c:List Addr}(h:Pre a b)(h':Pre b c):Pre a c:=by
 obtain ⟨t,rfl⟩:=h
 obtain ⟨u,rfl⟩:=h'
 exact ⟨t++u,by simp⟩
theorem Pre.get{a b:List Addr}(h:Pre a b){k:Nat}{x:Addr}(e:a[k]? =some x):b[k]? =some x:=by
 obtain ⟨t,rfl⟩:=h
 have hk:k < a.length:=(List.getElem?_eq_some_iff.mp e).1
 rw [List.getElem?_append_left hk];exact e
theorem fK.rd{H H':Hp}{a:Addr}{u:HO}(e:fK H H')(h:Rd H a u):Rd H' a u:=by
 rcases h with h | ⟨o,h⟩
 ·exact .inl (e _ _ h)
 ·exact .inr ⟨o,e _ _ h⟩
theorem fK.sqT{K:PySem.W.Frag}{H H':Hp}{a:Addr}{xs:List V}(e:fK H H')(h:SqT K H a xs):SqT K H' a xs:=by
 rcases h with h | h
 ·exact .inl (e.rd h)
 ·exact .inr h
section
variable{K:PySem.W.Frag}{G G':Hp}{L L':List Addr}
mutual
theorem Den.mono(g:fK G G')(l:Pre L L'):∀(d:Dt) (v:V),Den K G L d v→Den K G' L' d v
 | .non,_,h=>h
 | .bl _,_,h=>h
 | .int _,_,h=>h
 | .str _,_,h=>h
 | .tup ds,_,⟨a,vs,e,h1,h2⟩=>⟨a,vs,e,g _ _ h1,aJ.mono g l ds vs h2⟩
 | .lst ds,_,⟨a,vs,e,h1,h2⟩=>⟨a,vs,e,g _ _ h1,aJ.mono g l ds vs h2⟩
 | .obj C ns ds,_,⟨a,dx,vs,e,h1,hn,h2⟩=>⟨a,dx,vs,e,g _ _ h1,hn,aJ.mono g l ds vs h2⟩
 | .loc k,_,⟨a,e,h1⟩=>⟨a,e,l.get h1⟩
 | .ref _,_,h=>h
 | .ty _,_,h=>h
 | .scr _,_,⟨a,e,h1⟩=>⟨a,e,g.seq h1⟩
 | .kt ds,_,⟨a,vs,e,h1,h2⟩=>⟨a,vs,e,g.sqT h1,aJ.mono g l ds vs h2⟩
 | .exc _ _ ds,_,⟨a,od,vs,e,h1,h2,h3,h4⟩=>⟨a,od,vs,e,g _ _ h1,h2.imp (fun z=>z) (fun ⟨dx,z1,z2⟩=>⟨dx,z1,g _ _ z2⟩),h3,aJ.mono g l ds vs h4⟩
 | .exn _ _ _ _ ds,_,⟨vs,e,h2,h3,h4⟩=>⟨vs,e,h2.imp (fun z=>z) (fun ⟨dx,z1,z2⟩=>⟨dx,z1,g _ _ z2⟩),h3,aJ.mono g l ds vs h4⟩
theorem aJ.mono(g:fK G G')(l:Pre L L'):∀(ds:List Dt) (vs:List V),aJ K G L ds vs→aJ K G' L' ds vs
 | [],_,h=>h
 | d::ds,_,⟨v,r,e,h1,h2⟩=>⟨v,r,e,Den.mono g l d v h1,aJ.mono g l ds r h2⟩
end
theorem aJ.pair:∀{ds:List Dt} {vs:List V},aJ K G L ds vs→Paired (Den K G L) ds vs
 | [],_,h=>by
  have h:_=_:=h
  subst h
  exact .nil
 | d::ds,_,⟨v,r,e,h1,h2⟩=>by
  subst e
  exact .cons h1 (aJ.pair h2)
theorem aJ.of:∀{ds:List Dt} {vs:List V},Paired (Den K G L) ds vs→aJ K G L ds vs
 | _,_, .nil=>rfl
 | _,_, .cons h t=>⟨_,_,rfl,h,aJ.of t⟩
end
section
variable{α β:Type}{F:α→β→Prop}
theorem rC:∀{xs:List α} {us:List β} {i:Nat} {x:α},Paired F xs us→xs[i]? =some x→∃u,us[i]? =some u∧F x u
 | _,_,_,_, .nil,e=>by simp at e
 | _,_,0,_, .cons r _,e=>by simp at e;subst e;exact ⟨_,rfl,r⟩
 | _,_,i+1,x, .cons _ t,e=>by
  obtain ⟨u,h1,h2⟩:=rC (i:=i) (x:=x) t (by simpa using e)
  exact ⟨u,by simpa using h1,h2⟩
theorem rB{x:α}{u:β}(r:F x u):∀{xs:List α} {us:List β} (i:Nat),Paired F xs us→Paired F (xs.set i x) (us.set i u)
 | _,_,_, .nil=> .nil
 | _,_,0, .cons _ t=> .cons r t
 | _,_,i+1, .cons q t=> .cons q (rB r i t)
theorem nh:∀{xs ys:List α} {us ws:List β},Paired F xs us→Paired F ys ws→Paired F (xs++ys) (us++ws)
 | _,_,_,_, .nil,s=>s
 | _,_,_,_, .cons r t,s=> .cons r (nh t s)
theorem ng{xs:List α}{us:List β}(h:Paired F xs us):∀k:Nat,Paired F (List.replicate k xs).flatten (List.replicate k us).flatten
 | 0=> .nil
 | k+1=>by
  rw [List.replicate_succ,List.replicate_succ,List.flatten_cons,List.flatten_cons]
  exact nh h (ng h k)
end
section
variable{K:PySem.W.Frag}{G:Hp}{L:List Addr}
theorem aJ.length{ds:List Dt}{vs:List V}(h:aJ K G L ds vs):ds.length=vs.length:=Paired.length h.pair
theorem aJ.get{ds:List Dt}{vs:List V}{i:Nat}{d:Dt}(h:aJ K G L ds vs)(e:ds[i]? =some d):∃v,vs[i]? =some v∧Den K G L d v:=rC h.pair e
theorem aJ.app{ds es:List Dt}{vs us:List V}(h:aJ K G L ds vs)(h':aJ K G L es us):aJ K G L (ds++es) (vs++us):= .of (nh h.pair h'.pair)
theorem eM:∀{ns:List Int},aJ K G L (ns.map Dt.int) (ns.map V.int)
 | []=>rfl
 | n::ns=>⟨_,_,rfl,rfl,eM⟩
theorem bB{d:Dt}{vs:List V}(h:aJ K G L [d] vs):∃v,vs=[v]∧Den K G L d v:=by
 obtain ⟨v,r,rfl,h1,h2⟩:=h
 have h2:r=[]:=h2
 subst h2
 exact ⟨v,rfl,h1⟩
theorem fe{d e:Dt}{vs:List V}(h:aJ K G L [d,e] vs):∃v u,vs=[v,u]∧Den K G L d v∧Den K G L e u:=by
 obtain ⟨v,r,rfl,h1,h2⟩:=h
 obtain ⟨u,rfl,h3⟩:=bB h2
 exact ⟨v,u,rfl,h1,h3⟩
end
def MOk(K:PySem.W.Frag)(G:Hp)(L:List Addr)(H:Hp)(a:Addr):MO→Prop
 | .lst ds=>∃vs,H a=some (.lst vs)∧aJ K G L ds vs
 | .ins C ns ds=>∃dx vs,H a=some (.ins C dx (ns.zip vs))∧ns.length=ds.length∧aJ K G L ds vs
 | .dct ks ds=>∃vs,H a=some (.dK (ks.zip vs))∧ks.length=ds.length∧aJ K G L ds vs
structure Rl(K:PySem.W.Frag)(G:Hp)(L:List Addr)(M:Ms)(H:Hp):Prop where
 sub:fK G H
 len:L.length=M.length
 nd:L.Nodup
 ats:∀(k:Nat) (a:Addr) (m:MO),L[k]? =some a→M[k]? =some m→G a=none∧MOk K G L H a m
structure Ex(G:Hp)(L:List Addr)(H:Hp)(G':Hp)(L':List Addr)(H':Hp):Prop where
 g:fK G G'
 l:Pre L L'
 fr:∀b,G b=none→H b≠none→G' b=none
 out:∀b o,H b=some o→b∉L→H' b=some o
 new:∀b∈L',b∈L∨H b=none
 dom:∀b,H b≠none→H' b≠none
theorem Ex.refl(G:Hp)(L:List Addr)(H:Hp):Ex G L H G L H:=⟨.refl _, .refl _,fun _ h _=>h,fun _ _ h _=>h,fun _ h=> .inl h,fun _ h=>h⟩
theorem Ex.trans{G:Hp}{L:List Addr}{H G1:Hp}{L1:List Addr}{H1 G2:Hp}{L2:List Addr}{H2:Hp}(a:Ex G L H G1 L1 H1)(b:Ex G1 L1 H1 G2 L2 H2):Ex G L H G2 L2 H2 where
 g:=a.g.trans b.g
 l:=a.l.trans b.l
 fr:=fun x h1 h2=>b.fr x (a.fr x h1 h2) (a.dom x h2)
 out:=fun x o h1 h2=>b.out x o (a.out x o h1 h2) fun z=>(a.new x z).elim h2 fun q=>by rw [h1] at q;cases q
 new:=fun x h=>by
  rcases b.new x h with z | z
  ·exact a.new x z
  ·right
   cases q:H x with
   | none=>rfl
   | some o=>exact absurd z (a.dom x (by rw [q];simp))
 dom:=fun x h=>b.dom x (a.dom x h)
theorem MOk.there{K:PySem.W.Frag}{G:Hp}{L:List Addr}{H:Hp}{a:Addr}{m:MO}(h:MOk K G L H a m):H a≠none:=by
 cases m with
 | lst ds=>obtain ⟨vs,e,_⟩:=h;rw [e];simp
 | ins C ns ds=>obtain ⟨dx,vs,e,_⟩:=h;rw [e];simp
 | dct ks ds=>obtain ⟨vs,e,_⟩:=h;rw [e];simp
theorem MOk.mono{K:PySem.W.Frag}{G G':Hp}{L L':List Addr}{H H':Hp}{a:Addr}{m:MO}(g:fK G G')(l:Pre L L')(e:H' a=H a)(h:MOk K G L H a m):MOk K G' L' H' a m:=by
 cases m with
 | lst ds=>obtain ⟨vs,e1,h⟩:=h;exact ⟨vs,e.trans e1,aJ.mono g l _ _ h⟩
 | ins C ns ds=>obtain ⟨dx,vs,e1,h0,h⟩:=h;exact ⟨dx,vs,e.trans e1,h0,aJ.mono g l _ _ h⟩
 | dct ks ds=>obtain ⟨vs,e1,h0,h⟩:=h;exact ⟨vs,e.trans e1,h0,aJ.mono g l _ _ h⟩
section
variable{K:PySem.W.Frag}{G:Hp}{L:List Addr}{M:Ms}{H:Hp}{p:Addr}{o:HO}
theorem Rl.at_mem(r:Rl K G L M H){a:Addr}(h:a∈L):∃(k:Nat) (m:MO),L[k]? =some a∧M[k]? =some m∧G a=none∧MOk K G L H a m:=by
 obtain ⟨k,hk,e⟩:=List.getElem_of_mem h
 have e1:L[k]? =some a:=by rw [List.getElem?_eq_getElem hk,e]
 have e2:M[k]? =some (M[k]'(by rw [←r.len];exact hk)):=List.getElem?_eq_getElem _
 exact ⟨k,_,e1,e2,r.ats k a _ e1 e2⟩
theorem Rl.memN(r:Rl K G L M H)(hp:H p=none):p∉L:=fun z=>by
 obtain ⟨k,m,_,_,_,h⟩:=r.at_mem z
 exact h.there hp
theorem Rl.newG(r:Rl K G L M H)(hp:H p=none):Rl K (upd G p o) L M (upd H p o) where
 sub:=fun b u e=>by
  by_cases hb:b=p
  ·subst hb;rw [ao] at e⊢;exact e
  ·rw [ai hb] at e⊢;exact r.sub b u e
 len:=r.len
 nd:=r.nd
 ats:=fun k a m h1 h2=>by
  obtain ⟨q1,q2⟩:=r.ats k a m h1 h2
  have hb:a≠p:=fun z=>q2.there (by rw [z];exact hp)
  exact ⟨by rw [ai hb];exact q1,q2.mono (fun b u e=>by rw [ai (fun z=>by rw [z,r.sub.free hp] at e;cases e)];exact e) (.refl _) (ai hb)⟩
theorem Rl.exG(r:Rl K G L M H)(hp:H p=none):Ex G L H (upd G p o) L (upd H p o) where
 g:=fun b u e=>by rw [ai (fun z=>by rw [z,r.sub.free hp] at e;cases e)];exact e
 l:= .refl _
 fr:=fun b h1 h2=>by rw [ai (fun z=>h2 (by rw [z];exact hp))];exact h1
 out:=fun b u h1 _=>by rw [ai (fun z=>by rw [z,hp] at h1;cases h1)];exact h1
 new:=fun b h=> .inl h
 dom:=fun b h=>by rw [ai (fun z=>h (by rw [z];exact hp))];exact h
theorem Rl.newM{m:MO}(r:Rl K G L M H)(hp:H p=none)(hm:MOk K G (L++[p]) (upd H p o) p m):Rl K G (L++[p]) (M++[m]) (upd H p o) where
 sub:=fun b u e=>by rw [ai (fun z=>by rw [z,r.sub.free hp] at e;cases e)];exact r.sub b u e
 len:=by rw [List.length_append,List.length_append,r.len];rfl
 nd:=List.nodup_append.mpr ⟨r.nd,by simp,fun a ha b hb=>by
  have e:b=p:=by simpa using hb
  rw [e];exact fun z=>r.memN hp (z▸ha)⟩
 ats:=fun k a m' h1 h2=>by
  by_cases hk:k < L.length
  ·rw [List.getElem?_append_left hk] at h1
   rw [List.getElem?_append_left (by rw [←r.len];exact hk)] at h2
   obtain ⟨q1,q2⟩:=r.ats k a m' h1 h2
   exact ⟨q1,q2.mono (.refl _) ⟨[p],rfl⟩ (ai fun z=>q2.there (by rw [z];exact hp))⟩
  ·have e:k=L.length:=by
    have:=(List.getElem?_eq_some_iff.mp h1).1
    rw [List.length_append] at this
    simp at this
    omega
   rw [e,List.getElem?_append_right (Nat.le_refl _)] at h1
   rw [e,r.len,List.getElem?_append_right (Nat.le_refl _)] at h2
   simp at h1 h2
   subst h1 h2
   exact ⟨r.sub.free hp,hm⟩
theorem Rl.exM(r:Rl K G L M H)(hp:H p=none):Ex G L H G (L++[p]) (upd H p o) where
 g:= .refl _
 l:=⟨[p],rfl⟩
 fr:=fun b h1 _=>h1
 out:=fun b u h1 _=>by rw [ai (fun z=>by rw [z,hp] at h1;cases h1)];exact h1
 new:=fun b h=>by
  rcases List.mem_append.mp h with z | z
  ·exact .inl z
  ·have e:b=p:=by simpa using z
   right;rw [e];exact hp
 dom:=fun b h=>by rw [ai (fun z=>h (by rw [z];exact hp))];exact h
theorem Rl.setM{k:Nat}{a:Addr}{m:MO}(r:Rl K G L M H)(hk:L[k]? =some a)(hm:MOk K G L (upd H a o) a m):Rl K G L (M.set k m) (upd H a o) where
 sub:=fun b u e=>by
  obtain ⟨k',m',e1,e2,q1,_⟩:=r.at_mem (List.mem_of_getElem? hk)
  rw [ai (fun z=>by rw [z,q1] at e;cases e)];exact r.sub b u e
 len:=by rw [List.length_set];exact r.len
 nd:=r.nd
 ats:=fun k' a' m' h1 h2=>by
  by_cases e:k'=k
  ·subst e
   rw [hk] at h1;cases h1
   have hl:k' < M.length:=by rw [←r.len];exact (List.getElem?_eq_some_iff.mp hk).1
   rw [List.getElem?_set_self hl] at h2
   cases h2
   obtain ⟨_,_,_,_,q1,_⟩:=r.at_mem (List.mem_of_getElem? hk)
   exact ⟨q1,hm⟩
  ·rw [List.getElem?_set_ne (fun z=>e z.symm)] at h2
   obtain ⟨q1,q2⟩:=r.ats k' a' m' h1 h2
   have ne:a'≠a:=fun z=>by
    subst z
    exact e ((List.getElem?_inj (List.getElem?_eq_some_iff.mp h1).1 r.nd).mp (h1.trans hk.symm))
   exact ⟨q1,q2.mono (.refl _) (.refl _) (ai ne)⟩
theorem Rl.exS{k:Nat}{a:Addr}(r:Rl K G L M H)(hk:L[k]? =some a):Ex G L H G L (upd H a o) where
 g:= .refl _
 l:= .refl _
 fr:=fun b h1 _=>h1
 out:=fun b u h1 h2=>by rw [ai (fun z=>h2 (by rw [z];exact List.mem_of_getElem? hk))];exact h1
 new:=fun b h=> .inl h
 dom:=fun b h=>by
  by_cases e:b=a
  ·rw [e,ao];simp
  ·rw [ai e];exact h
end
structure EnD(K:PySem.W.Frag)(G:Hp)(L:List Addr)(ρ:En)(σ:St):Prop where
 len:ρ.length=σ.length
 ats:∀(i:Nat) (d:Dt),ρ[i]? =some (some d)→∃v,σ[i]? =some (some v)∧Den K G L d v
section
variable{K:PySem.W.Frag}{G G':Hp}{L L':List Addr}{H H':Hp}{ρ:En}{σ:St}
theorem EnD.mono(h:EnD K G L ρ σ)(e:Ex G L H G' L' H'):EnD K G' L' ρ σ:=⟨h.len,fun i d q=>let ⟨v,a,b⟩:=h.ats i d q;⟨v,a,Den.mono e.g e.l d v b⟩⟩
theorem EnD.set(h:EnD K G L ρ σ)(i:Nat){d:Dt}{v:V}(q:Den K G L d v):EnD K G L (ρ.set i (some d)) (σ.set i (some v)):=by
 refine ⟨by rw [List.length_set,List.length_set];exact h.len,fun j d' e=> ?_⟩
 by_cases hj:i=j
 ·subst hj
  have hl:i < ρ.length:=by
   have:=(List.getElem?_eq_some_iff.mp e).1
   rwa [List.length_set] at this
  rw [List.getElem?_set_self hl] at e
  cases e
  exact ⟨v,List.getElem?_set_self (by rw [←h.len];exact hl),q⟩
 ·rw [List.getElem?_set_ne hj] at e
  obtain ⟨u,a,b⟩:=h.ats j d' e
  exact ⟨u,by rw [List.getElem?_set_ne hj];exact a,b⟩
end
abbrev DQ:=Dt→Ms→Prop
abbrev DX:=En→Addr→List (Str×Dt)→Ms→Prop
def BL(K:PySem.W.Frag)(G:Hp)(L:List Addr)(H:Hp)(fs:List (Str×Dt))(od:Option Addr):Prop:=
 (fs=[]∧od=none)∨fs≠[]∧∃dx vs,od=some dx∧G dx=some (.xd ((fs.map (·.1)).zip vs))∧aJ K G L (fs.map (·.2)) vs
def XOk(K:PySem.W.Frag)(G:Hp)(L:List Addr)(H:Hp)(R:St→XK)(x:DX):Prop:=
 ∀σ ρ C fs M' G' L' H' od,x ρ C fs M'→Ex G L H G' L' H'→Rl K G' L' M' H'→EnD K G' L' ρ σ→BL K G' L' H' fs od→R σ (.ref C) od H'
theorem XOk.on{K:PySem.W.Frag}{G:Hp}{L:List Addr}{H G1:Hp}{L1:List Addr}{H1:Hp}{R:St→XK}{x:DX}(h:XOk K G L H R x)(e:Ex G L H G1 L1 H1):XOk K G1 L1 H1 R x:=
 fun σ ρ C fs M' G' L' H' od q e' r n y=>h σ ρ C fs M' G' L' H' od q (e.trans e') r n y
def noX:DX:=fun _ _ _ _=>False
theorem hU{K:PySem.W.Frag}{G:Hp}{L:List Addr}{H:Hp}{R:St→XK}:XOk K G L H R noX:=fun _ _ _ _ _ _ _ _ _ q=>q.elim
abbrev DE:=En→Ms→DQ→DX→Prop
abbrev DT:=En→Ms→(Bool→Ms→Prop)→DX→Prop
abbrev DA:=En→Ms→(List Dt→Ms→Prop)→DX→Prop
structure fW where
 nx:En→Ms→Prop
 rt:DQ
 bk:En→Ms→Prop:=fun _ _=>False
 ct:En→Ms→Prop:=fun _ _=>False
 x:DX:=noX
abbrev DS:=fW→En→Ms→Prop
inductive Fin(K:PySem.W.Frag)(G0:Hp)(L0:List Addr)(H0:Hp)(q:DQ)(v:V)(H:Hp):Prop
 | mk (d:Dt) (G:Hp) (L:List Addr) (M:Ms) (e:Ex G0 L0 H0 G L H) (r:Rl K G L M H) (n:Den K G L d v) (h:q d M)
inductive v7(K:PySem.W.Frag)(G0:Hp)(L0:List Addr)(H0:Hp)(q:Bool→Ms→Prop)(b:Bool)(H:Hp):Prop
 | mk (G:Hp) (L:List Addr) (M:Ms) (e:Ex G0 L0 H0 G L H) (r:Rl K G L M H) (h:q b M)
inductive BK(K:PySem.W.Frag)(G0:Hp)(L0:List Addr)(H0:Hp)(q:List Dt→Ms→Prop)(vs:List V)(H:Hp):Prop
 | mk (ds:List Dt) (G:Hp) (L:List Addr) (M:Ms) (e:Ex G0 L0 H0 G L H) (r:Rl K G L M H) (n:aJ K G L ds vs) (h:q ds M)
inductive hI(K:PySem.W.Frag)(G0:Hp)(L0:List Addr)(H0:Hp)(q:En→Ms→Prop)(σ:St)(H:Hp):Prop
 | mk (ρ:En) (G:Hp) (L:List Addr) (M:Ms) (e:Ex G0 L0 H0 G L H) (r:Rl K G L M H) (n:EnD K G L ρ σ) (h:q ρ M)
def v8(K:PySem.W.Frag)(G0:Hp)(L0:List Addr)(H0:Hp)(Dn:fW):qB:=⟨hI K G0 L0 H0 Dn.nx,Fin K G0 L0 H0 Dn.rt,hI K G0 L0 H0 Dn.bk,hI K G0 L0 H0 Dn.ct⟩
inductive nJ(K:PySem.W.Frag)(R:St→XK)(t:DE)(σ:St)(H:Hp)(Q:VK):Prop
 | mk (G:Hp) (L:List Addr) (ρ:En) (M:Ms) (q:DQ) (x:DX) (r:Rl K G L M H) (n:EnD K G L ρ σ) (h:t ρ M q x) (hx:XOk K G L H R x) (hQ:∀v H1,Fin K G L H q v H1→Q v H1)
inductive By(K:PySem.W.Frag)(R:St→XK)(t:DT)(σ:St)(H:Hp)(Q:Bool→Hp→Prop):Prop
 | mk (G:Hp) (L:List Addr) (ρ:En) (M:Ms) (q:Bool→Ms→Prop) (x:DX) (r:Rl K G L M H) (n:EnD K G L ρ σ) (h:t ρ M q x) (hx:XOk K G L H R x) (hQ:∀b H1,v7 K G L H q b H1→Q b H1)
inductive Ei(K:PySem.W.Frag)(R:St→XK)(t:DA)(σ:St)(H:Hp)(Q:List V→Hp→Prop):Prop
 | mk (G:Hp) (L:List Addr) (ρ:En) (M:Ms) (q:List Dt→Ms→Prop) (x:DX) (r:Rl K G L M H) (n:EnD K G L ρ σ) (h:t ρ M q x) (hx:XOk K G L H R x) (hQ:∀vs H1,BK K G L H q vs H1→Q vs H1)
structure DN(A B:qB):Prop where
 nx:∀σ H,A.nx σ H→B.nx σ H
 rt:∀v H,A.rt v H→B.rt v H
 bk:∀σ H,A.bk σ H→B.bk σ H
 ct:∀σ H,A.ct σ H→B.ct σ H
inductive Bz(K:PySem.W.Frag)(R:St→XK)(t:DS)(De:qB)(σ:St)(H:Hp):Prop
 | mk (G:Hp) (L:List Addr) (ρ:En) (M:Ms) (Dn:fW) (r:Rl K G L M H) (n:EnD K G L ρ σ) (h:t Dn ρ M) (hx:XOk K G L H R Dn.x) (hQ:DN (v8 K G L H Dn) De)
def JE(X:Cx)(R:St→XK)(e:Expr)(t:DE):Prop:=PE X e (nJ X.K R t)
def JT(X:Cx)(R:St→XK)(e:Expr)(t:DT):Prop:=PT X e (By X.K R t)
def JW(X:Cx)(R:St→XK)(e:Expr)(t:DT):Prop:=PW X e (By X.K R t)
def JA(X:Cx)(R:St→XK)(es:List Expr)(t:DA):Prop:=PA X es (Ei X.K R t)
def JS(X:Cx)(R:St→XK)(st:Stmt)(t:DS):Prop:=PS X st (Bz X.K R t)
def JSs(X:Cx)(R:St→XK)(st:List Stmt)(t:DS):Prop:=PSs X st (Bz X.K R t)
section
variable{K:PySem.W.Frag}{G0:Hp}{L0:List Addr}{H0 G1:Hp}{L1:List Addr}{H1:Hp}
theorem Fin.back{q:DQ}(e:Ex G0 L0 H0 G1 L1 H1){v:V}{H:Hp}(h:Fin K G1 L1 H1 q v H):Fin K G0 L0 H0 q v H:=let ⟨d,G,L,M,a,b,c,f⟩:=h;⟨d,G,L,M,e.trans a,b,c,f⟩
theorem hI.back{q:En→Ms→Prop}(e:Ex G0 L0 H0 G1 L1 H1){v:St}{H:Hp}(h:hI K G1 L1 H1 q v H):hI K G0 L0 H0 q v H:=let ⟨d,G,L,M,a,b,c,f⟩:=h;⟨d,G,L,M,e.trans a,b,c,f⟩
theorem v7.back{q:Bool→Ms→Prop}(e:Ex G0 L0 H0 G1 L1 H1){v:Bool}{H:Hp}(h:v7 K G1 L1 H1 q v H):v7 K G0 L0 H0 q v H:=let ⟨G,L,M,a,b,f⟩:=h;⟨G,L,M,e.trans a,b,f⟩
theorem v8.back{Dn:fW}(e:Ex G0 L0 H0 G1 L1 H1):DN (v8 K G1 L1 H1 Dn) (v8 K G0 L0 H0 Dn):=⟨fun _ _ h=>hI.back e h,fun _ _ h=>Fin.back e h,fun _ _ h=>hI.back e h,fun _ _ h=>hI.back e h⟩
theorem SP.imp{X:Cx}{pins:List (Addr×Obj)}{A B:qB}(e:DN A B){f:Flow}{s:Shared}(h:SP X pins A f s):SP X pins B f s:=by
 cases f with
 | next=>obtain ⟨a,b,I,q⟩:=h;exact ⟨a,b,I,e.nx _ _ q⟩
 | brk=>obtain ⟨a,b,I,q⟩:=h;exact ⟨a,b,I,e.bk _ _ q⟩
 | cont=>obtain ⟨a,b,I,q⟩:=h;exact ⟨a,b,I,e.ct _ _ q⟩
 | ret u=>obtain ⟨v,a,b,I,r,q⟩:=h;exact ⟨v,a,b,I,r,e.rt _ _ q⟩
end
section
variable{X:Cx}{R:St→XK}{e:Expr}
theorem JE.of{te:TE}{t:DE}(h:PE X e te)(hw:∀σ H G L ρ M q x,Rl X.K G L M H→EnD X.K G L ρ σ→t ρ M q x→XOk X.K G L H R x→te σ H (Fin X.K G L H q)):JE X R e t:=by
 intro pins s σ H Q I ⟨G,L,ρ,M,q,x,r,n,ht,hx,hQ⟩
 refine thn (h pins s σ H _ I (hw σ H G L ρ M q x r n ht hx)) fun u s1 ⟨v,H1,I1,rv,f⟩=>⟨v,H1,I1,rv,hQ v H1 f⟩
theorem JT.of{te:TT}{t:DT}(h:PT X e te)(hw:∀σ H G L ρ M q x,Rl X.K G L M H→EnD X.K G L ρ σ→t ρ M q x→XOk X.K G L H R x→te σ H (v7 X.K G L H q)):JT X R e t:=by
 intro pins s σ H Q I ⟨G,L,ρ,M,q,x,r,n,ht,hx,hQ⟩
 refine thn (h pins s σ H _ I (hw σ H G L ρ M q x r n ht hx)) fun u s1 ⟨H1,I1,f⟩=>⟨H1,I1,hQ u H1 f⟩
theorem JW.of{te:TT}{t:DT}(h:PW X e te)(hw:∀σ H G L ρ M q x,Rl X.K G L M H→EnD X.K G L ρ σ→t ρ M q x→XOk X.K G L H R x→te σ H (v7 X.K G L H q)):JW X R e t:=by
 intro wh pins s σ H Q I ⟨G,L,ρ,M,q,x,r,n,ht,hx,hQ⟩
 refine thn (h wh pins s σ H _ I (hw σ H G L ρ M q x r n ht hx)) fun u s1 ⟨H1,I1,f⟩=>⟨H1,I1,hQ u H1 f⟩
theorem JA.of{es:List Expr}{te:TA}{t:DA}(h:PA X es te)(hw:∀σ H G L ρ M q x,Rl X.K G L M H→EnD X.K G L ρ σ→t ρ M q x→XOk X.K G L H R x→te σ H (BK X.K G L H q)):JA X R es t:=by
 intro pos pins s σ H Q I ⟨G,L,ρ,M,q,x,r,n,ht,hx,hQ⟩
 refine thn (h pos pins s σ H _ I (hw σ H G L ρ M q x r n ht hx)) fun u s1 ⟨v,H1,I1,rv,f⟩=>⟨v,H1,I1,rv,hQ v H1 f⟩
theorem JS.of{st:Stmt}{te:TS}{t:DS}(h:PS X st te)(hw:∀σ H G L ρ M Dn,Rl X.K G L M H→EnD X.K G L ρ σ→t Dn ρ M→XOk X.K G L H R Dn.x→te (v8 X.K G L H Dn) σ H):JS X R st t:=by
 intro pins s σ H De I ⟨G,L,ρ,M,Dn,r,n,ht,hx,hQ⟩
 exact thn (h pins s σ H _ I (hw σ H G L ρ M Dn r n ht hx)) fun u s1 f=>SP.imp hQ f
theorem JSs.of{st:List Stmt}{te:TS}{t:DS}(h:PSs X st te)(hw:∀σ H G L ρ M Dn,Rl X.K G L M H→EnD X.K G L ρ σ→t Dn ρ M→XOk X.K G L H R Dn.x→te (v8 X.K G L H Dn) σ H):JSs X R st t:=by
 intro pins s σ H De I ⟨G,L,ρ,M,Dn,r,n,ht,hx,hQ⟩
 exact thn (h pins s σ H _ I (hw σ H G L ρ M Dn r n ht hx)) fun u s1 f=>SP.imp hQ f
end
end L2
namespace L2
open PySem PySem.Spec PyProof.Rows
def oa(i:Nat):DE:=fun ρ M q _=>match ρ[i]? with
 | some (some d)=>q d M
 | _=>False
def dC(d:Dt):DE:=fun _ M q _=>q d M
def dOp(f:Dt→Dt→Ms→DQ→Prop)(a b:DE):DE:=fun ρ M q x=>a ρ M (fun d1 M1=>b ρ M1 (fun d2 M2=>f d1 d2 M2 q) x) x
def dUn(f:Dt→Ms→DQ→Prop)(a:DE):DE:=fun ρ M q x=>a ρ M (fun d1 M1=>f d1 M1 q) x
def vY:DA:=fun _ M q _=>q [] M
def jd(a:DE)(r:DA):DA:=fun ρ M q x=>a ρ M (fun d M1=>r ρ M1 (fun ds M2=>q (d::ds) M2) x) x
def dFn(f:List Dt→Ms→DQ→Prop)(a:DA):DE:=fun ρ M q x=>a ρ M (fun ds M1=>f ds M1 q) x
def OpD(K:PySem.W.Frag)(r:R2)(f:Dt→Dt→Ms→DQ→Prop):Prop:=
 ∀G0 L0 H0 G L M H v1 v2 d1 d2 q,Ex G0 L0 H0 G L H→Rl K G L M H→Den K G L d1 v1→Den K G L d2 v2→f d1 d2 M q→r v1 v2 H (Fin K G0 L0 H0 q)
def UnD(K:PySem.W.Frag)(r:V→Hp→VK→Prop)(f:Dt→Ms→DQ→Prop):Prop:=
 ∀G0 L0 H0 G L M H v1 d1 q,Ex G0 L0 H0 G L H→Rl K G L M H→Den K G L d1 v1→f d1 M q→r v1 H (Fin K G0 L0 H0 q)
def CaD(K:PySem.W.Frag)(r:List V→Hp→VK→Prop)(f:List Dt→Ms→DQ→Prop):Prop:=
 ∀G0 L0 H0 G L M H vs ds q,Ex G0 L0 H0 G L H→Rl K G L M H→aJ K G L ds vs→f ds M q→r vs H (Fin K G0 L0 H0 q)
section
variable{K:PySem.W.Frag}{R:St→XK}{ta tb:DE}{tc:DA}{σ:St}{H G:Hp}{L:List Addr}{ρ:En}{M:Ms}{q:DQ}{x:DX}
theorem ue{r:R2}{f:Dt→Dt→Ms→DQ→Prop}(od:OpD K r f)(rl:Rl K G L M H)(n:EnD K G L ρ σ)(h:dOp f ta tb ρ M q x)(hx:XOk K G L H R x):tOp r (nJ K R ta) (nJ K R tb) σ H (Fin K G L H q):=by
 refine ⟨G,L,ρ,M,_,x,rl,n,h,hx,fun v H1 ⟨d1,G1,L1,M1,e1,r1,n1,h1⟩=> ?_⟩
 refine ⟨G1,L1,ρ,M1,_,x,r1,n.mono e1,h1,hx.on e1,fun v2 H2 ⟨d2,G2,L2,M2,e2,r2,n2,h2⟩=> ?_⟩
 exact od G L H G2 L2 M2 H2 v v2 d1 d2 q (e1.trans e2) r2 (Den.mono e2.g e2.l _ _ n1) n2 h2
theorem BP{r:V→Hp→VK→Prop}{f:Dt→Ms→DQ→Prop}(od:UnD K r f)(rl:Rl K G L M H)(n:EnD K G L ρ σ)(h:dUn f ta ρ M q x)(hx:XOk K G L H R x):tUn r (nJ K R ta) σ H (Fin K G L H q):=by
 refine ⟨G,L,ρ,M,_,x,rl,n,h,hx,fun v H1 ⟨d1,G1,L1,M1,e1,r1,n1,h1⟩=> ?_⟩
 exact od G L H G1 L1 M1 H1 v d1 q e1 r1 n1 h1
theorem Bm{r:List V→Hp→VK→Prop}{f:List Dt→Ms→DQ→Prop}(od:CaD K r f)(rl:Rl K G L M H)(n:EnD K G L ρ σ)(h:dFn f tc ρ M q x)(hx:XOk K G L H R x):tCB r (Ei K R tc) σ H (Fin K G L H q):=by
 refine ⟨G,L,ρ,M,_,x,rl,n,h,hx,fun v H1 ⟨d1,G1,L1,M1,e1,r1,n1,h1⟩=> ?_⟩
 exact od G L H G1 L1 M1 H1 v d1 q e1 r1 n1 h1
end
section
variable{X:Cx}{R:St→XK}{a b c:Expr}{ta tb:DE}{pos:Pos}
theorem jv(i:Nat){x:Str}{pos:Pos}(hN:X.N[i]? =some x:=by rfl)(hv:Vis X.env.scope x:=by first | exact Or.inl rfl | exact Or.inr (Or.inl rfl) | exact Or.inr (Or.inr rfl))(hd:(x==("__debug__":Str))=false:=by decide)
  (hcd:(x==("__classdict__":Str))=false:=by decide):JE X R (.Name x pos) (oa i):= .of (rJ hN hv hd hcd) fun σ H G L ρ M q x r n h hx=>by
 unfold oa at h
 split at h
 ·rename_i d e
  obtain ⟨v,e1,h1⟩:=n.ats i d e
  exact ⟨v,e1,d,G,L,M, .refl _ _ _,r,h1,h⟩
 ·exact h.elim
theorem j_c{d:Dt}{v:V}{e:Expr}(h:PE X e (tC v))(hd:∀G L,Den X.K G L d v):JE X R e (dC d):= .of h fun σ H G L ρ M q x r n h hx=>⟨d,G,L,M, .refl _ _ _,r,hd G L,h⟩
theorem ay{i j pos}:JE X R (.Constant (.int i) j pos) (dC (.int i)):=j_c zW fun _ _=>rfl
theorem jbl{b j pos}:JE X R (.Constant (.bool b) j pos) (dC (.bl b)):=j_c Cw fun _ _=>rfl
theorem yp{j pos}:JE X R (.Constant .none j pos) (dC .non):=j_c zV fun _ _=>rfl
theorem gG{x j pos}:JE X R (.Constant (.str x) j pos) (dC (.str x)):=j_c wz fun _ _=>rfl
theorem wM{op:Operator}{r:R2}{f:Dt→Dt→Ms→DQ→Prop}(ho:OpR X (binaryOp op) r)(od:OpD X.K r f)(ja:JE X R a ta)(jb:JE X R b tb):JE X R (.BinOp a op b pos) (dOp f ta tb):=
 .of (Ct ho ja jb) fun σ H G L ρ M q x r n h hx=>ue od r n h hx
theorem Fe{op:UnaryOp}{r:V→Hp→VK→Prop}{f:Dt→Ms→DQ→Prop}(ho:UnR X (unaryOp op) r)(od:UnD X.K r f)(ja:JE X R a ta):JE X R (.UnaryOp op a pos) (dUn f ta):=
 .of (Cr ho ja) fun σ H G L ρ M q x r n h hx=>BP od r n h hx
theorem sL{op:CmpOp}{r:R2}{f:Dt→Dt→Ms→DQ→Prop}(ho:OpR X (compareOp op) r)(od:OpD X.K r f)(ja:JE X R a ta)(jb:JE X R b tb)(hm:behindInMarks op b=false):JE X R (.Compare a [op] [b] pos) (dOp f ta tb):=
 .of (xU ho ja jb hm) fun σ H G L ρ M q x r n h hx=>ue od r n h hx
theorem CS{r:R2}{f:Dt→Dt→Ms→DQ→Prop}(hr:IxR X r)(od:OpD X.K r f)(ja:JE X R a ta)(jb:JE X R b tb)(hs:ow b):JE X R (.Subscript a b pos) (dOp f ta tb):=
 .of (Cu hr ja jb hs) fun σ H G L ρ M q x r n h hx=>ue od r n h hx
theorem cy{env:Env}{es:List Expr}{c j p}:starEach (.Constant c j p::es) env=(false,eval (.Constant c j p) env)::starEach es env:=rfl
theorem aj{env:Env}{es:List Expr}{c p}:starEach (.Name c p::es) env=(false,eval (.Name c p) env)::starEach es env:=rfl
theorem bQ{env:Env}{es:List Expr}{a o b p}:starEach (.BinOp a o b p::es) env=(false,eval (.BinOp a o b p) env)::starEach es env:=rfl
theorem bI{env:Env}{es:List Expr}{a b c p}:starEach (.Call a b c p::es) env=(false,eval (.Call a b c p) env)::starEach es env:=rfl
theorem cg{env:Env}{es:List Expr}{a b p}:starEach (.Subscript a b p::es) env=(false,eval (.Subscript a b p) env)::starEach es env:=rfl
theorem xq{env:Env}{es:List Expr}{a b p}:starEach (.Tuple a b p::es) env=(false,eval (.Tuple a b p) env)::starEach es env:=rfl
theorem af:JA X R [] vY:= .of wB fun σ H G L ρ M q x r n h hx=>⟨[],G,L,M, .refl _ _ _,r,rfl,h⟩
theorem aa{e:Expr}{es:List Expr}{te:DE}{t:DA}(ha:JE X R e te)(hr:JA X R es t)(hs:starEach (e::es) X.env=(false,eval e X.env)::starEach es X.env:=by first | exact cy | exact aj | exact bQ | exact bI | exact cg | exact xq | exact starK | exact starU | rfl):JA X R (e::es) (jd te t):=
 .of (nq ha hr hs) fun σ H G L ρ M q x rl n h hx=>by
  refine ⟨G,L,ρ,M,_,x,rl,n,h,hx,fun v H1 ⟨d1,G1,L1,M1,e1,r1,n1,h1⟩=> ?_⟩
  refine ⟨G1,L1,ρ,M1,_,x,r1,n.mono e1,h1,hx.on e1,fun v2 H2 ⟨d2,G2,L2,M2,e2,r2,n2,h2⟩=> ?_⟩
  exact ⟨d1::d2,G2,L2,M2,e1.trans e2,r2,⟨_,_,rfl,Den.mono e2.g e2.l _ _ n1,n2⟩,h2⟩
def Ey(t:DA):DE:=fun ρ M q x=>t ρ M (fun ds M1=>ds.length≤sizeLine∧q (.tup ds) M1) x
def BG(t:DA):DE:=fun ρ M q x=>t ρ M (fun ds M1=>ds.length≤sizeLine∧q (.lst ds) M1) x
def Dx(t:DA):DE:=fun ρ M q x=>t ρ M (fun ds M1=>ds.length≤sizeLine∧q (.loc M1.length) (M1++[.lst ds])) x
theorem iK{K:PySem.W.Frag}{G0:Hp}{L0:List Addr}{H0 G:Hp}{L:List Addr}{M:Ms}{H:Hp}{p:Addr}{o:HO}{d:Dt}{q:DQ}(e:Ex G0 L0 H0 G L H)(r:Rl K G L M H)(hp:H p=none)(hd:Den K (upd G p o) L d (.ref p))(h:q d M):Fin K G0 L0 H0 q (.ref p) (upd H p o):=
 ⟨d,upd G p o,L,M,e.trans (r.exG hp),r.newG hp,hd,h⟩
theorem kq{K:PySem.W.Frag}{G:Hp}{L:List Addr}{M:Ms}{H:Hp}{p:Addr}{ds:List Dt}{vs:List V}(r:Rl K G L M H)(hp:H p=none)(h:aJ K G L ds vs):Den K (upd G p (.tup vs)) L (.tup ds) (.ref p):=
 ⟨p,vs,rfl,ao,aJ.mono (r.exG hp).g (.refl _) _ _ h⟩
theorem nY{K:PySem.W.Frag}{G:Hp}{L:List Addr}{M:Ms}{H:Hp}{p:Addr}{ds:List Dt}{vs:List V}(r:Rl K G L M H)(hp:H p=none)(h:aJ K G L ds vs):Den K (upd G p (.lst vs)) L (.lst ds) (.ref p):=
 ⟨p,vs,rfl,ao,aJ.mono (r.exG hp).g (.refl _) _ _ h⟩
theorem nU{K:PySem.W.Frag}{G0:Hp}{L0:List Addr}{H0 G:Hp}{L:List Addr}{M:Ms}{H:Hp}{p:Addr}{q:DQ}{ds:List Dt}{vs:List V}(e:Ex G0 L0 H0 G L H)(r:Rl K G L M H)(hp:H p=none)(hd:aJ K G L ds vs)(h:q (.loc M.length) (M++[.lst ds])):Fin K G0 L0 H0 q (.ref p) (upd H p (.lst vs)):=
 ⟨.loc M.length,G,L++[p],M++[.lst ds],e.trans (r.exM hp),r.newM (m:= .lst ds) hp ⟨vs,ao,aJ.mono (.refl _) ⟨[p],rfl⟩ _ _ hd⟩,⟨p,rfl,by rw [←r.len,List.getElem?_append_right (Nat.le_refl _)];simp⟩,h⟩
variable{es:List Expr}{t:DA}
theorem ff{x1}(h:JA X R es t):JE X R (.Tuple es x1 pos) (Ey t):= .of (zS h) fun σ H G L ρ M q x rl n h hx=>by
 refine ⟨G,L,ρ,M,_,x,rl,n,h,hx,fun v H1 ⟨d1,G1,L1,M1,e1,r1,n1,h1⟩=>⟨by rw [←n1.length];exact h1.1,fun p hp=> ?_⟩⟩
 exact iK e1 r1 hp (kq r1 hp n1) h1.2
theorem lP(h:JA X R es t):JE X R (.List es pos) (BG t):= .of (wA h) fun σ H G L ρ M q x rl n h hx=>by
 refine ⟨G,L,ρ,M,_,x,rl,n,h,hx,fun v H1 ⟨d1,G1,L1,M1,e1,r1,n1,h1⟩=>⟨by rw [←n1.length];exact h1.1,fun p hp=> ?_⟩⟩
 exact iK e1 r1 hp (nY r1 hp n1) h1.2
theorem lO(h:JA X R es t):JE X R (.List es pos) (Dx t):= .of (wA h) fun σ H G L ρ M q x rl n h hx=>by
 refine ⟨G,L,ρ,M,_,x,rl,n,h,hx,fun v H1 ⟨d1,G1,L1,M1,e1,r1,n1,h1⟩=>⟨by rw [←n1.length];exact h1.1,fun p hp=> ?_⟩⟩
 exact nU e1 r1 hp n1 h1.2
def jK(t:DE):DT:=fun ρ M q x=>t ρ M (fun d M1=>match d with
 | .bl b=>q b M1
 | _=>False) x
def orT(t u:DT):DT:=fun ρ M q x=>t ρ M (fun c M1=>(c=true→q true M1)∧(c=false→u ρ M1 q x)) x
def Ee(t:DT):DT:=fun ρ M q x=>t ρ M (fun c M1=>q (!c) M1) x
theorem zk{K:PySem.W.Frag}{t:DE}{σ:St}{H G:Hp}{L:List Addr}{ρ:En}{M:Ms}{q:Bool→Ms→Prop}{x:DX}(rl:Rl K G L M H)(n:EnD K G L ρ σ)(h:jK t ρ M q x)(hx:XOk K G L H R x):tB (nJ K R t) σ H (v7 K G L H q):=by
 refine ⟨G,L,ρ,M,_,x,rl,n,h,hx,fun v H1 ⟨d1,G1,L1,M1,e1,r1,n1,h1⟩=> ?_⟩
 (try dsimp only at h1)
 split at h1
 ·rename_i b
  exact ⟨b,n1,G1,L1,M1,e1,r1,h1⟩
 ·exact h1.elim
theorem bE{e:Expr}{t:DE}(h:JE X R e t)(he:∀whole,isTrue e X.env whole=(do let v←whole;standAt e.pos;holding [v] (truthy v)):=by intro _;rfl):JT X R e (jK t):=
 .of (zL h he) fun σ H G L ρ M q x rl n h hx=>zk rl n h hx
theorem dw{op:CmpOp}{r:R2}{f:Dt→Dt→Ms→DQ→Prop}(ho:OpR X (compareOp op) r)(od:OpD X.K r f)(ja:JE X R a ta)(jb:JE X R b tb)(hm:behindInMarks op b=false):JT X R (.Compare a [op] [b] pos) (jK (dOp f ta tb)):=
 .of (xH ho ja jb hm) fun σ H G L ρ M q x rl n h hx=>by
  have h:dOp f ta tb ρ M (fun d M1=>match d with | .bl b=>q b M1 | _=>False) x:=h
  refine ⟨G,L,ρ,M,_,x,rl,n,h,hx,fun v H1 ⟨d1,G1,L1,M1,e1,r1,n1,h1⟩=> ?_⟩
  refine ⟨G1,L1,ρ,M1,_,x,r1,n.mono e1,h1,hx.on e1,fun v2 H2 ⟨d2,G2,L2,M2,e2,r2,n2,h2⟩=> ?_⟩
  have:=od G L H G2 L2 M2 H2 v v2 d1 d2 _ (e1.trans e2) r2 (Den.mono e2.g e2.l _ _ n1) n2 h2
  have e:(fun x H'=>∃k,x=V.bl k∧v7 X.K G L H q k H')=Fin X.K G L H (fun d M1=>match d with | .bl b=>q b M1 | _=>False):=by
   funext y H'
   apply propext
   constructor
   ·rintro ⟨k,rfl,G3,L3,M3,e3,r3,h3⟩
    exact ⟨.bl k,G3,L3,M3,e3,r3,rfl,h3⟩
   ·rintro ⟨d,G3,L3,M3,e3,r3,n3,h3⟩
    split at h3
    ·rename_i k
     exact ⟨k,n3,G3,L3,M3,e3,r3,h3⟩
    ·exact h3.elim
  rw [e]
  exact this
theorem JW.jt{e:Expr}{t:DT}(h:JW X R e t):JT X R e t:=h _
variable{t1 t2:DT}{rest:List Expr}
theorem eG(ha:JT X R a t1):JW X R (.BoolOp .Or [a] pos) t1:=zJ ha
theorem fF(ha:JT X R a t1)(hb:JW X R (.BoolOp .Or (b::rest) pos) t2):JW X R (.BoolOp .Or (a::b::rest) pos) (orT t1 t2):= .of (Cp ha hb) fun σ H G L ρ M q x rl n h hx=>by
 refine ⟨G,L,ρ,M,_,x,rl,n,h,hx,fun c H1 ⟨G1,L1,M1,e1,r1,h1⟩=> ?_⟩
 cases c with
 | true=>exact za ⟨G1,L1,M1,e1,r1,h1.1 rfl⟩
 | false=>exact zb ⟨G1,L1,ρ,M1,_,x,r1,n.mono e1,h1.2 rfl,hx.on e1,fun b H2 f=>v7.back e1 f⟩
theorem iA(ha:JT X R a t1):JT X R (.UnaryOp .Not a pos) (Ee t1):= .of (zM ha) fun σ H G L ρ M q x rl n h hx=>
 ⟨G,L,ρ,M,_,x,rl,n,h,hx,fun _ _ ⟨G,L,M,e,r,h⟩=>⟨G,L,M,e,r,h⟩⟩
def EA(t u:DE):DE:=fun ρ M q x=>t ρ M (fun d M1=>match d with
 | .bl c=>(c=true→u ρ M1 q x)∧(c=false→q (.bl false) M1)
 | _=>False) x
def dOr(t u:DE):DE:=fun ρ M q x=>t ρ M (fun d M1=>match d with
 | .bl c=>(c=true→q (.bl true) M1)∧(c=false→u ρ M1 q x)
 | _=>False) x
def Ez(t:DE):DE:=fun ρ M q x=>t ρ M (fun d M1=>match d with
 | .bl c=>q (.bl (!c)) M1
 | _=>False) x
def dIf(t:DT)(u v:DE):DE:=fun ρ M q x=>t ρ M (fun c M1=>(c=true→u ρ M1 q x)∧(c=false→v ρ M1 q x)) x
theorem fR{op}{t:DE}(h:JE X R a t):JE X R (.BoolOp op [a] pos) t:=zT h
theorem eh(ha:JE X R a ta)(hb:JE X R (.BoolOp .And (b::rest) pos) tb):JE X R (.BoolOp .And (a::b::rest) pos) (EA ta tb):= .of (zZ ha hb) fun σ H G L ρ M q x rl n h hx=>by
 refine ⟨G,L,ρ,M,_,x,rl,n,h,hx,fun v H1 ⟨d1,G1,L1,M1,e1,r1,n1,h1⟩=> ?_⟩
 (try dsimp only at h1)
 split at h1
 ·rename_i c
  refine ⟨c,n1, ?_⟩
  cases c with
  | true=>exact za ⟨G1,L1,ρ,M1,_,x,r1,n.mono e1,h1.1 rfl,hx.on e1,fun b H2 f=>Fin.back e1 f⟩
  | false=>exact zb ⟨.bl false,G1,L1,M1,e1,r1,rfl,h1.2 rfl⟩
 ·exact h1.elim
theorem CQ(ha:JE X R a ta)(hb:JE X R (.BoolOp .Or (b::rest) pos) tb):JE X R (.BoolOp .Or (a::b::rest) pos) (dOr ta tb):= .of (Cs ha hb) fun σ H G L ρ M q x rl n h hx=>by
 refine ⟨G,L,ρ,M,_,x,rl,n,h,hx,fun v H1 ⟨d1,G1,L1,M1,e1,r1,n1,h1⟩=> ?_⟩
 (try dsimp only at h1)
 split at h1
 ·rename_i c
  refine ⟨c,n1, ?_⟩
  cases c with
  | true=>exact za ⟨.bl true,G1,L1,M1,e1,r1,rfl,h1.1 rfl⟩
  | false=>exact zb ⟨G1,L1,ρ,M1,_,x,r1,n.mono e1,h1.2 rfl,hx.on e1,fun b H2 f=>Fin.back e1 f⟩
 ·exact h1.elim
theorem AK(ha:JE X R a ta):JE X R (.UnaryOp .Not a pos) (Ez ta):= .of (zU ha) fun σ H G L ρ M q x rl n h hx=>by
 refine ⟨G,L,ρ,M,_,x,rl,n,h,hx,fun v H1 ⟨d1,G1,L1,M1,e1,r1,n1,h1⟩=> ?_⟩
 (try dsimp only at h1)
 split at h1
 ·rename_i c
  exact ⟨c,n1, .bl (!c),G1,L1,M1,e1,r1,rfl,h1⟩
 ·exact h1.elim
theorem vn{c:Expr}(hc:JT X R c t1)(ha:JE X R a ta)(hb:JE X R b tb):JE X R (.IfExp c a b pos) (dIf t1 ta tb):= .of (uY hc ha hb) fun σ H G L ρ M q x rl n h hx=>by
 refine ⟨G,L,ρ,M,_,x,rl,n,h,hx,fun c H1 ⟨G1,L1,M1,e1,r1,h1⟩=> ?_⟩
 cases c with
 | true=>exact za ⟨G1,L1,ρ,M1,_,x,r1,n.mono e1,h1.1 rfl,hx.on e1,fun b H2 f=>Fin.back e1 f⟩
 | false=>exact zb ⟨G1,L1,ρ,M1,_,x,r1,n.mono e1,h1.2 rfl,hx.on e1,fun b H2 f=>Fin.back e1 f⟩
end
def zB:DS:=fun Dn ρ M=>Dn.nx ρ M
def B6(t u:DS):DS:=fun Dn ρ M=>t {Dn with nx:=u Dn} ρ M
def sIf(c:DT)(t u:DS):DS:=fun Dn ρ M=>c ρ M (fun b M1=>(b=true→t Dn ρ M1)∧(b=false→u Dn ρ M1)) Dn.x
def DY(t:DE):DS:=fun Dn ρ M=>t ρ M Dn.rt Dn.x
def zA(i:Nat)(t:DE):DS:=fun Dn ρ M=>t ρ M (fun d M1=>Dn.nx (ρ.set i (some d)) M1) Dn.x
def zD(t:DE):DS:=fun Dn ρ M=>t ρ M (fun _ M1=>Dn.nx ρ M1) Dn.x
def E3(t:DS):DS:=fun Dn ρ M=>∃J:En→Ms→Prop,t {Dn with nx:=J} ρ M∧∀ρ' M',J ρ' M'→Dn.nx ρ' M'
section
variable{X:Cx}{R:St→XK}{st:Stmt}{rest:List Stmt}{t u:DS}{e:Expr}{te:DE}{pos:Pos}
theorem aB:JSs X R [] zB:= .of xI fun σ H G L ρ M Dn rl n h hx=>⟨ρ,G,L,M, .refl _ _ _,rl,n,h⟩
theorem ah(h1:JS X R st t):JSs X R [st] t:=rn h1
theorem ag(h1:JS X R st t)(h2:JSs X R rest u):JSs X R (st::rest) (B6 t u):= .of (oK h1 h2) fun σ H G L ρ M Dn rl n h hx=>by
 refine ⟨G,L,ρ,M,_,rl,n,h,hx,⟨fun σ1 H1 ⟨ρ1,G1,L1,M1,e1,r1,n1,h1⟩=> ?_,fun _ _ f=>f,fun _ _ f=>f,fun _ _ f=>f⟩⟩
 exact ⟨G1,L1,ρ1,M1,Dn,r1,n1,h1,hx.on e1,v8.back e1⟩
theorem iC:JS X R (.Continue pos) (fun Dn ρ M=>Dn.ct ρ M):= .of mZ fun σ H G L ρ M Dn rl n h hx=>⟨ρ,G,L,M, .refl _ _ _,rl,n,h⟩
theorem av(he:JE X R e te):JS X R (.Return (some e) pos) (DY te):= .of (zO he) fun σ H G L ρ M Dn rl n h hx=>⟨G,L,ρ,M,_,_,rl,n,h,hx,fun _ _ f=>f⟩
theorem fG(he:JE X R e te)(hs:swapsWith e none pos.line X.env=pure false:=by rfl):JS X R (.Expr e pos) (zD te):= .of (rA he hs) fun σ H G L ρ M Dn rl n h hx=>by
 refine ⟨G,L,ρ,M,_,_,rl,n,h,hx,fun v H1 ⟨d1,G1,L1,M1,e1,r1,n1,h1⟩=>⟨ρ,G1,L1,M1,e1,r1,n.mono e1,h1⟩⟩
theorem bc{c:Expr}{a b:List Stmt}{tc:DT}(hc:JT X R c tc)(ha:JSs X R a t)(hb:JSs X R b u):JS X R (.If c a b pos) (sIf tc t u):= .of (Cq hc ha hb) fun σ H G L ρ M Dn rl n h hx=>by
 refine ⟨G,L,ρ,M,_,_,rl,n,h,hx,fun c H1 ⟨G1,L1,M1,e1,r1,h1⟩=> ?_⟩
 cases c with
 | true=>exact za ⟨G1,L1,ρ,M1,Dn,r1,n.mono e1,h1.1 rfl,hx.on e1,v8.back e1⟩
 | false=>exact zb ⟨G1,L1,ρ,M1,Dn,r1,n.mono e1,h1.2 rfl,hx.on e1,v8.back e1⟩
theorem ax{i:Nat}{x:Str}{pos':Pos}(hN:X.N.Nodup)(hi:X.N[i]? =some x)(hx:Loc X.env.scope x)(he:JE X R e te)(hs:swapsWith e (some (.Name x pos')) pos.line X.env=pure false:=by rfl)(hf:X.fn x=true∨X.env.scope.names.lookup x=some .local:=by first | exact .inl rfl | exact .inr rfl | assumption):
  JS X R (.Assign [.Name x pos'] e pos) (zA i te):= .of (zN hN hi hx he hs hf) fun σ H G L ρ M Dn rl n h hx=>by
 refine ⟨G,L,ρ,M,_,_,rl,n,h,hx,fun v H1 ⟨d1,G1,L1,M1,e1,r1,n1,h1⟩=>⟨_,G1,L1,M1,e1,r1,(n.mono e1).set i n1,h1⟩⟩
theorem sD(h:JS X R st t):JS X R st (E3 t):= .of h fun σ H G L ρ M Dn rl n h hx=>by
 obtain ⟨J,h1,h2⟩:=h
 refine ⟨G,L,ρ,M,_,rl,n,h1,hx,⟨fun σ1 H1 ⟨ρ1,G1,L1,M1,e1,r1,n1,h1⟩=>⟨ρ1,G1,L1,M1,e1,r1,n1,h2 _ _ h1⟩,fun _ _ f=>f,fun _ _ f=>f,fun _ _ f=>f⟩⟩
end
end L2
set_option maxRecDepth 100000
set_option maxHeartbeats 4000000
namespace L2
open PySem PySem.Spec PyProof.Rows
abbrev DXF:=Addr→List (Str×Dt)→Ms→Prop
abbrev DF:=List Dt→Ms→DQ→DXF→Prop
inductive spD(K:PySem.W.Frag)(T:DF)(vs:List V)(H:Hp)(Q:VK)(E:XK):Prop
 | mk (G:Hp) (L:List Addr) (ds:List Dt) (M:Ms) (q:DQ) (x:DXF) (r:Rl K G L M H) (n:aJ K G L ds vs) (h:T ds M q x) (hQ:∀v H1,Fin K G L H q v H1→Q v H1) (hE:∀C fs M1 G1 L1 H1 od,x C fs M1→Ex G L H G1 L1 H1→Rl K G1 L1 M1 H1→BL K G1 L1 H1 fs od→E (.ref C) od H1)
def h7(N:List Str)(ds:List Dt):En:=ds.map some++List.replicate (N.length - ds.length) none
theorem oC{K:PySem.W.Frag}{G:Hp}{L:List Addr}{N:List Str}{ds:List Dt}{vs:List V}(h:aJ K G L ds vs):EnD K G L (h7 N ds) (h8 N vs):=by
 have hl:=h.length
 refine ⟨by unfold h7 h8;simp [hl],fun i d e=> ?_⟩
 unfold h7 at e
 unfold h8
 by_cases hi:i < ds.length
 ·rw [List.getElem?_append_left (by simpa using hi),List.getElem?_map] at e
  rw [List.getElem?_append_left (by simpa [←hl] using hi),List.getElem?_map]
  cases q:ds[i]? with
  | none=>rw [q] at e;cases e
  | some d'=>
   rw [q] at e
   cases e
   obtain ⟨v,e1,h1⟩:=h.get q
   exact ⟨v,by rw [e1];rfl,h1⟩
 ·rw [List.getElem?_append_right (by simpa using Nat.le_of_not_lt hi),List.getElem?_replicate] at e
  split at e <;> cases e
section
variable{P:Program}{w:World}{K:PySem.W.Frag}{mg:Str→Option Value}{base:Heap}
theorem Fun.okD{x qual:Str}{st:Stmt}{f:Addr}{fd:FuncData}{N ps:List Str}{k:Nat}{T:DF}(F:Fun K x qual st f fd)(S:au N ps (ae st))(len:∀ds M q x,T ds M q x→ds.length=ps.length)
  (hbody:∀(cdv:Value) (A:Around) (outer:List Env) (s:Shared) (H:Hp) (E:XK),cT k (A.deeper (envOfC qual (ae st) s.heap.objs.size f cdv))→
   ∃t,JSs (mH (CX1 P w) P w K mg base N qual (ae st) f cdv A outer s H E) (fun _=>E) (aq st) t∧∀ds M q x,T ds M q x→t {nx:=fun _ M'=>q .non M',rt:=q,x:=fun _=>x} (h7 N ds) M):
  bC P w K mg base (CX1 P w) (k+1) f fd ps (spD K T):=by
 refine F.okX S (fun vs H Q E h=> ?_) (fun cdv A outer s H vs Q E hr h=> ?_)
 ·obtain ⟨G,L,ds,M,q,x,rl,n,hT,_⟩:=h
  rw [←n.length];exact len _ _ _ _ hT
 ·obtain ⟨t,j,ht⟩:=hbody cdv A outer s H E hr
  obtain ⟨G,L,ds,M,q,x,rl,n,hT,hQ,hE⟩:=h
  refine ⟨_,j,G,L,h7 N ds,M,_,rl,oC n,ht ds M q x hT,fun σ ρ C fs M' G' L' H' od hx e r _ y=>hE C fs M' G' L' H' od hx e r y,⟨fun σ' H' ⟨ρ',G',L',M',e,r,_,h⟩=>hQ _ _ ⟨.non,G',L',M',e,r,rfl,h⟩,fun v H' f=>hQ v H' f,fun _ _ ⟨_,_,_,_,_,_,_,h⟩=>h.elim,fun _ _ ⟨_,_,_,_,_,_,_,h⟩=>h.elim⟩⟩
structure aR(P:Program)(w:World)(K:PySem.W.Frag)(mg:Str→Option Value)(base:Heap)(k:Nat)(x:Str)(ps:List Str)(T:DF)(f:Addr)(fd:FuncData):Prop where
 ok:bC P w K mg base (CX1 P w) k f fd ps (spD K T)
 b:fX K fd ps []
 m:mg x=some (.ref f)
 kp:PySem.W.keepIn K (.ref f)=true
end
def Bk(T:DF)(t:DA):DE:=fun ρ M q x=>t ρ M (fun ds M1=>T ds M1 q (fun C fs M'=>x ρ C fs M')) x
section
variable{X:Cx}{R:St→XK}{T:DF}{k k':Nat}{f:Addr}{fd:FuncData}{ps:List Str}{x:Str}{p pos:Pos}{e:Expr}{es:List Expr}{t:DA}
theorem bR(C:aR X.prog X.w X.K X.mg X.base k x ps T f fd)(hr:cT k' X.A)(hx:cq (CX1 X.prog X.w) X R)(ha:JA X R (e::es) t)(hk:k≤k':=by decide)(hg:Gl X x:=by rfl)(hdb:(x==("__debug__":Str))=false:=by decide)
  (he:starEach (e::es) X.env=(false,eval e X.env)::starEach es X.env:=by rfl) (hpl:(backTo pos (starEach es X.env)).any (·.1)=false:=by rfl):JE X R (.Call (.Name x p) (e::es) [] pos) (Bk T t):=
 .of (u7 C.ok (hr.mono hk) hg C.m C.kp C.b .nil hx ha hdb he hpl) fun σ H G L ρ M q x rl n h hx=>by
  refine ⟨G,L,ρ,M,_,x,rl,n,h,hx,fun vs H1 ⟨ds,G1,L1,M1,e1,r1,n1,h1⟩=> ?_⟩
  show spD X.K T (vs++[]) H1 _ _
  rw [List.append_nil]
  exact ⟨G1,L1,ds,M1,q,_,r1,n1,h1,fun v H' f=>Fin.back e1 f,fun C fs M' G' L' H' od hq e' r' y=>hx σ ρ C fs M' G' L' H' od hq (e1.trans e') r' (n.mono (e1.trans e')) y⟩
end
def wt(C:Addr)(t:DA):DS:=fun Dn ρ M=>t ρ M (fun ds M1=>ds.length≤sizeLine∧Dn.x ρ C [] M1) Dn.x
section
variable{X:Cx}{R:St→XK}{C:Addr}{t:DA}{Bn newId initId:String}{bmB:List Value}{x:Str}{np cpos pos:Pos}{e:Expr}{es:List Expr}
theorem ke(hR:mD X R)(F:ExcBaseFacts Bn newId initId bmB)(c:dG X.K C bmB newId)(hm:X.mg x=some (.ref C))(ha:JA X R (e::es) t)(hc:X.calm=true:=by rfl)(hex:X.ex=[]:=by rfl)(hg:Gl X x:=by rfl)
  (hdb:(x==("__debug__":Str))=false:=by decide) (he:starEach (e::es) X.env=(false,eval e X.env)::starEach es X.env:=by rfl) (hpl:(backTo cpos (starEach es X.env)).any (·.1)=false:=by rfl):
  JS X R (.Raise (some (.Call (.Name x np) (e::es) [] cpos)) none pos) (wt C t):= .of (uU hR hc hex F c hg hm ha hdb he hpl) fun σ H G L ρ M Dn rl n h hx=>by
 refine ⟨G,L,ρ,M,_,_,rl,n,h,hx,fun vs H1 ⟨ds,G1,L1,M1,e1,r1,n1,h1⟩=>⟨by rw [←n1.length];exact h1.1, ?_⟩⟩
 exact hx σ ρ C [] M1 G1 L1 H1 none h1.2 e1 r1 (n.mono e1) (.inl ⟨rfl,rfl⟩)
end
structure Yl(K:PySem.W.Frag)(J:It)(xs:List Dt)(G0:Hp)(L0:List Addr):Prop where
 go:∀(i:Nat) G L M H (d:Dt),fK G0 G→Pre L0 L→Rl K G L M H→xs[i]? =some d→J.go i H∧∀v H',J.yld i H v H'→∃G',Ex G L H G' L H'∧Rl K G' L M H'∧Den K G' L d v
 stop:∀(i:Nat) G L M H,fK G0 G→Pre L0 L→Rl K G L M H→xs.length≤i→J.stop i H
inductive ED(K:PySem.W.Frag)(G0:Hp)(L0:List Addr)(H0:Hp)(q:List Dt→Ms→Prop)(J:It)(H:Hp):Prop
 | mk (xs:List Dt) (G:Hp) (L:List Addr) (M:Ms) (e:Ex G0 L0 H0 G L H) (r:Rl K G L M H) (y:Yl K J xs G L) (h:q xs M)
inductive CI(K:PySem.W.Frag)(R:St→XK)(t:DA)(σ:St)(H:Hp)(Q:It→Hp→Prop):Prop
 | mk (G:Hp) (L:List Addr) (ρ:En) (M:Ms) (q:List Dt→Ms→Prop) (x:DX) (r:Rl K G L M H) (n:EnD K G L ρ σ) (h:t ρ M q x) (hx:XOk K G L H R x) (hQ:∀J H1,ED K G L H q J H1→Q J H1)
def JI(X:Cx)(R:St→XK)(tg iter:Expr)(t:DA):Prop:=PI X tg iter (CI X.K R t)
theorem PIE.imp{X:Cx}{pins:List (Addr×Obj)}{σ:St}{tg:Expr}{R R':It→Hp→Prop}(hR:∀J H,R J H→R' J H){v:Value}{s:Shared}(h:PIE X pins σ tg R v s):PIE X pins σ tg R' v s:=by
 obtain ⟨it,fp,tn,J,H',a,b,c,d,e,f⟩:=h
 exact ⟨it,fp,tn,J,H',a,b,c,d,e,hR J H' f⟩
theorem qD{K:PySem.W.Frag}{G:Hp}{L:List Addr}{a:Addr}{ds:List Dt}{vs:List V}(h:∀G':Hp,fK G G'→SqL K G' a vs)(n:aJ K G L ds vs):Yl K (Itl K a) ds G L where
 go:=fun i G1 L1 M1 H1 d g l r e=>by
  obtain ⟨v,e1,n1⟩:=n.get e
  have hs:=h H1 (g.trans r.sub)
  exact ⟨⟨vs,v,hs,e1⟩,fun v' H' ⟨eH,y⟩=>by
   subst eH
   have e2:=y vs hs
   rw [e1] at e2;cases e2
   exact ⟨G1, .refl _ _ _,r,Den.mono g l _ _ n1⟩⟩
 stop:=fun i G1 L1 M1 H1 g l r e=>⟨vs,h H1 (g.trans r.sub),by rw [←n.length];exact e⟩
theorem wg{K:PySem.W.Frag}{G:Hp}{L:List Addr}{a:Addr}{ds:List Dt}{vs:List V}(h:∀G':Hp,fK G G'→SqT K G' a vs)(n:aJ K G L ds vs):Yl K (Itt K a) ds G L where
 go:=fun i G1 L1 M1 H1 d g l r e=>by
  obtain ⟨v,e1,n1⟩:=n.get e
  have hs:=h H1 (g.trans r.sub)
  exact ⟨⟨vs,v,hs,e1⟩,fun v' H' ⟨eH,y⟩=>by
   subst eH
   have e2:=y vs hs
   rw [e1] at e2;cases e2
   exact ⟨G1, .refl _ _ _,r,Den.mono g l _ _ n1⟩⟩
 stop:=fun i G1 L1 M1 H1 g l r e=>⟨vs,h H1 (g.trans r.sub),by rw [←n.length];exact e⟩
def gk(lo:Int)(n:Nat):List Dt:=(List.range n).map fun k:Nat=>Dt.int (lo+(k:Int))
theorem zf{K:PySem.W.Frag}{G:Hp}{L:List Addr}{lo:Int}{n:Nat}:Yl K (Itr lo n) (gk lo n) G L where
 go :=fun i G1 L1 M1 H1 d g l r e=>by
  unfold gk at e
  rw [List.getElem?_map] at e
  have hi:i < n:=by
   cases q:(List.range n)[i]? with
   | none=>rw [q] at e;cases e
   | some j=>
    have:=(List.getElem?_eq_some_iff.mp q).1
    rwa [List.length_range] at this
  rw [List.getElem?_range hi] at e
  cases e
  exact ⟨hi,fun v' H' ⟨eH,y⟩=>by subst eH y;exact ⟨G1, .refl _ _ _,r,rfl⟩⟩
 stop:=fun i G1 L1 M1 H1 g l r e=>by show n≤i;unfold gk at e;simpa using e
section
variable{X:Cx}{R:St→XK}{tg iter:Expr}
theorem JI.of{wi:TI}{t:DA}(h:PI X tg iter wi)(hw:∀σ H G L ρ M q x,Rl X.K G L M H→EnD X.K G L ρ σ→t ρ M q x→XOk X.K G L H R x→wi σ H (ED X.K G L H q)):JI X R tg iter t:=by
 intro pins s σ H Q I ⟨G,L,ρ,M,q,x,r,n,ht,hx,hQ⟩
 exact thn (h pins s σ H _ I (hw σ H G L ρ M q x r n ht hx)) fun u s1 f=>thn f fun u2 s2 f2=>PIE.imp hQ f2
def Ek(t:DA):DA:=fun ρ M q x=>t ρ M (fun ds M1=>match ds with
 | [.int j]=>(-(2 ^ 62)≤j∧j < 2 ^ 62)∧q (gk 0 j.toNat) M1
 | _=>False) x
theorem bG{a:Expr}{t:DA}{p pos:Pos}(hm:X.mg "range"=none)(ha:JA X R [a] t)(hg:Gl X "range":=by rfl)(hs:starEach [a] X.env=[(false,eval a X.env)]:=by rfl):JI X R tg (.Call (.Name "range" p) [a] [] pos) (Ek t):=
 .of (rH hg hm ha hs) fun σ H G L ρ M q x rl n h hx=>by
  refine ⟨G,L,ρ,M,_,x,rl,n,h,hx,fun vs H1 ⟨ds,G1,L1,M1,e1,r1,n1,h1⟩=> ?_⟩
  (try dsimp only at h1)
  split at h1
  ·rename_i j
   obtain ⟨v,rfl,n2⟩:=bB n1
   have n2:v= .int j:=n2
   subst n2
   exact ⟨j,rfl,h1.1.1,h1.1.2,_,G1,L1,M1,e1,r1,zf,h1.2⟩
  ·exact h1.elim
end
def GD(K:PySem.W.Frag)(gg:TG)(g:Dt→En→(En→Prop)→Prop):Prop:=
 ∀G L M H d v ρ σ (k:En→Prop) (Q:St→Hp→Prop),Rl K G L M H→Den K G L d v→EnD K G L ρ σ→g d ρ k→(∀ρ' σ',EnD K G L ρ' σ'→k ρ'→Q σ' H)→gg v σ H Q
def gN(i:Nat):Dt→En→(En→Prop)→Prop:=fun d ρ k=>k (ρ.set i (some d))
theorem cp{K:PySem.W.Frag}{i:Nat}:GD K (i8 i) (gN i):=fun G L M H d v ρ σ k Q rl n en h hQ=>hQ _ _ (en.set i n) h
def g2(i j:Nat):Dt→En→(En→Prop)→Prop:=fun d ρ k=>match d with
 | .tup [a,b]=>k ((ρ.set i (some a)).set j (some b))
 | _=>False
theorem sX{K:PySem.W.Frag}{i j:Nat}:GD K (C2 K 2 (sZ (i8 i) (sZ (i8 j) C3))) (g2 i j):=fun G L M H d v ρ σ k Q rl n en h hQ=>by
 unfold g2 at h
 split at h
 ·rename_i a b
  obtain ⟨p,vs,rfl,e,n⟩:=n
  obtain ⟨v1,v2,rfl,n1,n2⟩:=fe n
  exact ⟨p,_,rfl, .inl (.inl (rl.sub _ _ e)),rfl,v1,_,rfl,v2,_,rfl,rfl,hQ _ _ ((en.set i n1).set j n2) h⟩
 ·exact h.elim
def vA(g:Dt→En→(En→Prop)→Prop)(tb:DS)(Dn:fW):List Dt→En→Ms→Prop
 | [],ρ,M=>Dn.nx ρ M
 | x::xs,ρ,M=>g x ρ fun ρ'=>tb {Dn with nx:=vA g tb Dn xs,ct:=vA g tb Dn xs,bk:=Dn.nx} ρ' M
def DZ(ti:DA)(g:Dt→En→(En→Prop)→Prop)(tb:DS):DS:=fun Dn ρ M=>ti ρ M (fun xs M1=>vA g tb Dn xs ρ M1) Dn.x
section
variable{X:Cx}{R:St→XK}{tg iter:Expr}{body:List Stmt}{ti:DA}{gg:TG}{g:Dt→En→(En→Prop)→Prop}{tb:DS}{pos:Pos}
theorem iB(hi:JI X R tg iter ti)(hg:PG X tg gg)(gd:GD X.K gg g)(hb:JSs X R body tb)(hp:PassesOwn (model X.prog X.w) X.A X.env X.xe:=by first | exact PassesOwn.never | exact PassesOwn.leaving)(hc:X.calm=true:=by rfl)(hs:∀x,foldedSetIterable iter X.env x=pure x:=by intro _;rfl):
  JS X R (.For tg iter body [] pos) (DZ ti g tb):= .of (wx hp hc hi hg hb hs) fun σ H G L ρ M Dn rl n h hx=>by
 refine ⟨G,L,ρ,M,_,_,rl,n,h,hx,fun J H1 ⟨xs,G1,L1,M1,e1,r1,y,h1⟩=> ?_⟩
 refine ⟨fun i m σ' H'=>m+i=xs.length∧hI X.K G1 L1 H1 (fun ρ' M'=>vA g tb Dn (xs.drop i) ρ' M') σ' H',⟨xs.length,rfl,ρ,G1,L1,M1, .refl _ _ _,r1,n.mono e1,by rw [List.drop_zero];exact h1⟩, ?_⟩
 rintro i m σ' H' ⟨hm,ρ',G',L',M',e',r',n',h'⟩
 by_cases hi:i < xs.length
 ·right
  have hd:xs[i]? =some xs[i]:=List.getElem?_eq_getElem hi
  obtain ⟨go,yl⟩:=y.go i G' L' M' H' _ e'.g e'.l r' hd
  rw [List.drop_eq_getElem_cons hi] at h'
  refine ⟨go,hI X.K G1 L1 H1 (fun ρ' M'=>vA g tb Dn (xs.drop (i+1)) ρ' M'),fun σ2 H2 f=>⟨m - 1,by omega,by omega,f⟩,fun v H2 hy=> ?_⟩
  obtain ⟨G2,e2,r2,n2⟩:=yl v H2 hy
  refine gd G2 L' M' H2 _ v ρ' σ' _ _ r2 n2 (n'.mono e2) h' fun ρ3 σ3 n3 h3=> ?_
  refine ⟨G2,L',ρ3,M',_,r2,n3,h3,hx.on (e1.trans (e'.trans e2)),⟨fun _ _ f=>hI.back (e'.trans e2) f,fun _ _ f=>Fin.back (e1.trans (e'.trans e2)) f,fun _ _ f=>hI.back (e1.trans (e'.trans e2)) f,fun _ _ f=>hI.back (e'.trans e2) f⟩⟩
 ·left
  refine ⟨y.stop i G' L' M' H' e'.g e'.l r' (by omega),ρ',G',L',M',e1.trans e',r',n', ?_⟩
  rw [List.drop_eq_nil_of_le (by omega)] at h'
  exact h'
end
def mm(caps:List Nat)(ρ:En):En:=caps.map fun i=>(ρ[i]?).join
theorem xj{K:PySem.W.Frag}{G:Hp}{L:List Addr}{ρ:En}{σ:St}(h:EnD K G L ρ σ)(caps:List Nat){d:Dt}{v:V}(n:Den K G L d v):EnD K G L (some d::mm caps ρ) (some v::fY caps σ):=by
 refine ⟨by unfold mm fY;simp,fun i d' e=> ?_⟩
 cases i with
 | zero=>cases e;exact ⟨v,rfl,n⟩
 | succ j=>
  have e:(mm caps ρ)[j]? =some (some d'):=e
  show∃v',(fY caps σ)[j]? =some (some v')∧_
  unfold mm at e
  unfold fY
  rw [List.getElem?_map] at e⊢
  cases q:caps[j]? with
  | none=>rw [q] at e;cases e
  | some i=>
   rw [q] at e
   have e:(ρ[i]?).join=some d':=Option.some.inj e
   have e:ρ[i]? =some (some d'):=by
    cases q2:ρ[i]? with
    | none=>rw [q2] at e;cases e
    | some o=>rw [q2] at e;exact congrArg some e
   obtain ⟨v',e1,n1⟩:=h.ats i d' e
   exact ⟨v',by show some ((σ[i]?).join)=_;rw [e1];rfl,n1⟩
def qq(te:DE)(cs:En):List Dt→List Dt→Ms→(List Dt→Ms→Prop)→Prop
 | [],acc,M,k=>k acc M
 | x::xs,acc,M,k=>te (some x::cs) M (fun d M1=>qq te cs xs (acc++[d]) M1 k) noX
def vN(ti:DA)(te:DE)(caps:List Nat):DE:=fun ρ M q x=>ti ρ M (fun xs M1=>xs.length≤sizeLine∧qq te (mm caps ρ) xs [] M1 (fun ys M2=>q (.lst ys) M2)) x
theorem tV{K:PySem.W.Frag}{J:It}{te:DE}{caps:List Nat}{ρ:En}{σ:St}{G1:Hp}{L1:List Addr}{M1:Ms}{H1:Hp}{xs:List Dt}{Dl:Addr}{Q:VK}{k:List Dt→Ms→Prop}(r1:Rl K G1 L1 M1 H1)(n:EnD K G1 L1 ρ σ)(y:Yl K J xs G1 L1)(hD:H1 Dl=none)(hz:xs.length≤sizeLine)
  (h:qq te (mm caps ρ) xs [] M1 k)
  (fin:∀G2 L2 M2 H2 ds vs,Ex G1 L1 H1 G2 L2 H2→Rl K G2 L2 M2 H2→G2 Dl=none→Dl∉L2→H2 Dl=some (.lst vs)→aJ K G2 L2 ds vs→k ds M2→Q (.ref Dl) H2):
  wc J (nJ K (fun _=>E0) te) (fY caps σ) Q H1 Dl:=by
 refine ⟨fun i m ys H2=>m+i=xs.length∧H2 Dl=some (.lst ys)∧∃acc G2 L2 M2,Ex G1 L1 H1 G2 L2 H2∧Rl K G2 L2 M2 H2∧G2 Dl=none∧Dl∉L2∧aJ K G2 L2 acc ys∧acc.length=i∧qq te (mm caps ρ) (xs.drop i) acc M2 k,⟨xs.length,rfl,ao,[],G1,L1,M1, ?_⟩, ?_⟩
 ·have gn:G1 Dl=none:=r1.sub.free hD
  refine ⟨⟨.refl _, .refl _,fun _ h _=>h,fun b u h1 _=>by rw [ai (fun z=>by rw [z,hD] at h1;cases h1)];exact h1,fun _ h=> .inl h,fun b h=>by rw [ai (fun z=>h (by rw [z];exact hD))];exact h⟩,⟨fun b u e=>by rw [ai (fun z=>by rw [z,gn] at e;cases e)];exact r1.sub b u e,r1.len,r1.nd,fun i a m h1 h2=> ?_⟩,gn,r1.memN hD,rfl,rfl,by rw [List.drop_zero];exact h⟩
  obtain ⟨q1,q2⟩:=r1.ats i a m h1 h2
  exact ⟨q1,q2.mono (.refl _) (.refl _) (ai fun z=>q2.there (by rw [z];exact hD))⟩
 ·rintro i m ys H2 ⟨hm,hacc,acc,G2,L2,M2,e2,r2,g2,l2,n2,la,h2⟩
  refine ⟨hacc, ?_⟩
  by_cases hi:i < xs.length
  ·right
   have hd:xs[i]? =some xs[i]:=List.getElem?_eq_getElem hi
   obtain ⟨go,yl⟩:=y.go i G2 L2 M2 H2 _ e2.g e2.l r2 hd
   rw [List.drop_eq_getElem_cons hi] at h2
   refine ⟨go,fun v H3 hy=> ?_⟩
   obtain ⟨G3,e3,r3,n3⟩:=yl v H3 hy
   refine ⟨G3,L2,_,M2,_,noX,r3,xj ((n.mono e2).mono e3) caps n3,h2,hU,fun v4 H4 ⟨d4,G4,L4,M4,e4,r4,n4,h4⟩=> ?_⟩
   have l3:Dl∉L2:=l2
   have h3:H3 Dl=some (.lst ys):=e3.out _ _ hacc l2
   have g3:G3 Dl=none:=e3.fr _ g2 (by rw [hacc];simp)
   have h4':H4 Dl=some (.lst ys):=e4.out _ _ h3 l2
   have g4:G4 Dl=none:=e4.fr _ g3 (by rw [h3];simp)
   have l4:Dl∉L4:=fun z=>(e4.new _ z).elim l2 fun q=>by rw [h3] at q;cases q
   have e24:=e3.trans e4
   have lenys:ys.length=i:=by rw [←n2.length];exact la
   have ne1:∀{b:Addr} {u:HO},H1 b=some u→b≠Dl:=fun e z=>by rw [z,hD] at e;cases e
   refine ⟨h4',by omega,m - 1,by omega,by omega,ao,acc++[d4],G4,L4,M4, ?_, ?_,g4,l4,(aJ.mono e24.g e24.l _ _ n2).app ⟨_,_,rfl,n4,rfl⟩,by rw [List.length_append,la];rfl,h4⟩
   ·have e14:=e2.trans e24
    exact ⟨e14.g,e14.l,e14.fr,fun b u h1 h2=>by rw [ai (ne1 h1)];exact e14.out b u h1 h2,e14.new,fun b h=>by
     by_cases hb:b=Dl
     ·rw [hb,ao];simp
     ·rw [ai hb];exact e14.dom b h⟩
   ·refine ⟨fun b u e=>by rw [ai (fun z=>by rw [z,g4] at e;cases e)];exact r4.sub b u e,r4.len,r4.nd,fun i a m h1 h2=> ?_⟩
    obtain ⟨q1,q2⟩:=r4.ats i a m h1 h2
    exact ⟨q1,q2.mono (.refl _) (.refl _) (ai fun z=>l4 (by rw [←z];exact List.mem_of_getElem? h1))⟩
  ·left
   rw [List.drop_eq_nil_of_le (by omega)] at h2
   exact ⟨y.stop i G2 L2 M2 H2 e2.g e2.l r2 (by omega),fin G2 L2 M2 H2 acc ys e2 r2 g2 l2 hacc n2 h2⟩
section
variable{K:PySem.W.Frag}{G1:Hp}{L1:List Addr}{H1 G:Hp}{L:List Addr}{M:Ms}{H:Hp}{p:Addr}{ds:List Dt}{vs:List V}{q:DQ}
theorem ik(e:Ex G1 L1 H1 G L H)(r:Rl K G L M H)(hp1:H1 p=none)(hg:G p=none)(hl:p∉L)(h:H p=some (.lst vs))(n:aJ K G L ds vs)(k:q (.lst ds) M):Fin K G1 L1 H1 q (.ref p) H:=by
 have g1:fK G (upd G p (.lst vs)):=fun b u e=>by rw [ai (fun z=>by rw [z,hg] at e;cases e)];exact e
 refine ⟨.lst ds,upd G p (.lst vs),L,M,⟨e.g.trans g1,e.l,fun b h1 h2=> ?_,e.out,e.new,e.dom⟩,⟨fun b u e=> ?_,r.len,r.nd,fun k a m h1 h2=> ?_⟩,⟨p,vs,rfl,ao,aJ.mono g1 (.refl _) _ _ n⟩,k⟩
 ·rw [ai (fun z=>h2 (by rw [z];exact hp1))];exact e.fr b h1 h2
 ·by_cases hb:b=p
  ·rw [hb,ao] at e;rw [hb];cases e;exact h
  ·rw [ai hb] at e;exact r.sub b u e
 ·obtain ⟨q1,q2⟩:=r.ats k a m h1 h2
  have hb:a≠p:=fun z=>hl (by rw [←z];exact List.mem_of_getElem? h1)
  exact ⟨by rw [ai hb];exact q1,q2.mono g1 (.refl _) rfl⟩
end
section
variable{X:Cx}{R:St→XK}{elt iter:Expr}{x:Str}{px:Pos}{scope:Scope}{pos:Pos}{ti:DA}{te:DE}{ys:List Str}{caps:List Nat}
theorem wR(S:bZ X scope x ys caps)(hi:JI X R (.Name x px) iter ti)(he:∀C s H fp,JE (Cx.comp X (x::ys) scope C s H fp) (fun _=>E0) elt te)(hc:X.calm=true:=by rfl)(hs:∀x,foldedSetIterable iter X.env x=pure x:=by intro _;rfl):
  JE X R (.ListComp elt [⟨.Name x px,iter,[],0⟩] scope pos) (vN ti te caps):= .of (rL (wi:=CI X.K R ti) (te:=nJ X.K (fun _=>E0) te) S hc hi he hs) fun σ H G L ρ M q x rl n h hx=>by
 refine ⟨G,L,ρ,M,_,x,rl,n,h,hx,fun J H1 ⟨xs,G1,L1,M1,e1,r1,y,hz,h1⟩ D hD=> ?_⟩
 exact tV r1 (n.mono e1) y hD hz h1 fun G2 L2 M2 H2 ds vs e2 r2 g2 l2 h2 n2 k=>Fin.back e1 (ik e2 r2 hD g2 l2 h2 n2 k)
theorem jy{i:Nat}{y:Str}{py spos:Pos}(hN:X.N.Nodup)(hiy:X.N[i]? =some y)(hy:Loc X.env.scope y)(S:bZ X scope x ys caps)(hi:JI X R (.Name x px) iter ti)(he:∀C s H fp,JE (Cx.comp X (x::ys) scope C s H fp) (fun _=>E0) elt te)(hc:X.calm=true:=by rfl)
  (hsw:swapsWith (.ListComp elt [⟨.Name x px,iter,[],0⟩] scope pos) (some (.Name y py)) spos.line X.env=pure true:=by rfl) (hs:∀x,foldedSetIterable iter X.env x=pure x:=by intro _;rfl)
  (hf:X.fn y=true∨X.env.scope.names.lookup y=some .local:=by first | exact .inl rfl | exact .inr rfl | assumption):
  JS X R (.Assign [.Name y py] (.ListComp elt [⟨.Name x px,iter,[],0⟩] scope pos) spos) (zA i (vN ti te caps)):= .of (js (wi:=CI X.K R ti) (te:=nJ X.K (fun _=>E0) te) hN hiy hy S hc hi he hsw hs hf) fun σ H G L ρ M Dn rl n h hx=>by
 refine ⟨G,L,ρ,M,_,_,rl,n,h,hx,fun J H1 ⟨xs,G1,L1,M1,e1,r1,y,hz,h1⟩ D hD=> ?_⟩
 refine tV r1 (n.mono e1) y hD hz h1 fun G2 L2 M2 H2 ds vs e2 r2 g2 l2 h2 n2 k=> ?_
 obtain ⟨d,G3,L3,M3,e3,r3,n3,h3⟩:=ik (q:=fun d M=>Dn.nx (ρ.set i (some d)) M) e2 r2 hD g2 l2 h2 n2 k
 exact ⟨_,G3,L3,M3,e1.trans e3,r3,((n.mono e1).mono e3).set i n3,h3⟩
end
end L2
set_option maxRecDepth 100000
set_option maxHeartbeats 4000000
namespace L2
open PySem PySem.Spec PyProof.Rows
theorem aL{K:PySem.W.Frag}{G0:Hp}{L0:List Addr}{H0 G:Hp}{L:List Addr}{M:Ms}{H:Hp}{d:Dt}{v:V}{q:DQ}(e:Ex G0 L0 H0 G L H)(r:Rl K G L M H)(n:Den K G L d v)(h:q d M):Fin K G0 L0 H0 q v H:=⟨d,G,L,M,e,r,n,h⟩
theorem bF{K:PySem.W.Frag}{G0:Hp}{L0:List Addr}{H0 G:Hp}{L:List Addr}{M:Ms}{H:Hp}{d:Dt}{v:V}{q:DQ}(e:Ex G0 L0 H0 G L H)(r:Rl K G L M H)(h:q d M)(n:Den K G L d v:=by rfl):Fin K G0 L0 H0 q v H:=⟨d,G,L,M,e,r,n,h⟩
def BF:Dt→Dt→Ms→DQ→Prop
 | .int i, .int j,M,q=>q (.int (i+j)) M
 | .str a, .str b,M,q=>a.length+b.length≤sizeLine∧q (.str (a++b)) M
 | .lst a, .lst b,M,q=>a.length+b.length≤sizeLine∧q (.lst (a++b)) M
 | .tup a, .tup b,M,q=>(a≠[]∧a.length+b.length≤sizeLine)∧q (.tup (a++b)) M
 | _,_,_,_=>False
def BD:Dt→Dt→Ms→DQ→Prop
 | .int i, .int j,M,q=>q (.int (i - j)) M
 | _,_,_,_=>False
def C9:Dt→Dt→Ms→DQ→Prop
 | .int i, .int j,M,q=>(Big i∧Big j)∧q (.int (i * j)) M
 | .lst a, .int k,M,q=>(-(2 ^ 63)≤k∧k < 2 ^ 63∧a.length * k.toNat≤sizeLine)∧q (.lst (List.replicate k.toNat a).flatten) M
 | _,_,_,_=>False
def Df:Dt→Dt→Ms→DQ→Prop
 | .int i, .int j,M,q=>(0 < j∧Big j)∧q (.int (i / j)) M
 | _,_,_,_=>False
def yC:Dt→Dt→Ms→DQ→Prop
 | .int i, .int j,M,q=>(j≠0∧Big j)∧q (.int (i.fdiv j)) M
 | _,_,_,_=>False
def Dc:Dt→Dt→Ms→DQ→Prop
 | .int i, .int j,M,q=>0 < j∧q (.int (i % j)) M
 | _,_,_,_=>False
def C7:Dt→Dt→Ms→DQ→Prop
 | .int i, .int j,M,q=>uA i j∧q (.int (i ^ j.toNat)) M
 | _,_,_,_=>False
def C8:Dt→Ms→DQ→Prop
 | .int i,M,q=>q (.int (-i)) M
 | _,_,_=>False
section
variable{K:PySem.W.Frag}
theorem Fw:OpD K (fun x y H Q=>(∃i j,x=V.int i∧y= .int j∧Q (.int (i+j)) H)∨(∃i j,x=V.str i∧y= .str j∧i.length+j.length≤sizeLine∧Q (.str (i++j)) H)∨D9 x y H Q∨zI K x y H Q) BF:=by
 intro G0 L0 H0 G L M H v1 v2 d1 d2 q e r n1 n2 h
 unfold BF at h
 split at h
 ·rename_i i j
  exact .inl ⟨i,j,n1,n2,bF e r h⟩
 ·rename_i a b
  exact .inr (.inl ⟨a,b,n1,n2,h.1,bF e r h.2⟩)
 ·rename_i a b
  obtain ⟨p1,w1,rfl,e1,m1⟩:=n1
  obtain ⟨p2,w2,rfl,e2,m2⟩:=n2
  refine .inr (.inr (.inl ⟨p1,p2,w1,w2,rfl,rfl,r.sub _ _ e1,r.sub _ _ e2,by rw [←m1.length,←m2.length];exact h.1,fun p hp=> ?_⟩))
  exact iK e r hp (nY r hp (m1.app m2)) h.2
 ·rename_i a b
  obtain ⟨p1,w1,rfl,e1,m1⟩:=n1
  obtain ⟨p2,w2,rfl,e2,m2⟩:=n2
  have ne:w1≠[]:=fun z=>h.1.1 (by have:=m1.length;rw [z] at this;exact List.eq_nil_of_length_eq_zero this)
  refine .inr (.inr (.inr ⟨p1,p2,w1,w2,rfl,rfl, .inl (.inl (r.sub _ _ e1)), .inl (.inl (r.sub _ _ e2)),ne,by rw [←m1.length,←m2.length];exact h.1.2,fun z=> ?_,fun _ p hp=> ?_⟩))
  ·have hb:b=[]:=by have:=m2.length;rw [z] at this;exact List.eq_nil_of_length_eq_zero this
   subst hb
   rw [List.append_nil] at h
   exact aL (d:= .tup a) e r ⟨p1,w1,rfl,e1,m1⟩ h.2
  ·exact iK e r hp (kq r hp (m1.app m2)) h.2
 ·exact h.elim
theorem EW:OpD K (rI0 fun i j=> .int (i - j)) BD:=by
 intro G0 L0 H0 G L M H v1 v2 d1 d2 q e r n1 n2 h
 unfold BD at h
 split at h
 ·exact ⟨_,_,n1,n2,bF e r h⟩
 ·exact h.elim
theorem E9:OpD K (fun x y H Q=>(rI (fun i j=>Big i∧Big j) fun i j=> .int (i * j)) x y H Q∨B9 x y H Q) C9:=by
 intro G0 L0 H0 G L M H v1 v2 d1 d2 q e r n1 n2 h
 unfold C9 at h
 split at h
 ·exact .inl ⟨_,_,n1,n2,h.1,bF e r h.2⟩
 ·rename_i a k
  obtain ⟨p1,w1,rfl,e1,m1⟩:=n1
  refine .inr ⟨p1,k,w1,rfl,n2,r.sub _ _ e1,h.1.1,h.1.2.1,by rw [←m1.length];exact h.1.2.2,fun p hp=> ?_⟩
  exact iK e r hp (nY r hp (.of (ng m1.pair k.toNat))) h.2
 ·exact h.elim
theorem Fq:OpD K (rI (fun _ j=>j≠0∧Big j) fun i j=> .int (i.fdiv j)) Df:=by
 intro G0 L0 H0 G L M H v1 v2 d1 d2 q e r n1 n2 h
 unfold Df at h
 split at h
 ·rename_i i j
  have h0:=h.1.1
  refine ⟨_,_,n1,n2,⟨by omega,h.1.2⟩,aL (d:= .int (i.fdiv j)) e r rfl ?_⟩
  rw [Int.fdiv_eq_ediv_of_nonneg i (Int.le_of_lt h0)]
  exact h.2
 ·exact h.elim
theorem Ds:OpD K (rI (fun _ j=>j≠0∧Big j) fun i j=> .int (i.fdiv j)) yC:=by
 intro G0 L0 H0 G L M H v1 v2 d1 d2 q e r n1 n2 h
 unfold yC at h
 split at h
 ·exact ⟨_,_,n1,n2,h.1,bF e r h.2⟩
 ·exact h.elim
theorem Fb:OpD K (rI (fun _ j=>0 < j) fun i j=> .int (i % j)) Dc:=by
 intro G0 L0 H0 G L M H v1 v2 d1 d2 q e r n1 n2 h
 unfold Dc at h
 split at h
 ·exact ⟨_,_,n1,n2,h.1,bF e r h.2⟩
 ·exact h.elim
theorem E4:OpD K (rI uA fun i j=> .int (i ^ j.toNat)) C7:=by
 intro G0 L0 H0 G L M H v1 v2 d1 d2 q e r n1 n2 h
 unfold C7 at h
 split at h
 ·exact ⟨_,_,n1,n2,h.1,bF e r h.2⟩
 ·exact h.elim
theorem E6:UnD K (rU fun i=> .int (-i)) C8:=by
 intro G0 L0 H0 G L M H v1 d1 q e r n1 h
 unfold C8 at h
 split at h
 ·exact ⟨_,n1,bF e r h⟩
 ·exact h.elim
end
section
variable{X:Cx}{R:St→XK}{a b c:Expr}{ta tb:DE}{pos:Pos}
theorem cU(ja:JE X R a ta)(jb:JE X R b tb):JE X R (.BinOp a .Add b pos) (dOp BF ta tb):=wM (Ah.or (pU.or (Ag.or x5))) Fw ja jb
theorem sH(ja:JE X R a ta)(jb:JE X R b tb):JE X R (.BinOp a .Sub b pos) (dOp BD ta tb):=wM z0 EW ja jb
theorem eA(ja:JE X R a ta)(jb:JE X R b tb):JE X R (.BinOp a .Mult b pos) (dOp C9 ta tb):=wM (x3.or wC) E9 ja jb
theorem dU(ja:JE X R a ta)(jb:JE X R b tb):JE X R (.BinOp a .FloorDiv b pos) (dOp Df ta tb):=wM oR Fq ja jb
theorem wO(ja:JE X R a ta)(jb:JE X R b tb):JE X R (.BinOp a .FloorDiv b pos) (dOp yC ta tb):=wM oR Ds ja jb
theorem bX(ja:JE X R a ta)(jb:JE X R b tb):JE X R (.BinOp a .Mod b pos) (dOp Dc ta tb):=wM Aa Fb ja jb
theorem i7(ja:JE X R a ta)(jb:JE X R b tb):JE X R (.BinOp a .Pow b pos) (dOp C7 ta tb):=wM z4 E4 ja jb
theorem AN(ja:JE X R a ta):JE X R (.UnaryOp .USub a pos) (dUn C8 ta):=Fe zi E6 ja
end
def fLt:Dt→Dt→Ms→DQ→Prop
 | .int i, .int j,M,q=>q (.bl (decide (i < j))) M
 | _,_,_,_=>False
def fLe:Dt→Dt→Ms→DQ→Prop
 | .int i, .int j,M,q=>q (.bl (decide (i≤j))) M
 | _,_,_,_=>False
def fGt:Dt→Dt→Ms→DQ→Prop
 | .int i, .int j,M,q=>q (.bl (decide (j < i))) M
 | _,_,_,_=>False
def fGe:Dt→Dt→Ms→DQ→Prop
 | .int i, .int j,M,q=>q (.bl (decide (j≤i))) M
 | _,_,_,_=>False
def nR:Dt→Option V
 | .non=>some .non
 | .bl b=>some (.bl b)
 | .int i=>some (.int i)
 | .str x=>some (.str x)
 | _=>none
def gH:List Dt→Option (List V)
 | []=>some []
 | d::ds=>match nR d,gH ds with
  | some v,some vs=>some (v::vs)
  | _,_=>none
section
variable{K:PySem.W.Frag}{G:Hp}{L:List Addr}
theorem fc{d:Dt}{v u:V}(h:nR d=some u)(n:Den K G L d v):v=u∧cY u=true:=by
 cases d <;> first | (cases h;exact ⟨n,rfl⟩) | cases h
theorem dF:∀{ds:List Dt} {vs us:List V},gH ds=some us→aJ K G L ds vs→vs=us∧us.all cY=true
 | [],vs,us,h,n=>by
  cases h
  exact ⟨n,rfl⟩
 | d::ds,_,us,h,⟨v,r,e,n1,n2⟩=>by
  subst e
  unfold gH at h
  split at h
  ·rename_i u1 u2 h1 h2
   cases h
   obtain ⟨a1,a2⟩:=fc h1 n1
   obtain ⟨b1,b2⟩:=dF h2 n2
   subst a1 b1
   exact ⟨rfl,by rw [List.all_cons,a2,b2];rfl⟩
  ·cases h
end
def A9:Dt→Dt→Ms→DQ→Prop
 | .int i, .int j,M,q=>q (.bl (decide (i=j))) M
 | .str i, .str j,M,q=>q (.bl (decide (i=j))) M
 | .bl i, .bl j,M,q=>q (.bl (decide (i=j))) M
 | .tup a, .tup b,M,q=>match gH a,gH b with
  | some us,some vs=>q (.bl (tH us vs)) M
  | _,_=>False
 | _,_,_,_=>False
def BE:Dt→Dt→Ms→DQ→Prop
 | .int i, .int j,M,q=>q (.bl (!decide (i=j))) M
 | .str i, .str j,M,q=>q (.bl (!decide (i=j))) M
 | .bl i, .bl j,M,q=>q (.bl (!decide (i=j))) M
 | .tup a, .tup b,M,q=>match gH a,gH b with
  | some us,some vs=>q (.bl (!tH us vs)) M
  | _,_=>False
 | _,_,_,_=>False
def Dd:Dt→Dt→Ms→DQ→Prop
 | .non, .non,M,q=>q (.bl true) M
 | .bl _, .non,M,q=>q (.bl false) M
 | .int _, .non,M,q=>q (.bl false) M
 | .str _, .non,M,q=>q (.bl false) M
 | .tup _, .non,M,q=>q (.bl false) M
 | .lst _, .non,M,q=>q (.bl false) M
 | _,_,_,_=>False
section
variable{K:PySem.W.Frag}
theorem ltD:OpD K (rI0 fun i j=> .bl (decide (i < j))) fLt:=by
 intro G0 L0 H0 G L M H v1 v2 d1 d2 q e r n1 n2 h
 unfold fLt at h
 split at h
 ·exact ⟨_,_,n1,n2,bF e r h⟩
 ·exact h.elim
theorem leD:OpD K (rI0 fun i j=> .bl (decide (i≤j))) fLe:=by
 intro G0 L0 H0 G L M H v1 v2 d1 d2 q e r n1 n2 h
 unfold fLe at h
 split at h
 ·exact ⟨_,_,n1,n2,bF e r h⟩
 ·exact h.elim
theorem gtD:OpD K (rI0 fun i j=> .bl (decide (j < i))) fGt:=by
 intro G0 L0 H0 G L M H v1 v2 d1 d2 q e r n1 n2 h
 unfold fGt at h
 split at h
 ·exact ⟨_,_,n1,n2,bF e r h⟩
 ·exact h.elim
theorem geD:OpD K (rI0 fun i j=> .bl (decide (j≤i))) fGe:=by
 intro G0 L0 H0 G L M H v1 v2 d1 d2 q e r n1 n2 h
 unfold fGe at h
 split at h
 ·exact ⟨_,_,n1,n2,bF e r h⟩
 ·exact h.elim
theorem gA{p q:Prop} [Decidable p] [Decidable q](h:p↔q):decide p=decide q:=decide_eq_decide.mpr h
theorem Eu:OpD K (fun x y H Q=>rEq x y H Q∨D7 K x y H Q) A9:=by
 intro G0 L0 H0 G L M H v1 v2 d1 d2 q e r n1 n2 h
 unfold A9 at h
 split at h
 ·rename_i i j
  cases n1;cases n2
  exact .inl ⟨rfl,aL (d:= .bl _) e r (by show V.bl _=V.bl _;rw [gA (p:=V.int i=V.int j) (q:=i=j) ⟨fun z=>V.int.inj z,fun z=>by rw [z]⟩]) h⟩
 ·rename_i i j
  cases n1;cases n2
  exact .inl ⟨rfl,aL (d:= .bl _) e r (by show V.bl _=V.bl _;rw [gA (p:=V.str i=V.str j) (q:=i=j) ⟨fun z=>V.str.inj z,fun z=>by rw [z]⟩]) h⟩
 ·rename_i i j
  cases n1;cases n2
  exact .inl ⟨rfl,aL (d:= .bl _) e r (by show V.bl _=V.bl _;rw [gA (p:=V.bl i=V.bl j) (q:=i=j) ⟨fun z=>V.bl.inj z,fun z=>by rw [z]⟩]) h⟩
 ·rename_i a b
  obtain ⟨p1,w1,rfl,e1,m1⟩:=n1
  obtain ⟨p2,w2,rfl,e2,m2⟩:=n2
  split at h
  ·rename_i us vs h1 h2
   obtain ⟨rfl,a2⟩:=dF h1 m1
   obtain ⟨rfl,b2⟩:=dF h2 m2
   exact .inr ⟨p1,p2,_,_,rfl,rfl, .inl (.inl (r.sub _ _ e1)), .inl (.inl (r.sub _ _ e2)),a2,b2,bF e r h⟩
  ·exact h.elim
 ·exact h.elim
theorem E8:OpD K (fun x y H Q=>rNe x y H Q∨D1 K x y H Q) BE:=by
 intro G0 L0 H0 G L M H v1 v2 d1 d2 q e r n1 n2 h
 unfold BE at h
 split at h
 ·rename_i i j
  cases n1;cases n2
  exact .inl ⟨rfl,aL (d:= .bl _) e r (by show V.bl _=V.bl _;rw [gA (p:=V.int i=V.int j) (q:=i=j) ⟨fun z=>V.int.inj z,fun z=>by rw [z]⟩]) h⟩
 ·rename_i i j
  cases n1;cases n2
  exact .inl ⟨rfl,aL (d:= .bl _) e r (by show V.bl _=V.bl _;rw [gA (p:=V.str i=V.str j) (q:=i=j) ⟨fun z=>V.str.inj z,fun z=>by rw [z]⟩]) h⟩
 ·rename_i i j
  cases n1;cases n2
  exact .inl ⟨rfl,aL (d:= .bl _) e r (by show V.bl _=V.bl _;rw [gA (p:=V.bl i=V.bl j) (q:=i=j) ⟨fun z=>V.bl.inj z,fun z=>by rw [z]⟩]) h⟩
 ·rename_i a b
  obtain ⟨p1,w1,rfl,e1,m1⟩:=n1
  obtain ⟨p2,w2,rfl,e2,m2⟩:=n2
  split at h
  ·rename_i us vs h1 h2
   obtain ⟨rfl,a2⟩:=dF h1 m1
   obtain ⟨rfl,b2⟩:=dF h2 m2
   exact .inr ⟨p1,p2,_,_,rfl,rfl, .inl (.inl (r.sub _ _ e1)), .inl (.inl (r.sub _ _ e2)),a2,b2,bF e r h⟩
  ·exact h.elim
 ·exact h.elim
theorem Fh:OpD K (fun x y H Q=>y= .non∧Q (.bl (decide (x= .non))) H) Dd:=by
 intro G0 L0 H0 G L M H v1 v2 d1 d2 q e r n1 n2 h
 unfold Dd at h
 split at h
 ·cases n1;exact ⟨n2,aL (d:= .bl true) e r (by show V.bl _=V.bl _;rw [decide_eq_true rfl]) h⟩
 ·cases n1;exact ⟨n2,aL (d:= .bl false) e r (by show V.bl _=V.bl _;rw [decide_eq_false (fun z=>nomatch z)]) h⟩
 ·cases n1;exact ⟨n2,aL (d:= .bl false) e r (by show V.bl _=V.bl _;rw [decide_eq_false (fun z=>nomatch z)]) h⟩
 ·cases n1;exact ⟨n2,aL (d:= .bl false) e r (by show V.bl _=V.bl _;rw [decide_eq_false (fun z=>nomatch z)]) h⟩
 ·obtain ⟨p1,w1,rfl,_⟩:=n1;exact ⟨n2,aL (d:= .bl false) e r (by show V.bl _=V.bl _;rw [decide_eq_false (fun z=>nomatch z)]) h⟩
 ·obtain ⟨p1,w1,rfl,_⟩:=n1;exact ⟨n2,aL (d:= .bl false) e r (by show V.bl _=V.bl _;rw [decide_eq_false (fun z=>nomatch z)]) h⟩
 ·exact h.elim
end
section
variable{X:Cx}{R:St→XK}{a b c:Expr}{ta tb:DE}{pos:Pos}
theorem y9(ja:JE X R a ta)(jb:JE X R b tb):JE X R (.Compare a [.Lt] [b] pos) (dOp fLt ta tb):=sL Ab ltD ja jb (eE _)
theorem wN(ja:JE X R a ta)(jb:JE X R b tb):JE X R (.Compare a [.LtE] [b] pos) (dOp fLe ta tb):=sL Ac leD ja jb (eE _)
theorem Ff(ja:JE X R a ta)(jb:JE X R b tb):JE X R (.Compare a [.GtE] [b] pos) (dOp fGe ta tb):=sL CC geD ja jb (eE _)
theorem Ej{k:Nat}(hr:cT k X.A)(ja:JE X R a ta)(jb:JE X R b tb):JE X R (.Compare a [.Eq] [b] pos) (dOp A9 ta tb):=sL (Af.or (wD hr.units0)) Eu ja jb (eE _)
theorem vl(ja:JE X R a ta)(jb:JE X R b tb):JT X R (.Compare a [.Lt] [b] pos) (jK (dOp fLt ta tb)):=dw Ab ltD ja jb (eE _)
theorem CM(ja:JE X R a ta)(jb:JE X R b tb):JT X R (.Compare a [.LtE] [b] pos) (jK (dOp fLe ta tb)):=dw Ac leD ja jb (eE _)
theorem AE(ja:JE X R a ta)(jb:JE X R b tb):JT X R (.Compare a [.Gt] [b] pos) (jK (dOp fGt ta tb)):=dw CB gtD ja jb (eE _)
theorem dR{k:Nat}(hr:cT k X.A)(ja:JE X R a ta)(jb:JE X R b tb):JT X R (.Compare a [.Eq] [b] pos) (jK (dOp A9 ta tb)):=dw (Af.or (wD hr.units0)) Eu ja jb (eE _)
theorem yn{k:Nat}(hr:cT k X.A)(ja:JE X R a ta)(jb:JE X R b tb):JT X R (.Compare a [.NotEq] [b] pos) (jK (dOp BE ta tb)):=dw (CA.or (z5 hr.units0)) E8 ja jb (eE _)
theorem AD(ja:JE X R a ta)(jb:JE X R b tb):JT X R (.Compare a [.Is] [b] pos) (jK (dOp Dd ta tb)):=dw Ad Fh ja jb (eE _)
end
def qA(M:Ms):Dt→Option (List Dt)
 | .lst xs=>some xs
 | .tup xs=>some xs
 | .scr ns=>some (ns.map .int)
 | .kt xs=>some xs
 | .loc k=>match M[k]? with
  | some (.lst xs)=>some xs
  | _=>none
 | _=>none
theorem jO{K:PySem.W.Frag}{G:Hp}{L:List Addr}{M:Ms}{H:Hp}{d:Dt}{v:V}{xs:List Dt}(r:Rl K G L M H)(n:Den K G L d v)(h:qA M d=some xs):∃a vs,v= .ref a∧(SqL K H a vs∨SqT K H a vs)∧aJ K G L xs vs:=by
 cases d with
 | lst ds=>cases h;obtain ⟨a,vs,rfl,e,m⟩:=n;exact ⟨a,vs,rfl, .inl (.of (r.sub _ _ e)),m⟩
 | tup ds=>cases h;obtain ⟨a,vs,rfl,e,m⟩:=n;exact ⟨a,vs,rfl, .inr (.of (r.sub _ _ e)),m⟩
 | kt ds=>cases h;obtain ⟨a,vs,rfl,e,m⟩:=n;exact ⟨a,vs,rfl, .inr (r.sub.sqT e),m⟩
 | scr ns=>cases h;obtain ⟨a,rfl,e⟩:=n;exact ⟨a,_,rfl, .inl (r.sub.seq e),eM⟩
 | loc k=>
  obtain ⟨a,rfl,e⟩:=n
  have h:(match M[k]? with | some (.lst xs)=>some xs | _=>none)=some xs:=h
  split at h
  ·rename_i ys hm
   cases h
   obtain ⟨_,vs,e1,m1⟩:=r.ats k a _ e hm
   exact ⟨a,vs,rfl, .inl (.of e1),m1⟩
  ·cases h
 | _=>cases h
theorem yR{K:PySem.W.Frag}{G:Hp}{L:List Addr}{ds:List Dt}{vs:List V}{i:Int}{d:Dt}(n:aJ K G L ds vs)(h:atI ds i=some d):∃v,atI vs i=some v∧Den K G L d v:=by
 unfold atI at h⊢
 rw [←n.length]
 cases q:ixN ds.length i with
 | none=>rw [q] at h;cases h
 | some j=>
  rw [q] at h
  obtain ⟨v,e,m⟩:=n.get h
  exact ⟨v,e,m⟩
def fIx:Dt→Dt→Ms→DQ→Prop
 | .str z, .int i,M,q=>z.length≤sizeLine∧match atI z.cps.toList i with
  | some c=>q (.str ⟨#[c]⟩) M
  | none=>False
 | d, .int i,M,q=>match qA M d with
  | some xs=>(match atI xs i with
   | some y=>q y M
   | none=>False)
  | none=>False
 | _,_,_,_=>False
def mG:List Dt→Ms→DQ→Prop
 | [.str z],M,q=>z.length≤sizeLine∧q (.int z.length) M
 | [d],M,q=>match qA M d with
  | some xs=>q (.int xs.length) M
  | none=>False
 | _,_,_=>False
section
variable{K:PySem.W.Frag}
theorem ixD:OpD K (rIx K) fIx:=by
 intro G0 L0 H0 G L M H v1 v2 d1 d2 q e r n1 n2 h
 unfold fIx at h
 split at h
 ·rename_i z i
  split at h
  ·rename_i c hc
   exact .inr (.inr ⟨z,i,c,n1,n2,h.1,hc,bF e r h.2⟩)
  ·exact h.2.elim
 ·rename_i d i _
  split at h
  ·rename_i xs hx
   split at h
   ·rename_i y hy
    obtain ⟨a,vs,rfl,hs,m⟩:=jO r n1 hx
    obtain ⟨v,e1,m1⟩:=yR m hy
    rcases hs with hs | hs
    ·exact .inl ⟨a,vs,i,v,rfl,n2,hs,e1,aL e r m1 h⟩
    ·exact .inr (.inl ⟨a,vs,i,v,rfl,n2,hs,e1,aL e r m1 h⟩)
   ·exact h.elim
  ·exact h.elim
 ·exact h.elim
theorem Fc:CaD K (fun xs H Q=>(∃z,xs=[V.str z]∧z.length≤sizeLine∧Q (.int z.length) H)∨(∃p ys,xs=[V.ref p]∧(SqL K H p ys∨SqT K H p ys)∧Q (.int ys.length) H)) mG:=by
 intro G0 L0 H0 G L M H vs ds q e r n h
 unfold mG at h
 split at h
 ·rename_i z
  obtain ⟨v,rfl,n1⟩:=bB n
  cases n1
  exact .inl ⟨z,rfl,h.1,bF e r h.2⟩
 ·rename_i d _
  obtain ⟨v,rfl,n1⟩:=bB n
  split at h
  ·rename_i xs hx
   obtain ⟨a,ws,rfl,hs,m⟩:=jO r n1 hx
   exact .inr ⟨a,ws,rfl,hs,aL (d:= .int xs.length) e r (by show V.int _=V.int _;rw [m.length]) h⟩
  ·exact h.elim
 ·exact h.elim
end
section
variable{X:Cx}{R:St→XK}{a b c:Expr}{ta tb:DE}{pos:Pos}
theorem aY(ja:JE X R a ta)(jb:JE X R b tb)(hs:ow b:=by exact fun _ _=>rfl):JE X R (.Subscript a b pos) (dOp fIx ta tb):=CS AX ixD ja jb hs
variable{x:Str}{p:Pos}{e:Expr}{es:List Expr}{t:DA}{id T:String}{r:List V→Hp→VK→Prop}{f:List Dt→Ms→DQ→Prop}
theorem eK(hc:dH X (.builtin id) r)(cd:CaD X.K r f)(hm:X.mg x=none)(hv:bootBuiltins x=some (.builtin id))(ha:JA X R (e::es) t)(hg:Gl X x:=by rfl)(hn:x≠"__name__":=by decide)(hdb:(x==("__debug__":Str))=false:=by decide)
  (he:starEach (e::es) X.env=(false,eval e X.env)::starEach es X.env:=by rfl) (hpl:(backTo pos (starEach es X.env)).any (·.1)=false:=by rfl):JE X R (.Call (.Name x p) (e::es) [] pos) (dFn f t):=
 .of (va hc hg hm hv ha hn hdb he hpl) fun σ H G L ρ M q x r n h hx=>Bm cd r n h hx
theorem oX(hc:dH X (.type T) r)(cd:CaD X.K r f)(hm:X.mg x=none)(hv:bootBuiltins x=some (.type T))(ha:JA X R (e::es) t)(hg:Gl X x:=by rfl)(hn:x≠"__name__":=by decide)(hdb:(x==("__debug__":Str))=false:=by decide)
  (he:starEach (e::es) X.env=(false,eval e X.env)::starEach es X.env:=by rfl) (hpl:(backTo pos (starEach es X.env)).any (·.1)=false:=by rfl):JE X R (.Call (.Name x p) (e::es) [] pos) (dFn f t):=
 .of (rM hc hg hm hv ha hn hdb he hpl) fun σ H G L ρ M q x r n h hx=>Bm cd r n h hx
theorem eJ(hm:X.mg "len"=none)(ha:JA X R [e] t)(he:starEach [e] X.env=(false,eval e X.env)::starEach [] X.env:=by rfl)(hpl:(backTo pos (starEach [] X.env)).any (·.1)=false:=by rfl)(hg:Gl X "len":=by rfl):JE X R (.Call (.Name "len" p) [e] [] pos) (dFn mG t):=
 eK (mq.or mr) Fc hm PySem.boot_len ha hg (by decide) (by decide) he hpl
end
end L2
set_option maxRecDepth 100000
set_option maxHeartbeats 4000000
namespace L2
open PySem PySem.Spec PyProof.Rows
section
variable{X:Cx}
end
def ET(ta:TE):TE:=fun σ H Q=>ta σ H fun x H1=>(∃i,x= .int i∧i.natAbs.log2 < 1920∧Q (.str (toString i)) H1)∨∃z,x= .str z∧z.length≤sizeLine∧Q (.str z) H1
def uI:List TE→Str→TE
 | [],acc=>fun _ H Q=>Q (.str acc) H
 | t::ts,acc=>fun σ H Q=>t σ H fun x H1=>∃y,x= .str y∧(acc++y).length≤sizeLine∧uI ts (acc++y) σ H1 Q
section
variable{X:Cx}{a:Expr}{ta:TE}{pos:Pos}
theorem zX(ha:PE X a ta):PE X (.FormattedValue a (-1) none pos) (ET ta):=by
 intro pins s σ H Q I h
 refine FormattedValue_plain (thn (ha pins s σ H _ I h) fun v s1 ⟨x,H1,I1,r1,q1⟩=> ?_)
 rcases q1 with ⟨i,rfl,hd,q⟩ | ⟨z,rfl,hz,q⟩
 ·obtain ⟨t,rfl⟩:=r1
  exact wpAny_formatField_int hd ⟨.str _,H1,I1.tok _,⟨_,rfl⟩,q⟩
 ·obtain ⟨t,rfl⟩:=r1
  exact formatField_str (fun t' tk=>⟨.str z,H1,I1.tok tk,⟨_,rfl⟩,q⟩) hz
theorem qh{es:List Expr}{ts:List TE}(h:Paired (PE X) es ts):∀(acc:Str) (pins:List (Addr×Obj)) (s:Shared) (σ:St) (H:Hp) (Q:VK),acc.length≤sizeLine→Inv X pins σ H s→uI ts acc σ H Q→
  wpAny (model X.prog X.w) X.A (joinParts acc (evalEach es X.env)) (EP X pins σ Q) X.xe s:=by
 induction h with
 | nil=>
  intro acc pins s σ H Q hz I q
  exact joinParts_nil ⟨.str acc,H,I.tok _,⟨_,rfl⟩,q⟩ hz
 | cons he _ ih=>
  intro acc pins s σ H Q hz I q
  refine joinParts_cons (thn (he pins s σ H _ I q) fun v s1 ⟨x,H1,I1,r1,y,e,hz1,q1⟩=> ?_)
  subst e
  obtain ⟨t,rfl⟩:=r1
  exact ⟨hz1,ih (acc++y) pins s1 σ H1 Q hz1 I1 q1⟩
theorem xR{e1 e2:Expr}{es:List Expr}{ts:List TE}(h:Paired (PE X) (e1::e2::es) ts):PE X (.JoinedStr (e1::e2::es) pos) (uI ts Str.empty):=by
 intro pins s σ H Q I q
 exact JoinedStr_many (qh h Str.empty pins s σ H Q (by decide) I q)
end
def Er:Dt→Ms→DQ→Prop
 | .int i,M,q=>i.natAbs.log2 < 1920∧q (.str (Str.ofString (toString i))) M
 | .str z,M,q=>z.length≤sizeLine∧q (.str z) M
 | _,_,_=>False
def Dj:List Dt→Ms→DQ→Prop
 | [.int i],M,q=>q (.int (if i < 0 then -i else i)) M
 | _,_,_=>False
def Dh:List Dt→Ms→DQ→Prop
 | [d],M,q=>∃bs:List Bool,qA M d=some (bs.map Dt.bl)∧(∀k,d≠ .kt k)∧(∀k,d≠ .tup k)∧q (.bl (bs.any id)) M
 | _,_,_=>False
def As:Dt→Option Value
 | .non=>some (.type "NoneType")
 | .bl _=>some (.type "bool")
 | .int _=>some (.type "int")
 | .str _=>some (.type "str")
 | .lst _=>some (.type "list")
 | .tup _=>some (.type "tuple")
 | _=>none
def Dy:Dt→Option Value
 | .ty T=>some (.type T)
 | .ref C=>some (.ref C)
 | _=>none
section
variable{K:PySem.W.Frag}
theorem me{G:Hp}{L:List Addr}:∀{l:List Str},aJ K G L (l.map Dt.str) (l.map V.str)
 | []=>rfl
 | _::_=>⟨_,_,rfl,rfl,me⟩
theorem g9{G:Hp}{L:List Addr}:∀{bs:List Bool} {vs:List V},aJ K G L (bs.map Dt.bl) vs→vs=bs.map V.bl
 | [],_,h=>h
 | b::bs,_,⟨v,r,e,h1,h2⟩=>by
  subst e
  rw [g9 h2,show v=V.bl b from h1]
  rfl
theorem FC:CaD K (fun xs H Q=>∃i,xs=[V.int i]∧Q (.int (if i < 0 then -i else i)) H) Dj:=by
 intro G0 L0 H0 G L M H vs ds q e r n h
 unfold Dj at h
 split at h
 ·rename_i i
  obtain ⟨v,rfl,n1⟩:=bB n
  cases n1
  exact ⟨i,rfl,bF e r h⟩
 ·exact h.elim
theorem Fy:CaD K (Ea K) Dh:=by
 intro G0 L0 H0 G L M H vs ds q e r n h
 unfold Dh at h
 split at h
 ·rename_i d
  obtain ⟨bs,hs,nk,nt,h⟩:=h
  obtain ⟨v,rfl,n1⟩:=bB n
  cases d with
  | lst xs=>
   cases hs
   obtain ⟨a,ws,rfl,e1,m⟩:=n1
   exact ⟨a,bs,rfl,by rw [←g9 m];exact .of (r.sub _ _ e1),bF e r h⟩
  | loc k=>
   obtain ⟨a,rfl,e1⟩:=n1
   have hs:(match M[k]? with | some (.lst xs)=>some xs | _=>none)=some (bs.map Dt.bl):=hs
   split at hs
   ·rename_i ys hm
    cases hs
    obtain ⟨_,ws,e2,m⟩:=r.ats k a _ e1 hm
    exact ⟨a,bs,rfl,by rw [←g9 m];exact .of e2,bF e r h⟩
   ·cases hs
  | tup xs=>exact absurd rfl (nt xs)
  | kt xs=>exact absurd rfl (nk xs)
  | scr ns=>
   have e0:ns.map Dt.int=bs.map Dt.bl:=Option.some.inj hs
   cases ns with
   | nil=>
    cases bs with
    | nil=>obtain ⟨a,rfl,e1⟩:=n1;exact ⟨a,[],rfl,r.sub.seq e1,bF e r h⟩
    | cons _ _=>cases e0
   | cons _ _=>
    cases bs with
    | nil=>cases e0
    | cons _ _=>cases e0
  | _=>cases hs
 ·exact h.elim
theorem qG{G:Hp}{L:List Addr}{M:Ms}{H:Hp}{d:Dt}{v:V}{t:Value}(r:Rl K G L M H)(n:Den K G L d v)(h:As d=some t):kE K H v t:=by
 cases d with
 | non=>cases h;cases n;exact .non
 | bl b=>cases h;cases n;exact .bl _
 | int i=>cases h;cases n;exact .int _
 | str x=>cases h;cases n;exact .str _
 | lst xs=>cases h;obtain ⟨a,ws,rfl,e,_⟩:=n;exact .lst (r.sub _ _ e)
 | tup xs=>cases h;obtain ⟨a,ws,rfl,e,_⟩:=n;exact .tup (r.sub _ _ e)
 | _=>cases h
theorem tW{G:Hp}{L:List Addr}{d:Dt}{v:V}{t:Value}(n:Den K G L d v)(h:Dy d=some t):yM v=some t:=by
 cases d with
 | ty T=>cases n;exact h
 | ref C=>cases n;exact h
 | _=>cases h
end
def yL:List DE→Str→DE
 | [],acc=>fun _ M q _=>q (.str acc) M
 | t::ts,acc=>fun ρ M q x=>t ρ M (fun d M1=>match d with
  | .str y=>(acc++y).length≤sizeLine∧yL ts (acc++y) ρ M1 q x
  | _=>False) x
section
variable{X:Cx}{R:St→XK}{o a e e1 e2:Expr}{es:List Expr}{to ta te:DE}{t:DA}{name:Str}{apos cpos pos p p2:Pos}{T id:String}
theorem CT(ha:JE X R a ta):JE X R (.FormattedValue a (-1) none pos) (dUn Er ta):= .of (zX ha) fun σ H G L ρ M q x rl n h hx=>by
 refine ⟨G,L,ρ,M,_,x,rl,n,h,hx,fun v H1 ⟨d1,G1,L1,M1,e1,r1,n1,h1⟩=> ?_⟩
 unfold Er at h1
 (try dsimp only at h1)
 split at h1
 ·cases n1;exact .inl ⟨_,rfl,h1.1,bF e1 r1 h1.2⟩
 ·cases n1;exact .inr ⟨_,rfl,h1.1,bF e1 r1 h1.2⟩
 ·exact h1.elim
theorem ju:∀{es:List Expr} {ts:List DE},Paired (JE X R) es ts→Paired (PE X) es (ts.map (nJ X.K R))
 | _,_, .nil=> .nil
 | _,_, .cons h t=> .cons h (ju t)
theorem sE{K:PySem.W.Frag}:∀(ts:List DE) (acc:Str) (σ:St) (G0:Hp) (L0:List Addr) (H0 G:Hp) (L:List Addr) (M:Ms) (H:Hp) (ρ:En) (q:DQ) (x:DX),Ex G0 L0 H0 G L H→Rl K G L M H→EnD K G L ρ σ→yL ts acc ρ M q x→XOk K G L H R x→uI (ts.map (nJ K R)) acc σ H (Fin K G0 L0 H0 q)
 | [],acc,σ,G0,L0,H0,G,L,M,H,ρ,q,x,e,rl,n,h,hx=>bF e rl h
 | t::ts,acc,σ,G0,L0,H0,G,L,M,H,ρ,q,x,e,rl,n,h,hx=>by
  refine ⟨G,L,ρ,M,_,x,rl,n,h,hx,fun v H1 ⟨d1,G1,L1,M1,e1,r1,n1,h1⟩=> ?_⟩
  (try dsimp only at h1)
  split at h1
  ·rename_i y
   exact ⟨y,n1,h1.1,sE ts (acc++y) σ G0 L0 H0 G1 L1 M1 H1 ρ q x (e.trans e1) r1 (n.mono e1) h1.2 (hx.on e1)⟩
  ·exact h1.elim
theorem AR{ts:List DE}(h:Paired (JE X R) (e1::e2::es) ts):JE X R (.JoinedStr (e1::e2::es) pos) (yL ts Str.empty):=
 .of (xR (ju h)) fun σ H G L ρ M q x rl n h hx=>sE ts _ σ G L H G L M H ρ q x (.refl _ _ _) rl n h hx
theorem ua:bootBuiltins "int"=some (.type "int"):=by decide+kernel
theorem ud:bootBuiltins "abs"=some (.builtin "abs"):=by decide+kernel
theorem ub:bootBuiltins "any"=some (.builtin "any"):=by decide+kernel
theorem t9:bootBuiltins "min"=some (.builtin "min"):=by decide+kernel
theorem ez:bootBuiltins "isinstance"=some (.builtin "isinstance"):=by decide+kernel
theorem qw:bootBuiltins "bool"=some (.type "bool"):=by decide+kernel
theorem og:bootBuiltins "tuple"=some (.type "tuple"):=by decide+kernel
theorem qt:bootBuiltins "list"=some (.type "list"):=by decide+kernel
theorem BB{x:Str}{T:String}(hm:X.mg x=none)(hv:bootBuiltins x=some (.type T))(hg:Gl X x:=by rfl)(hn:x≠"__name__":=by decide)(hd:(x==("__debug__":Str))=false:=by decide):JE X R (.Name x p) (dC (.ty T)):=j_c (xV (v:= .ty T) hg hm hv rfl hn hd) fun _ _=>rfl
theorem fi{x:Str}{C:Addr}(hm:X.mg x=some (.ref C))(hg:Gl X x:=by rfl)(hd:(x==("__debug__":Str))=false:=by decide):JE X R (.Name x p) (dC (.ref C)):=j_c (ni (v:= .ref C) hg hm rfl hd) fun _ _=>rfl
theorem lQ{x:Str}{z:Int}(hm:∃tk,X.mg x=some (.int z tk))(hg:Gl X x:=by rfl)(hd:(x==("__debug__":Str))=false:=by decide):JE X R (.Name x p) (dC (.int z)):=let ⟨tk,hm⟩:=hm;j_c (ni (v:= .int z) hg hm ⟨tk,rfl⟩ hd) fun _ _=>rfl
end
end L2
set_option maxRecDepth 100000
set_option maxHeartbeats 4000000
namespace L2
open PySem PySem.Spec PyProof.Rows
def Its(x:Str):It:=⟨fun i _=>i < x.cps.size,fun i H v H'=>H'=H∧∃c,x.cps[i]? =some c∧v= .str ⟨#[c]⟩,fun i _=>x.cps.size≤i⟩
theorem qI{P:Program}{w:World}{K:PySem.W.Frag}{tg:Expr}(x:Str)(t:Tok)(it:Addr):ux P w K tg (Its x) [it] it (fun i h=>h.IsStrIter it "str_ascii_iterator" x t i) where
 mem:=by simp
 obj:=fun i h st b hb=>by
  have e:b=it:=by simpa using hb
  subst e
  obtain ⟨o,e,c,d⟩:=st
  exact ⟨o,e,fun v z=>by rw [d] at z;cases z⟩
 keep:=fun i h h' st k=>let ⟨o,ho,r⟩:=st;⟨o,k it (by simp) o ho,r⟩
 item:=by
  intro X hP hw hK hc i pins s σ H E I hf st hg
  subst hP hw hK
  obtain ⟨f0,f1,f2,f3,f4,f5⟩:=hf it (by simp)
  have hg:i < x.cps.size:=hg
  refine wpAny_pyNext_ascii_item st (c:=x.cps[i]) (by simp [hg]) fun h' st' sb=> ?_
  have I1:Inv X pins σ H {s with heap:=h',toks:=s.toks+1}:=I.turned (fun b o hb e=>(sb.2 b hb).trans e) f0 f1 f3 f4 f5
  obtain ⟨o,e,c,d⟩:=id st'
  exact ⟨_,rfl,sU (s:={s with heap:=h',toks:=s.toks+1}) e c d (by decide) ⟨.str ⟨#[x.cps[i]]⟩,H,I1,⟨_,rfl⟩,⟨rfl,_,by simp [hg],rfl⟩,st',fun b hb=>(hf b hb).1⟩⟩
 done:=by
  intro X hP hw hK hc i pins s σ H E I hf st hg
  subst hP hw hK
  obtain ⟨f0,f1,f2,f3,f4,f5⟩:=hf it (by simp)
  have hg:x.cps.size≤i:=hg
  exact wpAny_pyNext_ascii_end (I.ok.hd hc) st (by simp;omega) fun h' eb=>⟨rfl,I.turned (t':=s.toks) (fun b o hb e=>eb b o hb e) f0 f1 f3 f4 f5⟩
 self:=fun _ _ _ _ _ st h=>wpAny_pyIter_striter_ascii st h
theorem qH{P:Program}{w:World}{K:PySem.W.Frag}{tg:Expr}(x:Str)(t:Tok)(it:Addr):ux P w K tg (Its x) [it] it (fun i h=>h.IsStrIter it "str_iterator" x t i) where
 mem:=by simp
 obj:=fun i h st b hb=>by
  have e:b=it:=by simpa using hb
  subst e
  obtain ⟨o,e,c,d⟩:=st
  exact ⟨o,e,fun v z=>by rw [d] at z;cases z⟩
 keep:=fun i h h' st k=>let ⟨o,ho,r⟩:=st;⟨o,k it (by simp) o ho,r⟩
 item:=by
  intro X hP hw hK hc i pins s σ H E I hf st hg
  subst hP hw hK
  obtain ⟨f0,f1,f2,f3,f4,f5⟩:=hf it (by simp)
  have hg:i < x.cps.size:=hg
  refine wpAny_pyNext_wide_item st (c:=x.cps[i]) (by simp [hg]) fun h' st' sb=> ?_
  have I1:Inv X pins σ H {s with heap:=h',toks:=s.toks+1}:=I.turned (fun b o hb e=>(sb.2 b hb).trans e) f0 f1 f3 f4 f5
  obtain ⟨o,e,c,d⟩:=id st'
  exact ⟨_,rfl,sU (s:={s with heap:=h',toks:=s.toks+1}) e c d (by decide) ⟨.str ⟨#[x.cps[i]]⟩,H,I1,⟨_,rfl⟩,⟨rfl,_,by simp [hg],rfl⟩,st',fun b hb=>(hf b hb).1⟩⟩
 done:=by
  intro X hP hw hK hc i pins s σ H E I hf st hg
  subst hP hw hK
  obtain ⟨f0,f1,f2,f3,f4,f5⟩:=hf it (by simp)
  have hg:x.cps.size≤i:=hg
  exact wpAny_pyNext_wide_end (I.ok.hd hc) st (by simp;omega) fun h' eb=>⟨rfl,I.turned (t':=s.toks) (fun b o hb e=>eb b o hb e) f0 f1 f3 f4 f5⟩
 self:=fun _ _ _ _ _ st h=>wpAny_pyIter_striter_wide st h
def oF(z:Str):List Dt:=z.cps.toList.map fun c=>Dt.str ⟨#[c]⟩
theorem ze{K:PySem.W.Frag}{G:Hp}{L:List Addr}{z:Str}:Yl K (Its z) (oF z) G L where
 go :=fun i G1 L1 M1 H1 d g l r e=>by
  unfold oF at e
  rw [List.getElem?_map] at e
  cases q:z.cps.toList[i]? with
  | none=>rw [q] at e;cases e
  | some c=>
   rw [q] at e
   cases e
   have hi:i < z.cps.size:=by
    have:=(List.getElem?_eq_some_iff.mp q).1
    simpa using this
   refine ⟨hi,fun v' H' ⟨eH,c',e',y⟩=> ?_⟩
   subst eH y
   have:c'=c:=by
    rw [←Array.getElem?_toList,q] at e'
    exact (Option.some.inj e').symm
   subst this
   exact ⟨G1, .refl _ _ _,r,rfl⟩
 stop:=fun i G1 L1 M1 H1 g l r e=>by
  unfold oF at e
  show z.cps.size≤i
  simpa using e
def CY(M:Ms):Dt→Option (List Dt)
 | .lst xs=>some xs
 | .tup xs=>some xs
 | .scr ns=>some (ns.map .int)
 | .kt xs=>some xs
 | .str z=>some (oF z)
 | _=>none
section
variable{X:Cx}{R:St→XK}{tg e:Expr}{te:DE}
theorem nO{pins:List (Addr×Obj)}{σ:St}{H:Hp}{s:Shared}{a:Addr}{vs:List V}{Q:It→Hp→Prop}{E:Value→Shared→Prop}(I:Inv X pins σ H s)(hq:SqL X.K H a vs)(q:Q (Itl X.K a) H):wpAny (model X.prog X.w) X.A (pyIter (.ref a)) (PIE X pins σ tg Q) E s:=by
 obtain ⟨its,rv,p,hz⟩:=I.list hq
 refine wpAny_pyIter_list p.isList ?_
 refine ⟨s.heap.objs.size,[s.heap.objs.size],_,_,H,rfl,I.kept (t':=s.toks) fun b o e=>Heap.get?_push_of_some _ e,qJ a _,⟨_,Heap.get?_push_size _ rfl,rfl,rfl⟩,fun b hb=> ?_,q⟩
 have e:b=s.heap.objs.size:=by simpa using hb
 subst e
 exact I.fpOk (Nat.le_refl _) (I.hok.fresh (Nat.le_refl _))
theorem wV{pins:List (Addr×Obj)}{σ:St}{H:Hp}{s:Shared}{a:Addr}{vs:List V}{Q:It→Hp→Prop}{E:Value→Shared→Prop}(I:Inv X pins σ H s)(hq:SqT X.K H a vs)(q:Q (Itt X.K a) H):wpAny (model X.prog X.w) X.A (pyIter (.ref a)) (PIE X pins σ tg Q) E s:=by
 obtain ⟨its,rv,p,hz⟩:=I.tuple hq
 refine wpAny_pyIter_tuple (show s.heap.IsTuple a its.toArray from p) ?_
 refine ⟨s.heap.objs.size,[s.heap.objs.size],_,_,H,rfl,I.kept (t':=s.toks) fun b o e=>Heap.get?_push_of_some _ e,pK a _,⟨_,Heap.get?_push_size _ rfl,rfl,rfl⟩,fun b hb=> ?_,q⟩
 have e:b=s.heap.objs.size:=by simpa using hb
 subst e
 exact I.fpOk (Nat.le_refl _) (I.hok.fresh (Nat.le_refl _))
theorem AY{pins:List (Addr×Obj)}{σ:St}{H:Hp}{s:Shared}{z:Str}{t:Tok}{Q:It→Hp→Prop}{E:Value→Shared→Prop}(I:Inv X pins σ H s)(q:Q (Its z) H):wpAny (model X.prog X.w) X.A (pyIter (.str z t)) (PIE X pins σ tg Q) E s:=by
 have fp:∀b∈[s.heap.objs.size],qy X pins H b:=fun b hb=>by
  have e:b=s.heap.objs.size:=by simpa using hb
  subst e
  exact I.fpOk (Nat.le_refl _) (I.hok.fresh (Nat.le_refl _))
 cases ha:z.cps.all (· < 128)
 ·exact wpAny_pyIter_wide ha ⟨s.heap.objs.size,[s.heap.objs.size],_,_,H,rfl,I.kept (t':=s.toks) fun b o e=>Heap.get?_push_of_some _ e,qH z t _,⟨_,Heap.get?_push_size _ rfl,rfl,rfl⟩,fp,q⟩
 ·exact wpAny_pyIter_ascii ha ⟨s.heap.objs.size,[s.heap.objs.size],_,_,H,rfl,I.kept (t':=s.toks) fun b o e=>Heap.get?_push_of_some _ e,qI z t _,⟨_,Heap.get?_push_size _ rfl,rfl,rfl⟩,fp,q⟩
end
def DD:DF:=fun ds _ q _=>∃ns:List Int,ds=[.scr ns]∧ns.length≤63∧∀M',q (.bl true) M'
def qN(K:PySem.W.Frag):Sp:=fun vs H Q _=>∃(a:Addr) (ns:List Int),vs=[.ref a]∧SqL K H a (ns.map V.int)∧ns.length≤63∧∀H',Q (.bl true) H'
theorem Aq{P:Program}{w:World}{K:PySem.W.Frag}{mg:Str→Option Value}{base:Heap}{k:Nat}{f:Addr}{fd:FuncData}{x:Str}(F:bC P w K mg base (CX1 P w) k f fd [x] (spD K DD)):bC P w K mg base CX0 k f fd [x] (qN K):=by
 have sp:∀vs H Q E,qN K vs H Q E→spD K DD vs H Q E0:=by
  rintro vs H Q E ⟨a,ns,rfl,hS,hl,hQ⟩
  refine ⟨H,[],[.scr ns],[],fun d _=>d= .bl true,fun _ _ _=>False,⟨.refl _,rfl,List.nodup_nil,fun k a m h=>by simp at h⟩,⟨_,_,rfl,⟨a,rfl,hS⟩,rfl⟩,⟨ns,rfl,hl,fun _=>rfl⟩,fun v H' ⟨d,G',L',M',_,_,n,e⟩=> ?_,fun _ _ _ _ _ _ _ h=>h.elim⟩
  subst e
  rw [show v=V.bl true from n]
  exact hQ H'
 refine ⟨fun vs H Q E h=>F.len vs H Q E0 (sp vs H Q E h),fun A outer s H args us vs Q E hr he hb hv h=>codeAny_mono (F.run A outer s H args us vs Q E0 hr he hb hv (sp vs H Q E h)) fun r s' hq=> ?_⟩
 cases r with
 | error e=>
  obtain ⟨_,_,_,_,_,_,_,_,hE⟩:=hq
  exact hE.elim
 | ok fl=>cases fl <;> exact hq
end L2
namespace L2
open PySem PySem.Spec PyProof.Rows
def zy(c:DT)(tb:DS):DS:=fun Dn ρ M=>∃W:Nat→En→Ms→Prop,(∃m,W m ρ M)∧∀m ρ M,W m ρ M→
 c ρ M (fun b M1=>(b=true→∃N:En→Ms→Prop,(∀ρ' M',N ρ' M'→∃m',m' < m∧W m' ρ' M')∧tb {Dn with nx:=N,ct:=N,bk:=Dn.nx} ρ M1)∧(b=false→Dn.nx ρ M1)) Dn.x
def EY(i j:Nat)(t:DA):DS:=fun Dn ρ M=>t ρ M (fun ds M1=>match ds with
 | [a,b]=>Dn.nx ((ρ.set i (some a)).set j (some b)) M1
 | _=>False) Dn.x
section
variable{X:Cx}{R:St→XK}{c a b:Expr}{body:List Stmt}{tc:DT}{tb:DS}{pos:Pos}
theorem oV(hc:JT X R c tc)(hb:JSs X R body tb)(hp:PassesOwn (model X.prog X.w) X.A X.env X.xe:=by first | exact PassesOwn.never | exact PassesOwn.leaving):JS X R (.While c body [] pos) (zy tc tb):= .of (uT hp hc hb) fun σ H G L ρ M Dn rl n h hx=>by
 obtain ⟨W,⟨m0,w0⟩,turn⟩:=h
 refine ⟨fun m σ' H'=>hI X.K G L H (W m) σ' H',⟨m0,ρ,G,L,M, .refl _ _ _,rl,n,w0⟩,fun m σ' H' ⟨ρ',G',L',M',e',r',n',w'⟩=> ?_⟩
 refine ⟨G',L',ρ',M',_,_,r',n',turn m ρ' M' w',hx.on e',fun v H1 ⟨G1,L1,M1,e1,r1,h1⟩=> ?_⟩
 cases v with
 | true=>
  obtain ⟨N,hN,hb⟩:=h1.1 rfl
  refine za ⟨hI X.K G L H N,fun σ2 H2 ⟨ρ2,G2,L2,M2,e2,r2,n2,h2⟩=> ?_, ?_⟩
  ·obtain ⟨m',hm,w2⟩:=hN ρ2 M2 h2
   exact ⟨m',hm,ρ2,G2,L2,M2,e2,r2,n2,w2⟩
  ·have e01:=e'.trans e1
   exact ⟨G1,L1,ρ',M1,_,r1,n'.mono e1,hb,hx.on e01,⟨fun _ _ f=>hI.back e01 f,fun _ _ f=>Fin.back e01 f,fun _ _ f=>hI.back e01 f,fun _ _ f=>hI.back e01 f⟩⟩
 | false=>exact zb ⟨ρ',G1,L1,M1,e'.trans e1,r1,n'.mono e1,h1.2 rfl⟩
theorem AI{i j:Nat}{x y:Str}{t:DA}{px py pt:Pos}{kt k2 pt2}(hN:X.N.Nodup)(hi:X.N[i]? =some x)(hj:X.N[j]? =some y)(ha:JA X R [a,b] t)(hij:i≠j:=by decide)
  (hx:X.env.scope.names.lookup x=some .local:=by rfl) (hy:X.env.scope.names.lookup y=some .local:=by rfl)
  (hw:swappedStores [.Tuple [.Name x px, .Name y py] kt pt] (.Tuple [a,b] k2 pt2) X.env=pure (some [x,y]):=by rfl) (hc:X.calm=true:=by rfl)
  (hs:swapsWithSole [.Tuple [.Name x px, .Name y py] kt pt] (.Tuple [a,b] k2 pt2) pos.line X.env=pure false:=by rfl):
  JS X R (.Assign [.Tuple [.Name x px, .Name y py] kt pt] (.Tuple [a,b] k2 pt2) pos) (EY i j t):= .of (zP hc hN hi hj hij hx hy ha hw hs) fun σ H G L ρ M Dn rl n h hx=>by
 refine ⟨G,L,ρ,M,_,_,rl,n,h,hx,fun vs H1 ⟨ds,G1,L1,M1,e1,r1,n1,h1⟩=> ?_⟩
 (try dsimp only at h1)
 split at h1
 ·obtain ⟨v,u,rfl,m1,m2⟩:=fe n1
  exact ⟨v,u,rfl,_,G1,L1,M1,e1,r1,((n.mono e1).set i m1).set j m2,h1⟩
 ·exact h1.elim
end
section
variable{X:Cx}{R:St→XK}{e e2 o:Expr}{es:List Expr}{t:DA}{to ta tb:DE}{a b:Expr}{p pos apos cpos:Pos}
theorem vo(hm:X.mg "abs"=none)(ha:JA X R [e] t)(he:starEach [e] X.env=(false,eval e X.env)::starEach [] X.env:=by rfl)(hpl:(backTo pos (starEach [] X.env)).any (·.1)=false:=by rfl)(hg:Gl X "abs":=by rfl):JE X R (.Call (.Name "abs" p) [e] [] pos) (dFn Dj t):=
 eK vU FC hm ud ha hg (by decide) (by decide) he hpl
theorem CV(hm:X.mg "any"=none)(ha:JA X R [e] t)(hc:X.calm=true:=by rfl)(he:starEach [e] X.env=(false,eval e X.env)::starEach [] X.env:=by rfl)(hpl:(backTo pos (starEach [] X.env)).any (·.1)=false:=by rfl)(hg:Gl X "any":=by rfl):JE X R (.Call (.Name "any" p) [e] [] pos) (dFn Dh t):=
 eK (vS hc) Fy hm ub ha hg (by decide) (by decide) he hpl
end
end L2
namespace L2
open PySem PySem.Spec PyProof.Rows
theorem fU{te:DE}{cs:En}{f:Dt→Dt}{M:Ms}{k:List Dt→Ms→Prop}:∀(xs acc:List Dt),(∀x∈xs,∀q:DQ,q (f x) M→te (some x::cs) M q noX)→k (acc++xs.map f) M→qq te cs xs acc M k
 | [],acc,_,h=>by rw [List.map_nil,List.append_nil] at h;exact h
 | x::xs,acc,ht,h=>ht x List.mem_cons_self _ (fU xs (acc++[f x]) (fun y hy=>ht y (List.mem_cons_of_mem _ hy)) (by simpa using h))
theorem aD{d y:Dt}{xs:List Dt}{i:Int}{M:Ms}{q:DQ}(hs:qA M d=some xs)(h:atI xs i=some y)(k:q y M):fIx d (.int i) M q:=by
 cases d with
 | str z=>cases hs
 | _=>
  unfold fIx
  simp only [hs,h]
  exact k
theorem aQ{d:Dt}{xs:List Dt}{M:Ms}{q:DQ}(hs:qA M d=some xs)(k:q (.int xs.length) M):mG [d] M q:=by
 cases d with
 | str z=>cases hs
 | _=>
  unfold mG
  simp only [hs]
  exact k
theorem d8{α:Type}{x:α}{xs:List α}:atI (x::xs) 0=some x:=aG (j:=0) rfl
end L2
set_option maxRecDepth 100000
set_option maxHeartbeats 4000000
namespace L2
open PySem PySem.Spec PyProof.Rows
theorem rf(bs:List Bool):(List.range bs.length).all (fun i=>bs.getD i false)=bs.all id:=by
 induction bs with
 | nil=>rfl
 | cons b bs ih=>
  rw [List.length_cons,List.range_succ_eq_map,List.all_cons,List.all_map,List.all_cons,←ih]
  rfl
def Eb(K:PySem.W.Frag):List V→Hp→VK→Prop:=fun xs H Q=>∃(p:Addr) (bs:List Bool),xs=[.ref p]∧SqL K H p (bs.map V.bl)∧Q (.bl (bs.all id)) H
section
variable{X:Cx}
theorem vT (hc : X.calm = true) : dH X (.builtin "all") (Eb X.K) := by
  intro pins s σ H xs us Q I r h
  obtain ⟨p, bs, rfl, hq, q⟩ := h
  obtain ⟨u, rfl, r1⟩ := kH r
  cases r1
  obtain ⟨its, rv, pl, hz⟩ := I.list hq
  have eits := mM rv
  subst eits
  refine call_all_walk (wpAny_pyIter_list pl.isList ?_)
  have lp : p < s.heap.objs.size := by obtain ⟨o, e, _⟩ := pl.isList; exact Heap.lt_size e
  refine ⟨s.heap.objs.size, _, _, _, _, _, fun i => bs.getD i false, rfl, Walks.list (show X.A.in1.handled = none from I.ok.hd hc) s.heap.objs.size p (Nat.ne_of_lt lp) (bs.map Value.bool).toArray, ⟨⟨_, Heap.get?_push_size _ rfl, rfl, rfl⟩, pl.isList.at fun o e => Heap.get?_push_of_some _ e⟩, oz, fun h' tk hk => ?_⟩
  refine ⟨.bl (bs.all id), H, I.kept fun b o e => hk b o (fun z => by have : b = s.heap.objs.size := by simpa using z
                                                                      exact Nat.lt_irrefl _ (this ▸ Heap.lt_size e)) (Heap.get?_push_of_some _ e), ?_, q⟩
  rw [List.size_toArray, List.length_map, rf]
  rfl
end
def Di:List Dt→Ms→DQ→Prop
 | [.lst xs],M,q=>∃bs:List Bool,xs=bs.map Dt.bl∧q (.bl (bs.all id)) M
 | _,_,_=>False
theorem Fz{K:PySem.W.Frag}:CaD K (Eb K) Di:=by
 intro G0 L0 H0 G L M H vs ds q e r n h
 unfold Di at h
 split at h
 ·rename_i xs
  obtain ⟨bs,rfl,h⟩:=h
  obtain ⟨v,rfl,n1⟩:=bB n
  obtain ⟨a,ws,rfl,e1,m⟩:=n1
  exact ⟨a,bs,rfl,by rw [←g9 m];exact .of (r.sub _ _ e1),bF e r h⟩
 ·exact h.elim
def B5(i j:Nat)(t:DE):DS:=fun Dn ρ M=>t ρ M (fun d M1=>match d with
 | .tup [a,b]=>Dn.nx ((ρ.set i (some a)).set j (some b)) M1
 | _=>False) Dn.x
section
variable{X:Cx}{R:St→XK}{e o:Expr}{es:List Expr}{t:DA}{to te:DE}{p pos apos cpos:Pos}
theorem uc:bootBuiltins "all"=some (.builtin "all"):=by decide+kernel
theorem CW(hm:X.mg "all"=none)(ha:JA X R [e] t)(hc:X.calm=true:=by rfl)(he:starEach [e] X.env=(false,eval e X.env)::starEach [] X.env:=by rfl)(hpl:(backTo pos (starEach [] X.env)).any (·.1)=false:=by rfl)(hg:Gl X "all":=by rfl):JE X R (.Call (.Name "all" p) [e] [] pos) (dFn Di t):=
 eK (vT hc) Fz hm uc ha hg (by decide) (by decide) he hpl
variable{i j k:Nat}{tg:Expr}
theorem sy(he:JE X R e te)(hg:PG X tg (C2 X.K 2 (sZ (i8 i) (sZ (i8 j) C3))))(hs:swapsWithSole [tg] e pos.line X.env=pure false:=by rfl)(hw:swappedStores [tg] e X.env=pure none:=by rfl)
  (h1:(assignEach [tg] X.env).map (·.2)=[assign tg X.env]:=by rfl):JS X R (.Assign [tg] e pos) (B5 i j te):= .of (wy he hg hs hw h1) fun σ H G L ρ M Dn rl n h hx=>by
 refine ⟨G,L,ρ,M,_,_,rl,n,h,hx,fun v H1 ⟨d1,G1,L1,M1,e1,r1,n1,h1⟩=> ?_⟩
 (try dsimp only at h1)
 split at h1
 ·rename_i a b
  obtain ⟨p,vs,rfl,e,m⟩:=n1
  obtain ⟨v1,v2,rfl,m1,m2⟩:=fe m
  exact ⟨p,_,rfl, .inl (.inl (r1.sub _ _ e)),rfl,v1,_,rfl,v2,_,rfl,rfl,_,G1,L1,M1,e1,r1,((n.mono e1).set i m1).set j m2,h1⟩
 ·exact h1.elim
end
theorem EnD.unset{K:PySem.W.Frag}{G:Hp}{L:List Addr}{ρ:En}{σ:St}(h:EnD K G L ρ σ)(i:Nat):EnD K G L (ρ.set i none) (σ.set i none):=by
 refine ⟨by rw [List.length_set,List.length_set];exact h.len,fun j d' e=> ?_⟩
 by_cases hj:i=j
 ·subst hj
  have hl:i < ρ.length:=by
   have:=(List.getElem?_eq_some_iff.mp e).1
   rwa [List.length_set] at this
  rw [List.getElem?_set_self hl] at e
  cases e
 ·rw [List.getElem?_set_ne hj] at e
  obtain ⟨u,a,b⟩:=h.ats j d' e
  exact ⟨u,by rw [List.getElem?_set_ne hj];exact a,b⟩
section
variable{X:Cx}{R:St→XK}{body:List Stmt}{D:Addr}{dn n:Str}{i:Nat}{b₀:Stmt}{suite:List Stmt}{pos hpos np:Pos}{tb:DS}{ts:Addr→Addr→DS}{bmB':List Value}{newId':String}
end
section
variable{X:Cx}{R:St→XK}{e e2:Expr}{t:DA}{p pos:Pos}{x C:Addr}
end
theorem yQ{α:Type}{xs:List α}{i:Int}(h0:0≤i)(h1:i < xs.length):∃y∈xs,atI xs i=some y:=by
 refine ⟨xs[i.toNat]'(by omega),List.getElem_mem _, ?_⟩
 have e:xs[i.toNat]? =some (xs[i.toNat]'(by omega)):=List.getElem?_eq_getElem _
 have:=aG e
 rwa [show ((i.toNat:Nat):Int)=i by omega] at this
end L2
set_option maxRecDepth 100000
set_option maxHeartbeats 4000000
namespace L2
open PySem PySem.Spec PyProof.Rows
mutual
def Dt.under(n:Nat):Dt→Prop
 | .non=>True
 | .bl _=>True
 | .int _=>True
 | .str _=>True
 | .tup ds=>Dt.underL n ds
 | .lst ds=>Dt.underL n ds
 | .obj _ _ ds=>Dt.underL n ds
 | .loc k=>k < n
 | .ref _=>True
 | .ty _=>True
 | .scr _=>True
 | .kt ds=>Dt.underL n ds
 | .exc _ _ ds=>Dt.underL n ds
 | .exn _ _ _ _ ds=>Dt.underL n ds
def Dt.underL(n:Nat):List Dt→Prop
 | []=>True
 | d::ds=>Dt.under n d∧Dt.underL n ds
end
def MO.under(n:Nat):MO→Prop
 | .lst ds=>Dt.underL n ds
 | .ins _ _ ds=>Dt.underL n ds
 | .dct _ ds=>Dt.underL n ds
mutual
inductive Frz(n:Nat)(E:Ms):Dt→Dt→Prop
 | old {d:Dt} (h:d.under n):Frz n E d d
 | tup {ds es:List Dt} (h:mI n E ds es):Frz n E (.tup ds) (.tup es)
 | lst {ds es:List Dt} (h:mI n E ds es):Frz n E (.lst ds) (.lst es)
 | obj {C:Addr} {ns:List Str} {ds es:List Dt} (h:mI n E ds es):Frz n E (.obj C ns ds) (.obj C ns es)
 | newL {k:Nat} {ds es:List Dt} (hk:n≤k) (e:E[k - n]? =some (.lst ds)) (h:mI n E ds es):Frz n E (.loc k) (.lst es)
 | newO {k:Nat} {C:Addr} {ns:List Str} {ds es:List Dt} (hk:n≤k) (e:E[k - n]? =some (.ins C ns ds)) (h:mI n E ds es):Frz n E (.loc k) (.obj C ns es)
inductive mI(n:Nat)(E:Ms):List Dt→List Dt→Prop
 | nil:mI n E [] []
 | cons {d e:Dt} {ds es:List Dt} (h:Frz n E d e) (t:mI n E ds es):mI n E (d::ds) (e::es)
end
theorem mI.length{n:Nat}{E:Ms}:∀{ds es:List Dt},mI n E ds es→ds.length=es.length
 | [],es,h=>by cases h;rfl
 | d::ds,es,h=>by
  cases h with
  | cons h t=>rw [List.length_cons,List.length_cons,mI.length t]
theorem mI.old{n:Nat}{E:Ms}:∀{ds:List Dt},Dt.underL n ds→mI n E ds ds
 | [],_=> .nil
 | _::_,h=> .cons (.old h.1) (mI.old h.2)
section
variable{K:PySem.W.Frag}{G G':Hp}{L0 t:List Addr}{n:Nat}
mutual
theorem md(hn:L0.length=n)(g:fK G G'):∀(d:Dt) (v:V),d.under n→Den K G (L0++t) d v→Den K G' L0 d v
 | .non,_,_,h=>h
 | .bl _,_,_,h=>h
 | .int _,_,_,h=>h
 | .str _,_,_,h=>h
 | .tup ds,_,u,⟨a,vs,e,h1,h2⟩=>⟨a,vs,e,g _ _ h1,bp hn g ds vs u h2⟩
 | .lst ds,_,u,⟨a,vs,e,h1,h2⟩=>⟨a,vs,e,g _ _ h1,bp hn g ds vs u h2⟩
 | .obj C ns ds,_,u,⟨a,dx,vs,e,h1,hl,h2⟩=>⟨a,dx,vs,e,g _ _ h1,hl,bp hn g ds vs u h2⟩
 | .loc k,_,u,⟨a,e,h1⟩=>⟨a,e,by
   have u:k < n:=u
   rwa [List.getElem?_append_left (by rw [hn];exact u)] at h1⟩
 | .ref _,_,_,h=>h
 | .ty _,_,_,h=>h
 | .scr _,_,_,⟨a,e,h1⟩=>⟨a,e,g.seq h1⟩
 | .kt ds,_,u,⟨a,vs,e,h1,h2⟩=>⟨a,vs,e,g.sqT h1,bp hn g ds vs u h2⟩
 | .exc _ _ ds,_,u,⟨a,od,vs,e,h1,h2,h3,h4⟩=>⟨a,od,vs,e,g _ _ h1,h2.imp (fun z=>z) (fun ⟨dx,z1,z2⟩=>⟨dx,z1,g _ _ z2⟩),h3,bp hn g ds vs u h4⟩
 | .exn _ _ _ _ ds,_,u,⟨vs,e,h2,h3,h4⟩=>⟨vs,e,h2.imp (fun z=>z) (fun ⟨dx,z1,z2⟩=>⟨dx,z1,g _ _ z2⟩),h3,bp hn g ds vs u h4⟩
theorem bp(hn:L0.length=n)(g:fK G G'):∀(ds:List Dt) (vs:List V),Dt.underL n ds→aJ K G (L0++t) ds vs→aJ K G' L0 ds vs
 | [],_,_,h=>h
 | d::ds,_,u,⟨v,r,e,h1,h2⟩=>⟨v,r,e,md hn g d v u.1 h1,bp hn g ds r u.2 h2⟩
end
theorem se{H:Hp}{a:Addr}(hn:L0.length=n)(g:fK G G'){m:MO}(u:m.under n)(h:MOk K G (L0++t) H a m):MOk K G' L0 H a m:=by
 cases m with
 | lst ds=>obtain ⟨vs,e,h⟩:=h;exact ⟨vs,e,bp hn g _ _ u h⟩
 | ins C ns ds=>obtain ⟨dx,vs,e,hl,h⟩:=h;exact ⟨dx,vs,e,hl,bp hn g _ _ u h⟩
 | dct ks ds=>obtain ⟨vs,e,hl,h⟩:=h;exact ⟨vs,e,hl,bp hn g _ _ u h⟩
end
open Classical in
noncomputable def over(G H:Hp)(t:List Addr):Hp:=fun b=>if b∈t then H b else G b
theorem rP{G H:Hp}{t:List Addr}{b:Addr}(h:b∈t):over G H t b=H b:=by unfold over;rw [if_pos h]
theorem gY{G H:Hp}{t:List Addr}{b:Addr}(h:b∉t):over G H t b=G b:=by unfold over;rw [if_neg h]
section
variable{K:PySem.W.Frag}{G:Hp}{L0 t:List Addr}{M0 E:Ms}{H:Hp}
theorem eD(r:Rl K G (L0++t) (M0++E) H):fK G (over G H t):=fun b u e=>by
 by_cases hb:b∈t
 ·obtain ⟨_,_,_,_,g,_⟩:=r.at_mem (a:=b) (List.mem_append_right _ hb)
  rw [g] at e;cases e
 ·rw [gY hb];exact e
theorem w8(r:Rl K G (L0++t) (M0++E) H)(hn:L0.length=M0.length){k:Nat}{a:Addr}{m:MO}(hk:M0.length≤k)(e:(L0++t)[k]? =some a)(em:E[k - M0.length]? =some m):over G H t a=H a∧MOk K G (L0++t) H a m:=by
 have e2:(M0++E)[k]? =some m:=by rw [List.getElem?_append_right hk];exact em
 obtain ⟨_,q⟩:=r.ats k a m e e2
 rw [List.getElem?_append_right (by rw [hn];exact hk)] at e
 exact ⟨rP (List.mem_of_getElem? e),q⟩
theorem yy(r:Rl K G (L0++t) (M0++E) H)(hn:L0.length=M0.length){d d':Dt}(f:Frz M0.length E d d'):∀v,Den K G (L0++t) d v→Den K (over G H t) L0 d' v:=by
 refine Frz.rec (motive_1:=fun d d' _=>∀v,Den K G (L0++t) d v→Den K (over G H t) L0 d' v) (motive_2:=fun ds es _=>∀vs,aJ K G (L0++t) ds vs→aJ K (over G H t) L0 es vs) ?_ ?_ ?_ ?_ ?_ ?_ ?_ ?_ f
 ·exact fun {d} u v h=>md hn (eD r) d v u h
 ·exact fun {ds es} f ih v ⟨a,vs,e,h1,h2⟩=>⟨a,vs,e,eD r _ _ h1,ih vs h2⟩
 ·exact fun {ds es} f ih v ⟨a,vs,e,h1,h2⟩=>⟨a,vs,e,eD r _ _ h1,ih vs h2⟩
 ·exact fun {C ns ds es} f ih v ⟨a,dx,vs,e,h1,hl,h2⟩=>⟨a,dx,vs,e,eD r _ _ h1,hl.trans f.length,ih vs h2⟩
 ·intro k ds es hk em f ih v ⟨a,e,h1⟩
  obtain ⟨o,vs,e1,h2⟩:=w8 r hn hk h1 em
  exact ⟨a,vs,e,o.trans e1,ih vs h2⟩
 ·intro k C ns ds es hk em f ih v ⟨a,e,h1⟩
  obtain ⟨o,dx,vs,e1,hl,h2⟩:=w8 r hn hk h1 em
  exact ⟨a,dx,vs,e,o.trans e1,hl.trans f.length,ih vs h2⟩
 ·exact fun vs h=>h
 ·exact fun {d e ds es} f t ih1 ih2 vs ⟨v,r,e,h1,h2⟩=>⟨v,r,e,ih1 v h1,ih2 r h2⟩
end
def Fn(n:Nat)(q:DQ):DQ:=fun d M=>∃M' E d',M=M'++E∧M'.length=n∧(∀m∈M',MO.under n m)∧Frz n E d d'∧q d' M'
theorem Fin.frz{K:PySem.W.Frag}{G0:Hp}{L0:List Addr}{M0:Ms}{H0:Hp}{q:DQ}{v:V}{H:Hp}(r0:Rl K G0 L0 M0 H0)(f:Fin K G0 L0 H0 (Fn M0.length q) v H):Fin K G0 L0 H0 q v H:=by
 obtain ⟨d,G,L,M,ex,r,dn,M',E,d',rfl,hl,hu,fz,hq⟩:=f
 obtain ⟨t,rfl⟩:=ex.l
 have hn:L0.length=M'.length:=by rw [hl];exact r0.len
 have dis:∀b,b∈L0→b∉t:=fun b h1 h2=>(List.nodup_append.mp r.nd).2.2 b h1 b h2 rfl
 have sm:=eD r
 refine ⟨d',over G H t,L0,M',⟨ex.g.trans sm, .refl _,fun b h1 h2=> ?_,ex.out,fun b h=> .inl h,ex.dom⟩,⟨fun b u e=> ?_,hn,(List.nodup_append.mp r.nd).1,fun k a m h1 h2=> ?_⟩,yy r hn (hl▸fz) v dn,hq⟩
 ·have hb:b∉t:=fun z=>(ex.new b (List.mem_append_right _ z)).elim (fun y=>dis b y z) h2
  rw [gY hb];exact ex.fr b h1 h2
 ·by_cases hb:b∈t
  ·rw [rP hb] at e;exact e
  ·rw [gY hb] at e;exact r.sub b u e
 ·have k1:k < L0.length:=(List.getElem?_eq_some_iff.mp h1).1
  have e1:(L0++t)[k]? =some a:=by rw [List.getElem?_append_left k1];exact h1
  have e2:(M'++E)[k]? =some m:=by rw [List.getElem?_append_left (by rw [←hn];exact k1)];exact h2
  obtain ⟨g,q⟩:=r.ats k a m e1 e2
  exact ⟨by rw [gY (dis a (List.mem_of_getElem? h1))];exact g,se (n:=M'.length) hn sm (by rw [hl];exact hu m (List.mem_of_getElem? h2)) q⟩
section
variable{X:Cx}{R:St→XK}{e:Expr}{t:DE}
theorem vm{st:Stmt}:JS X R st (fun _ _ _=>False):=fun _ _ _ _ _ _ ⟨_,_,_,_,_,_,_,h,_,_⟩=>h.elim
end
end L2
set_option maxRecDepth 100000
set_option maxHeartbeats 4000000
namespace L2
open PySem PySem.Spec PyProof.Rows
def wk(C:Addr)(m:Str)(sp:Sp)(dvs:List V)(R:St→XK)(ta:TE)(t:TA):TE:=fun σ H Q=>ta σ H fun x H1=>∃a dx fs,x= .ref a∧H1 a=some (.ins C dx fs)∧fs.lookup m=none∧
 t σ H1 fun vs H2=>sp (x::(vs++dvs)) H2 Q (R σ)
def zo(C:Addr)(sp:Sp)(dvs:List V)(R:St→XK)(t:TA):TE:=fun σ H Q=>t σ H fun vs H1=>∀x dx,H1 x=none→H1 dx=none→dx≠x→
 sp (.ref x::(vs++dvs)) (upd (upd H1 dx (.own x)) x (.ins C dx [])) (fun v H2=>v= .non∧Q (.ref x) H2) (R σ)
section
variable{X:Cx}{CX:CXT}{k:Nat}{f C:Addr}{fd:FuncData}{ps:List Str}{sp:Sp}{dvs:List V}{ds:List Value}{R:St→XK}{x m:Str}{p pos apos:Pos}{e o:Expr}{es:List Expr}{ta:TE}{t:TA}
theorem uW{pl:Sem Bool}(he:PE X o ta)(c:Cls X.K C)(hm:BJ X.K C m f)(F:bC X.prog X.w X.K X.mg X.base CX k f fd ps sp)(hr:cT k X.A)(hb:fX X.K fd ps ds)(hd:bz dvs ds)(hx:cq CX X R)(ha:PA X (e::es) t)
  (hst:starEach (e::es) X.env=(false,eval e X.env)::starEach es X.env:=by rfl) (hpl:(backTo pos (starEach es X.env)).any (·.1)=false:=by rfl)
  (ht:eval (.Call (.Attribute o m apos) (e::es) [] pos) X.env=(do
   let ov←eval o X.env
   standAt apos.atName
   let (f,first)←holding [ov] (getMethod ov m pl)
   callWith pos f first (backTo pos (starEach (e::es) X.env)) (backToKw pos (keywordEach [] X.env))):=by rfl):
  PE X (.Call (.Attribute o m apos) (e::es) [] pos) (wk C m sp dvs R ta t):=by
 intro pins s σ H Q I h
 refine PySem.W.methodCall_KW (pl:=pl) (thn (he pins s σ H _ I h) fun u s1 ⟨x,H1,I1,rx,a,dx,fs,ex,ea,l,q⟩=> ?_) ht
 subst ex
 obtain rfl:u=Value.ref a:=rx
 refine jz I1 ea c hm l ?_
 refine PySem.W.callWith_K (first:=[.ref a]) (h₀:=X.base) I.ok.mod.kin hm.kp (thn (ha pos pins s1 σ H1 _ I1 q) fun us s2 ⟨vs,H2,I2,r,q2⟩=>⟨I2.kIn, ?_⟩) hst hpl
 exact mW (us:= .ref a::us) (vs:= .ref a::vs) F hr hb hd hx I2 (.cons rfl r) q2
theorem rK{pl:Sem Bool}(he:PE X o ta)(c:Cls X.K C)(hm:BJ X.K C m f)(F:bC X.prog X.w X.K X.mg X.base CX k f fd ps sp)(hr:cT k X.A)(hb:fX X.K fd ps ds)(hd:bz dvs ds)(hx:cq CX X R)
  (ht:eval (.Call (.Attribute o m apos) [] [] pos) X.env=(do
   let ov←eval o X.env
   standAt apos.atName
   let (f,first)←holding [ov] (getMethod ov m pl)
   callWith pos f first (backTo pos (starEach [] X.env)) (backToKw pos (keywordEach [] X.env))):=by rfl):
  PE X (.Call (.Attribute o m apos) [] [] pos) (wk C m sp dvs R ta DU):=by
 intro pins s σ H Q I h
 refine PySem.W.methodCall_KW (pl:=pl) (thn (he pins s σ H _ I h) fun u s1 ⟨x,H1,I1,rx,a,dx,fs,ex,ea,l,q⟩=> ?_) ht
 subst ex
 obtain rfl:u=Value.ref a:=rx
 refine jz I1 ea c hm l ?_
 exact PySem.W.callWith_K0 (first:=[.ref a]) I1.kIn hm.kp (mW (us:=[.ref a]) (vs:=[.ref a]) F hr hb hd hx I1 (.cons rfl .nil) q)
theorem qU{pins:List (Addr×Obj)}{σ:St}{H:Hp}{s:Shared}{Q:VK}{us:List Value}{vs:List V}(M:Mk X.K C f)(F:bC X.prog X.w X.K X.mg X.base CX k f fd ps sp)(hr:cT (k+1) X.A)(hb:fX X.K fd ps ds)(hd:bz dvs ds)
  (hx:cq CX X R) (I:Inv X pins σ H s) (r:bz vs us)
  (h:∀x dx,H x=none→H dx=none→dx≠x→sp (.ref x::(vs++dvs)) (upd (upd H dx (.own x)) x (.ins C dx [])) (fun v H2=>v= .non∧Q (.ref x) H2) (R σ)):
  wpAny (model X.prog X.w) X.A (call (.ref C) us) (EP X pins σ Q) X.xe s:=by
 have hq:=h (s.heap.objs.size+1) s.heap.objs.size (I.hok.fresh (Nat.le_succ _)) (I.hok.fresh (Nat.le_refl _)) (Nat.ne_of_lt (Nat.lt_succ_self _))
 have I2:=Inv.made (C:=C) I
 have r2:bz (V.ref (s.heap.objs.size+1)::(vs++dvs)) (Value.ref (s.heap.objs.size+1)::(us++ds)):= .cons rfl (r.append hd)
 have hl:(Value.ref (s.heap.objs.size+1)::us++ds).length=ps.length:=by
  have e:=r2.length
  rw [F.len _ _ _ _ hq] at e
  exact e.symm
 refine wpAny_call (vh (f:=f) I.kIn M.makes M.init (beq_iff_eq.mp M.fn) (codeAny_mono (F.run _ X.stack _ _ ⟨Value.ref (s.heap.objs.size+1)::us,[]⟩ (Value.ref (s.heap.objs.size+1)::(us++ds)) _ _ (R σ) (hr.make C us [])
  (I2.env0.make C us []) (hb _ (Value.ref (s.heap.objs.size+1)::us) I2.kIn hl) r2 hq) fun r s' hq'=> ?_))
 cases r with
 | error e=>exact hx pins σ _ _ e s' I2 hq'
 | ok fl=>
  cases fl with
  | ret u=>
   obtain ⟨v,H',I3,rv,ev,q3⟩:=I2.after hq'
   subst ev
   exact ⟨rv,⟨V.ref (s.heap.objs.size+1),H',I3,rfl,q3⟩⟩
  | next=>exact False.elim hq'
  | brk=>exact False.elim hq'
  | cont=>exact False.elim hq'
theorem uX(M:Mk X.K C f)(F:bC X.prog X.w X.K X.mg X.base CX k f fd ps sp)(hr:cT (k+1) X.A)(hg:Gl X x)(hm:X.mg x=some (.ref C))(hb:fX X.K fd ps ds)(hd:bz dvs ds)(hx:cq CX X R)
  (ha:PA X (e::es) t) (hdb:(x==("__debug__":Str))=false:=by decide) (he:starEach (e::es) X.env=(false,eval e X.env)::starEach es X.env:=by rfl) (hpl:(backTo pos (starEach es X.env)).any (·.1)=false:=by rfl):
  PE X (.Call (.Name x p) (e::es) [] pos) (zo C sp dvs R t):=by
 intro pins s σ H Q I h
 refine wpAny_Call_Name_kw (fE I hg hm ?_ hdb)
 refine PySem.W.callWith_K (h₀:=X.base) I.ok.mod.kin M.kp (thn (ha pos pins s σ H _ I h) fun us s1 ⟨vs,H1,I1,r,q⟩=>⟨I1.kIn, ?_⟩) he hpl
 exact qU M F hr hb hd hx I1 r q
end
def DJ(C:Addr)(M:Ms)(d:Dt)(ns:List Str)(ds:List Dt):Prop:=d= .obj C ns ds∨∃k,d= .loc k∧M[k]? =some (.ins C ns ds)
section
variable{K:PySem.W.Frag}{G:Hp}{L:List Addr}{M:Ms}{H:Hp}{C:Addr}{d:Dt}{v:V}{ns:List Str}{ds:List Dt}
theorem x9(r:Rl K G L M H)(n:Den K G L d v)(o:DJ C M d ns ds):∃a dx vs,v= .ref a∧H a=some (.ins C dx (ns.zip vs))∧ns.length=ds.length∧aJ K G L ds vs:=by
 rcases o with rfl | ⟨k,rfl,hm⟩
 ·obtain ⟨a,dx,vs,e,h1,hl,h2⟩:=n
  exact ⟨a,dx,vs,e,r.sub _ _ h1,hl,h2⟩
 ·obtain ⟨a,e,h1⟩:=n
  obtain ⟨_,dx,vs,h2,hl,h3⟩:=r.ats k a _ h1 hm
  exact ⟨a,dx,vs,e,h2,hl,h3⟩
theorem jG{f:Str}:∀{ns:List Str} {ds:List Dt} {vs:List V} {d:Dt},aJ K G L ds vs→(ns.zip ds).lookup f=some d→∃v,(ns.zip vs).lookup f=some v∧Den K G L d v
 | [],_,_,_,_,h=>by simp at h
 | _::_,[],_,_,_,h=>by simp at h
 | g::ns,d::ds,_,d',⟨v,r,rfl,h1,h2⟩,h=>by
  rw [List.zip_cons_cons,List.lookup_cons] at h
  rw [List.zip_cons_cons,List.lookup_cons]
  cases q:f==g with
  | true=>rw [q] at h;cases h;exact ⟨v,rfl,h1⟩
  | false=>rw [q] at h;exact jG h2 h
theorem jH{f:Str}:∀{ns:List Str} {ds:List Dt} {vs:List V},aJ K G L ds vs→(ns.zip ds).lookup f=none→(ns.zip vs).lookup f=none
 | [],_,_,_,_=>by simp
 | _::_,[],_,h,_=>by
  have h:_=_:=h
  subst h;simp
 | g::ns,d::ds,_,⟨v,r,rfl,h1,h2⟩,h=>by
  rw [List.zip_cons_cons,List.lookup_cons] at h
  rw [List.zip_cons_cons,List.lookup_cons]
  cases q:f==g with
  | true=>rw [q] at h;cases h
  | false=>rw [q] at h;exact jH h2 h
theorem jU{f:Str}{v:V}:∀{ns:List Str} {vs:List V},ns.length=vs.length→f∉ns→iW f v (ns.zip vs)=(ns++[f]).zip (vs++[v])
 | [],[],_,_=>rfl
 | g::ns,x::vs,hl,h=>by
  have hg:¬g=f:=fun z=>h (by rw [z];exact List.mem_cons_self)
  show (if g=f then (g,v)::ns.zip vs else (g,x)::iW f v (ns.zip vs))=(g,x)::(ns++[f]).zip (vs++[v])
  rw [if_neg hg,jU (by simpa using hl) fun z=>h (List.mem_cons_of_mem _ z)]
 | [],_::_,hl,_=>by simp at hl
 | _::_,[],hl,_=>by simp at hl
end
def Fu(C:Addr)(f:Str)(t:DE):DE:=fun ρ M q x=>t ρ M (fun d M1=>∃ns ds v,DJ C M1 d ns ds∧(ns.zip ds).lookup f=some v∧q v M1) x
def Bj(C:Addr)(m:Str)(T:DF)(to:DE)(ta:DA):DE:=fun ρ M q x=>to ρ M (fun d M1=>(∃ns ds,DJ C M1 d ns ds∧(ns.zip ds).lookup m=none)∧ta ρ M1 (fun ds M2=>T (d::ds) M2 q (fun C fs M'=>x ρ C fs M')) x) x
def Dw(C:Addr)(T:DF)(ta:DA):DE:=fun ρ M q x=>ta ρ M (fun ds M1=>T (.loc M1.length::ds) (M1++[.ins C [] []]) (fun d M2=>d= .non∧q (.loc M1.length) M2) (fun C fs M'=>x ρ C fs M')) x
def zC(C:Addr)(f:Str)(to tv:DE):DS:=fun Dn ρ M=>tv ρ M (fun y M1=>to ρ M1 (fun d M2=>∃k ns ds,d= .loc k∧M2[k]? =some (.ins C ns ds)∧f∉ns∧ns.length < 1000∧Dn.nx ρ (M2.set k (.ins C (ns++[f]) (ds++[y])))) Dn.x) Dn.x
structure fM(P:Program)(w:World)(K:PySem.W.Frag)(mg:Str→Option Value)(base:Heap)(k:Nat)(C:Addr)(m:Str)(ps:List Str)(T:DF)(f:Addr)(fd:FuncData):Prop where
 ok:bC P w K mg base (CX1 P w) k f fd ps (spD K T)
 b:fX K fd ps []
 c:Cls K C
 m:BJ K C m f
structure DM(P:Program)(w:World)(K:PySem.W.Frag)(mg:Str→Option Value)(base:Heap)(k:Nat)(x:Str)(C:Addr)(ps:List Str)(T:DF)(f:Addr)(fd:FuncData):Prop where
 ok:bC P w K mg base (CX1 P w) k f fd ps (spD K T)
 b:fX K fd ps []
 k:Mk K C f
 m:mg x=some (.ref C)
section
variable{X:Cx}{R:St→XK}{C:Addr}{f m x:Str}{T:DF}{k k':Nat}{a:Addr}{fd:FuncData}{ps:List Str}{e o value:Expr}{es:List Expr}{pos pos' apos p:Pos}{to te tv:DE}{ta:DA}
theorem qi(c:Cls X.K C)(n:fj X.K C f)(he:JE X R e te)(hb:attributeBase e f X.env (eval e X.env)=eval e X.env:=by rfl):JE X R (.Attribute e f pos) (Fu C f te):=
 .of (zY he hb) fun σ H G L ρ M q x rl en h hx=>by
  refine ⟨G,L,ρ,M,_,x,rl,en,h,hx,fun v H1 ⟨d1,G1,L1,M1,e1,r1,n1,ns,ds,y,ob,hl,h1⟩=> ?_⟩
  obtain ⟨p,dx,vs,rfl,hp,_,dn⟩:=x9 r1 n1 ob
  obtain ⟨u,hu,du⟩:=jG dn hl
  exact ⟨p,C,dx,_,u,rfl,hp,c,n,hu,y,G1,L1,M1,e1,r1,du,h1⟩
theorem bY{pl:Sem Bool}(D:fM X.prog X.w X.K X.mg X.base k C m ps T a fd)(hr:cT k' X.A)(hx:cq (CX1 X.prog X.w) X R)(ho:JE X R o to)(ha:JA X R (e::es) ta)(hk:k≤k':=by decide)
  (hst:starEach (e::es) X.env=(false,eval e X.env)::starEach es X.env:=by rfl) (hpl:(backTo pos (starEach es X.env)).any (·.1)=false:=by rfl)
  (ht:eval (.Call (.Attribute o m apos) (e::es) [] pos) X.env=(do
   let ov←eval o X.env
   standAt apos.atName
   let (f,first)←holding [ov] (getMethod ov m pl)
   callWith pos f first (backTo pos (starEach (e::es) X.env)) (backToKw pos (keywordEach [] X.env))):=by rfl):
  JE X R (.Call (.Attribute o m apos) (e::es) [] pos) (Bj C m T to ta):=
 .of (uW (pl:=pl) ho D.c D.m D.ok (hr.mono hk) D.b .nil hx ha hst hpl ht) fun σ H G L ρ M q x rl en h hx=>by
  refine ⟨G,L,ρ,M,_,x,rl,en,h,hx,fun v H1 ⟨d1,G1,L1,M1,e1,r1,n1,⟨ns,ds,ob,hl⟩,h1⟩=> ?_⟩
  obtain ⟨p,dx,vs,rfl,hp,_,dn⟩:=x9 r1 n1 ob
  refine ⟨p,dx,_,rfl,hp,jH dn hl,G1,L1,ρ,M1,_,x,r1,en.mono e1,h1,hx.on e1,fun us H2 ⟨ds2,G2,L2,M2,e2,r2,n2,h2⟩=> ?_⟩
  show spD X.K T (V.ref p::(us++[])) H2 _ _
  rw [List.append_nil]
  have e12:=e1.trans e2
  exact ⟨G2,L2,d1::ds2,M2,q,_,r2,⟨_,_,rfl,Den.mono e2.g e2.l _ _ n1,n2⟩,h2,fun v H' f=>Fin.back e12 f,fun C fs M' G' L' H' od hq e' r' y=>hx σ ρ C fs M' G' L' H' od hq (e12.trans e') r' (en.mono (e12.trans e')) y⟩
theorem iD{pl:Sem Bool}(D:fM X.prog X.w X.K X.mg X.base k C m ps T a fd)(hr:cT k' X.A)(hx:cq (CX1 X.prog X.w) X R)(ho:JE X R o to)(hk:k≤k':=by decide)
  (ht:eval (.Call (.Attribute o m apos) [] [] pos) X.env=(do
   let ov←eval o X.env
   standAt apos.atName
   let (f,first)←holding [ov] (getMethod ov m pl)
   callWith pos f first (backTo pos (starEach [] X.env)) (backToKw pos (keywordEach [] X.env))):=by rfl):
  JE X R (.Call (.Attribute o m apos) [] [] pos) (Bj C m T to vY):=
 .of (rK (pl:=pl) ho D.c D.m D.ok (hr.mono hk) D.b .nil hx ht) fun σ H G L ρ M q x rl en h hx=>by
  refine ⟨G,L,ρ,M,_,x,rl,en,h,hx,fun v H1 ⟨d1,G1,L1,M1,e1,r1,n1,⟨ns,ds,ob,hl⟩,h1⟩=> ?_⟩
  obtain ⟨p,dx,vs,rfl,hp,_,dn⟩:=x9 r1 n1 ob
  refine ⟨p,dx,_,rfl,hp,jH dn hl, ?_⟩
  show spD X.K T (V.ref p::([]++[])) H1 _ _
  exact ⟨G1,L1,[d1],M1,q,_,r1,⟨_,_,rfl,n1,rfl⟩,h1,fun v H' f=>Fin.back e1 f,fun C fs M' G' L' H' od hq e' r' y=>hx σ ρ C fs M' G' L' H' od hq (e1.trans e') r' (en.mono (e1.trans e')) y⟩
theorem AQ(D:DM X.prog X.w X.K X.mg X.base k x C ps T a fd)(hr:cT k' X.A)(hx:cq (CX1 X.prog X.w) X R)(ha:JA X R (e::es) ta)(hk:k+1≤k':=by decide)(hg:Gl X x:=by rfl)(hdb:(x==("__debug__":Str))=false:=by decide)
  (he:starEach (e::es) X.env=(false,eval e X.env)::starEach es X.env:=by rfl) (hpl:(backTo pos (starEach es X.env)).any (·.1)=false:=by rfl):JE X R (.Call (.Name x p) (e::es) [] pos) (Dw C T ta):=
 .of (uX D.k D.ok (hr.mono hk) hg D.m D.b .nil hx ha hdb he hpl) fun σ H G L ρ M q x rl en h hx=>by
  refine ⟨G,L,ρ,M,_,x,rl,en,h,hx,fun vs H1 ⟨ds,G1,L1,M1,e1,r1,n1,h1⟩ y dx hy hdx hne=> ?_⟩
  show spD X.K T (V.ref y::(vs++[])) _ _ _
  rw [List.append_nil]
  have ra:=r1.newG (o:= .own y) hdx
  have ea:=r1.exG (o:= .own y) hdx
  have hy2:upd H1 dx (HO.own y) y=none:=by rw [ai (Ne.symm hne)];exact hy
  have rb:=ra.newM (p:=y) (o:= .ins C dx []) (m:= .ins C [] []) hy2 ⟨dx,[],ao,rfl,rfl⟩
  have eb:=ra.exM (p:=y) (o:= .ins C dx []) hy2
  have e2:=ea.trans eb
  have e12:=e1.trans e2
  refine ⟨_,_, .loc M1.length::ds,_,_,_,rb,⟨_,_,rfl,⟨y,rfl, ?_⟩,aJ.mono e2.g e2.l _ _ n1⟩,h1,fun v H' ⟨d,G',L',M',e',r',dn,hd,hq⟩=> ?_,fun C fs M' G' L' H' od hq e' r' z=>hx σ ρ C fs M' G' L' H' od hq (e12.trans e') r' (en.mono (e12.trans e')) z⟩
  ·rw [←r1.len,List.getElem?_append_right (Nat.le_refl _)];simp
  ·subst hd
   refine ⟨dn, .loc M1.length,G',L',M',e12.trans e',r',⟨y,rfl,e'.l.get ?_⟩,hq⟩
   rw [←r1.len,List.getElem?_append_right (Nat.le_refl _)];simp
theorem sC(c:Cls X.K C)(n:fj X.K C f)(ho:JE X R o to)(hv:JE X R value tv)(hs:swapsWith value (some (.Attribute o f pos')) pos.line X.env=pure false:=by rfl):JS X R (.Assign [.Attribute o f pos'] value pos) (zC C f to tv):=
 .of (zQ ho hv hs) fun σ H G L ρ M Dn rl en h hx=>by
  refine ⟨G,L,ρ,M,_,_,rl,en,h,hx,fun y H1 ⟨dy,G1,L1,M1,e1,r1,n1,h1⟩=> ?_⟩
  refine ⟨G1,L1,ρ,M1,_,_,r1,en.mono e1,h1,hx.on e1,fun u H2 ⟨du,G2,L2,M2,e2,r2,n2,k,ns,ds,ed,hm,hf,hz,h2⟩=> ?_⟩
  subst ed
  obtain ⟨p,rfl,hp⟩:=n2
  obtain ⟨_,dx,vs,hH,hl,dn⟩:=r2.ats k p _ hp hm
  have hlv:ns.length=vs.length:=hl.trans dn.length
  refine ⟨p,C,dx,_,rfl,hH,c,n,by rw [List.length_zip,←hlv,Nat.min_self];exact hz, ?_⟩
  rw [jU hlv hf]
  exact ⟨ρ,G2,L2,_,(e1.trans e2).trans (r2.exS hp),r2.setM (m:= .ins C (ns++[f]) (ds++[dy])) hp ⟨dx,_,ao,by rw [List.length_append,List.length_append,hl];rfl,dn.app ⟨_,_,rfl,Den.mono e2.g e2.l _ _ n1,rfl⟩⟩,(en.mono (e1.trans e2)).mono (r2.exS (o:= .own p) hp),h2⟩
end
end L2
set_option maxRecDepth 100000
set_option maxHeartbeats 4000000
namespace L2
open PySem PySem.Spec PyProof.Rows
def vD:List Dt→Ms→DQ→Prop
 | [d],M,q=>match qA M d with
  | some xs=>q (.loc M.length) (M++[.lst xs])
  | none=>False
 | _,_,_=>False
section
variable{K:PySem.W.Frag}
theorem CJ:CaD K (fun xs H Q=>∃p ys,xs=[V.ref p]∧(SqL K H p ys∨SqT K H p ys)∧∀l,H l=none→Q (.ref l) (upd H l (.lst ys))) vD:=by
 intro G0 L0 H0 G L M H vs ds q e r n h
 unfold vD at h
 split at h
 ·rename_i d
  obtain ⟨v,rfl,n1⟩:=bB n
  split at h
  ·rename_i xs hs
   obtain ⟨a,us,rfl,hq,dn⟩:=jO r n1 hs
   exact ⟨a,us,rfl,hq,fun l hl=>nU e r hl dn h⟩
  ·exact h.elim
 ·exact h.elim
end
section
variable{X:Cx}{R:St→XK}{e o i value:Expr}{t:DA}{to ti tv:DE}{p pos apos cpos tpos:Pos}
theorem sI(hm:X.mg "list"=none)(ha:JA X R [e] t)(hg:Gl X "list":=by rfl)(he:starEach [e] X.env=(false,eval e X.env)::starEach [] X.env:=by rfl)(hpl:(backTo pos (starEach [] X.env)).any (·.1)=false:=by rfl):JE X R (.Call (.Name "list" p) [e] [] pos) (dFn vD t):=
 oX mn CJ hm qt ha hg (by decide) (by decide) he hpl
def Fv(to:DE)(t:DA):DE:=fun ρ M q x=>to ρ M (fun d M1=>(∃k xs,d= .loc k∧M1[k]? =some (.lst xs))∧t ρ M1 (fun ds M2=>∃k xs y,d= .loc k∧ds=[y]∧M2[k]? =some (.lst xs)∧xs.length < sizeLine∧q .non (M2.set k (.lst (xs++[y])))) x) x
theorem fb(ho:JE X R o to)(ha:JA X R [e] t)(hbase:attributeBase o "append" X.env (eval o X.env)=eval o X.env:=by rfl)
  (hfew:((backTo cpos (starEach [e] X.env)).all (fun x=> !x.1)&&(backToKw cpos (keywordEach [] X.env)).all (fun x=>x.1.isSome)
   &&decide (([e]:List Expr).length+([]:List Keyword).length+(if ([]:List Keyword).isEmpty then 0 else 1) < 30))=true:=by rfl)
  (hline:(apos.endLine==cpos.line)=true:=by rfl) (hs:starEach [e] X.env=(false,eval e X.env)::starEach [] X.env:=by rfl) (hplain:(backTo cpos (starEach [] X.env)).any (·.1)=false:=by rfl):
  JE X R (.Call (.Attribute o "append" apos) [e] [] cpos) (Fv to t):=
 .of (Cv PySem.F.plainAttrs_list PySem.F.slot_list_append PySem.F.type_list_append (r:=rg) iq ho ha hbase hfew hline hs hplain) fun σ H G L ρ M q x rl n h hx=>by
  refine ⟨G,L,ρ,M,_,x,rl,n,h,hx,fun v H1 ⟨d1,G1,L1,M1,e1,r1,n1,⟨k,xs,ed,hm⟩,h1⟩=> ?_⟩
  subst ed
  obtain ⟨a,rfl,hk⟩:=n1
  obtain ⟨_,vs,hH,_⟩:=r1.ats k a _ hk hm
  refine ⟨.inl ⟨rfl,vs, .of hH⟩,G1,L1,ρ,M1,_,x,r1,n.mono e1,h1,hx.on e1,fun us H2 ⟨ds,G2,L2,M2,e2,r2,n2,k',xs',y,ek,ed,hm2,hz,h2⟩=> ?_⟩
  cases ek
  subst ed
  obtain ⟨u,rfl,n3⟩:=bB n2
  have hk2:=e2.l.get hk
  obtain ⟨_,vs2,hH2,dn2⟩:=r2.ats k a _ hk2 hm2
  refine ⟨a,vs2,u,rfl,rfl,hH2,by rw [←dn2.length];exact hz, .non,G2,L2,_,(e1.trans e2).trans (r2.exS hk2),r2.setM (m:= .lst (xs'++[y])) hk2 ⟨_,ao,dn2.app ⟨_,_,rfl,n3,rfl⟩⟩,rfl,h2⟩
def qS(to ti tv:DE):DS:=fun Dn ρ M=>tv ρ M (fun y M1=>to ρ M1 (fun d M2=>ti ρ M2 (fun di M3=>∃k i xs j,d= .loc k∧di= .int i∧M3[k]? =some (.lst xs)∧ixN xs.length i=some j∧Dn.nx ρ (M3.set k (.lst (xs.set j y)))) Dn.x) Dn.x) Dn.x
theorem oW(ho:JE X R o to)(hi:JE X R i ti)(hv:JE X R value tv)(hs:swapsWithSole [.Subscript o i tpos] value pos.line X.env=pure false:=by rfl)(hw:swappedStores [.Subscript o i tpos] value X.env=pure none:=by rfl)
  (h1:(assignEach [.Subscript o i tpos] X.env).map (·.2)=[assign (.Subscript o i tpos) X.env]:=by rfl)
  (ha:∀v,assign (.Subscript o i tpos) X.env v=(do
   let ov←holding [v] (eval o X.env)
   let iv←holding [v,ov] (eval i X.env)
   standAt tpos
   holding [v,ov,iv] (setItem ov iv v)
   release [v,ov,iv] []):=by intro _;rfl):JS X R (.Assign [.Subscript o i tpos] value pos) (qS to ti tv):=
 .of (wy hv (zR (t:=zF) ho hi uN ha) hs hw h1) fun σ H G L ρ M Dn rl n h hx=>by
  refine ⟨G,L,ρ,M,_,_,rl,n,h,hx,fun v H1 ⟨dv,G1,L1,M1,e1,r1,n1,h1⟩=> ?_⟩
  refine ⟨G1,L1,ρ,M1,_,_,r1,n.mono e1,h1,hx.on e1,fun ov H2 ⟨d,G2,L2,M2,e2,r2,n2,h2⟩=> ?_⟩
  refine ⟨G2,L2,ρ,M2,_,_,r2,(n.mono e1).mono e2,h2,(hx.on e1).on e2,fun iv H3 ⟨di,G3,L3,M3,e3,r3,n3,k,i,xs,j,ed,ei,hm,hj,h3⟩=> ?_⟩
  subst ed ei
  obtain ⟨a,rfl,hk⟩:=n2
  have n3:iv= .int i:=n3
  subst n3
  have hk3:=e3.l.get hk
  obtain ⟨_,vs,hH,dn⟩:=r3.ats k a _ hk3 hm
  have e23:=e2.trans e3
  have dv3:=Den.mono e23.g e23.l _ _ n1
  refine ⟨a,vs,i,j,rfl,rfl,hH,by rw [←dn.length];exact hj,ρ,G3,L3,_,((e1.trans e2).trans e3).trans (r3.exS hk3),r3.setM (m:= .lst (xs.set j dv)) hk3 ⟨_,ao, .of (rB dv3 j dn.pair)⟩,(((n.mono e1).mono e2).mono e3).mono (r3.exS (o:= .own a) hk3),h3⟩
end
abbrev DK:=En→Ms→(List Dt→(Ms→Prop)→Ms→Prop)→DX→Prop
structure YlK(K:PySem.W.Frag)(J:It)(xs:List Dt)(ok:Ms→Prop)(G0:Hp)(L0:List Addr):Prop where
 go:∀(i:Nat) G L M H (d:Dt),fK G0 G→Pre L0 L→Rl K G L M H→ok M→xs[i]? =some d→J.go i H∧∀v H',J.yld i H v H'→∃G',Ex G L H G' L H'∧Rl K G' L M H'∧Den K G' L d v
 stop:∀(i:Nat) G L M H,fK G0 G→Pre L0 L→Rl K G L M H→ok M→xs.length≤i→J.stop i H
inductive FE(K:PySem.W.Frag)(G0:Hp)(L0:List Addr)(H0:Hp)(q:List Dt→(Ms→Prop)→Ms→Prop)(J:It)(H:Hp):Prop
 | mk (xs:List Dt) (ok:Ms→Prop) (G:Hp) (L:List Addr) (M:Ms) (e:Ex G0 L0 H0 G L H) (r:Rl K G L M H) (y:YlK K J xs ok G L) (h:q xs ok M)
inductive BA(K:PySem.W.Frag)(R:St→XK)(t:DK)(σ:St)(H:Hp)(Q:It→Hp→Prop):Prop
 | mk (G:Hp) (L:List Addr) (ρ:En) (M:Ms) (q:List Dt→(Ms→Prop)→Ms→Prop) (x:DX) (r:Rl K G L M H) (n:EnD K G L ρ σ) (h:t ρ M q x) (hx:XOk K G L H R x) (hQ:∀J H1,FE K G L H q J H1→Q J H1)
def JK(X:Cx)(R:St→XK)(tg iter:Expr)(t:DK):Prop:=PI X tg iter (BA X.K R t)
def kOf(t:DA):DK:=fun ρ M q x=>t ρ M (fun xs M1=>q xs (fun _=>True) M1) x
theorem CO{X:Cx}{R:St→XK}{tg iter:Expr}{t:DA}(h:JI X R tg iter t):JK X R tg iter (kOf t):=by
 intro pins s σ H Q I ⟨G,L,ρ,M,q,x,r,n,ht,hx,hQ⟩
 refine h pins s σ H Q I ⟨G,L,ρ,M,_,x,r,n,ht,hx,fun J H1 ⟨xs,G1,L1,M1,e1,r1,y,hq⟩=>hQ J H1 ⟨xs,_,G1,L1,M1,e1,r1,⟨fun i G L M H d g l r _ e=>y.go i G L M H d g l r e,fun i G L M H g l r _ e=>y.stop i G L M H g l r e⟩,hq⟩⟩
structure Src(K:PySem.W.Frag)(a:Addr)(xs:List Dt)(ok:Ms→Prop)(G0:Hp)(L0:List Addr):Prop where
 at_:∀G L M H,fK G0 G→Pre L0 L→Rl K G L M H→ok M→∃vs,SqL K H a vs∧aJ K G L xs vs
def mF(M:Ms):Dt→Option (List Dt×(Ms→Prop))
 | .lst xs=>some (xs,fun _=>True)
 | .scr ns=>some (ns.map .int,fun _=>True)
 | .loc k=>match M[k]? with
  | some (.lst xs)=>some (xs,fun M'=>M'[k]? =some (.lst xs))
  | _=>none
 | _=>none
theorem kL{K:PySem.W.Frag}{G:Hp}{L:List Addr}{M:Ms}{H:Hp}{d:Dt}{v:V}{xs:List Dt}{ok:Ms→Prop}(r:Rl K G L M H)(n:Den K G L d v)(h:mF M d=some (xs,ok)):∃a vs,v= .ref a∧SqL K H a vs∧Src K a xs ok G L∧ok M:=by
 cases d with
 | lst ds=>
  cases h
  obtain ⟨a,vs,rfl,e,m⟩:=n
  exact ⟨a,vs,rfl, .of (r.sub _ _ e),⟨fun G' L' M' H' g l r' _=>⟨vs, .of (r'.sub _ _ (g _ _ e)),aJ.mono g l _ _ m⟩⟩,trivial⟩
 | scr ns=>
  cases h
  obtain ⟨a,rfl,e⟩:=n
  exact ⟨a,_,rfl,r.sub.seq e,⟨fun G' L' M' H' g l r' _=>⟨_,r'.sub.seq (g.seq e),eM⟩⟩,trivial⟩
 | loc k=>
  obtain ⟨a,rfl,e⟩:=n
  have h:(match M[k]? with | some (.lst xs)=>some (xs,fun M':Ms=>M'[k]? =some (.lst xs)) | _=>none)=some (xs,ok):=h
  split at h
  ·rename_i ys hm
   cases h
   obtain ⟨_,vs,e1,m1⟩:=r.ats k a _ e hm
   refine ⟨a,vs,rfl, .of e1,⟨fun G' L' M' H' g l r' hk=> ?_⟩,hm⟩
   obtain ⟨_,vs2,e2,m2⟩:=r'.ats k a _ (l.get e) hk
   exact ⟨vs2, .of e2,m2⟩
  ·cases h
 | _=>cases h
theorem uD{K:PySem.W.Frag}{G:Hp}{L:List Addr}{a:Addr}{xs:List Dt}{ok:Ms→Prop}(s:Src K a xs ok G L):YlK K (Itl K a) xs ok G L where
 go:=fun i G1 L1 M1 H1 d g l r k e=>by
  obtain ⟨vs,hs,n⟩:=s.at_ G1 L1 M1 H1 g l r k
  obtain ⟨v,e1,n1⟩:=n.get e
  exact ⟨⟨vs,v,hs,e1⟩,fun v' H' ⟨eH,y⟩=>by
   subst eH
   have e2:=y vs hs
   rw [e1] at e2;cases e2
   exact ⟨G1, .refl _ _ _,r,n1⟩⟩
 stop:=fun i G1 L1 M1 H1 g l r k e=>by
  obtain ⟨vs,hs,n⟩:=s.at_ G1 L1 M1 H1 g l r k
  exact ⟨vs,hs,by rw [←n.length];exact e⟩
def qj(M:Ms):Dt→Option (List Dt×(Ms→Prop))
 | .loc k=>mF M (.loc k)
 | d=>(CY M d).map fun xs=>(xs,fun _=>True)
def iG(t:DE):DK:=fun ρ M q x=>t ρ M (fun d M1=>match qj M1 d with
 | some (xs,ok)=>q xs ok M1
 | none=>False) x
theorem ef{X:Cx}{R:St→XK}{tg e:Expr}{te:DE}(h:JE X R e te):JK X R tg e (iG te):=by
 intro pins s σ H Q I ⟨G,L,ρ,M,q,x,rl,n,ht,hx,hQ⟩
 refine thn (h pins s σ H (Fin X.K G L H _) I ⟨G,L,ρ,M,_,x,rl,n,ht,hx,fun _ _ f=>f⟩) fun u s1 ⟨v,H1,I1,rv,d,G1,L1,M1,e1,r1,n1,h1⟩=> ?_
 (try dsimp only at h1)
 cases hi:qj M1 d with
 | none=>rw [hi] at h1;exact h1.elim
 | some p=>
  obtain ⟨xs,ok⟩:=p
  rw [hi] at h1
  have fin:∀J,YlK X.K J xs ok G1 L1→Q J H1:=fun J y=>hQ J H1 ⟨xs,ok,G1,L1,M1,e1,r1,y,h1⟩
  have up:∀{J},ok=(fun _=>True)→Yl X.K J xs G1 L1→YlK X.K J xs ok G1 L1:=fun eo y=>by
   subst eo
   exact ⟨fun i G L M H d g l r _ e=>y.go i G L M H d g l r e,fun i G L M H g l r _ e=>y.stop i G L M H g l r e⟩
  cases d with
  | loc k=>
   obtain ⟨a,vs,rfl,hs,sr,_⟩:=kL r1 n1 hi
   cases rv
   exact nO I1 hs (fin _ (uD sr))
  | lst ds=>
   cases hi
   obtain ⟨a,vs,rfl,e,m⟩:=n1
   cases rv
   exact nO I1 (vs:=vs) (.of (r1.sub _ _ e)) (fin _ (up rfl (qD (fun G' g=> .of (g _ _ e)) m)))
  | scr ns=>
   cases hi
   obtain ⟨a,rfl,e⟩:=n1
   cases rv
   exact nO I1 (r1.sub.seq e) (fin _ (up rfl (qD (fun G' g=>g.seq e) eM)))
  | tup ds=>
   cases hi
   obtain ⟨a,vs,rfl,e,m⟩:=n1
   cases rv
   exact wV I1 (vs:=vs) (.of (r1.sub _ _ e)) (fin _ (up rfl (wg (fun G' g=> .of (g _ _ e)) m)))
  | kt ds=>
   cases hi
   obtain ⟨a,vs,rfl,e,m⟩:=n1
   cases rv
   exact wV I1 (r1.sub.sqT e) (fin _ (up rfl (wg (fun G' g=>g.sqT e) m)))
  | str z=>
   cases hi
   cases n1
   obtain ⟨t,rfl⟩:=rv
   exact AY I1 (fin _ (up rfl ze))
  | _=>cases hi
def uw(g:Dt→En→(En→Prop)→Prop)(tb:DS)(Dn:fW)(ok:Ms→Prop):List Dt→En→Ms→Prop
 | [],ρ,M=>ok M∧Dn.nx ρ M
 | x::xs,ρ,M=>ok M∧g x ρ fun ρ'=>tb {Dn with nx:=uw g tb Dn ok xs,ct:=uw g tb Dn ok xs,bk:=Dn.nx} ρ' M
def xA(ti:DK)(g:Dt→En→(En→Prop)→Prop)(tb:DS):DS:=fun Dn ρ M=>ti ρ M (fun xs ok M1=>uw g tb Dn ok xs ρ M1) Dn.x
section
variable{X:Cx}{R:St→XK}{tg iter:Expr}{body:List Stmt}{ti:DK}{gg:TG}{g:Dt→En→(En→Prop)→Prop}{tb:DS}{pos:Pos}
theorem eI(hi:JK X R tg iter ti)(hg:PG X tg gg)(gd:GD X.K gg g)(hb:JSs X R body tb)(hp:PassesOwn (model X.prog X.w) X.A X.env X.xe:=by first | exact PassesOwn.never | exact PassesOwn.leaving)(hc:X.calm=true:=by rfl)(hs:∀x,foldedSetIterable iter X.env x=pure x:=by intro _;rfl):
  JS X R (.For tg iter body [] pos) (xA ti g tb):= .of (wx hp hc hi hg hb hs) fun σ H G L ρ M Dn rl n h hx=>by
 refine ⟨G,L,ρ,M,_,_,rl,n,h,hx,fun J H1 ⟨xs,ok,G1,L1,M1,e1,r1,y,h1⟩=> ?_⟩
 refine ⟨fun i m σ' H'=>m+i=xs.length∧hI X.K G1 L1 H1 (fun ρ' M'=>uw g tb Dn ok (xs.drop i) ρ' M') σ' H',⟨xs.length,rfl,ρ,G1,L1,M1, .refl _ _ _,r1,n.mono e1,by rw [List.drop_zero];exact h1⟩, ?_⟩
 rintro i m σ' H' ⟨hm,ρ',G',L',M',e',r',n',h'⟩
 by_cases hi:i < xs.length
 ·right
  have hd:xs[i]? =some xs[i]:=List.getElem?_eq_getElem hi
  rw [List.drop_eq_getElem_cons hi] at h'
  obtain ⟨hok,h'⟩:=h'
  obtain ⟨go,yl⟩:=y.go i G' L' M' H' _ e'.g e'.l r' hok hd
  refine ⟨go,hI X.K G1 L1 H1 (fun ρ' M'=>uw g tb Dn ok (xs.drop (i+1)) ρ' M'),fun σ2 H2 f=>⟨m - 1,by omega,by omega,f⟩,fun v H2 hy=> ?_⟩
  obtain ⟨G2,e2,r2,n2⟩:=yl v H2 hy
  refine gd G2 L' M' H2 _ v ρ' σ' _ _ r2 n2 (n'.mono e2) h' fun ρ3 σ3 n3 h3=> ?_
  refine ⟨G2,L',ρ3,M',_,r2,n3,h3,hx.on (e1.trans (e'.trans e2)),⟨fun _ _ f=>hI.back (e'.trans e2) f,fun _ _ f=>Fin.back (e1.trans (e'.trans e2)) f,fun _ _ f=>hI.back (e1.trans (e'.trans e2)) f,fun _ _ f=>hI.back (e'.trans e2) f⟩⟩
 ·left
  rw [List.drop_eq_nil_of_le (by omega)] at h'
  exact ⟨y.stop i G' L' M' H' e'.g e'.l r' h'.1 (by omega),ρ',G',L',M',e1.trans e',r',n',h'.2⟩
end
def qp(te:DE)(cs:En)(ok:Ms→Prop):List Dt→List Dt→Ms→(List Dt→Ms→Prop)→Prop
 | [],acc,M,k=>ok M∧k acc M
 | x::xs,acc,M,k=>ok M∧te (some x::cs) M (fun d M1=>qp te cs ok xs (acc++[d]) M1 k) noX
def xi(ti:DK)(te:DE)(caps:List Nat):DE:=fun ρ M q x=>ti ρ M (fun xs ok M1=>xs.length≤sizeLine∧qp te (mm caps ρ) ok xs [] M1 (fun ys M2=>q (.lst ys) M2)) x
theorem pD{K:PySem.W.Frag}{J:It}{te:DE}{caps:List Nat}{ρ:En}{σ:St}{G1:Hp}{L1:List Addr}{M1:Ms}{H1:Hp}{xs:List Dt}{ok:Ms→Prop}{Dl:Addr}{Q:VK}{k:List Dt→Ms→Prop}(r1:Rl K G1 L1 M1 H1)(n:EnD K G1 L1 ρ σ)(y:YlK K J xs ok G1 L1)(hD:H1 Dl=none)(hz:xs.length≤sizeLine)
  (h:qp te (mm caps ρ) ok xs [] M1 k)
  (fin:∀G2 L2 M2 H2 ds vs,Ex G1 L1 H1 G2 L2 H2→Rl K G2 L2 M2 H2→G2 Dl=none→Dl∉L2→H2 Dl=some (.lst vs)→aJ K G2 L2 ds vs→k ds M2→Q (.ref Dl) H2):
  wc J (nJ K (fun _=>E0) te) (fY caps σ) Q H1 Dl:=by
 refine ⟨fun i m ys H2=>m+i=xs.length∧H2 Dl=some (.lst ys)∧∃acc G2 L2 M2,Ex G1 L1 H1 G2 L2 H2∧Rl K G2 L2 M2 H2∧G2 Dl=none∧Dl∉L2∧aJ K G2 L2 acc ys∧acc.length=i∧qp te (mm caps ρ) ok (xs.drop i) acc M2 k,⟨xs.length,rfl,ao,[],G1,L1,M1, ?_⟩, ?_⟩
 ·have gn:G1 Dl=none:=r1.sub.free hD
  refine ⟨⟨.refl _, .refl _,fun _ h _=>h,fun b u h1 _=>by rw [ai (fun z=>by rw [z,hD] at h1;cases h1)];exact h1,fun _ h=> .inl h,fun b h=>by rw [ai (fun z=>h (by rw [z];exact hD))];exact h⟩,⟨fun b u e=>by rw [ai (fun z=>by rw [z,gn] at e;cases e)];exact r1.sub b u e,r1.len,r1.nd,fun i a m h1 h2=> ?_⟩,gn,r1.memN hD,rfl,rfl,by rw [List.drop_zero];exact h⟩
  obtain ⟨q1,q2⟩:=r1.ats i a m h1 h2
  exact ⟨q1,q2.mono (.refl _) (.refl _) (ai fun z=>q2.there (by rw [z];exact hD))⟩
 ·rintro i m ys H2 ⟨hm,hacc,acc,G2,L2,M2,e2,r2,g2,l2,n2,la,h2⟩
  refine ⟨hacc, ?_⟩
  by_cases hi:i < xs.length
  ·right
   have hd:xs[i]? =some xs[i]:=List.getElem?_eq_getElem hi
   rw [List.drop_eq_getElem_cons hi] at h2
   obtain ⟨hok,h2⟩:=h2
   obtain ⟨go,yl⟩:=y.go i G2 L2 M2 H2 _ e2.g e2.l r2 hok hd
   refine ⟨go,fun v H3 hy=> ?_⟩
   obtain ⟨G3,e3,r3,n3⟩:=yl v H3 hy
   refine ⟨G3,L2,_,M2,_,noX,r3,xj ((n.mono e2).mono e3) caps n3,h2,hU,fun v4 H4 ⟨d4,G4,L4,M4,e4,r4,n4,h4⟩=> ?_⟩
   have h3:H3 Dl=some (.lst ys):=e3.out _ _ hacc l2
   have g3:G3 Dl=none:=e3.fr _ g2 (by rw [hacc];simp)
   have h4':H4 Dl=some (.lst ys):=e4.out _ _ h3 l2
   have g4:G4 Dl=none:=e4.fr _ g3 (by rw [h3];simp)
   have l4:Dl∉L4:=fun z=>(e4.new _ z).elim l2 fun q=>by rw [h3] at q;cases q
   have e24:=e3.trans e4
   have lenys:ys.length=i:=by rw [←n2.length];exact la
   have ne1:∀{b:Addr} {u:HO},H1 b=some u→b≠Dl:=fun e z=>by rw [z,hD] at e;cases e
   refine ⟨h4',by omega,m - 1,by omega,by omega,ao,acc++[d4],G4,L4,M4, ?_, ?_,g4,l4,(aJ.mono e24.g e24.l _ _ n2).app ⟨_,_,rfl,n4,rfl⟩,by rw [List.length_append,la];rfl,h4⟩
   ·have e14:=e2.trans e24
    exact ⟨e14.g,e14.l,e14.fr,fun b u h1 h2=>by rw [ai (ne1 h1)];exact e14.out b u h1 h2,e14.new,fun b h=>by
     by_cases hb:b=Dl
     ·rw [hb,ao];simp
     ·rw [ai hb];exact e14.dom b h⟩
   ·refine ⟨fun b u e=>by rw [ai (fun z=>by rw [z,g4] at e;cases e)];exact r4.sub b u e,r4.len,r4.nd,fun i a m h1 h2=> ?_⟩
    obtain ⟨q1,q2⟩:=r4.ats i a m h1 h2
    exact ⟨q1,q2.mono (.refl _) (.refl _) (ai fun z=>l4 (by rw [←z];exact List.mem_of_getElem? h1))⟩
  ·left
   rw [List.drop_eq_nil_of_le (by omega)] at h2
   exact ⟨y.stop i G2 L2 M2 H2 e2.g e2.l r2 h2.1 (by omega),fin G2 L2 M2 H2 acc ys e2 r2 g2 l2 hacc n2 h2.2⟩
section
variable{X:Cx}{R:St→XK}{elt iter:Expr}{x:Str}{px:Pos}{scope:Scope}{pos:Pos}{ti:DK}{te:DE}{ys:List Str}{caps:List Nat}
theorem gw(S:bZ X scope x ys caps)(hi:JK X R (.Name x px) iter ti)(he:∀C s H fp,JE (Cx.comp X (x::ys) scope C s H fp) (fun _=>E0) elt te)(hc:X.calm=true:=by rfl)(hs:∀x,foldedSetIterable iter X.env x=pure x:=by intro _;rfl):
  JE X R (.ListComp elt [⟨.Name x px,iter,[],0⟩] scope pos) (xi ti te caps):= .of (rL (wi:=BA X.K R ti) (te:=nJ X.K (fun _=>E0) te) S hc hi he hs) fun σ H G L ρ M q x rl n h hx=>by
 refine ⟨G,L,ρ,M,_,x,rl,n,h,hx,fun J H1 ⟨xs,ok,G1,L1,M1,e1,r1,y,hz,h1⟩ D hD=> ?_⟩
 exact pD r1 (n.mono e1) y hD hz h1 fun G2 L2 M2 H2 ds vs e2 r2 g2 l2 h2 n2 k=>Fin.back e1 (ik e2 r2 hD g2 l2 h2 n2 k)
theorem nL{i:Nat}{y:Str}{py spos:Pos}(hN:X.N.Nodup)(hiy:X.N[i]? =some y)(hy:Loc X.env.scope y)(S:bZ X scope x ys caps)(hi:JK X R (.Name x px) iter ti)(he:∀C s H fp,JE (Cx.comp X (x::ys) scope C s H fp) (fun _=>E0) elt te)(hc:X.calm=true:=by rfl)
  (hsw:swapsWith (.ListComp elt [⟨.Name x px,iter,[],0⟩] scope pos) (some (.Name y py)) spos.line X.env=pure true:=by rfl) (hs:∀x,foldedSetIterable iter X.env x=pure x:=by intro _;rfl)
  (hf:X.fn y=true∨X.env.scope.names.lookup y=some .local:=by first | exact .inl rfl | exact .inr rfl | assumption):
  JS X R (.Assign [.Name y py] (.ListComp elt [⟨.Name x px,iter,[],0⟩] scope pos) spos) (zA i (xi ti te caps)):= .of (js (wi:=BA X.K R ti) (te:=nJ X.K (fun _=>E0) te) hN hiy hy S hc hi he hsw hs hf) fun σ H G L ρ M Dn rl n h hx=>by
 refine ⟨G,L,ρ,M,_,_,rl,n,h,hx,fun J H1 ⟨xs,ok,G1,L1,M1,e1,r1,y,hz,h1⟩ D hD=> ?_⟩
 refine pD r1 (n.mono e1) y hD hz h1 fun G2 L2 M2 H2 ds vs e2 r2 g2 l2 h2 n2 k=> ?_
 obtain ⟨d,G3,L3,M3,e3,r3,n3,h3⟩:=ik (q:=fun d M=>Dn.nx (ρ.set i (some d)) M) e2 r2 hD g2 l2 h2 n2 k
 exact ⟨_,G3,L3,M3,e1.trans e3,r3,((n.mono e1).mono e3).set i n3,h3⟩
end
end L2
set_option maxRecDepth 100000
set_option maxHeartbeats 4000000
namespace L2
open PySem PySem.Spec PyProof.Rows
theorem hV:∀{ns:List Int} {us:List Value},bz (ns.map V.int) us→∃ts:List (Int×Tok),us=ts.map (fun p=>Value.int p.1 p.2)∧ts.map (·.1)=ns
 | [],_,h=>by cases h;exact ⟨[],rfl,rfl⟩
 | n::ns,_,h=>by
  cases h with
  | cons r t=>
   obtain ⟨tk,rfl⟩:=r
   obtain ⟨ts,rfl,rfl⟩:=hV t
   exact ⟨(n,tk)::ts,rfl,rfl⟩
def D0(K:PySem.W.Frag):List V→Hp→VK→Prop:=fun xs H Q=>∃(p:Addr) (ns:List Int),xs=[.ref p]∧SqL K H p (ns.map V.int)∧Q (.int ns.sum) H
theorem vQ{X:Cx}(hc:X.calm=true):dH X (.builtin "sum") (D0 X.K):=by
 intro pins s σ H xs us Q I r h
 obtain ⟨p,ns,rfl,hq,q⟩:=h
 obtain ⟨u,rfl,r1⟩:=kH r
 cases r1
 obtain ⟨its,rv,pl,hz⟩:=I.list hq
 obtain ⟨ts,rfl,rfl⟩:=hV rv
 have e:(ts.map fun p=>Value.int p.1 p.2).toArray=intItems ts.toArray:=by simp [intItems]
 have hl:=pl.isList
 rw [e] at hl
 refine sum_intListG (I.ok.hd hc) hl fun h' tk t' hk=> ?_
 refine ⟨.int (ts.map (·.1)).sum,H,I.kept hk,⟨t', ?_⟩,q⟩
 rw [preSum_eq,List.take_of_length_le (by simp)]
def C6:List Dt→Ms→DQ→Prop
 | [d],M,q=>∃ns:List Int,qA M d=some (ns.map .int)∧(∃xs ok,mF M d=some (xs,ok))∧q (.int ns.sum) M
 | _,_,_=>False
theorem gz{K:PySem.W.Frag}{G:Hp}{L:List Addr}:∀{ns:List Int} {vs:List V},aJ K G L (ns.map Dt.int) vs→vs=ns.map V.int
 | [],_,h=>h
 | _::_,_,⟨v,r,e,h1,h2⟩=>by
  have h1:v=_:=h1
  rw [e,h1,gz h2];rfl
theorem g6{M:Ms}{d:Dt}{xs:List Dt}{ok:Ms→Prop}(h:mF M d=some (xs,ok)):qA M d=some xs:=by
 cases d with
 | lst ds=>cases h;rfl
 | scr ns=>cases h;rfl
 | loc k=>
  have h:(match M[k]? with | some (.lst xs)=>some (xs,fun M':Ms=>M'[k]? =some (.lst xs)) | _=>none)=some (xs,ok):=h
  show (match M[k]? with | some (.lst xs)=>some xs | _=>none)=some xs
  split at h
  ·rename_i ys hm;cases h;rfl
  ·cases h
 | _=>cases h
theorem EV{K:PySem.W.Frag}:CaD K (D0 K) C6:=by
 intro G0 L0 H0 G L M H vs ds q e r n h
 unfold C6 at h
 split at h
 ·rename_i d
  obtain ⟨v,rfl,n1⟩:=bB n
  obtain ⟨ns,hs,⟨xs,ok,hl⟩,hq⟩:=h
  obtain ⟨a,us,rfl,sq,sr,hok⟩:=kL r n1 hl
  rw [g6 hl] at hs
  cases hs
  obtain ⟨ws,sq2,dn⟩:=sr.at_ G L M H (.refl _) (.refl _) r hok
  rw [gz dn] at sq2
  exact ⟨a,ns,rfl,sq2, .int ns.sum,G,L,M,e,r,rfl,hq⟩
 ·exact h.elim
theorem t8:bootBuiltins "sum"=some (.builtin "sum"):=by decide+kernel
theorem qu:bootBuiltins "enumerate"=some (.type "enumerate"):=by decide+kernel
section
variable{X:Cx}{R:St→XK}{e a b:Expr}{t:DA}{ta tb:DE}{p pos:Pos}
theorem AL(hm:X.mg "sum"=none)(ha:JA X R [e] t)(hc:X.calm=true:=by rfl)(hg:Gl X "sum":=by rfl)(he:starEach [e] X.env=(false,eval e X.env)::starEach [] X.env:=by rfl)(hpl:(backTo pos (starEach [] X.env)).any (·.1)=false:=by rfl):JE X R (.Call (.Name "sum" p) [e] [] pos) (dFn C6 t):=
 eK (vQ hc) EV hm t8 ha hg (by decide) (by decide) he hpl
def Eo:Dt→Dt→Ms→DQ→Prop:=fun d e M q=>∃u xs us,nR d=some u∧qA M e=some xs∧gH xs=some us∧q (.bl (inV u us)) M
theorem Fi{K:PySem.W.Frag}:OpD K (rIn K false) Eo:=by
 intro G0 L0 H0 G L M H v1 v2 d1 d2 q e r n1 n2 ⟨u,xs,us,h1,h2,h3,hq⟩
 obtain ⟨rfl,fu⟩:=fc h1 n1
 obtain ⟨a,vs,rfl,sq,dn⟩:=jO r n2 h2
 obtain ⟨rfl,fs⟩:=dF h3 dn
 exact ⟨a,vs,rfl,sq,fu,fs, .bl _,G,L,M,e,r,rfl,hq⟩
theorem wL(ja:JE X R a ta)(jb:JE X R b tb)(hm:behindInMarks .In b=false:=by rfl):JT X R (.Compare a [.In] [b] pos) (jK (dOp Eo ta tb)):=dw rQ Fi ja jb hm
end
theorem Inv.turnedNew{X:Cx}{pins:List (Addr×Obj)}{σ:St}{H:Hp}{s:Shared}{h':Heap}{its:List Addr}{T:Addr}{o:HO}{t':Nat}(I:Inv X pins σ H s)(k:∀b u,b∉its→s.heap.get? b=some u→h'.get? b=some u)(f:∀b∈its,qy X pins H b)(hT:s.heap.objs.size≤T)(new:ba X.prog X.w (upd H T o) h' T o):
  Inv X pins σ (upd H T o) {s with heap:=h',toks:=t'}:=by
 have hn:=I.hok.fresh hT
 have nin:∀b u,H b=some u→b∉its:=fun b u e z=>by rw [(f b z).1] at e;cases e
 refine I.call (ch:=its) (g':=s.gens) (d':=s.drawn) (t':=t') ⟨fun b u q _ _ hb=>k b u hb q,fun b u q _ _ hb=>⟨u.slots,k b u hb q⟩,fun b u q n _=> ?_,fun b u q hb=>⟨u,k b u hb q⟩,fun b xs q=> ?_,fun b u xs q=> ?_,fun b ps q=>⟨#[], ?_⟩⟩ (fun b u e=> ?_) I.bare fun b hb=> ?_
 ·rw [ai (Nat.ne_of_lt (Nat.lt_of_lt_of_le (Heap.lt_size q) hT))];exact n
 ·rw [ai (aH q hn)];exact q
 ·rw [ai (aH q hn)];exact q
 ·rw [ai (aH q hn),q];simp
 ·by_cases hb:b=T
  ·subst hb;rw [ao] at e;cases e;exact new
  ·rw [ai hb] at e
   refine (I.hok b u e).stay (fun c v hc q=>k c v ?_ q) (fun c q=>by rw [ai (aH q hn)];exact q) fun c xs q=>by rw [ai (aH q hn)];exact q
   rcases hc with z | z
   ·rw [z];exact nin b u e
   ·exact nin c _ z
 ·obtain ⟨f0,f1,f2,f3,f4,f5⟩:=f b hb
  exact ⟨f3,f1,f4,f5⟩
def Ite(K:PySem.W.Frag)(l:Addr):It:=
 ⟨fun i H=>∃xs x,SqL K H l xs∧xs[i]? =some x,fun i H v H'=>∃p x,H p=none∧v= .ref p∧H'=upd H p (.tup [.int i,x])∧∀xs,SqL K H l xs→xs[i]? =some x,fun i H=>∃xs,SqL K H l xs∧xs.length≤i⟩
theorem qK{P:Program}{w:World}{K:PySem.W.Frag}{elts:List Expr}{x1:Nat}{tp:Pos}(l it e:Addr)(hne:e≠it):ux P w K (.Tuple elts x1 tp) (Ite K l) [e,it] e (fun i h=>(∃old,IsEnum h e it i old)∧h.IsListIter it l i) where
 mem:=by simp
 obj:=fun i h st b hb=>by
  obtain ⟨⟨old,he⟩,hi⟩:=st
  rcases List.mem_cons.mp hb with rfl | hb
  ·exact ⟨_,he,fun v z=>by
    have z':Data.fields _=Data.cell v:=z
    cases z'⟩
  ·have e:b=it:=by simpa using hb
   subst e
   obtain ⟨o,e,c,d⟩:=hi
   exact ⟨o,e,fun v z=>by rw [d] at z;cases z⟩
 keep:=fun i h h' st k=>by
  obtain ⟨⟨old,he⟩,hi⟩:=st
  exact ⟨⟨old,k e (by simp) _ he⟩,hi.at fun o q=>k it (by simp) o q⟩
 item:=by
  intro X hP hw hK hc i pins s σ H E I hf st hg
  subst hP hw hK
  obtain ⟨⟨old,he⟩,hi⟩:=st
  obtain ⟨xs,x,hq,hx⟩:=hg
  obtain ⟨its,rv,p,hz⟩:=I.list hq
  obtain ⟨u,hu,ru⟩:=rv.get hx
  refine wpAny_pyNext_enum_item he hi p.isList (x:=u) (by simpa using hu) hne fun h' ho hi' hT hsz hk=> ?_
  refine ⟨_,rfl,wpAny_letOwnedTupleGo_enum (s:={s with heap:=h',toks:=s.toks+1}) ho fun h2 he2 sb=> ?_⟩
  have sb:Heap.SameBut e h' h2:=sb
  have elt:e < s.heap.objs.size:=Heap.lt_size he
  have ilt:it < s.heap.objs.size:=by obtain ⟨o,q,_⟩:=hi;exact Heap.lt_size q
  have neT:s.heap.objs.size≠e:=Nat.ne_of_gt elt
  have hT2:h2.get? s.heap.objs.size=some {cls:= .type "tuple",data:= .seq #[.int i s.toks,u]}:=(sb.2 _ neT).trans hT
  have I2:Inv X pins σ (upd H s.heap.objs.size (.tup [.int i,x])) {s with heap:=h2,toks:=s.toks+1}:=by
   refine I.turnedNew (its:=[e,it]) (fun b o hb q=> ?_) hf (Nat.le_refl _) ?_
   ·have h1:b≠e:=fun z=>hb (by simp [z])
    have h3:b≠it:=fun z=>hb (by simp [z])
    exact (sb.2 b h1).trans (hk b o h1 h3 q)
   ·refine ⟨by simp [sizeLine_eq],[.int i s.toks,u], .cons ⟨_,rfl⟩ (.cons ru .nil), ?_⟩
    exact ⟨_,hT2,rfl,0,rfl⟩
  have iter:h2.IsListIter it l (i+1):=hi'.at fun o q=>(sb.2 it (Ne.symm hne)).trans q
  refine ⟨.ref s.heap.objs.size,_,I2,rfl,⟨s.heap.objs.size,x,I.hok.fresh (Nat.le_refl _),rfl,rfl,fun ys hy=>by rw [I.list_inj hy hq];exact hx⟩,⟨⟨u,by simpa using he2⟩,iter⟩,fun b hb=> ?_⟩
  have nb:b≠s.heap.objs.size:=by
   rcases List.mem_cons.mp hb with rfl | hb
   ·exact Nat.ne_of_lt elt
   ·have:b=it:=by simpa using hb
    subst this;exact Nat.ne_of_lt ilt
  rw [ai nb];exact (hf b hb).1
 done:=by
  intro X hP hw hK hc i pins s σ H E I hf st hg
  subst hP hw hK
  obtain ⟨⟨old,he⟩,hi⟩:=st
  obtain ⟨xs,hq,hx⟩:=hg
  obtain ⟨its,rv,p,hz⟩:=I.list hq
  have hl:=rv.length
  obtain ⟨f0,f1,f2,f3,f4,f5⟩:=hf it (by simp)
  refine wpAny_pyNext_enum_end (I.ok.hd hc) he hi p.isList (by simp;omega) fun h' ext=>⟨rfl,I.turned (t':=s.toks) (fun b o hb q=>ext b o hb q) f0 f1 f3 f4 f5⟩
 self:=fun _ _ _ _ _ st h=>by
  obtain ⟨⟨old,he⟩,_⟩:=st
  exact wpAny_pyIter_enum he h
def iL:Nat→List Dt→List Dt
 | _,[]=>[]
 | n,x::xs=> .tup [.int n,x]::iL (n+1) xs
theorem gI:∀(n:Nat) (xs:List Dt),(iL n xs).length=xs.length
 | _,[]=>rfl
 | n,_::xs=>by unfold iL;rw [List.length_cons,List.length_cons,gI]
theorem l0:∀{n i:Nat} {xs:List Dt} {d:Dt},(iL n xs)[i]? =some d→∃x,xs[i]? =some x∧d= .tup [.int ((n+i:Nat):Int),x]
 | n,i,[],d,h=>by simp [iL] at h
 | n,0,x::xs,d,h=>by
  unfold iL at h
  simp at h
  exact ⟨x,rfl,by rw [←h];simp⟩
 | n,i+1,x::xs,d,h=>by
  unfold iL at h
  obtain ⟨y,h1,h2⟩:=l0 (n:=n+1) (i:=i) (xs:=xs) (d:=d) (by simpa using h)
  exact ⟨y,by simpa using h1,by rw [h2,show n+1+i=n+(i+1) by omega]⟩
theorem uE{K:PySem.W.Frag}{G:Hp}{L:List Addr}{a:Addr}{xs:List Dt}{ok:Ms→Prop}(s:Src K a xs ok G L):YlK K (Ite K a) (iL 0 xs) ok G L where
 go:=fun i G1 L1 M1 H1 d g l r k e=>by
  obtain ⟨vs,hs,n⟩:=s.at_ G1 L1 M1 H1 g l r k
  obtain ⟨y,ey,rfl⟩:=l0 e
  obtain ⟨v,e1,n1⟩:=n.get ey
  refine ⟨⟨vs,v,hs,e1⟩,fun v' H' ⟨p,x,hp,ev,eH,hx⟩=> ?_⟩
  subst ev eH
  have e2:=hx vs hs
  rw [e1] at e2;cases e2
  refine ⟨_,r.exG hp,r.newG hp,kq (ds:=[.int ((0+i:Nat):Int),y]) r hp ⟨_,_,rfl, ?_,_,_,rfl,n1,rfl⟩⟩
  show V.int i=V.int _
  rw [Nat.zero_add]
 stop:=fun i G1 L1 M1 H1 g l r k e=>by
  obtain ⟨vs,hs,n⟩:=s.at_ G1 L1 M1 H1 g l r k
  exact ⟨vs,hs,by rw [←n.length,←gI 0];exact e⟩
def C0(t:DA):DK:=fun ρ M q x=>t ρ M (fun ds M1=>∃d xs ok,ds=[d]∧mF M1 d=some (xs,ok)∧q (iL 0 xs) ok M1) x
theorem sF{X:Cx}{R:St→XK}{elts:List Expr}{x1:Nat}{tp:Pos}{a:Expr}{t:DA}{p pos:Pos}(hm:X.mg "enumerate"=none)(ha:JA X R [a] t)(hg:Gl X "enumerate":=by rfl)(hs:starEach [a] X.env=[(false,eval a X.env)]:=by rfl):JK X R (.Tuple elts x1 tp) (.Call (.Name "enumerate" p) [a] [] pos) (C0 t):=by
 intro pins s σ H Q I ⟨G,L,ρ,M,q,x,rl,n,ht,hx,hQ⟩
 refine Call_ (jx I hg hm qu (PyProof.Rows.callWith_type1 (thn (ha pos pins s σ H (BK X.K G L H _) I ⟨G,L,ρ,M,_,x,rl,n,ht,hx,fun _ _ f=>f⟩) fun us s1 ⟨vs,H1,I1,rv,ds,G1,L1,M1,e1,r1,n1,d,xs,ok,ed,hl,h1⟩=> ?_) hs rfl))
 subst ed
 obtain ⟨v,rfl,n2⟩:=bB n1
 obtain ⟨b,ws,rfl,sq,sr,_⟩:=kL r1 n2 hl
 obtain ⟨u,rfl,ru⟩:=bz.one rv
 cases ru
 obtain ⟨its,_,pl,_⟩:=I1.list sq
 refine call_enumerate_list pl.isList fun h' he hi hz hk=> ?_
 have I2:Inv X pins σ H1 {s1 with heap:=h'}:=I1.kept (t':=s1.toks) hk
 refine wpAny_pyIter_enum (s:={s1 with heap:=h'}) he ⟨s1.heap.objs.size+1,[s1.heap.objs.size+1,s1.heap.objs.size],_,_,H1,rfl,I2,qK b s1.heap.objs.size (s1.heap.objs.size+1) (Nat.ne_of_gt (Nat.lt_succ_self _)),⟨⟨_,he⟩,hi⟩,fun c hc=> ?_,hQ _ _ ⟨_,ok,G1,L1,M1,e1,r1,uE sr,h1⟩⟩
 have hc:s1.heap.objs.size≤c:=by
  rcases List.mem_cons.mp hc with rfl | hc
  ·exact Nat.le_succ _
  ·have:c=s1.heap.objs.size:=by simpa using hc
   rw [this];exact Nat.le_refl _
 have f:=I1.fpOk (H':=H1) hc (I1.hok.fresh hc)
 exact f
end L2
set_option maxRecDepth 100000
set_option maxHeartbeats 4000000
namespace L2
open PySem PySem.Spec PyProof.Rows
def Ar(M:Ms):Dt→Option Value
 | .loc k=>match M[k]? with
  | some (.lst _)=>some (.type "list")
  | _=>none
 | d=>As d
def yB(K:PySem.W.Frag):List Dt→Ms→DQ→Prop:=fun ds M q=>∃d c t t' b,ds=[d,c]∧Ar M d=some t∧Dy c=some t'∧PySem.W.kitOne K t t'=some b∧q (.bl b) M
section
variable{K:PySem.W.Frag}
theorem pJ{G:Hp}{L:List Addr}{M:Ms}{H:Hp}{d:Dt}{v:V}{t:Value}(r:Rl K G L M H)(n:Den K G L d v)(h:Ar M d=some t):kE K H v t:=by
 by_cases hd:∃k,d= .loc k
 ·obtain ⟨k,rfl⟩:=hd
  obtain ⟨a,rfl,e⟩:=n
  have h:(match M[k]? with | some (.lst _)=>some (Value.type "list") | _=>none)=some t:=h
  split at h
  ·rename_i xs hm
   cases h
   obtain ⟨_,vs,e1,_⟩:=r.ats k a _ e hm
   exact .lst e1
  ·cases h
 ·refine qG r n ?_
  cases d with
  | loc k=>exact absurd ⟨k,rfl⟩ hd
  | _=>exact h
theorem AZ:CaD K (fun xs H Q=>∃x c t t' b,xs=[x,c]∧kE K H x t∧yM c=some t'∧PySem.W.kitOne K t t'=some b∧Q (.bl b) H) (yB K):=by
 intro G0 L0 H0 G L M H vs ds q e r n ⟨d,c,t,t',b,ed,h1,h2,hb,h⟩
 subst ed
 obtain ⟨v,u,rfl,n1,n2⟩:=fe n
 exact ⟨v,u,t,t',b,rfl,pJ r n1 h1,tW n2 h2,hb,bF e r h⟩
end
section
variable{X:Cx}{R:St→XK}{e e2:Expr}{t:DA}{p pos:Pos}
theorem AS(K:PySem.W.Frag)(hm:X.mg "isinstance"=none)(ha:JA X R [e,e2] t)(he:starEach [e,e2] X.env=(false,eval e X.env)::starEach [e2] X.env:=by rfl)(hpl:(backTo pos (starEach [e2] X.env)).any (·.1)=false:=by rfl)(hg:Gl X "isinstance":=by rfl)(hK:X.K=K:=by rfl):JE X R (.Call (.Name "isinstance" p) [e,e2] [] pos) (dFn (yB K) t):=by
 subst hK
 exact eK iP AZ hm ez ha hg (by decide) (by decide) he hpl
theorem kK:∀{zs:List Str} {us:List Value},Paired (fun (z:Str) (u:Value)=>∃tk,u= .str z tk) zs us→bz (zs.map V.str) us
 | _,_, .nil=> .nil
 | _,_, .cons h t=> .cons h (kK t)
theorem AU{x:Str}{zs:List Str}(hm:∃a o its n,X.mg x=some (.ref a)∧X.K.lookup a=some o∧o.cls= .type "tuple"∧o.data= .seq its n∧its.size≤sizeLine∧Paired (fun (z:Str) (u:Value)=>∃tk,u= .str z tk) zs its.toList)(hg:Gl X x:=by rfl)(hd:(x==("__debug__":Str))=false:=by decide):JE X R (.Name x pos) (dC (.kt (zs.map .str))):=by
 obtain ⟨a,o,its,n,h1,h2,h3,h4,h5,h6⟩:=hm
 exact j_c (v:= .ref a) (ni hg h1 rfl hd) fun G L=>⟨a,zs.map V.str,rfl, .inr ⟨o,its,n,h2,h3,h4,h5,kK h6⟩,me⟩
end
theorem cQ{te:DE}{cs:En}{ok:Ms→Prop}{f:Dt→Dt}:∀{xs acc:List Dt} {M:Ms} {k:List Dt→Ms→Prop},ok M→(∀x∈xs,∀q:DQ,q (f x) M→te (some x::cs) M q noX)→k (acc++xs.map f) M→qp te cs ok xs acc M k
 | [],acc,M,k,ho,_,h=>⟨ho,by simpa using h⟩
 | x::xs,acc,M,k,ho,hf,h=>⟨ho,hf x List.mem_cons_self _ (cQ ho (fun y hy=>hf y (List.mem_cons_of_mem _ hy)) (by simpa using h))⟩
theorem dW{g:Dt→En→(En→Prop)→Prop}{tb:DS}{Dn:fW}{ok:Ms→Prop}(J:List Dt→En→Ms→Prop)(hok:∀xs ρ M,J xs ρ M→ok M)
  (step:∀x xs ρ M,J (x::xs) ρ M→(∀ρ M,J xs ρ M→uw g tb Dn ok xs ρ M)→g x ρ fun ρ'=>tb {Dn with nx:=uw g tb Dn ok xs,ct:=uw g tb Dn ok xs,bk:=Dn.nx} ρ' M)
  (fin:∀ρ M,J [] ρ M→Dn.nx ρ M):∀(xs:List Dt) (ρ:En) (M:Ms),J xs ρ M→uw g tb Dn ok xs ρ M
 | [],ρ,M,h=>⟨hok _ _ _ h,fin _ _ h⟩
 | x::xs,ρ,M,h=>⟨hok _ _ _ h,step x xs ρ M h fun ρ' M' h'=>dW J hok step fin xs ρ' M' h'⟩
end L2
set_option maxRecDepth 100000
set_option maxHeartbeats 4000000
namespace L2
open PySem PySem.Spec PyProof.Rows
section
variable{K:PySem.W.Frag}{G:Hp}{L:List Addr}
mutual
theorem Bf:∀(d:Dt) (v:V),Den K G L d v→d.under L.length
 | .non,_,_=>trivial
 | .bl _,_,_=>trivial
 | .int _,_,_=>trivial
 | .str _,_,_=>trivial
 | .tup ds,_,⟨a,vs,e,h1,h2⟩=>cZ ds vs h2
 | .lst ds,_,⟨a,vs,e,h1,h2⟩=>cZ ds vs h2
 | .obj C ns ds,_,⟨a,dx,vs,e,h1,hl,h2⟩=>cZ ds vs h2
 | .loc k,_,⟨a,e,h1⟩=>(List.getElem?_eq_some_iff.mp h1).1
 | .ref _,_,_=>trivial
 | .ty _,_,_=>trivial
 | .scr _,_,_=>trivial
 | .kt ds,_,⟨a,vs,e,h1,h2⟩=>cZ ds vs h2
 | .exc _ _ ds,_,⟨a,od,vs,e,h1,h2,h3,h4⟩=>cZ ds vs h4
 | .exn _ _ _ _ ds,_,⟨vs,e,h2,h3,h4⟩=>cZ ds vs h4
theorem cZ:∀(ds:List Dt) (vs:List V),aJ K G L ds vs→Dt.underL L.length ds
 | [],_,_=>trivial
 | d::ds,_,⟨v,r,e,h1,h2⟩=>⟨Bf d v h1,cZ ds r h2⟩
end
theorem Rl.un{M:Ms}{H:Hp}(r:Rl K G L M H):∀m∈M,MO.under M.length m:=fun m hm=>by
 obtain ⟨k,hk,e⟩:=List.getElem_of_mem hm
 have em:M[k]? =some m:=by rw [List.getElem?_eq_getElem hk,e]
 have el:L[k]? =some (L[k]'(by rw [r.len];exact hk)):=List.getElem?_eq_getElem _
 obtain ⟨_,q⟩:=r.ats k _ m el em
 rw [←r.len]
 cases m with
 | lst ds=>obtain ⟨vs,_,h⟩:=q;exact cZ _ _ h
 | ins C ns ds=>obtain ⟨dx,vs,_,_,h⟩:=q;exact cZ _ _ h
 | dct ks ds=>obtain ⟨vs,_,_,h⟩:=q;exact cZ _ _ h
end
def frzU(M0:Ms)(q:DQ):DQ:=fun d M=>∃E d',M=M0++E∧Frz M0.length E d d'∧q d' M0
theorem Fin.frzU{K:PySem.W.Frag}{G0:Hp}{L0:List Addr}{M0:Ms}{H0:Hp}{q:DQ}{v:V}{H:Hp}(r0:Rl K G0 L0 M0 H0)(f:Fin K G0 L0 H0 (frzU M0 q) v H):Fin K G0 L0 H0 q v H:=by
 obtain ⟨d,G,L,M,ex,r,dn,E,d',e,fz,hq⟩:=f
 exact Fin.frz r0 ⟨d,G,L,M,ex,r,dn,M0,E,d',e,rfl,r0.un,fz,hq⟩
def dFz(t:DE):DE:=fun ρ M q x=>t ρ M (frzU M q) x
theorem gM{X:Cx}{R:St→XK}{e:Expr}{t:DE}(h:JE X R e t):JE X R e (dFz t):= .of h fun σ H G L ρ M q x rl n ht hx=>⟨G,L,ρ,M,_,x,rl,n,ht,hx,fun v H1 f=>Fin.frzU rl f⟩
theorem tj{M0:Ms}{q:DQ}{d:Dt}(hu:d.under M0.length)(h:q d M0):frzU M0 q d M0:=⟨[],d,by simp, .old hu,h⟩
theorem tm{M0 E:Ms}{q:DQ}{d d':Dt}(f:Frz M0.length E d d')(h:q d' M0):frzU M0 q d (M0++E):=⟨E,d',rfl,f,h⟩
end L2
set_option maxRecDepth 100000
set_option maxHeartbeats 4000000
namespace L2
open PySem PySem.Spec PyProof.Rows
def dZ(f:Expr→Option Dt):List Expr→Option (List Dt)
 | []=>some []
 | e::es=>match f e,dZ f es with
  | some d,some ds=>some (d::ds)
  | _,_=>none
def eN:Nat→Expr→Option Dt
 | 0,e=>match e with
  | .Constant (.int i) _ _=>some (.int i)
  | .Constant (.str x) _ _=>some (.str x)
  | _=>none
 | n+1,e=>match e with
  | .Constant (.int i) _ _=>some (.int i)
  | .Constant (.str x) _ _=>some (.str x)
  | .Tuple es _ _=>if es.length≤100 then (dZ (eN n) es).map .tup else none
  | .List es _=>if es.length≤100 then (dZ (eN n) es).map .lst else none
  | _=>none
theorem pO{n:Nat}{e:Expr}{d:Dt}{es:List Expr}{env:Env}(h:eN n e=some d):starEach (e::es) env=(false,eval e env)::starEach es env:=by
 cases n <;> (unfold eN at h;split at h <;> first | rfl | cases h)
theorem fJ{f:Expr→Option Dt}:∀{es:List Expr} {ds:List Dt},dZ f es=some ds→ds.length=es.length
 | [],ds,h=>by cases h;rfl
 | e::es,ds,h=>by
  unfold dZ at h
  split at h
  ·rename_i d ds' h1 h2
   cases h
   rw [List.length_cons,List.length_cons,fJ h2]
  ·cases h
section
variable{X:Cx}{R:St→XK}
theorem kf{n:Nat}(ih:∀(e:Expr) (d:Dt),eN n e=some d→JE X R e (dC d)):∀(es:List Expr) (ds:List Dt),dZ (eN n) es=some ds→JA X R es (fun _ M q _=>q ds M)
 | [],ds,h=>by cases h;exact af
 | e::es,ds,h=>by
  unfold dZ at h
  split at h
  ·rename_i d ds' h1 h2
   cases h
   exact aa (ih e d h1) (kf ih es ds' h2) (hs:=pO h1)
  ·cases h
theorem qO{n:Nat}(h:n≤100):n≤sizeLine:=Nat.le_trans h (by decide)
theorem JE.imp{e:Expr}{t t':DE}(h:JE X R e t)(hi:∀ρ M q x,t' ρ M q x→t ρ M q x):JE X R e t':= .of h fun σ H G L ρ M q x rl n ht hx=>⟨G,L,ρ,M,q,x,rl,n,hi _ _ _ _ ht,hx,fun _ _ f=>f⟩
theorem iE:∀(n:Nat) {e:Expr} {d:Dt},eN n e=some d→JE X R e (dC d)
 | 0,e,d,h=>by
  unfold eN at h
  split at h
  ·cases h;exact ay
  ·cases h;exact gG
  ·cases h
 | n +1,e,d,h=>by
  unfold eN at h
  split at h
  ·cases h;exact ay
  ·cases h;exact gG
  ·split at h
   ·rename_i es _ _ hl
    cases hc:dZ (eN n) es with
    | none=>rw [hc] at h;cases h
    | some ds=>
     rw [hc] at h
     cases h
     exact (ff (kf (fun e d=>iE n) es ds hc)).imp fun ρ M q x hq=>⟨qO (by rw [fJ hc];exact hl),hq⟩
   ·cases h
  ·split at h
   ·rename_i es _ hl
    cases hc:dZ (eN n) es with
    | none=>rw [hc] at h;cases h
    | some ds=>
     rw [hc] at h
     cases h
     exact (lP (kf (fun e d=>iE n) es ds hc)).imp fun ρ M q x hq=>⟨qO (by rw [fJ hc];exact hl),hq⟩
   ·cases h
  ·cases h
end
end L2
set_option maxRecDepth 100000
set_option maxHeartbeats 4000000
namespace L2
open PySem PySem.Spec PyProof.Rows
theorem t6:bootBuiltins "zip"=some (.type "zip"):=by decide+kernel
theorem Inv.turnedL{X:Cx}{pins:List (Addr×Obj)}{σ:St}{H:Hp}{s:Shared}{h':Heap}{its:List Addr}{t':Nat}(I:Inv X pins σ H s)(k:∀b u,b∉its→s.heap.get? b=some u→h'.get? b=some u)(f:∀b∈its,qy X pins H b):
  Inv X pins σ H {s with heap:=h',toks:=t'}:=by
 have nin:∀b u,H b=some u→b∉its:=fun b u e z=>by rw [(f b z).1] at e;cases e
 refine I.call (ch:=its) (g':=s.gens) (d':=s.drawn) (t':=t') ⟨fun b u q _ _ hb=>k b u hb q,fun b u q _ _ hb=>⟨u.slots,k b u hb q⟩,fun b u q n _=>n,fun b u q hb=>⟨u,k b u hb q⟩,fun b xs q=>q,fun b u xs q=>q,fun b ps q=>⟨#[],by rw [q];simp⟩⟩ (fun b u e=> ?_) I.bare fun b hb=> ?_
 ·refine (I.hok b u e).stay (fun c v hc q=>k c v ?_ q) (fun c q=>q) fun c xs q=>q
  rcases hc with z | z
  ·rw [z];exact nin b u e
  ·exact nin c _ z
 ·obtain ⟨f0,f1,f2,f3,f4,f5⟩:=f b hb
  exact ⟨f3,f1,f4,f5⟩
def Itz(K:PySem.W.Frag)(l1 l2:Addr):It:=
 ⟨fun i H=>∃xs ys x y,SqL K H l1 xs∧SqL K H l2 ys∧xs[i]? =some x∧ys[i]? =some y,
  fun i H v H'=>∃p x y,H p=none∧v= .ref p∧H'=upd H p (.tup [x,y])∧(∀xs,SqL K H l1 xs→xs[i]? =some x)∧∀ys,SqL K H l2 ys→ys[i]? =some y,
  fun i H=>∃xs ys,SqL K H l1 xs∧SqL K H l2 ys∧(xs.length≤i∨ys.length≤i)⟩
theorem uG {P : Program} {w : World} {K : PySem.W.Frag} {elts : List Expr} {x1 : Nat} {tp : Pos} {l1 l2 i1 i2 TI TO z : Addr} (D : ZipApart z TI TO i1 i2 l1 l2) : ux P w K (.Tuple elts x1 tp) (Itz K l1 l2) [z, TI, TO, i1, i2] z (fun i h => (∃ a b, IsZip h z TI TO .none ∧ IsPair h TI (.ref i1) (.ref i2) ∧ IsPair h TO a b) ∧ h.IsListIter i1 l1 i ∧ h.IsListIter i2 l2 i) where
  mem := by simp
  obj := fun i h st b hb => by
    obtain ⟨⟨a, c, hz, hTI, hTO⟩, h1, h2⟩ := st
    simp only [List.mem_cons, List.not_mem_nil, or_false] at hb
    rcases hb with rfl | rfl | rfl | rfl | rfl
    · exact ⟨_, hz, fun v z => by
        have z' : Data.fields _ = Data.cell v := z
        cases z'⟩
    · exact ⟨_, hTI, fun v z => by
        have z' : Data.seq _ = Data.cell v := z
        cases z'⟩
    · exact ⟨_, hTO, fun v z => by
        have z' : Data.seq _ = Data.cell v := z
        cases z'⟩
    · obtain ⟨o, e, c, d⟩ := h1
      exact ⟨o, e, fun v z => by rw [d] at z; cases z⟩
    · obtain ⟨o, e, c, d⟩ := h2
      exact ⟨o, e, fun v z => by rw [d] at z; cases z⟩
  keep := fun i h h' st k => by
    obtain ⟨⟨a, c, hz, hTI, hTO⟩, h1, h2⟩ := st
    exact ⟨⟨a, c, k z (by simp) _ hz, k TI (by simp) _ hTI, k TO (by simp) _ hTO⟩, h1.at fun o q => k i1 (by simp) o q, h2.at fun o q => k i2 (by simp) o q⟩
  item := by
    intro X hP hw hK hc i pins s σ H E I hf st hg
    subst hP hw hK
    obtain ⟨⟨a, c, hz, hTI, hTO⟩, h1, h2⟩ := st
    obtain ⟨xs, ys, x, y, hq1, hq2, hx, hy⟩ := hg
    obtain ⟨its1, rv1, p1, _⟩ := I.list hq1
    obtain ⟨u1, hu1, ru1⟩ := rv1.get hx
    obtain ⟨its2, rv2, p2, _⟩ := I.list hq2
    obtain ⟨u2, hu2, ru2⟩ := rv2.get hy
    refine wpAny_pyNext_zip_item D hz hTI hTO h1 h2 p1.isList p2.isList (x := u1) (y := u2) (by simpa using hu1) (by simpa using hu2) fun h' hz' hTO' h1' h2' hT hsz hk => ?_
    refine ⟨_, rfl, wpAny_letOwnedTupleGo_zip (s := { s with heap := h' }) hz' fun h3 hz3 sb => ?_⟩
    have sb : Heap.SameBut z h' h3 := sb
    have zlt : z < s.heap.objs.size := Heap.lt_size hz
    have neT : s.heap.objs.size ≠ z := Nat.ne_of_gt zlt
    have hT3 : h3.get? s.heap.objs.size = some { cls := .type "tuple", data := .seq #[u1, u2] } := (sb.2 _ neT).trans hT
    have lt : ∀ b ∈ [z, TI, TO, i1, i2], b < s.heap.objs.size := fun b hb => by
      simp only [List.mem_cons, List.not_mem_nil, or_false] at hb
      rcases hb with rfl | rfl | rfl | rfl | rfl
      · exact zlt
      · exact Heap.lt_size hTI
      · exact Heap.lt_size hTO
      · obtain ⟨o, q, _⟩ := h1; exact Heap.lt_size q
      · obtain ⟨o, q, _⟩ := h2; exact Heap.lt_size q
    have I2 : Inv X pins σ (upd H s.heap.objs.size (.tup [x, y])) { s with heap := h3, toks := s.toks } := by
      refine I.turnedNew (its := [z, TI, TO, i1, i2]) (fun b o hb q => ?_) hf (Nat.le_refl _) ?_
      · simp only [List.mem_cons, List.not_mem_nil, or_false, not_or] at hb
        obtain ⟨b1, b2, b3, b4, b5⟩ := hb
        exact (sb.2 b b1).trans (hk b o b1 b3 b4 b5 q)
      · refine ⟨by simp [sizeLine_eq], [u1, u2], .cons ru1 (.cons ru2 .nil), ?_⟩
        exact ⟨_, hT3, rfl, 0, rfl⟩
    refine ⟨.ref s.heap.objs.size, _, I2, rfl, ⟨s.heap.objs.size, x, y, I.hok.fresh (Nat.le_refl _), rfl, rfl, fun zs hzs => by rw [I.list_inj hzs hq1]; exact hx, fun zs hzs => by rw [I.list_inj hzs hq2]; exact hy⟩, ⟨⟨u1, u2, hz3, (sb.2 _ D.TIz).trans (hk _ _ D.TIz D.TITO D.TIi1 D.TIi2 hTI), (sb.2 _ D.TOz).trans hTO'⟩, h1'.at fun o q => (sb.2 i1 D.i1z).trans q, h2'.at fun o q => (sb.2 i2 D.i2z).trans q⟩, fun b hb => ?_⟩
    rw [ai (Nat.ne_of_lt (lt b hb))]; exact (hf b hb).1
  done := by
    intro X hP hw hK hc i pins s σ H E I hf st hg
    subst hP hw hK
    obtain ⟨⟨a, c, hz, hTI, hTO⟩, h1, h2⟩ := st
    obtain ⟨xs, ys, hq1, hq2, hx⟩ := hg
    obtain ⟨its1, rv1, p1, _⟩ := I.list hq1
    obtain ⟨its2, rv2, p2, _⟩ := I.list hq2
    have hl1 := rv1.length
    have hl2 := rv2.length
    refine wpAny_pyNext_zip_end (I.ok.hd hc) D hz hTI hTO h1 h2 p1.isList p2.isList (by rcases hx with hx | hx; · left; simp; omega
                                                                                        · right; simp; omega) fun h' ext => ⟨rfl, I.turnedL (t' := s.toks) (its := [z, TI, TO, i1, i2]) (fun b o hb q => ?_) hf⟩
    simp only [List.mem_cons, List.not_mem_nil, or_false, not_or] at hb
    obtain ⟨b1, b2, b3, b4, b5⟩ := hb
    exact ext b o b1 b3 b4 b5 q
  self := fun _ _ _ _ _ st h => by
    obtain ⟨⟨a, c, hz, _, _⟩, _⟩ := st
    exact wpAny_pyIter_zip hz h
def we(xs ys:List Dt):List Dt:=(xs.zip ys).map fun p=> .tup [p.1,p.2]
theorem uC{xs ys:List Dt}{i:Nat}{d:Dt}(h:(we xs ys)[i]? =some d):∃x y,xs[i]? =some x∧ys[i]? =some y∧d= .tup [x,y]:=by
 unfold we at h
 rw [List.getElem?_map] at h
 cases e:(xs.zip ys)[i]? with
 | none=>rw [e] at h;cases h
 | some p=>
  rw [e] at h
  cases h
  obtain ⟨h1,h2⟩:=List.getElem?_zip_eq_some.mp e
  exact ⟨p.1,p.2,h1,h2,rfl⟩
theorem mJ(xs ys:List Dt):(we xs ys).length=min xs.length ys.length:=by
 unfold we;rw [List.length_map,List.length_zip]
theorem xk{K:PySem.W.Frag}{G:Hp}{L:List Addr}{a b:Addr}{xs ys:List Dt}{ok ok':Ms→Prop}(s:Src K a xs ok G L)(s':Src K b ys ok' G L):YlK K (Itz K a b) (we xs ys) (fun M=>ok M∧ok' M) G L where
 go:=fun i G1 L1 M1 H1 d g l r k e=>by
  obtain ⟨vs,hs,n⟩:=s.at_ G1 L1 M1 H1 g l r k.1
  obtain ⟨vs',hs',n'⟩:=s'.at_ G1 L1 M1 H1 g l r k.2
  obtain ⟨x,y,ex,ey,rfl⟩:=uC e
  obtain ⟨v,e1,n1⟩:=n.get ex
  obtain ⟨v',e1',n1'⟩:=n'.get ey
  refine ⟨⟨vs,vs',v,v',hs,hs',e1,e1'⟩,fun w H' ⟨p,x2,y2,hp,ev,eH,hx,hy⟩=> ?_⟩
  subst ev eH
  have e2:=hx vs hs
  rw [e1] at e2;cases e2
  have e3:=hy vs' hs'
  rw [e1'] at e3;cases e3
  exact ⟨_,r.exG hp,r.newG hp,kq (ds:=[x,y]) r hp ⟨_,_,rfl,n1,_,_,rfl,n1',rfl⟩⟩
 stop:=fun i G1 L1 M1 H1 g l r k e=>by
  obtain ⟨vs,hs,n⟩:=s.at_ G1 L1 M1 H1 g l r k.1
  obtain ⟨vs',hs',n'⟩:=s'.at_ G1 L1 M1 H1 g l r k.2
  refine ⟨vs,vs',hs,hs', ?_⟩
  rw [←n.length,←n'.length]
  rw [mJ] at e
  omega
def Fj(t:DA):DK:=fun ρ M q x=>t ρ M (fun ds M1=>∃d d' xs ys ok ok',ds=[d,d']∧mF M1 d=some (xs,ok)∧mF M1 d'=some (ys,ok')∧q (we xs ys) (fun M=>ok M∧ok' M) M1) x
theorem AJ{X:Cx}{R:St→XK}{elts:List Expr}{x1:Nat}{tp:Pos}{a a':Expr}{t:DA}{p pos:Pos}(hm:X.mg "zip"=none)(ha:JA X R [a,a'] t)(hg:Gl X "zip":=by rfl)(hs:starEach [a,a'] X.env=(false,eval a X.env)::starEach [a'] X.env:=by rfl)(hpl:(backTo pos (starEach [a'] X.env)).any (·.1)=false:=by rfl):JK X R (.Tuple elts x1 tp) (.Call (.Name "zip" p) [a,a'] [] pos) (Fj t):=by
 intro pins s σ H Q I ⟨G,L,ρ,M,q,x,rl,n,ht,hx,hQ⟩
 refine Call_ (jx I hg hm t6 (PyProof.Rows.callWith_type1 (thn (ha pos pins s σ H (BK X.K G L H _) I ⟨G,L,ρ,M,_,x,rl,n,ht,hx,fun _ _ f=>f⟩) fun us s1 ⟨vs,H1,I1,rv,ds,G1,L1,M1,e1,r1,n1,d,d',xs,ys,ok,ok',ed,hl,hl',h1⟩=> ?_) hs hpl))
 subst ed
 obtain ⟨v,v',rfl,n2,n2'⟩:=fe n1
 obtain ⟨b,ws,rfl,sq,sr,_⟩:=kL r1 n2 hl
 obtain ⟨b',ws',rfl,sq',sr',_⟩:=kL r1 n2' hl'
 cases rv with
 | cons ru rv=>
  cases rv with
  | cons ru' rv=>
   cases rv
   cases ru
   cases ru'
   obtain ⟨its,_,pl,_⟩:=I1.list sq
   obtain ⟨its',_,pl',_⟩:=I1.list sq'
   have lt1:b < s1.heap.objs.size:=by obtain ⟨o,q,_⟩:=pl.isList;exact Heap.lt_size q
   have lt2:b' < s1.heap.objs.size:=by obtain ⟨o,q,_⟩:=pl'.isList;exact Heap.lt_size q
   refine call_zip_2 pl.isList pl'.isList fun h' hz hTI hTO hi hi' hsz hk=> ?_
   have I2:Inv X pins σ H1 {s1 with heap:=h'}:=I1.kept (t':=s1.toks) hk
   have D:ZipApart (s1.heap.objs.size+4) (s1.heap.objs.size+2) (s1.heap.objs.size+3) s1.heap.objs.size (s1.heap.objs.size+1) b b':=by
    have ne:∀i j:Nat,i≠j→s1.heap.objs.size+i≠s1.heap.objs.size+j:=fun i j h z=>h (Nat.add_left_cancel z)
    have n1:∀i:Nat,b≠s1.heap.objs.size+i:=fun i=>Nat.ne_of_lt (Nat.lt_of_lt_of_le lt1 (Nat.le_add_right _ _))
    have n2:∀i:Nat,b'≠s1.heap.objs.size+i:=fun i=>Nat.ne_of_lt (Nat.lt_of_lt_of_le lt2 (Nat.le_add_right _ _))
    exact ⟨ne 2 4 (by decide),ne 3 4 (by decide),ne 0 4 (by decide),ne 1 4 (by decide),ne 2 3 (by decide),ne 2 0 (by decide),ne 2 1 (by decide),ne 3 0 (by decide),ne 3 1 (by decide),ne 0 1 (by decide),n1 4,n1 3,n1 0,n1 1,n2 4,n2 3,n2 0,n2 1⟩
   refine wpAny_pyIter_zip (s:={s1 with heap:=h'}) hz ⟨s1.heap.objs.size+4,[s1.heap.objs.size+4,s1.heap.objs.size+2,s1.heap.objs.size+3,s1.heap.objs.size,s1.heap.objs.size+1],_,_,H1,rfl,I2,uG D,⟨⟨_,_,hz,hTI,hTO⟩,hi,hi'⟩,fun c hc=> ?_,hQ _ _ ⟨_,_,G1,L1,M1,e1,r1,xk sr sr',h1⟩⟩
   have hc:s1.heap.objs.size≤c:=by
    simp only [List.mem_cons,List.not_mem_nil,or_false] at hc
    rcases hc with rfl | rfl | rfl | rfl | rfl
    ·exact Nat.le_add_right _ _
    ·exact Nat.le_add_right _ _
    ·exact Nat.le_add_right _ _
    ·exact Nat.le_refl _
    ·exact Nat.le_add_right _ _
   have f:=I1.fpOk (H':=H1) hc (I1.hok.fresh hc)
   exact f
end L2
set_option maxRecDepth 100000
set_option maxHeartbeats 4000000
namespace L2
open PySem PySem.Spec PyProof.Rows
theorem iN(elt target iter c:Expr)(scope:Scope)(pos:Pos)(it acc:Value)(env:Env):
  compTurn (.ListComp elt [⟨target,iter,[c],0⟩] scope pos) 0 it acc env=(standAt iter.pos >>= fun _=>pyNext it >>= fun r=>match r with
   | none=>pure (.done .next)
   | some v=>letOwnedTupleGo target it v >>= fun _=>assign target env v >>= fun _=>isTrue c env (eval c env) >>= fun ok=>
    (if ok=true then (eval elt env >>= fun x=>call (.builtin "list.append") [acc,x] >>= fun _=>pure ()) >>= fun _=>again (.compLoop (.ListComp elt [⟨target,iter,[c],0⟩] scope pos) 0 it acc env)
     else again (.compLoop (.ListComp elt [⟨target,iter,[c],0⟩] scope pos) 0 it acc env))):=by
 unfold compTurn
 dsimp only [List.getElem?_cons_zero,List.getElem?_cons_succ,List.getElem?_nil]
 simp only [List.forIn_cons,List.forIn_nil,bind_assoc,pure_bind,if_true]
 rfl
structure cM(X:Cx)(scope:Scope)(xs ys:List Str)(caps:List Nat):Prop where
 kind:scope.kind= .function
 nocell:∀p∈scope.names,p.2≠ .cell
 names:∀p∈scope.names,p.2= .local→scope.names.lookup p.1=some .local
 own:∀x∈xs,scope.names.lookup x=some .local
 free:∀p∈scope.names,p.2= .free→X.env.scope.names.lookup p.1=some .cell
 nd:(xs++ys).Nodup
 cap:∀q∈ys.zip caps,X.N[q.2]? =some q.1∧X.env.scope.names.lookup q.1=some .cell∧scope.names.lookup q.1=some .free
 len:ys.length=caps.length
theorem cM.has{X:Cx}{scope:Scope}{xs ys:List Str}{caps:List Nat}(S:cM X scope xs ys caps)(ok:X.Ok):∀p∈scope.names,p.2= .free→(X.env.cells.lookup p.1).isSome=true:=fun p hp hf=>by
 obtain ⟨c,e⟩:=ok.has p.1 (.inl (S.free p hp hf))
 rw [e];rfl
def y4(n:Nat)(gg:TG):Prop:=∀v (os cs:St) H (Q:St→Hp→Prop),os.length=n→gg v (os++cs) H Q→gg v (os++cs) H fun σ' H'=>(∃os':St,os'.length=n∧σ'=os'++cs)∧Q σ' H'
theorem qg{n i:Nat}(h:i < n):y4 n (i8 i):=fun v os cs H Q hl hq=>⟨⟨os.set i (some v),by rw [List.length_set];exact hl,List.set_append_left _ _ (by omega)⟩,hq⟩
def uu(J:It)(n:Nat)(gg:TG)(tc:TT)(te:TE)(cs:St)(Q:VK)(H1:Hp)(D:Addr):Prop:=
 ∃ W:Nat→Nat→List V→Hp→Prop,(∃m,W 0 m [] (upd H1 D (.lst [])))∧∀i m ys H2,W i m ys H2→H2 D=some (.lst ys)∧
  ((J.stop i H2∧Q (.ref D) H2)∨(J.go i H2∧∀x H3,J.yld i H2 x H3→∀os:St,os.length=n→gg x (os++cs) H3 fun σ' H3'=>tc σ' H3' fun b H4=>match b with
   | true=>te σ' H4 fun y H5=>H5 D=some (.lst ys)∧ys.length < sizeLine∧∃m',m' < m∧W (i+1) m' (ys++[y]) (upd H5 D (.lst (ys++[y])))
   | false=>∃m',m' < m∧W (i+1) m' ys H4))
def zr(wi:TI)(n:Nat)(gg:TG)(tc:TT)(te:TE)(caps:List Nat):TE:=fun σ H Q=>wi σ H fun J H1=>∀D,H1 D=none→uu J n gg tc te (fY caps σ) Q H1 D
section
variable{X:Cx}{elt iter tg c:Expr}{xs:List Str}{scope:Scope}{pos:Pos}{wi:TI}{gg:TG}{tc:TT}{te:TE}{ys:List Str}{caps:List Nat}
theorem tU(S:cM X scope xs ys caps)(hc:X.calm=true)(hg:∀C s H fp,PG (Cx.comp X (xs++ys) scope C s H fp) tg gg)(hk:y4 xs.length gg)(ht:∀C s H fp,PT (Cx.comp X (xs++ys) scope C s H fp) c tc)(he:∀C s H fp,PE (Cx.comp X (xs++ys) scope C s H fp) elt te)
  {pins:List (Addr×Obj)} {σ:St} {H2:Hp} {s2:Shared} {it:Addr} {fp:List Addr} {tn:Nat→Heap→Prop} {J:It} {Q:V→Hp→Prop} {PQ:Value→Addr→Result→Shared→Prop} (I:Inv X pins σ H2 s2) (T:ux X.prog X.w X.K tg J fp it tn) (t0:tn 0 s2.heap) (f2:∀b∈fp,qy X pins H2 b)
  (h:∀D,H2 D=none→uu J xs.length gg tc te (fY caps σ) Q H2 D)
  (hPQ:∀D C s' H',Inv X pins σ H' s'→Q (.ref D) H'→(∃m,s'.heap.Ns C m)→H' C=none→X.s₀.heap.objs.size≤C→C≠X.env.locals→(∀z c,X.env.cells.lookup z=some c→c≠C)→(∀p∈X.pn++pins,p.1≠C)→PQ (.ref D) C (.ok .next) s'):
  wpAny (model X.prog X.w) X.A (newList []) (fun acc s3=>wpAny (model X.prog X.w) X.A (newFunctionEnv scope X.env.globals (kD X.env scope.names []) [] X.env.qual none .none (some X.env)) (fun cenv s4=>
   codeAny (model X.prog X.w) X.A (.compStart (.ListComp elt [⟨tg,iter,[c],0⟩] scope pos) 0 (.ref it) acc {cenv with scope:=relabel scope X.env}) (PQ acc cenv.locals) s4) X.xe s3) X.xe s2:=by
 have hD:H2 s2.heap.objs.size=none:=I.fresh
 obtain ⟨W,⟨m0,w0⟩,step⟩:=h _ hD
 refine wpAny_newObj_type ?_
 have I3:Inv X pins σ (upd H2 s2.heap.objs.size (.lst [])) {s2 with heap:=s2.heap.push {cls:= .type "list",data:= .seq ([]:List Value).toArray}}:=Inv.lnew (t':=s2.toks) I (ys:=[]) (its:=[]) .nil (Nat.zero_le _)
 generalize hH3:upd H2 s2.heap.objs.size (.lst [])=H3 at I3 w0
 generalize hs3:({s2 with heap:=s2.heap.push {cls:= .type "list",data:= .seq ([]:List Value).toArray}}:Shared)=s3 at I3
 have hfp3:∀b∈fp,H3 b=none:=fun b hb=>by
  obtain ⟨o,e,_⟩:=T.obj _ _ t0 b hb
  rw [←hH3,ai (Nat.ne_of_lt (Heap.lt_size e))]
  exact (f2 b hb).1
 have t3:tn 0 s3.heap:=T.keep _ _ _ t0 fun b hb o e=>by rw [←hs3];exact Heap.get?_push_of_some _ e
 refine wpAny_newFunctionEnv S.nocell (fun y hy=>nomatch hy) (fun h4 ns4 sb4=> ?_) S.kind
 have hC:H3 s3.heap.objs.size=none:=I3.fresh
 have kp:∀b o,s3.heap.get? b=some o→h4.get? b=some o:=fun b o e=>
  (sb4.2 b (Nat.ne_of_lt (Heap.lt_size e))).trans (Heap.get?_push_of_some _ e)
 generalize hs4:({s3 with heap:=h4,toks:=s3.toks+([]:List (Str×Value)).length}:Shared)=s4
 have e4:s4.heap=h4:=by rw [←hs4]
 have cne:∀z c,X.env.cells.lookup z=some c→c≠s3.heap.objs.size:=fun z c e q=>by
  obtain ⟨v,w⟩:=I3.cell z c e
  exact Nat.lt_irrefl _ (q▸w.lt)
 have cl_in:∀z c,(kD X.env scope.names []).lookup z=some c→X.env.cells.lookup z=some c:=fun z c e=>iO scope.names [] (S.has I.ok) (fun q=>nomatch q) e
 have Lne:s3.heap.objs.size≠X.env.locals:=Nat.ne_of_gt I3.lt
 have ok:(Cx.comp X (xs++ys) scope s3.heap.objs.size s3 H3 fp).Ok:=by
  refine ⟨I3.ok.mod,S.kind,I3.ok.glob,I3.ok.blt,Nat.le_refl _,fun z z' c e1 e2=>I3.ok.inj z z' c (cl_in z c e1) (cl_in z' c e2),fun z hz=> ?_,fun z c hz=>(by cases hz),I3.ok.hd,I3.ok.frames, .inl rfl,fun b hb=>⟨?_,fun z c e=> ?_⟩,I3.bs, ?_,fun b o e hb=> ?_,fun b hb hf=> ?_,I3.stack,I3.stkFree⟩
  ·have:=fV (env:=X.env) scope.names [] (.inl (qX S.nocell hz))
   exact Option.isSome_iff_exists.mp this
  ·obtain ⟨o,e,_⟩:=T.obj _ _ t3 b hb
   exact Nat.ne_of_lt (Heap.lt_size e)
  ·exact (f2 b hb).2.2.2.2.1 z c (cl_in z c e)
  ·exact Nat.le_trans I3.ok.bsz I3.sz
  ·obtain ⟨_,_,_,hy,_⟩:=f2 b hb
   have e0:=(I3.ok.bs b o e).1
   rcases hy with hy | hy
   ·exact I3.ok.noex b o e hy
   ·exact absurd (Nat.lt_of_lt_of_le (Heap.lt_size e0) hy) (Nat.lt_irrefl _)
  ·obtain ⟨_,hl,hfs,_⟩:=f2 b hb
   exact (List.mem_cons.mp (I3.stkSub b hf)).elim hl hfs
 have hlen:((List.replicate xs.length (none:Option V))++fY caps σ).length=(xs++ys).length:=by
  rw [List.length_append,List.length_append,List.length_replicate,S.len]
  unfold fY
  rw [List.length_map]
 have I4:Inv X pins σ H3 s4:=by
  rw [←hs4]
  exact I3.kept kp
 have Ic:Inv (Cx.comp X (xs++ys) scope s3.heap.objs.size s3 H3 fp) [] ((List.replicate xs.length (none:Option V))++fY caps σ) H3 s4:=by
  refine ⟨ok,by rw [←hs4];rfl,I4.bare,Un.kept (by rw [e4];exact kp),⟨_,by rw [e4];exact ns4,fun i z v e1 e2 e3=> ?_⟩,fun z c e=>I4.cell z c (cl_in z c e),hC,fun z c e=>I4.freeC z c (cl_in z c e),(fun p hp=>nomatch hp),I4.hok,hlen⟩
  have e1:(xs++ys)[i]? =some z:=e1
  by_cases hi:i < xs.length
  ·rw [List.getElem?_append_left (by rw [List.length_replicate];exact hi),List.getElem?_replicate,if_pos hi] at e2
   cases e2
  ·obtain ⟨j,rfl⟩:∃j,i=xs.length+j:=⟨i - xs.length,by omega⟩
   have e1:ys[j]? =some z:=by
    rw [List.getElem?_append_right (by omega),Nat.add_sub_cancel_left] at e1
    exact e1
   have e2:(fY caps σ)[j]? =some (some v):=by
    rw [List.getElem?_append_right (by rw [List.length_replicate];omega),List.length_replicate,Nat.add_sub_cancel_left] at e2
    exact e2
   unfold fY at e2
   rw [List.getElem?_map] at e2
   cases hi:caps[j]? with
   | none=>rw [hi] at e2;cases e2
   | some i=>
    rw [hi] at e2
    have e2:(σ[i]?).join=some v:=Option.some.inj e2
    have e2:σ[i]? =some (some v):=by
     cases q:σ[i]? with
     | none=>rw [q] at e2;cases e2
     | some o=>rw [q] at e2;exact congrArg some e2
    obtain ⟨c1,c2,c3⟩:=S.cap (z,i) (qC e1 hi)
    have c4:=jR (env:=X.env) I.ok.kind c2 c3
    have c3:(z,NameKind.free)∈scope.names:=PySem.mem_of_lookup c3
    obtain ⟨m,hn,hl⟩:=I4.loc
    obtain ⟨u,r,lk⟩:=hl i z v c1 e2 (.inr (.inl c2))
    refine ⟨u,r, .inr ⟨.inl c4, ?_⟩⟩
    rcases lk with ⟨k,_⟩ | ⟨_,c,hc',z'⟩
    ·exact absurd ((show X.env.scope.names.lookup z=some .local from k).symm.trans c2) (by decide)
    ·obtain ⟨d,hd⟩:=Option.isSome_iff_exists.mp (fV (env:=X.env) scope.names [] (.inl c3))
     have:=cl_in z d hd
     rw [hc'] at this
     cases this
     exact ⟨c,hd,z'⟩
 have loop:codeAny (model X.prog X.w) X.A (.compLoop (.ListComp elt [⟨tg,iter,[c],0⟩] scope pos) 0 (.ref it) (.ref s2.heap.objs.size) (compEnvC scope (kD X.env scope.names []) s3.heap.objs.size X.env)) (PQ (.ref s2.heap.objs.size) s3.heap.objs.size) s4:=by
  have fpC:∀{H':Hp},(∀b∈fp,H' b=none)→∀b∈fp,qy (Cx.comp X (xs++ys) scope s3.heap.objs.size s3 H3 fp) [] H' b:=fun hn b hb=>
   ⟨hn b hb,(ok.exf b hb).1,ok.exfs b hb, .inl hb,(ok.exf b hb).2,(fun p hp=>nomatch hp)⟩
  refine codeAny_loop rfl (fun n s'=>∃(i:Nat) (zs:List V) (os:St) (H':Hp),os.length=xs.length∧Inv (Cx.comp X (xs++ys) scope s3.heap.objs.size s3 H3 fp) [] (os++fY caps σ) H' s'∧tn i s'.heap∧(∀b∈fp,H' b=none)∧W i n zs H') (fun n s5 z=> ?_) m0 ⟨0,[],List.replicate xs.length none,H3,by rw [List.length_replicate],Ic,T.keep _ _ _ t3 (fun b hb o e=>by rw [e4];exact kp b o e),hfp3,w0⟩
  obtain ⟨i,zs,os,H5,l5,I5,t5,fr5,w5⟩:=z
  show wpAny _ _ ((compTurn _ 0 (.ref it) _ _).onRaise _) _ _ s5
  refine wpAny_noted ?_
  rw [iN]
  refine wpAny_bind (wpAny_standAt (wpAny_bind ?_))
  obtain ⟨hacc,stop | go⟩:=step i n zs H5 w5
  ·obtain ⟨stop,q⟩:=stop
   refine thn (T.done (Cx.comp X (xs++ys) scope s3.heap.objs.size s3 H3 fp) rfl rfl rfl hc i [] s5 _ H5 _ I5 (fpC fr5) t5 stop) fun r s6 ⟨hr,I6⟩=> ?_
   subst hr
   refine wpAny_pure (hPQ _ _ s6 H5 ?_ q ?_ I6.free ?_ Lne cne fun p hp z=> ?_)
   ·refine I3.call' I6.os I6.base I6.hok I6.bare fun b hb=> ?_
    obtain ⟨_,g1,_,g3,g4,g5⟩:=f2 b hb
    exact ⟨g3,g1,g4,g5⟩
   ·obtain ⟨m,hn,_⟩:=I6.loc
    exact ⟨m,hn⟩
   ·exact I3.sz
   ·exact Nat.ne_of_lt (Heap.lt_size (I3.pin p hp).1) z
  ·obtain ⟨go,turn⟩:=go
   refine thn (T.item (Cx.comp X (xs++ys) scope s3.heap.objs.size s3 H3 fp) rfl rfl rfl hc i [] s5 _ H5 _ I5 (fpC fr5) t5 go) fun r s6 ⟨u,hr,h6⟩=> ?_
   subst hr
   refine wpAny_bind (thn h6 fun _ s7 ⟨y,H7,I7,r7,y7,t7,fr7⟩=> ?_)
   have I7':=I7.pinned (fpC fr7) (T.obj _ _ t7)
   refine wpAny_bind (wpAny_mono (hg _ _ _ _ _ s7 _ H7 y u _ I7' r7 (hk y os _ H7 _ l5 (turn y _ y7 os l5))) (fun _ s8 z8=> ?_) fun _ _ f=>f.elim)
   obtain ⟨σ8,H8,I8,⟨os8,l8,e8⟩,q8⟩:=z8
   subst e8
   refine wpAny_bind (wpAny_mono (ht _ _ _ _ _ s8 _ _ _ I8 q8) (fun b s9 z9=> ?_) fun _ _ f=>f.elim)
   obtain ⟨H9,I9,q9⟩:=z9
   cases b with
   | false=>
    obtain ⟨m9,hm9,w9⟩:=q9
    refine wpAny_pure ⟨rfl,m9,hm9,i+1,zs,os8,_,l8,I9.unpinned,T.keep _ _ _ t7 fun b hb o e=>(I9.pin (b,o) (List.mem_append_right _ (List.mem_append_right _ (bP hb e)))).1,fun b hb=> ?_,w9⟩
    obtain ⟨o,e,_⟩:=T.obj _ _ t7 b hb
    exact (I9.pin (b,o) (List.mem_append_right _ (List.mem_append_right _ (bP hb e)))).2.1
   | true=>
    refine wpAny_bind (wpAny_bind (wpAny_mono (he _ _ _ _ _ s9 _ _ _ I9 q9) (fun u10 s10 z10=> ?_) fun _ _ f=>f.elim))
    obtain ⟨v10,H10,I10,r10,a10,l10,m10,hm10,w10⟩:=z10
    refine wpAny_bind (wpAny_mono (iq (X:=Cx.comp X (xs++ys) scope s3.heap.objs.size s3 H3 fp) _ s10 _ H10 (.ref s2.heap.objs.size) [v10] _ [u10] (fun _ H'=>H'=upd H10 s2.heap.objs.size (.lst (zs++[v10]))) I10 rfl (.cons r10 .nil) ⟨_,zs,v10,rfl,rfl,a10,l10,rfl⟩) (fun _ s11 z11=> ?_) fun _ _ f=>f.elim)
    obtain ⟨_,H11,I11,_,e11⟩:=z11
    subst e11
    refine wpAny_pure (wpAny_pure ⟨rfl,m10,hm10,i+1,zs++[v10],os8,_,l8,I11.unpinned,T.keep _ _ _ t7 fun b hb o e=>(I11.pin (b,o) (List.mem_append_right _ (List.mem_append_right _ (bP hb e)))).1,fun b hb=> ?_,w10⟩)
    obtain ⟨o,e,_⟩:=T.obj _ _ t7 b hb
    exact (I11.pin (b,o) (List.mem_append_right _ (List.mem_append_right _ (bP hb e)))).2.1
 exact codeAny_compStart_list loop (T.self X.A 0 _ _ _ (T.keep _ _ _ t3 (fun b hb o e=>by rw [e4];exact kp b o e)) loop)
theorem uV{i:Nat}{x:Str}{px:Pos}(S:cM X scope xs ys caps)(h:xs[i]? =some x)(C:Addr)(s:Shared)(H:Hp)(fp:List Addr):PG (Cx.comp X (xs++ys) scope C s H fp) (.Name x px) (i8 i):=by
 have hm:x∈xs:=List.mem_of_getElem? h
 have hi:(xs++ys)[i]? =some x:=by rw [List.getElem?_append_left (List.getElem?_eq_some_iff.mp h).1];exact h
 exact aK S.nd hi (.inl (lookup_relabel_local (S.own x hm))) (.inr (lookup_relabel_local (S.own x hm)))
end
def qo(g:Dt→En→(En→Prop)→Prop)(tc:DT)(te:DE)(ρ0:En)(ok:Ms→Prop):List Dt→List Dt→Ms→(List Dt→Ms→Prop)→Prop
 | [],acc,M,k=>ok M∧k acc M
 | x::xs,acc,M,k=>ok M∧g x ρ0 fun ρ'=>tc ρ' M (fun b M1=>match b with
  | true=>te ρ' M1 (fun d M2=>qo g tc te ρ0 ok xs (acc++[d]) M2 k) noX
  | false=>qo g tc te ρ0 ok xs acc M1 k) noX
def xh(n:Nat)(ti:DK)(g:Dt→En→(En→Prop)→Prop)(tc:DT)(te:DE)(caps:List Nat):DE:=fun ρ M q x=>ti ρ M (fun xs ok M1=>xs.length≤sizeLine∧qo g tc te (List.replicate n none++mm caps ρ) ok xs [] M1 (fun ys M2=>q (.lst ys) M2)) x
theorem yP{K:PySem.W.Frag}{G:Hp}{L:List Addr}{ρ:En}{σ os:St}{n:Nat}(h:EnD K G L ρ σ)(caps:List Nat)(hl:os.length=n):EnD K G L (List.replicate n none++mm caps ρ) (os++fY caps σ):=by
 have lc:(mm caps ρ).length=(fY caps σ).length:=by unfold mm fY;simp
 refine ⟨by rw [List.length_append,List.length_append,List.length_replicate,hl,lc],fun i d' e=> ?_⟩
 by_cases hi:i < n
 ·rw [List.getElem?_append_left (by rw [List.length_replicate];exact hi),List.getElem?_replicate,if_pos hi] at e
  cases e
 ·rw [List.getElem?_append_right (by rw [List.length_replicate];omega),List.length_replicate] at e
  rw [List.getElem?_append_right (by omega),hl]
  unfold mm at e
  unfold fY
  rw [List.getElem?_map] at e⊢
  cases q:caps[i - n]? with
  | none=>rw [q] at e;cases e
  | some j=>
   rw [q] at e
   have e:(ρ[j]?).join=some d':=Option.some.inj e
   have e:ρ[j]? =some (some d'):=by
    cases z:ρ[j]? with
    | none=>rw [z] at e;cases e
    | some o=>rw [z] at e;exact congrArg some e
   obtain ⟨v,hv,dn⟩:=h.ats j d' e
   exact ⟨v,by show some ((σ[j]?).join)=_;rw [hv];rfl,dn⟩
theorem vO{K:PySem.W.Frag}{J:It}{gg:TG}{g:Dt→En→(En→Prop)→Prop}{tc:DT}{te:DE}{caps:List Nat}{nn:Nat}{ρ:En}{σ:St}{G1:Hp}{L1:List Addr}{M1:Ms}{H1:Hp}{xs:List Dt}{ok:Ms→Prop}{Dl:Addr}{Q:VK}{k:List Dt→Ms→Prop}(gd:GD K gg g)(r1:Rl K G1 L1 M1 H1)(n:EnD K G1 L1 ρ σ)(y:YlK K J xs ok G1 L1)(hD:H1 Dl=none)(hz:xs.length≤sizeLine)
  (h:qo g tc te (List.replicate nn none++mm caps ρ) ok xs [] M1 k)
  (fin:∀G2 L2 M2 H2 ds vs,Ex G1 L1 H1 G2 L2 H2→Rl K G2 L2 M2 H2→G2 Dl=none→Dl∉L2→H2 Dl=some (.lst vs)→aJ K G2 L2 ds vs→k ds M2→Q (.ref Dl) H2):
  uu J nn gg (By K (fun _=>E0) tc) (nJ K (fun _=>E0) te) (fY caps σ) Q H1 Dl:=by
 refine ⟨fun i m ys H2=>m+i=xs.length∧H2 Dl=some (.lst ys)∧∃acc G2 L2 M2,Ex G1 L1 H1 G2 L2 H2∧Rl K G2 L2 M2 H2∧G2 Dl=none∧Dl∉L2∧aJ K G2 L2 acc ys∧acc.length≤i∧qo g tc te (List.replicate nn none++mm caps ρ) ok (xs.drop i) acc M2 k,⟨xs.length,rfl,ao,[],G1,L1,M1, ?_⟩, ?_⟩
 ·have gn:G1 Dl=none:=r1.sub.free hD
  refine ⟨⟨.refl _, .refl _,fun _ h _=>h,fun b u h1 _=>by rw [ai (fun z=>by rw [z,hD] at h1;cases h1)];exact h1,fun _ h=> .inl h,fun b h=>by rw [ai (fun z=>h (by rw [z];exact hD))];exact h⟩,⟨fun b u e=>by rw [ai (fun z=>by rw [z,gn] at e;cases e)];exact r1.sub b u e,r1.len,r1.nd,fun i a m h1 h2=> ?_⟩,gn,r1.memN hD,rfl,Nat.le_refl _,by rw [List.drop_zero];exact h⟩
  obtain ⟨q1,q2⟩:=r1.ats i a m h1 h2
  exact ⟨q1,q2.mono (.refl _) (.refl _) (ai fun z=>q2.there (by rw [z];exact hD))⟩
 ·rintro i m ys H2 ⟨hm,hacc,acc,G2,L2,M2,e2,r2,g2,l2,n2,la,h2⟩
  refine ⟨hacc, ?_⟩
  have ne1:∀{b:Addr} {u:HO},H1 b=some u→b≠Dl:=fun e z=>by rw [z,hD] at e;cases e
  by_cases hi:i < xs.length
  ·right
   have hd:xs[i]? =some xs[i]:=List.getElem?_eq_getElem hi
   rw [List.drop_eq_getElem_cons hi] at h2
   obtain ⟨hok,h2⟩:=h2
   obtain ⟨go,yl⟩:=y.go i G2 L2 M2 H2 _ e2.g e2.l r2 hok hd
   refine ⟨go,fun v H3 hy os hos=> ?_⟩
   obtain ⟨G3,e3,r3,n3⟩:=yl v H3 hy
   have h3:H3 Dl=some (.lst ys):=e3.out _ _ hacc l2
   have g3:G3 Dl=none:=e3.fr _ g2 (by rw [hacc];simp)
   refine gd G3 L2 M2 H3 _ v _ _ _ _ r3 n3 (yP ((n.mono e2).mono e3) caps hos) h2 fun ρ' σ' n' h'=> ?_
   refine ⟨G3,L2,ρ',M2,_,noX,r3,n',h',hU,fun b H4 ⟨G4,L4,M4,e4,r4,h4⟩=> ?_⟩
   have h4':H4 Dl=some (.lst ys):=e4.out _ _ h3 l2
   have g4:G4 Dl=none:=e4.fr _ g3 (by rw [h3];simp)
   have l4:Dl∉L4:=fun z=>(e4.new _ z).elim l2 fun q=>by rw [h3] at q;cases q
   have e34:=e3.trans e4
   cases b with
   | false=>
    exact ⟨m - 1,by omega,by omega,h4',acc,G4,L4,M4,e2.trans e34,r4,g4,l4,aJ.mono e34.g e34.l _ _ n2,by omega,h4⟩
   | true=>
    refine ⟨G4,L4,ρ',M4,_,noX,r4,n'.mono e4,h4,hU,fun v5 H5 ⟨d5,G5,L5,M5,e5,r5,n5,h5⟩=> ?_⟩
    have h5':H5 Dl=some (.lst ys):=e5.out _ _ h4' l4
    have g5:G5 Dl=none:=e5.fr _ g4 (by rw [h4'];simp)
    have l5:Dl∉L5:=fun z=>(e5.new _ z).elim l4 fun q=>by rw [h4'] at q;cases q
    have e35:=e34.trans e5
    have lenys:ys.length=acc.length:=by rw [←n2.length]
    refine ⟨h5',by omega,m - 1,by omega,by omega,ao,acc++[d5],G5,L5,M5, ?_, ?_,g5,l5,(aJ.mono e35.g e35.l _ _ n2).app ⟨_,_,rfl,n5,rfl⟩,by rw [List.length_append];show acc.length+1≤i+1;omega,h5⟩
    ·have e15:=e2.trans e35
     exact ⟨e15.g,e15.l,e15.fr,fun b u h1 h2=>by rw [ai (ne1 h1)];exact e15.out b u h1 h2,e15.new,fun b h=>by
      by_cases hb:b=Dl
      ·rw [hb,ao];simp
      ·rw [ai hb];exact e15.dom b h⟩
    ·refine ⟨fun b u e=>by rw [ai (fun z=>by rw [z,g5] at e;cases e)];exact r5.sub b u e,r5.len,r5.nd,fun i a m h1 h2=> ?_⟩
     obtain ⟨q1,q2⟩:=r5.ats i a m h1 h2
     exact ⟨q1,q2.mono (.refl _) (.refl _) (ai fun z=>l5 (by rw [←z];exact List.mem_of_getElem? h1))⟩
  ·left
   rw [List.drop_eq_nil_of_le (by omega)] at h2
   exact ⟨y.stop i G2 L2 M2 H2 e2.g e2.l r2 h2.1 (by omega),fin G2 L2 M2 H2 acc ys e2 r2 g2 l2 hacc n2 h2.2⟩
section
variable{X:Cx}{R:St→XK}{elt iter c:Expr}{x y:Str}{px py tp:Pos}{scope:Scope}{pos:Pos}{ti:DK}{tc:DT}{te:DE}{ys:List Str}{caps:List Nat}{kk:Nat}
end
theorem eP{g:Dt→En→(En→Prop)→Prop}{tc:DT}{te:DE}{ρ0:En}{ok:Ms→Prop}{M:Ms}{k:List Dt→Ms→Prop}(ho:ok M)(b:Dt→Bool)(f:Dt→Dt):∀(xs acc:List Dt),(∀x∈xs,∀(q:DQ) (p:Ms→Prop),(b x=true→q (f x) M)→(b x=false→p M)→g x ρ0 fun ρ'=>tc ρ' M (fun b' M1=>match b' with | true=>te ρ' M1 q noX | false=>p M1) noX)→
  k (acc++(xs.filter b).map f) M→qo g tc te ρ0 ok xs acc M k
 | [],acc,_,h=>⟨ho,by simpa using h⟩
 | x::xs,acc,ht,h=>⟨ho,ht x List.mem_cons_self _ _ (fun hb=>eP ho b f xs _ (fun y hy=>ht y (List.mem_cons_of_mem _ hy)) (by simpa [hb] using h)) fun hb=>eP ho b f xs _ (fun y hy=>ht y (List.mem_cons_of_mem _ hy)) (by simpa [hb] using h)⟩
end L2
set_option maxRecDepth 100000
set_option maxHeartbeats 4000000
namespace L2
open PySem PySem.Spec PyProof.Rows
end L2
set_option maxRecDepth 100000
set_option maxHeartbeats 4000000
set_option maxRecDepth 100000
namespace L2
open PySem PySem.Spec PyProof.Rows
end L2
namespace L2
open PySem PySem.Spec PyProof.Rows
section
variable(P:Program)(w:World)
end
section
variable{P:Program}{w:World}{H H':Hp}{h h':Heap}{a:Addr}{o:HO}
end
section
variable{P:Program}{w:World}{H:Hp}{h h':Heap}{x e:Addr}{o':HO}
end
section
variable{fs fs' ex ex':List Addr}{H H1 H2:Hp}{h h1 h2 h':Heap}{a x e:Addr}{o:HO}
end
end L2
namespace L2
open PySem PySem.Spec PyProof.Rows
section
variable{X:Cx}{pins:List (Addr×Obj)}{σ:List (Option V)}{H H':Hp}{s:Shared}{h':Heap}
end
end L2
namespace L2
open PySem PySem.Spec PyProof.Rows
section
variable{X:Cx}
variable{a b:Expr}{ta tb:TE}{pos:Pos}
variable{tA tB':TT}{rest:List Expr}
end
end L2
namespace L2
open PySem PySem.Spec PyProof.Rows
section
variable{X:Cx}{pins:List (Addr×Obj)}{σ:St}{H:Hp}{s:Shared}{a:Addr}{xs ys:List V}
end
section
variable{X:Cx}{pins:List (Addr×Obj)}{σ:St}{H:Hp}{s:Shared}{E:Value→Shared→Prop}
end
section
variable{X:Cx}{st:Stmt}{rest:List Stmt}{t u:TS}{e:Expr}{te:TE}{pos:Pos}
end
section
variable{X:Cx}{pos:Pos}
end
section
variable{X:Cx}{pos:Pos}
end
end L2
namespace L2
open PySem PySem.Spec PyProof.Rows
section
variable{X:Cx}{tg:Expr}
end
end L2
namespace L2
open PySem PySem.Spec PyProof.Rows
section
variable{X:Cx}{a b c:Expr}{ta tb tc:TE}{pos:Pos}
end
section
variable{X:Cx}{a b c:Expr}{ta tb tc:TE}{pos:Pos}
end
end L2
namespace L2
open PySem PySem.Spec PyProof.Rows
section
variable{prog:Program}{w:World}{A:Around}{E:Value→Shared→Prop}{s:Shared}{K:PySem.W.Frag}{x dx C f:Addr}{mA:Str→Option Value}{name:Str}{v:Value}
end
section
variable{P:Program}{w:World}{H H':Hp}{h h':Heap}{a C dx:Addr}{fs fs':List (Str×V)}
end
section
variable{X:Cx}{pins:List (Addr×Obj)}{σ:St}{H:Hp}{s:Shared}{a C dx:Addr}{fs:List (Str×V)}{f:Str}{v:V}{A:Around}{E:Value→Shared→Prop}
end
section
variable{X:Cx}{o e value:Expr}{f:Str}{pos pos' tpos:Pos}{ta tv:TE}
end
section
variable{X:Cx}{pins:List (Addr×Obj)}{σ:St}{H:Hp}{s:Shared}{A:Around}{E:Value→Shared→Prop}{Q:Value→Shared→Prop}{c:Value}{b:Bool}
end
end L2
namespace L2
open PySem PySem.Spec PyProof.Rows
section
variable{X:Cx}{e:Expr}{es:List Expr}{te:TE}{t:TA}{pos:Pos}
end
section
variable{X:Cx}{pins:List (Addr×Obj)}{σ:St}{H:Hp}{s s':Shared}
end
section
variable{X:Cx}{CX:CXT}{k:Nat}{f C:Addr}{fd:FuncData}{ps:List Str}{sp:Sp}{dvs:List V}{ds:List Value}{E:XK}{x m:Str}{p pos apos:Pos}{e o:Expr}{es:List Expr}{ta:TE}{t:TA}
end
section
variable{X:Cx}{CX:CXT}{k:Nat}{f C:Addr}{fd:FuncData}{ps ks:List Str}{sp:Sp}{E:XK}{x m:Str}{p pos apos kpos:Pos}{e o:Expr}{es:List Expr}{kws:List Keyword}{te ta:TE}{t tk:TA}{nm:Option Str}
variable{g:List Value→List Value→List Value}{gV:List V→List V→List V}
end
end L2
namespace L2
open PySem PySem.Spec PyProof.Rows
section
variable{X:Cx}{x:Str}{p pos:Pos}{e:Expr}{es:List Expr}{t:TA}{id T:String}{r:List V→Hp→VK→Prop}
end
end L2
namespace L2
open PySem PySem.Spec PyProof.Rows
section
variable{κ:Type} [DecidableEq κ]
def fL(kvs:List (κ×V))(k:κ):Option V:=(kvs.find? fun kv=>decide (kv.1=k)).map (·.2)
def jr(kvs:List (κ×V))(k:κ)(v:V):List (κ×V):=
 if (kvs.any fun kv=>decide (kv.1=k))=true then kvs.map (fun kv=>if kv.1=k then (kv.1,v) else kv) else kvs++[(k,v)]
def gO(kvs:List (κ×V))(k:κ):List (κ×V):=kvs.filter fun kv=>decide (kv.1≠k)
theorem bT{p:κ×V}{r:List (κ×V)}{k:κ}(e:p.1=k):fL (p::r) k=some p.2:=by simp [fL,List.find?_cons,e]
theorem bU{p:κ×V}{r:List (κ×V)}{k:κ}(e:¬p.1=k):fL (p::r) k=fL r k:=by simp [fL,List.find?_cons,e]
theorem gS(k:κ):∀kvs:List (κ×V),(kvs.any fun kv=>decide (kv.1=k))=(fL kvs k).isSome
 | []=>rfl
 | p::r=>by
  rw [List.any_cons]
  by_cases e:p.1=k
  ·simp only [bT e,decide_eq_true e,Bool.true_or,Option.isSome_some]
  ·rw [bU e,decide_eq_false e,Bool.false_or];exact gS k r
theorem kI(k j:κ)(y:V):∀kvs:List (κ×V),fL kvs k=none→fL (kvs++[(k,y)]) j=if j=k then some y else fL kvs j
 | [],_=>by
  by_cases e:k=j
  ·rw [if_pos e.symm];exact bT (p:=(k,y)) e
  ·rw [if_neg (fun z=>e z.symm)];exact bU (p:=(k,y)) e
 | p::r,hn=>by
  rw [List.cons_append]
  have hk:¬p.1=k:=fun z=>by rw [bT z] at hn;cases hn
  rw [bU hk] at hn
  have ih:=kI k j y r hn
  by_cases e:p.1=j
  ·rw [bT e,bT e,if_neg (fun z=>hk (e.trans z))]
  ·rw [bU e,bU e,ih]
theorem fD(kvs:List (κ×V))(k:κ)(v:V):(jr kvs k v).length≤kvs.length+1:=by
 unfold jr
 split
 ·rw [List.length_map];omega
 ·rw [List.length_append,List.length_cons,List.length_nil];omega
theorem uS{kvs:List (κ×V)}{k:κ}(v:V)(h:fL kvs k=none):jr kvs k v=kvs++[(k,v)]:=by
 unfold jr
 rw [gS,h]
 exact if_neg (by decide)
theorem iU.isSome_eq{o:Option V}{u:Option Value}(r:iU o u):o.isSome=u.isSome:=by
 cases o with
 | none=>cases u with
  | none=>rfl
  | some _=>exact (show False from r).elim
 | some _=>cases u with
  | none=>exact (show False from r).elim
  | some _=>rfl
theorem KV.val{kvs:List (κ×V)}{vs:List (κ×Value)}(r:KV kvs vs)(k:κ):iU (fL kvs k) (valueAt vs k):=by
 unfold KV at r
 induction r with
 | nil=>exact True.intro
 | @cons p q ps qs h t ih=>
  obtain ⟨h1,h2⟩:=h
  by_cases e:p.1=k
  ·have e':q.1=k:=h1.symm.trans e
   have b:valueAt (q::qs) k=some q.2:=by simp [valueAt,List.find?_cons,e']
   rw [bT e,b];exact h2
  ·have e':¬q.1=k:=fun z=>e (h1.trans z)
   have b:valueAt (q::qs) k=valueAt qs k:=by simp [valueAt,List.find?_cons,e']
   rw [bU e,b];exact ih
theorem KV.any{kvs:List (κ×V)}{vs:List (κ×Value)}(r:KV kvs vs)(k:κ):(kvs.any fun kv=>decide (kv.1=k))=vs.any fun kv=>decide (kv.1=k):=by
 unfold KV at r
 induction r with
 | nil=>rfl
 | cons h t ih=>rw [List.any_cons,List.any_cons,ih,h.1]
theorem KV.repl{kvs:List (κ×V)}{vs:List (κ×Value)}(r:KV kvs vs)(k:κ){y:V}{u:Value}(ry:bh y u):
  KV (kvs.map fun kv=>if kv.1=k then (kv.1,y) else kv) (vs.map fun kv=>if kv.1=k then (kv.1,u) else kv):=by
 unfold KV at r⊢
 induction r with
 | nil=>exact .nil
 | @cons p q ps qs h t ih=>
  rw [List.map_cons,List.map_cons]
  refine .cons ?_ ih
  obtain ⟨h1,h2⟩:=h
  by_cases e:p.1=k
  ·rw [if_pos e,if_pos (h1.symm.trans e)];exact ⟨h1,ry⟩
  ·rw [if_neg e,if_neg (fun z=>e (h1.trans z))];exact ⟨h1,h2⟩
theorem KV.put{kvs:List (κ×V)}{vs:List (κ×Value)}(r:KV kvs vs)(k:κ){y:V}{u:Value}(ry:bh y u):KV (jr kvs k y) (stored vs k u):=by
 unfold jr stored
 rw [r.any k]
 by_cases e:(vs.any fun kv=>decide (kv.1=k))=true
 ·rw [if_pos e,if_pos e];exact r.repl k ry
 ·rw [if_neg e,if_neg e];exact Paired.snoc r ⟨rfl,ry⟩
theorem KV.drop{kvs:List (κ×V)}{vs:List (κ×Value)}(r:KV kvs vs)(k:κ):KV (gO kvs k) (without vs k):=by
 unfold KV at r⊢
 unfold gO without
 induction r with
 | nil=>exact .nil
 | @cons p q ps qs h t ih=>
  obtain ⟨h1,h2⟩:=h
  rw [List.filter_cons,List.filter_cons]
  by_cases e:p.1=k
  ·have a:¬decide (p.1≠k)=true:=by simp [e]
   have b:¬decide (q.1≠k)=true:=by simp [h1.symm.trans e]
   rw [if_neg a,if_neg b];exact ih
  ·have e':¬q.1=k:=fun z=>e (h1.trans z)
   have a:decide (p.1≠k)=true:=by simp [e]
   have b:decide (q.1≠k)=true:=by simp [e']
   rw [if_pos a,if_pos b];exact .cons ⟨h1,h2⟩ ih
theorem KV.keys{kvs:List (κ×V)}{vs:List (κ×Value)}(r:KV kvs vs):kvs.map (·.1)=vs.map (·.1):=by
 unfold KV at r
 induction r with
 | nil=>rfl
 | cons h t ih=>rw [List.map_cons,List.map_cons,ih,h.1]
theorem KV.length{kvs:List (κ×V)}{vs:List (κ×Value)}(r:KV kvs vs):kvs.length=vs.length:=Paired.length r
theorem vH(kvs:List (κ×V))(k:κ):(gO kvs k).length≤kvs.length:=List.length_filter_le _ _
end
theorem lM{P:Program}{w:World}{k:Key}{u:Value}(r:bh (kV k) u):(bx P w).is k u=true:=by
 cases k with
 | inl i=>obtain ⟨t,e⟩:=(show∃t,u=Value.int i t from r);subst e;exact nG P w i t
 | inr x=>obtain ⟨t,e⟩:=(show∃t,u=Value.str x t from r);subst e;exact nF P w x t
theorem lR{P:Program}{w:World}:∀{ks:List Key} {us:List Value},bz (ks.map kV) us→ItemsAre (bx P w) ks us
 | [],_,r=>by rw [List.map_nil] at r;cases r;exact .nil
 | k::ks,_,r=>by
  rw [List.map_cons] at r
  cases r with
  | cons h t=>exact .cons (lM h) (lR t)
abbrev KT(H:Hp):List (List Key×V)→List (List Key×Addr×Value)→Prop:=Paired fun p q=>p.1=q.1∧H q.2.1=some (.tup (p.1.map kV))∧bh p.2 q.2.2
theorem KT.val{H:Hp}{kvs:List (List Key×V)}{xs:List (List Key×Addr×Value)}(r:KT H kvs xs)(k:List Key):iU (fL kvs k) ((atKey xs k).map (·.2)):=by
 induction r with
 | nil=>exact True.intro
 | @cons p q ps qs h t ih=>
  obtain ⟨h1,_,h2⟩:=h
  by_cases e:p.1=k
  ·have e':q.1=k:=h1.symm.trans e
   have b:atKey (q::qs) k=some q.2:=by simp [atKey,List.find?_cons,e']
   rw [bT e,b];exact h2
  ·have e':¬q.1=k:=fun z=>e (h1.trans z)
   have b:atKey (q::qs) k=atKey qs k:=by simp [atKey,List.find?_cons,e']
   rw [bU e,b];exact ih
theorem KT.repl{H:Hp}{kvs:List (List Key×V)}{xs:List (List Key×Addr×Value)}(r:KT H kvs xs)(k:List Key){y:V}{u:Value}(ry:bh y u):
  KT H (kvs.map fun kv=>if kv.1=k then (kv.1,y) else kv) (xs.map (putAt k u)):=by
 induction r with
 | nil=>exact .nil
 | @cons p q ps qs h t ih=>
  rw [List.map_cons,List.map_cons]
  refine .cons ?_ ih
  obtain ⟨h1,h2,h3⟩:=h
  unfold putAt
  by_cases e:p.1=k
  ·rw [if_pos e,if_pos (h1.symm.trans e)];exact ⟨h1,h2,ry⟩
  ·rw [if_neg e,if_neg (fun z=>e (h1.trans z))];exact ⟨h1,h2,h3⟩
theorem KT.put{H:Hp}{kvs:List (List Key×V)}{xs:List (List Key×Addr×Value)}(r:KT H kvs xs)(k:List Key){b:Addr}{y:V}{u:Value}(hb:H b=some (.tup (k.map kV)))(ry:bh y u):
  KT H (jr kvs k y) (storedH xs k b u):=by
 have e:(kvs.any fun kv=>decide (kv.1=k))=(atKey xs k).isSome:=by
  rw [gS,(r.val k).isSome_eq,Option.isSome_map]
 unfold jr storedH
 rw [e]
 by_cases q:(atKey xs k).isSome=true
 ·rw [if_pos q,if_pos q];exact r.repl k ry
 ·rw [if_neg q,if_neg q];exact Paired.snoc r ⟨rfl,hb,ry⟩
theorem KT.keeps{H H':Hp}{kvs:List (List Key×V)}{xs:List (List Key×Addr×Value)}(r:KT H kvs xs)(ht:∀b ys,H b=some (.tup ys)→H' b=some (.tup ys)):KT H' kvs xs:=
 Paired.mapP r fun _ _ z=>⟨z.1,ht _ _ z.2.1,z.2.2⟩
section
variable{P:Program}{w:World}{H:Hp}{h:Heap}{a:Addr}
theorem zE{u:HO}(ok:HOk P w H h)(e:Rd H a u):ba P w H h a u:=e.ok ok
theorem fg{kvs:List (Key×V)}(ok:HOk P w H h)(e:Rd H a (.dK kvs)):kvs.length≤sizeLine∧(a==sysModules)=false∧∃vs,KV kvs vs∧h.DictOf (bx P w) a vs:=
 show ba P w H h a (.dK kvs) from zE ok e
theorem vI{kvs:List (Key×V)}(ok:HOk P w H h)(e:H a=some (.dK kvs)):kvs.length≤sizeLine∧(a==sysModules)=false∧∃vs,KV kvs vs∧h.DictOf (bx P w) a vs:=fg ok (.inl e)
theorem lL{ks:List Key}(ok:HOk P w H h)(e:H a=some (.tup (ks.map kV))):(tupleKind (bx P w)).is h ks a:=by
 obtain ⟨_,its,r,o,h1,h2,n,h3⟩:=(show ba P w H h a (.tup (ks.map kV)) from ok a _ e)
 exact ⟨o,its.toArray,n,h1,h2,h3,by simpa using lR r⟩
theorem qm{kvs:List (List Key×V)}(ok:HOk P w H h)(e:Rd H a (.dT kvs)):kvs.length≤sizeLine∧(a==sysModules)=false∧
  ∃xs,KT H kvs xs∧h.DictOfH (tupleKind (bx P w)) a xs:=by
 obtain ⟨z,y,xs,r,o,es,ep,h1,h2,h3,h4,h5⟩:=(show ba P w H h a (.dT kvs) from zE ok e)
 refine ⟨z,y,xs,r,o,es,ep,h1,h2,h3,h4,fun x hx=> ?_,h5⟩
 have all:∀{l:List (List Key×V)} {m:List (List Key×Addr×Value)},KT H l m→∀x∈m,(tupleKind (bx P w)).is h x.1 x.2.1:=by
  intro l m q
  induction q with
  | nil=>intro x hx;exact nomatch hx
  | @cons p q ps qs hq t ih=>
   intro x hx
   rcases List.mem_cons.mp hx with e | hx
   ·subst e
    exact lL ok (by rw [←hq.1];exact hq.2.1)
   ·exact ih x hx
 exact all r x hx
theorem Dm{kvs:List (List Key×V)}(ok:HOk P w H h)(e:H a=some (.dT kvs)):kvs.length≤sizeLine∧(a==sysModules)=false∧
  ∃xs,KT H kvs xs∧h.DictOfH (tupleKind (bx P w)) a xs:=qm ok (.inl e)
end
def wb(H:Hp)(a:Addr)(y:V)(r:Option V):Prop:=
 (∃kvs k,Rd H a (.dK kvs)∧y=kV k∧r=fL kvs k)∨∃kvs k b,Rd H a (.dT kvs)∧y= .ref b∧H b=some (.tup (k.map kV))∧r=fL kvs k
def Bv(H:Hp)(a:Addr)(y v:V)(H':Hp):Prop:=
 (∃kvs k,H a=some (.dK kvs)∧y=kV k∧kvs.length < sizeLine∧H'=upd H a (.dK (jr kvs k v)))∨
 ∃kvs k b,H a=some (.dT kvs)∧y= .ref b∧H b=some (.tup (k.map kV))∧kvs.length < sizeLine∧H'=upd H a (.dT (jr kvs k v))
theorem Bv.k{H:Hp}{a:Addr}{kvs:List (Key×V)}{k:Key}{v:V}(e:H a=some (.dK kvs))(hl:kvs.length < sizeLine):Bv H a (kV k) v (upd H a (.dK (jr kvs k v))):= .inl ⟨kvs,k,e,rfl,hl,rfl⟩
section
variable{X:Cx}{pins:List (Addr×Obj)}{σ:St}{H:Hp}{s:Shared}{a:Addr}{y v:V}{u r:Value}{o:Option V}{A:Around}{E:Value→Shared→Prop}
theorem Inv.big(I:Inv X pins σ H s):sysModules < s.heap.objs.size:=by
 have h:mainGlobals < s.heap.objs.size:=(I.mod.glob.keeps I.bk).lt
 exact Nat.lt_trans (by decide) h
theorem tT{Q:Value→Shared→Prop}(hu:A.units+1 < cLine)(I:Inv X pins σ H s)(g:wb H a y (some v))(ry:bh y u)(h:∀w' s',Inv X pins σ H s'→bh v w'→Q w' s'):
  wpAny (model X.prog X.w) A (getItem (.ref a) u) Q E s:=by
 rcases g with ⟨kvs,k,e,ey,l⟩ | ⟨kvs,k,b,e,ey,eb,l⟩
 ·subst ey
  obtain ⟨z,hd,vs,rel,dd⟩:=fg I.hok e
  obtain ⟨w',hw,rw'⟩:=iU.some_of (v:=v) (o:=valueAt vs k) (by rw [l];exact rel.val k)
  exact wpAny_getItem_of (lM ry) dd.mapOf hw (h w' _ (I.tok _) rw')
 ·subst ey
  cases (show u=Value.ref b from ry)
  obtain ⟨z,hd,xs,rel,dd⟩:=qm I.hok e
  obtain ⟨w',hw,rw'⟩:=iU.some_of (v:=v) (o:=(atKey xs k).map (·.2)) (by rw [l];exact rel.val k)
  obtain ⟨p,hp,hp2⟩:=Option.map_eq_some_iff.mp hw
  refine wpAny_getItem_heap (tupleKind_room_in1 hu) (lL I.hok eb) dd hp ?_
  rw [hp2]
  exact h w' _ (I.tok _) rw'
theorem Fs{Q:Value→Shared→Prop}(hu:A.units+1 < cLine)(I:Inv X pins σ H s)(g:wb H a y o)(ry:bh y u)(h:∀s',Inv X pins σ H s'→Q (.bool o.isSome) s'):
  wpAny (model X.prog X.w) A (compareOp .In u (.ref a)) Q E s:=by
 rcases g with ⟨kvs,k,e,ey,l⟩ | ⟨kvs,k,b,e,ey,eb,l⟩
 ·subst ey
  obtain ⟨z,hd,vs,rel,dd⟩:=fg I.hok e
  refine wpAny_in_of (lM ry) hd dd.mapOf ?_
  rw [←(rel.val k).isSome_eq,←l]
  exact h _ (I.tok _)
 ·subst ey
  cases (show u=Value.ref b from ry)
  obtain ⟨z,hd,xs,rel,dd⟩:=qm I.hok e
  refine wpAny_in_heap (tupleKind_room_in1 hu) (lL I.hok eb) hd dd ?_
  have q:=(rel.val k).isSome_eq
  rw [Option.isSome_map] at q
  rw [←q,←l]
  exact h _ (I.tok _)
theorem yK{Q:Value→Shared→Prop}(hu:A.units+1 < cLine)(I:Inv X pins σ H s)(g:wb H a y o)(ry:bh y u)(h:∀s',Inv X pins σ H s'→Q (.bool (!o.isSome)) s'):
  wpAny (model X.prog X.w) A (compareOp .NotIn u (.ref a)) Q E s:=by
 rcases g with ⟨kvs,k,e,ey,l⟩ | ⟨kvs,k,b,e,ey,eb,l⟩
 ·subst ey
  obtain ⟨z,hd,vs,rel,dd⟩:=fg I.hok e
  refine wpAny_notIn_of (lM ry) hd dd.mapOf ?_
  rw [←(rel.val k).isSome_eq,←l]
  exact h _ (I.tok _)
 ·subst ey
  cases (show u=Value.ref b from ry)
  obtain ⟨z,hd,xs,rel,dd⟩:=qm I.hok e
  refine wpAny_notIn_heap (tupleKind_room_in1 hu) (lL I.hok eb) hd dd ?_
  have q:=(rel.val k).isSome_eq
  rw [Option.isSome_map] at q
  rw [←q,←l]
  exact h _ (I.tok _)
theorem kr{h':Heap}{t':Nat}{ob:HO}(I:Inv X pins σ H s)(mu:Mut (H a))(hs:Heap.SameBut a s.heap h')(he:∃q,h'.get? a=some q)(new:ba X.prog X.w (upd H a ob) h' a ob):
  Inv X pins σ (upd H a ob) {s with heap:=h',toks:=t'}:=
 I.write (x:=a) (e:=a) mu (.inl rfl) (fun b q hb z=>(hs.2 b hb).trans z) he new
theorem pA{P:Program}{w:World}{H':Hp}{h':Heap}{kvs:List (Key×V)}{vs:List (Key×Value)}(z:kvs.length≤sizeLine)(hd:(a==sysModules)=false)(rel:KV kvs vs)(dd:h'.DictOf (bx P w) a vs):
  ba P w H' h' a (.dK kvs):=⟨z,hd,vs,rel,dd⟩
theorem tS{H':Hp}{Q:Unit→Shared→Prop}(hu:A.units+1 < cLine)(I:Inv X pins σ H s)(g:Bv H a y v H')(ry:bh y u)(rv:bh v r)(h:∀s',Inv X pins σ H' s'→Q () s'):
  wpAny (model X.prog X.w) A (setItem (.ref a) u r) Q E s:=by
 rcases g with ⟨kvs,k,e,ey,l,eH⟩ | ⟨kvs,k,b,e,ey,eb,l,eH⟩
 ·subst ey eH
  obtain ⟨z,hd,vs,rel,dd⟩:=vI I.hok e
  have hz:vs.length≤sizeLine:=by rw [←rel.length];exact z
  have hl:(jr kvs k v).length≤sizeLine:=by have:=fD kvs k v;omega
  refine wpAny_setItem_pairs (hsz:=hz) (lM ry) dd fun h' dd' hs=>h _ ?_
  have he:∃q,h'.get? a=some q:=let ⟨q,_,_,hq,_⟩:=dd';⟨q,hq⟩
  exact kr I (by rw [e];exact True.intro) hs he (pA hl hd (rel.put k rv) dd')
 ·subst ey eH
  cases (show u=Value.ref b from ry)
  obtain ⟨z,hd,xs,rel,dd⟩:=Dm I.hok e
  have hz:xs.length≤sizeLine:=by rw [←Paired.length rel];exact z
  have hl:(jr kvs k v).length≤sizeLine:=by have:=fD kvs k v;omega
  refine wpAny_setItem_heap (hsz:=hz) (tupleKind_room_in1 hu) (lL I.hok eb) dd fun h' dd' hs=>h _ ?_
  obtain ⟨q,es,ep,hq,h2,h3,h4,_,h5⟩:=dd'
  refine kr I (by rw [e];exact True.intro) hs ⟨q,hq⟩ ⟨hl,hd,_,(rel.put k eb rv).keeps fun c ys ec=> ?_,q,es,ep,hq,h2,h3,h4,h5⟩
  rw [ai (CG ec e (fun z=>nomatch z))]
  exact ec
end
section
variable{X:Cx}{pins:List (Addr×Obj)}{σ:St}{H:Hp}{s:Shared}{a:Addr}{kvs:List (Key×V)}{k:Key}{u:Value}{A:Around}{E:Value→Shared→Prop}
theorem Dv{v:V}{more:List Value}{Q:Value→Shared→Prop}(I:Inv X pins σ H s)(e:H a=some (.dK kvs))(ry:bh (kV k) u)(l:fL kvs k=some v)(hm:more=[]∨∃x,more=[x])
  (h:∀w' s',Inv X pins σ (upd H a (.dK (gO kvs k))) s'→bh v w'→Q w' s'):wpAny (model X.prog X.w) A (call (.builtin "dict.pop") (.ref a::u::more)) Q E s:=by
 obtain ⟨z,hd,vs,rel,dd⟩:=vI I.hok e
 obtain ⟨w',hw,rw'⟩:=iU.some_of (v:=v) (o:=valueAt vs k) (by rw [←l];exact rel.val k)
 have hp:(keyPart u).isSome=true:=by
  cases k with
  | inl i=>obtain ⟨t,q⟩:=(show∃t,u=Value.int i t from ry);subst q;rfl
  | inr x=>obtain ⟨t,q⟩:=(show∃t,u=Value.str x t from ry);subst q;rfl
 have ha:argsOk "dict.pop" ⟨.ref a::u::more,[]⟩:=by
  rcases hm with q | ⟨x,q⟩
  ·subst q;exact PySem.F.args_dict_pop_2 _ _
  ·subst q;exact PySem.F.args_dict_pop_3 _ _ _
 refine call_meetsIn PySem.F.slot_dict_pop dd.typeIs PySem.F.entry_dict_pop ha (meets_dict_pop_there (bx X.prog X.w) a (lM ry) more hm hp)
  ⟨vs,w',dd,by rw [←rel.length];exact z,hw,fun h' dd' hs=>h w' _ ?_ rw'⟩
 have he:∃q,h'.get? a=some q:=let ⟨q,_,_,hq,_⟩:=dd';⟨q,hq⟩
 exact kr I (by rw [e];exact True.intro) hs he (pA (Nat.le_trans (vH kvs k) z) hd (rel.drop k) dd')
theorem Bi{r:Value}{Q:Value→Shared→Prop}(I:Inv X pins σ H s)(e:H a=some (.dK kvs))(ry:bh (kV k) u)(l:fL kvs k=none)(h:∀s',Inv X pins σ H s'→Q r s'):
  wpAny (model X.prog X.w) A (call (.builtin "dict.pop") [.ref a,u,r]) Q E s:=by
 obtain ⟨z,hd,vs,rel,dd⟩:=vI I.hok e
 have hn:valueAt vs k=none:=iU.none_of (by rw [←l];exact rel.val k)
 have hp:(keyPart u).isSome=true:=by
  cases k with
  | inl i=>obtain ⟨t,q⟩:=(show∃t,u=Value.int i t from ry);subst q;rfl
  | inr x=>obtain ⟨t,q⟩:=(show∃t,u=Value.str x t from ry);subst q;rfl
 exact call_meetsIn PySem.F.slot_dict_pop dd.typeIs PySem.F.entry_dict_pop (PySem.F.args_dict_pop_3 _ _ _) (meets_dict_pop_default (bx X.prog X.w) a (lM ry) hd hp r) ⟨vs,dd,hn,h _ (I.tok _)⟩
end
def DL(i:Expr):Prop:=∀ov iv,subscripted i false ov iv=operate [ov,iv] (getItem ov iv)
theorem xp{prog:Program}{w:World}{A:Around}{E:Value→Shared→Prop}{s:Shared}{env:Env}{value slice:Expr}{pos:Pos}{T id:String}{Q:Value→Shared→Prop}
  (hl:typeLookup (.type T) "__getitem__"=pure (some (.builtin id))) (hs:DL slice)
  (h:wpAny (model prog w) A (eval value env) (fun o s₁=>wpAny (model prog w) A (eval slice env) (fun i s₂=>s₂.TypeIs o T∧wpAny (model prog w) A (getItem o i) Q E s₂) E s₁) E s):
  wpAny (model prog w) A (eval (.Subscript value slice pos) env) Q E s:=by
 refine Subscript_ (wpAny_mono h (fun o s₁ h₁=>wpAny_mono h₁ (fun i s₂ h₂=> ?_) fun _ _ x=>x) fun _ _ x=>x)
 obtain ⟨hT,h₂⟩:=h₂
 unfold subscriptTail
 refine wpAny_bind ?_
 rw [getitemInPython_of_ne hT.not_modules]
 refine wpAny_bind (wpAny_specialOf hT hl ?_)
 have fin:wpAny (model prog w) A (subscripted slice false o i) (fun r s₃=>wpAny (model prog w) A (letTemporaryGo value o r >>= fun _=>pure r) Q E s₃) E s₂:=by
  rw [hs o i]
  exact wpAny_operating (wpAny_mono h₂ (fun r s₃ h₃=>wpAny_bind (wpAny_letTemporaryGo (wpAny_pure h₃))) fun _ _ x=>x)
 first
  | exact wpAny_pure (wpAny_bind fin)
  | exact wpAny_bind (wpAny_pure (wpAny_bind fin))
  | exact wpAny_bind fin
theorem nW{X:Cx}{pins:List (Addr×Obj)}{σ:St}{H:Hp}{s:Shared}{a:Addr}{y:V}{o:Option V}(I:Inv X pins σ H s)(g:wb H a y o):s.TypeIs (.ref a) "dict":=by
 rcases g with ⟨kvs,k,e,_,_⟩ | ⟨kvs,k,b,e,_,_,_⟩
 ·obtain ⟨_,_,vs,_,dd⟩:=fg I.hok e
  exact dd.typeIs
 ·obtain ⟨_,_,xs,_,dd⟩:=qm I.hok e
  exact dd.typeIs
def BX(td ty:TE):TE:=fun σ H Q=>td σ H fun x H1=>ty σ H1 fun y H2=>∃a v,x= .ref a∧wb H2 a y (some v)∧Q v H2
def B7(td ty tv:TE):TS:=fun D σ H=>tv σ H fun v H1=>td σ H1 fun x H2=>ty σ H2 fun y H3=>∃a H4,x= .ref a∧Bv H3 a y v H4∧D.nx σ H4
section
variable{X:Cx}{o i e value:Expr}{pos pos' tpos:Pos}{td ty tv:TE}
theorem xT(hu:X.A.units+1 < cLine)(ho:PE X o td)(hi:PE X i ty)(hs:DL i):PE X (.Subscript o i pos) (BX td ty):=by
 intro pins s σ H Q I h
 refine xp PySem.F.slot_dict_getitem.lookup hs (thn (ho pins s σ H _ I h) fun u s1 ⟨x,H1,I1,rx,q1⟩=>thn (hi pins s1 σ H1 _ I1 q1) fun iv s2 ⟨y,H2,I2,ry,a,v,ex,g,q2⟩=> ?_)
 subst ex
 obtain rfl:u=Value.ref a:=rx
 exact ⟨nW I2 g,tT hu I2 g ry fun w' s3 I3 rw'=>⟨v,H2,I3,rw',q2⟩⟩
theorem xM(hu:X.A.units+1 < cLine)(ho:PE X o td)(hi:PE X i ty)(hv:PE X value tv)(hs:swapsWith value (some (.Subscript o i pos')) pos.line X.env=pure false):
  PS X (.Assign [.Subscript o i pos'] value pos) (B7 td ty tv):=by
 intro pins s σ H D I h
 refine wpAny_Assign_Subscript (thn (hv pins s σ H _ I h) fun r s1 ⟨v,H1,I1,rv,q1⟩=>thn (ho pins s1 σ H1 _ I1 q1) fun u s2 ⟨x,H2,I2,rx,q2⟩=>thn (hi pins s2 σ H2 _ I2 q2) fun iv s3 ⟨y,H3,I3,ry,a,H4,ex,g,q3⟩=> ?_) hs
 subst ex
 obtain rfl:u=Value.ref a:=rx
 exact tS hu I3 g ry rv fun s4 I4=>⟨σ,H4,I4,q3⟩
end
theorem pB{P:Program}{w:World}{H:Hp}(h:Heap)(hb:sysModules < h.objs.size):ba P w H (h.push {cls:= .type "dict",data:= .dict #[]}) h.objs.size (.dK []):=
 ⟨Nat.zero_le _,beq_eq_false_iff_ne.mpr (Ne.symm (Nat.ne_of_lt hb)),[], .nil,Heap.DictOf.new h⟩
def zq:TE:=fun _ H Q=>∀p,H p=none→Q (.ref p) (upd H p (.dK []))
section
variable{X:Cx}{pos:Pos}
theorem u3:PE X (.Dict [] [] pos) zq:=fun pins s σ H Q I h=>
 wpAny_Dict_empty ⟨.ref s.heap.objs.size,_,I.laid (a:=s.heap.objs.size) (o:= .dK []) (t':=s.toks) (fun _ _ q=>Heap.get?_push_of_some _ q) (Nat.le_refl _) (pB s.heap I.big),rfl,h _ (I.hok.fresh (Nat.le_refl _))⟩
end
def qL:List (TE×TE)→St→Hp→(List (V×V)→Hp→Prop)→Prop
 | [],_,H,Q=>Q [] H
 | (tk,tv)::r,σ,H,Q=>tk σ H fun x H1=>tv σ H1 fun y H2=>qL r σ H2 fun ps H3=>Q ((x,y)::ps) H3
abbrev VV:List (V×V)→List (Value×Value)→Prop:=Paired fun p q=>bh p.1 q.1∧bh p.2 q.2
def PPs(X:Cx)(pos:Pos)(keys:List (Option Expr))(values:List Expr)(trs:List (TE×TE)):Prop:=
 ∀(pins:List (Addr×Obj)) (s:Shared) (σ:St) (H:Hp) (Q:List (V×V)→Hp→Prop),Inv X pins σ H s→qL trs σ H Q→
  wpAny (model X.prog X.w) X.A (evalPairs (pairTrees keys values X.env pos)) (fun vs s'=>∃ps H',Inv X pins σ H' s'∧VV ps vs∧Q ps H') X.xe s
theorem xP{X:Cx}{pos:Pos}:PPs X pos [] [] []:=fun pins s σ H Q I h=>pairTrees_nil_walk ⟨[],H,I, .nil,h⟩
theorem oN{X:Cx}{pos:Pos}{k v:Expr}{ks:List (Option Expr)}{vs:List Expr}{tk tv:TE}{trs:List (TE×TE)}(hk:PE X k tk)(hv:PE X v tv)(hr:PPs X pos ks vs trs):
  PPs X pos (some k::ks) (v::vs) ((tk,tv)::trs):=fun pins s σ H Q I h=>
 pairTrees_cons_walk (thn (hk pins s σ H _ I h) fun u s1 ⟨x,H1,I1,rx,q1⟩=>thn (hv pins s1 σ H1 _ I1 q1) fun w2 s2 ⟨y,H2,I2,ry,q2⟩=>
  thn (hr pins s2 σ H2 _ I2 q2) fun ws s3 ⟨ps,H3,I3,rel,q3⟩=>⟨(x,y)::ps,H3,I3, .cons ⟨rx,ry⟩ rel,q3⟩)
def ir(kvs more:List (Key×V)):List (Key×V):=more.foldl (fun acc kv=>jr acc kv.1 kv.2) kvs
theorem KV.merge:∀{more:List (Key×V)} {rs:List (Key×Value)} {kvs:List (Key×V)} {vs:List (Key×Value)},KV more rs→KV kvs vs→KV (ir kvs more) (merged vs rs):=by
 intro more rs kvs vs r
 unfold KV at r
 induction r generalizing kvs vs with
 | nil=>intro q;exact q
 | @cons p q ps qs h t ih=>
  intro r0
  have e:KV (jr kvs p.1 p.2) (stored vs q.1 q.2):=by
   have:=r0.put p.1 h.2
   rw [←h.1];exact this
  exact ih e
theorem fQ:∀(more kvs:List (Key×V)),(ir kvs more).length≤kvs.length+more.length
 | [],kvs=>by show kvs.length≤kvs.length+0;omega
 | p::r,kvs=>by
  have h1:=fQ r (jr kvs p.1 p.2)
  have h2:=fD kvs p.1 p.2
  show (ir (jr kvs p.1 p.2) r).length≤_
  rw [List.length_cons];omega
theorem jD{P:Program}{w:World}:∀{kvs:List (Key×V)} {ws:List (Value×Value)},VV (kvs.map fun kv=>(kV kv.1,kv.2)) ws→∃rs,Carries (bx P w) ws rs∧KV kvs rs
 | [],_,r=>by rw [List.map_nil] at r;cases r;exact ⟨[],True.intro, .nil⟩
 | p::kvs,_,r=>by
  rw [List.map_cons] at r
  cases r with
  | @cons a b as bs h t=>
   obtain ⟨rs,c,q⟩:=jD (P:=P) (w:=w) t
   obtain ⟨b1,b2⟩:=b
   exact ⟨(p.1,b2)::rs,⟨lM h.1,rfl,c⟩, .cons ⟨rfl,h.2⟩ q⟩
def BW(trs:List (TE×TE)):TE:=fun σ H Q=>∀p,H p=none→qL trs σ (upd H p (.dK [])) fun ps H2=>H2 p=some (.dK [])∧∃kvs:List (Key×V),ps=kvs.map (fun kv=>(kV kv.1,kv.2))∧kvs.length≤15∧Q (.ref p) (upd H2 p (.dK (ir [] kvs)))
theorem xS{X:Cx}{pos:Pos}{keys:List (Option Expr)}{values:List Expr}{trs:List (TE×TE)}(h:PPs X pos keys values trs)(hall:keys.all (·.isSome)=true)(hl:keys.length=values.length)(h0:keys≠[])
  (h15:keys.length≤15):PE X (.Dict keys values pos) (BW trs):=by
 intro pins s σ H Q I q
 have hn:=I.hok.fresh (Nat.le_refl s.heap.objs.size)
 have I1:=I.laid (a:=s.heap.objs.size) (o:= .dK []) (h':=s.heap.push {cls:= .type "dict",data:= .dict #[]}) (t':=s.toks) (fun _ _ q=>Heap.get?_push_of_some _ q) (Nat.le_refl _) (pB s.heap I.big)
 refine wpAny_Dict_walk (knd:=bx X.prog X.w) hall hl h0 h15 (thn (h pins _ σ _ _ I1 (q _ hn)) fun ws s2 ⟨ps,H2,I2,rel,e,kvs,ep,lk,q2⟩=> ?_)
 subst ep
 obtain ⟨rs,c,rk⟩:=jD (P:=X.prog) (w:=X.w) rel
 obtain ⟨z,hd,vs0,r0,dd⟩:=vI I2.hok e
 cases r0
 refine ⟨rs,c,dd,fun h' dd' hs=>⟨.ref s.heap.objs.size,_, ?_,rfl,q2⟩⟩
 have hz:(ir [] kvs).length≤sizeLine:=by
  have h1:=fQ kvs []
  rw [List.length_nil] at h1
  rw [sizeLine_eq];omega
 have he:∃q,h'.get? s.heap.objs.size=some q:=let ⟨q,_,_,hq,_⟩:=dd';⟨q,hq⟩
 exact kr I2 (by rw [e];exact True.intro) hs he (pA hz hd (rk.merge .nil) dd')
structure M2(X:Cx)(o:Expr)(m:Str)(apos:Pos)(e f:Expr)(cpos:Pos):Prop where
 base:attributeBase o m X.env (eval o X.env)=eval o X.env
 few:((backTo cpos (starEach [e,f] X.env)).all (fun x=> !x.1)&&(backToKw cpos (keywordEach [] X.env)).all (fun x=>x.1.isSome)
  &&decide (([e,f]:List Expr).length+([]:List Keyword).length+(if ([]:List Keyword).isEmpty then 0 else 1) < 30))=true
 line:(apos.endLine==cpos.line)=true
 trees:backTo cpos (starEach [e,f] X.env)=[(false,eval e X.env),(false,eval f X.env)]
def IsD(H:Hp)(a:Addr):Prop:=(∃kvs,Rd H a (.dK kvs))∨∃kvs,Rd H a (.dT kvs)
theorem A0{X:Cx}{pins:List (Addr×Obj)}{σ:St}{H:Hp}{s:Shared}{a:Addr}(I:Inv X pins σ H s)(d:IsD H a):
  s.TypeIs (.ref a) "dict"∧(∀b,Value.ref a= .ref b→∃ob,s.heap.get? b=some ob∧ob.dict=none)∧(a==sysModules)=false:=by
 rcases d with ⟨kvs,e⟩ | ⟨kvs,e⟩
 ·obtain ⟨_,hd,vs,_,dd⟩:=fg I.hok e
  refine ⟨dd.typeIs,fun b q=> ?_,hd⟩
  cases q
  obtain ⟨ob,_,_,h1,h2,_⟩:=dd
  exact ⟨ob,h1,h2.2.1⟩
 ·obtain ⟨_,hd,xs,_,dd⟩:=qm I.hok e
  refine ⟨dd.typeIs,fun b q=> ?_,hd⟩
  cases q
  obtain ⟨ob,_,_,h1,h2,_⟩:=dd
  exact ⟨ob,h1,h2.2.1⟩
section
variable{X:Cx}{pins:List (Addr×Obj)}{σ:St}{H:Hp}{s:Shared}{a:Addr}{y d:V}{u r:Value}{o:Option V}{A:Around}{E:Value→Shared→Prop}
end
def zp(td ty tx:TE):TE:=fun σ H Q=>td σ H fun x H1=>∃a,x= .ref a∧IsD H1 a∧ty σ H1 fun y H2=>tx σ H2 fun z H3=>∃kvs k,H3 a=some (.dK kvs)∧y=kV k∧
 (∀v,fL kvs k=some v→Q v (upd H3 a (.dK (gO kvs k))))∧(fL kvs k=none→Q z H3)
section
variable{X:Cx}{o e f:Expr}{apos cpos:Pos}{td ty tx:TE}
theorem uZ(ho:PE X o td)(he:PE X e ty)(hf:PE X f tx)(m:M2 X o "pop" apos e f cpos):PE X (.Call (.Attribute o "pop" apos) [e,f] [] cpos) (zp td ty tx):=by
 intro pins s σ H Q I h
 refine wpAny_Call_method m.base m.few m.line PySem.F.plainAttrs_dict PySem.F.slot_dict_pop PySem.F.type_dict_pop (thn (ho pins s σ H _ I h) fun u s1 ⟨x,H1,I1,rx,a,ex,d,q1⟩=> ?_)
 subst ex
 obtain rfl:u=Value.ref a:=rx
 obtain ⟨t1,t2,_⟩:=A0 I1 d
 refine ⟨t1,t2, ?_⟩
 rw [m.trees]
 refine Calls.callWith_builtin rfl (Calls.evalArgs_plain (Calls.spliced_cons (thn (he pins s1 σ H1 _ I1 q1) fun iv s2 ⟨y,H2,I2,ry,q2⟩=>
  Calls.spliced_cons (thn (hf pins s2 σ H2 _ I2 q2) fun fv s3 ⟨z,H3,I3,rz,kvs,k,ea,ey,q3,q4⟩=>Calls.spliced_nil ?_))))
 subst ey
 cases l:fL kvs k with
 | some v=>exact Dv I3 ea ry l (.inr ⟨fv,rfl⟩) fun w' s4 I4 rw'=>⟨v,_,I4,rw',q3 v l⟩
 | none=>exact Bi I3 ea ry l fun s4 I4=>⟨z,H3,I4,rz,q4 l⟩
end
section
variable{X:Cx}{pins:List (Addr×Obj)}{σ:St}{H:Hp}{s:Shared}{a:Addr}{kvs:List (Key×V)}{A:Around}{E:Value→Shared→Prop}
theorem vL{Q:Value→Shared→Prop}(I:Inv X pins σ H s)(e:Rd H a (.dK kvs))(h:∀p s',H p=none→Inv X pins σ (upd H p (.dK kvs)) s'→Q (.ref p) s'):wpAny (model X.prog X.w) A (call (.type "dict") [.ref a]) Q E s:=by
 obtain ⟨z,hd,vs,rel,dd⟩:=fg I.hok e
 refine kt_call_dict hd dd (by rw [←rel.length];exact z) fun h' dd' hs=> ?_
 refine h _ _ (I.hok.fresh (Nat.le_refl _)) (I.laid (a:=s.heap.objs.size) (o:= .dK kvs) (t':=s.toks) (fun b q hq=> ?_) (Nat.le_refl _) (pA z (beq_eq_false_iff_ne.mpr (Ne.symm (Nat.ne_of_lt I.big))) rel dd'))
 exact (hs.2 b (Nat.ne_of_lt (Heap.lt_size hq))).trans (Heap.get?_push_of_some _ hq)
end
section
variable{X:Cx}{pins:List (Addr×Obj)}{σ:St}{H:Hp}{s:Shared}{a:Addr}{y:V}{u:Value}{A:Around}{E:Value→Shared→Prop}
end
end L2
namespace Att
open PySem PySem.W PySem.Calls PyProof.Rows
section
variable{prog:Program}{w:World}{A:Around}{E:Value→Shared→Prop}{s:Shared}{K:Frag}
end
end Att
namespace L2
open PySem PySem.Spec PyProof.Rows
end L2
namespace L2
open PySem PySem.Spec PyProof.Rows
end L2
/- THE LAST THEOREM (shape;LID,My.* are yours):
  My.Adr:a structure of the addresses that your layer names (classes,functions);My.Txt K t:a structure (Prop) of the equations over K;
  My.txt_mk:{K} {implicit addresses ..} (e1:nsIn K mainGlobals "law"=some (some (.ref f))) (e2:K.lookup f=some ⟨oc,od, .func (fnOf "law" "law" params body scope dV kV doc pm an cdv ct),sl⟩) (e3:codeIn K cdv "law"=true) .. :∃t,My.Txt K t
set_option maxRecDepth 100000 in
set_option maxHeartbeats 0 in
theorem PySem.Challenge.cw_LID_holds : PySem.Challenge.rw_LID.Holds := by
 w_on;o_law;k_head;(case hw=>w_witness2)
 k_fill
 refine L2.mL (l:=PySem.Challenge.rw_LID) (n:=63) (k:=40) (x:="script") (CX:=fun w=> ..) (sp:=fun _=>My.sp_law) rfl (by decide) rfl ⟨rfl,by decide,by decide⟩ (fun w h Y=>PySem.W.kIn_of Y) ?F ?S ?C
 case F=>
  intro w mg fa h KX G hmg
  have T:∃t,My.Txt (L2.KOf KX) t:=by
   dsimp only [L2.KOf] -- K must stand as «<heap const> w.params» for k_is
   refine' My.txt_mk ?e1 ?e2 ?e3 ..
   (case e1=>PySem.W.k_is) -- in the order:a name->its address->its object->its parts
   (case e2=>PySem.W.k_is)
   ..
  obtain ⟨t,T⟩:=T
  have e0:=hmg.symm.trans (PySem.W.mg_of KX G T.law)
  cases e0 -- fa is the law's own address
  exact ⟨_,fun s u=> .of_eq rfl,fun base kb nb=>My.law_fn T kb nb⟩ -- if «.of_eq rfl» comes too early:refine' ⟨_, ?b,fun base kb nb=>My.law_fn T kb nb⟩;exact fun s u=> .of_eq rfl
 case S=>exact fun w H a ns hl hO hS=> ..
 case C=>exact ..
(the tactic k_is has no namespace:write k_is) -/
namespace L2
open PySem PySem.Spec PyProof.Rows
section
variable{P:Program}{w:World}{K:PySem.W.Frag}{mg:Str→Option Value}{base:Heap}
end
section
variable{X:Cx}
end
section
variable{κ:Type} [DecidableEq κ]
theorem tN{p:κ×V}{r:List (κ×V)}{k:κ}(e:p.1=k):gO (p::r) k=gO r k:=by
 unfold gO
 rw [List.filter_cons,if_neg (by simp [e])]
theorem tO{p:κ×V}{r:List (κ×V)}{k:κ}(e:¬p.1=k):gO (p::r) k=p::gO r k:=by
 unfold gO
 rw [List.filter_cons,if_pos (by simp [e])]
end
end L2
set_option maxRecDepth 100000
set_option maxHeartbeats 4000000
namespace L2
open PySem PySem.Spec PyProof.Rows
def y8:Dt→Option Key
 | .int i=>some (.inl i)
 | .str z=>some (.inr z)
 | _=>none
def aT(ks:List Key)(ds:List Dt)(k:Key):Option Dt:=((ks.zip ds).find? fun p=>decide (p.1=k)).map (·.2)
theorem iz{K:PySem.W.Frag}{G:Hp}{L:List Addr}{d:Dt}{v:V}{k:Key}(h:y8 d=some k)(n:Den K G L d v):v=kV k:=by
 cases d with
 | int i=>cases h;exact n
 | str z=>cases h;exact n
 | _=>cases h
theorem mj{K:PySem.W.Frag}{G:Hp}{L:List Addr}{k:Key}:∀{ks:List Key} {ds:List Dt} {vs:List V} {d:Dt},aJ K G L ds vs→aT ks ds k=some d→∃v,fL (ks.zip vs) k=some v∧Den K G L d v
 | [],_,_,_,_,h=>by cases h
 | _::_,[],_,_,_,h=>by cases h
 | c::ks,d0::ds,_,d,⟨v0,vs,e,n0,n⟩,h=>by
  subst e
  rw [List.zip_cons_cons]
  by_cases hc:c=k
  ·have h':aT (c::ks) (d0::ds) k=some d0:=by unfold aT;rw [List.zip_cons_cons,List.find?_cons_of_pos (by simpa using hc)];rfl
   rw [h'] at h;cases h
   exact ⟨v0,bT hc,n0⟩
  ·have h':aT (c::ks) (d0::ds) k=aT ks ds k:=by unfold aT;rw [List.zip_cons_cons,List.find?_cons_of_neg (by simpa using hc)]
   rw [h'] at h
   obtain ⟨v,h1,h2⟩:=mj n h
   exact ⟨v,by rw [bU hc];exact h1,h2⟩
def vM(to ti:DE):DE:=fun ρ M q x=>to ρ M (fun d M1=>ti ρ M1 (fun di M2=>∃k ks ds key v,d= .loc k∧M2[k]? =some (.dct ks ds)∧y8 di=some key∧aT ks ds key=some v∧q v M2) x) x
theorem lG:∀(more acc:List (Key×V)),(∀p∈more,fL acc p.1=none)→(more.map (·.1)).Nodup→ir acc more=acc++more
 | [],acc,_,_=>by show acc=acc++[];rw [List.append_nil]
 | p::more,acc,h,nd=>by
  show ir (jr acc p.1 p.2) more=_
  rw [uS p.2 (h p List.mem_cons_self),lG more _ (fun q hq=> ?_) (List.nodup_cons.mp nd).2]
  ·simp
  ·have e:=kI p.1 q.1 p.2 acc (h p List.mem_cons_self)
   rw [show (acc++[(p.1,p.2)])=acc++[(p.1,p.2)] from rfl,e,if_neg]
   ·exact h q (List.mem_cons_of_mem _ hq)
   ·intro z
    exact (List.nodup_cons.mp nd).1 (List.mem_map.mpr ⟨q,hq,z⟩)
def tCs(z:Str):TE:=fun _ H Q=>Q (.str z) H
theorem pcs{X:Cx}{z:Str}{k:Nat}{pos:Pos}:PE X (.Constant (.str z) k pos) (tCs z):=wz
section
variable{X:Cx}{R:St→XK}{o i e:Expr}{to ti te:DE}{pos p:Pos}{k':Nat}
theorem cW(hr:cT k' X.A)(ho:JE X R o to)(hi:JE X R i ti)(hs:DL i:=by intro _ _;rfl):JE X R (.Subscript o i pos) (vM to ti):=
 .of (xT (sP hr) ho hi hs) fun σ H G L ρ M q x rl n h hx=>by
  refine ⟨G,L,ρ,M,_,x,rl,n,h,hx,fun v H1 ⟨d1,G1,L1,M1,e1,r1,n1,h1⟩=> ?_⟩
  refine ⟨G1,L1,ρ,M1,_,x,r1,n.mono e1,h1,hx.on e1,fun v2 H2 ⟨d2,G2,L2,M2,e2,r2,n2,k,ks,ds,key,y,ed,hm,hk,hg,h2⟩=> ?_⟩
  subst ed
  obtain ⟨a,rfl,hk1⟩:=n1
  have hk2:=e2.l.get hk1
  obtain ⟨_,vs,hH,hl,dn⟩:=r2.ats k a _ hk2 hm
  obtain ⟨u,hu,du⟩:=mj dn hg
  refine ⟨a,u,rfl, .inl ⟨_,key, .inl hH,iz hk n2,hu.symm⟩,aL (e1.trans e2) r2 du h2⟩
end
section
variable{X:Cx}{R:St→XK}{i:Expr}{pos p:Pos}{x:Str}{tab:List (Str×Str)}
end
end L2
set_option maxRecDepth 100000
set_option maxHeartbeats 4000000
namespace L2
open PySem PySem.Spec PyProof.Rows
inductive EqH(K:PySem.W.Frag)(H:Hp):Nat→V→V→Bool→Prop
 | flat {n:Nat} {x y:V} (h1:cY x=true) (h2:cY y=true):EqH K H n x y (eqV x y)
 | tup {n:Nat} {a b:Addr} {xs ys:List V} {f:Nat→Bool} (h1:SqT K H a xs) (h2:SqT K H b ys) (h:∀j x y,xs[j]? =some x→ys[j]? =some y→EqH K H n x y (f j)):EqH K H (n+1) (.ref a) (.ref b) ((List.range (min xs.length ys.length)).all f&&xs.length==ys.length)
 | lst {n:Nat} {a b:Addr} {xs ys:List V} {f:Nat→Bool} (h1:SqL K H a xs) (h2:SqL K H b ys) (hl:xs.length=ys.length) (h:∀j x y,xs[j]? =some x→ys[j]? =some y→EqH K H n x y (f j)):EqH K H (n+1) (.ref a) (.ref b) ((List.range xs.length).all f)
 | len {n:Nat} {a b:Addr} {xs ys:List V} (h1:SqL K H a xs) (h2:SqL K H b ys) (hl:xs.length≠ys.length):EqH K H (n+1) (.ref a) (.ref b) false
theorem pj{x:V}(h:cY x=true):eqV x x=true:=by
 cases x <;> first | rfl | (show (_==_)=true;simp) | cases h
section
variable{X:Cx}{pins:List (Addr×Obj)}{σ:St}{H:Hp}{s:Shared}
theorem pq(I:Inv X pins σ H s){n:Nat}{x y:V}{b:Bool}(h:EqH X.K H n x y b):x=y→b=true:=by
 induction h with
 | flat h1 h2=>intro e;subst e;exact pj h1
 | @tup n a b xs ys f h1 h2 h ih=>
  intro e
  cases e
  cases I.tuple_inj h1 h2
  rw [Nat.min_self,beq_self_eq_true,Bool.and_true]
  refine List.all_eq_true.mpr fun j hj=> ?_
  have hj:=List.mem_range.mp hj
  exact ih j _ _ (List.getElem?_eq_getElem hj) (List.getElem?_eq_getElem hj) rfl
 | @lst n a b xs ys f h1 h2 hl h ih=>
  intro e
  cases e
  cases I.list_inj h1 h2
  refine List.all_eq_true.mpr fun j hj=> ?_
  have hj:=List.mem_range.mp hj
  exact ih j _ _ (List.getElem?_eq_getElem hj) (List.getElem?_eq_getElem hj) rfl
 | len h1 h2 hl=>
  intro e
  cases e
  cases I.list_inj h1 h2
  exact absurd rfl hl
theorem bH{xs:List V}{its:List Value}(r:bz xs its){j:Nat}(h:j < its.toArray.size):∃x,xs[j]? =some x∧bh x its.toArray[j]:=by
 have hj:j < its.length:=by simpa using h
 have hx:j < xs.length:=by rw [r.length];exact hj
 obtain ⟨u,g,ru⟩:=r.get (List.getElem?_eq_getElem hx)
 rw [List.getElem?_eq_getElem hj] at g
 cases g
 exact ⟨_,List.getElem?_eq_getElem hx,by simpa using ru⟩
theorem pv(I:Inv X pins σ H s){n:Nat}{x y:V}{b:Bool}(h:EqH X.K H n x y b):∀{A:Around} {u v:Value},bh x u→bh y v→A.units+n < cLine→SeqAt.EqAt A s u v b:=by
 induction h with
 | flat h1 h2=>exact fun ru rv _=>lZ ru rv h1 h2
 | @tup n a b xs ys f h1 h2 h ih=>
  intro A u v ru rv hu
  cases ru
  cases rv
  by_cases e:a=b
  ·have:=pq I (.tup h1 h2 h) (congrArg V.ref e)
   rw [this,e]
   exact SeqAt.EqAt.same _
  ·obtain ⟨i1,v1,t1,_⟩:=I.tuple h1
   obtain ⟨i2,v2,t2,_⟩:=I.tuple h2
   have:=SeqAt.RcAt.tuples (A:=A) (e:=f) (show s.heap.IsTuple a i1.toArray from t1) (show s.heap.IsTuple b i2.toArray from t2) (by omega) (fun j g1 g2=>by
    obtain ⟨x,hx,rx⟩:=bH v1 g1
    obtain ⟨y,hy,ry⟩:=bH v2 g2
    exact ih j x y hx hy rx ry (by show A.units+1+n < cLine;omega))
   rw [List.size_toArray,List.size_toArray,←v1.length,←v2.length] at this
   exact SeqAt.EqAt.of_refs e this
 | @lst n a b xs ys f h1 h2 hl h ih=>
  intro A u v ru rv hu
  cases ru
  cases rv
  by_cases e:a=b
  ·have:=pq I (.lst h1 h2 hl h) (congrArg V.ref e)
   rw [this,e]
   exact SeqAt.EqAt.same _
  ·obtain ⟨i1,v1,t1,_⟩:=I.list h1
   obtain ⟨i2,v2,t2,_⟩:=I.list h2
   have:=SeqAt.RcAt.lists (A:=A) (e:=f) t1.isList t2.isList (by rw [List.size_toArray,List.size_toArray,←v1.length,←v2.length];exact hl) (by omega) (fun j g1 g2=>by
    obtain ⟨x,hx,rx⟩:=bH v1 g1
    obtain ⟨y,hy,ry⟩:=bH v2 g2
    exact ih j x y hx hy rx ry (by show A.units+1+n < cLine;omega))
   rw [List.size_toArray,←v1.length] at this
   exact SeqAt.EqAt.of_refs e this
 | @len n a b xs ys h1 h2 hl=>
  intro A u v ru rv hu
  cases ru
  cases rv
  have e:a≠b:=fun e=>by
   subst e
   cases I.list_inj h1 h2
   exact hl rfl
  obtain ⟨i1,v1,t1,_⟩:=I.list h1
  obtain ⟨i2,v2,t2,_⟩:=I.list h2
  exact SeqAt.EqAt.of_refs e (SeqAt.RcAt.lists_lengths t1.isList t2.isList (by rw [List.size_toArray,List.size_toArray,←v1.length,←v2.length];simpa using hl) (by omega))
end
def D8(K:PySem.W.Frag)(n:Nat):R2:=fun x y H Q=>∃a b c,x= .ref a∧y= .ref b∧EqH K H n x y c∧Q (.bl c) H
def D3(K:PySem.W.Frag)(n:Nat):R2:=fun x y H Q=>∃a b c,x= .ref a∧y= .ref b∧EqH K H n x y c∧Q (.bl (!c)) H
section
variable{X:Cx}
theorem Ae{n:Nat}(hu:X.A.units+n < cLine):OpR X (compareOp .Eq) (D8 X.K n):=by
 intro pins s σ H x y v u Q I rx ry h
 obtain ⟨a,b,c,rfl,rfl,h,q⟩:=h
 cases rx
 cases ry
 cases h with
 | flat h1 h2=>cases h1
 | @tup n _ _ xs ys f h1 h2 h=>
  obtain ⟨i1,v1,t1,_⟩:=I.tuple h1
  obtain ⟨i2,v2,t2,_⟩:=I.tuple h2
  refine SeqAt.eq_tupleAt (e:=f) (show s.heap.IsTuple a i1.toArray from t1) (show s.heap.IsTuple b i2.toArray from t2) (by omega) (fun j g1 g2=> ?_) ?_
  ·obtain ⟨x,hx,rx⟩:=bH v1 g1
   obtain ⟨y,hy,ry⟩:=bH v2 g2
   exact pv I (h j x y hx hy) rx ry (by show X.A.units+1+n < cLine;omega)
  ·rw [List.size_toArray,List.size_toArray,←v1.length,←v2.length]
   exact ⟨.bl _,H,I,rfl,q⟩
 | @lst n _ _ xs ys f h1 h2 hl h=>
  obtain ⟨i1,v1,t1,_⟩:=I.list h1
  obtain ⟨i2,v2,t2,_⟩:=I.list h2
  refine SeqAt.eq_listAt (e:=f) t1.isList t2.isList (by rw [List.size_toArray,List.size_toArray,←v1.length,←v2.length];exact hl) (by omega) (fun j g1 g2=> ?_) ?_
  ·obtain ⟨x,hx,rx⟩:=bH v1 g1
   obtain ⟨y,hy,ry⟩:=bH v2 g2
   exact pv I (h j x y hx hy) rx ry (by show X.A.units+1+n < cLine;omega)
  ·rw [List.size_toArray,←v1.length]
   exact ⟨.bl _,H,I,rfl,q⟩
 | @len n _ _ xs ys h1 h2 hl=>
  obtain ⟨i1,v1,t1,_⟩:=I.list h1
  obtain ⟨i2,v2,t2,_⟩:=I.list h2
  exact SeqAt.eq_list_lengthsAt t1.isList t2.isList (by rw [List.size_toArray,List.size_toArray,←v1.length,←v2.length];simpa using hl) (by omega) ⟨.bl _,H,I,rfl,q⟩
theorem z7{n:Nat}(hu:X.A.units+n < cLine):OpR X (compareOp .NotEq) (D3 X.K n):=by
 intro pins s σ H x y v u Q I rx ry h
 obtain ⟨a,b,c,rfl,rfl,h,q⟩:=h
 cases rx
 cases ry
 cases h with
 | flat h1 h2=>cases h1
 | @tup n _ _ xs ys f h1 h2 h=>
  obtain ⟨i1,v1,t1,_⟩:=I.tuple h1
  obtain ⟨i2,v2,t2,_⟩:=I.tuple h2
  refine SeqAt.RcNeAt.tuples (e:=f) (show s.heap.IsTuple a i1.toArray from t1) (show s.heap.IsTuple b i2.toArray from t2) (by omega) (fun j g1 g2=> ?_) _ _ _ _ ?_
  ·obtain ⟨x,hx,rx⟩:=bH v1 g1
   obtain ⟨y,hy,ry⟩:=bH v2 g2
   exact pv I (h j x y hx hy) rx ry (by show X.A.units+1+n < cLine;omega)
  ·rw [List.size_toArray,List.size_toArray,←v1.length,←v2.length]
   exact ⟨.bl _,H,I,rfl,q⟩
 | @lst n _ _ xs ys f h1 h2 hl h=>
  obtain ⟨i1,v1,t1,_⟩:=I.list h1
  obtain ⟨i2,v2,t2,_⟩:=I.list h2
  refine SeqAt.RcNeAt.lists (e:=f) t1.isList t2.isList (by rw [List.size_toArray,List.size_toArray,←v1.length,←v2.length];exact hl) (by omega) (fun j g1 g2=> ?_) _ _ _ _ ?_
  ·obtain ⟨x,hx,rx⟩:=bH v1 g1
   obtain ⟨y,hy,ry⟩:=bH v2 g2
   exact pv I (h j x y hx hy) rx ry (by show X.A.units+1+n < cLine;omega)
  ·rw [List.size_toArray,←v1.length]
   exact ⟨.bl _,H,I,rfl,q⟩
 | @len n _ _ xs ys h1 h2 hl=>
  obtain ⟨i1,v1,t1,_⟩:=I.list h1
  obtain ⟨i2,v2,t2,_⟩:=I.list h2
  exact SeqAt.RcNeAt.lists_lengths t1.isList t2.isList (by rw [List.size_toArray,List.size_toArray,←v1.length,←v2.length];simpa using hl) (by omega) _ _ _ _ ⟨.bl _,H,I,rfl,q⟩
end
def uv(M:Ms):Dt→Option (List Dt)
 | .lst xs=>some xs
 | .scr ns=>some (ns.map .int)
 | .loc k=>match M[k]? with
  | some (.lst xs)=>some xs
  | _=>none
 | _=>none
inductive EqM(M:Ms):Nat→Dt→Dt→Bool→Prop
 | flat {n:Nat} {d e:Dt} {x y:V} (h1:nR d=some x) (h2:nR e=some y):EqM M n d e (eqV x y)
 | tup {n:Nat} {ds es:List Dt} {f:Nat→Bool} (h:∀j d e,ds[j]? =some d→es[j]? =some e→EqM M n d e (f j)):EqM M (n+1) (.tup ds) (.tup es) ((List.range (min ds.length es.length)).all f&&ds.length==es.length)
 | lst {n:Nat} {d e:Dt} {ds es:List Dt} {f:Nat→Bool} (h1:uv M d=some ds) (h2:uv M e=some es) (hl:ds.length=es.length) (h:∀j d e,ds[j]? =some d→es[j]? =some e→EqM M n d e (f j)):EqM M (n+1) d e ((List.range ds.length).all f)
 | len {n:Nat} {d e:Dt} {ds es:List Dt} (h1:uv M d=some ds) (h2:uv M e=some es) (hl:ds.length≠es.length):EqM M (n+1) d e false
theorem gp{K:PySem.W.Frag}{G:Hp}{L:List Addr}{M:Ms}{H:Hp}{d:Dt}{v:V}{xs:List Dt}(r:Rl K G L M H)(n:Den K G L d v)(h:uv M d=some xs):∃a vs,v= .ref a∧SqL K H a vs∧aJ K G L xs vs:=by
 cases d with
 | lst ds=>cases h;obtain ⟨a,vs,rfl,e,m⟩:=n;exact ⟨a,vs,rfl, .of (r.sub _ _ e),m⟩
 | scr ns=>cases h;obtain ⟨a,rfl,e⟩:=n;exact ⟨a,_,rfl,r.sub.seq e,eM⟩
 | loc k=>
  obtain ⟨a,rfl,e⟩:=n
  have h:(match M[k]? with | some (.lst xs)=>some xs | _=>none)=some xs:=h
  split at h
  ·rename_i ys hm
   cases h
   obtain ⟨_,vs,e1,m1⟩:=r.ats k a _ e hm
   exact ⟨a,vs,rfl, .of e1,m1⟩
  ·cases h
 | _=>cases h
theorem aJ.back{K:PySem.W.Frag}{G:Hp}{L:List Addr}{ds:List Dt}{vs:List V}{i:Nat}{v:V}(h:aJ K G L ds vs)(e:vs[i]? =some v):∃d,ds[i]? =some d∧Den K G L d v:=by
 have hi:i < ds.length:=by rw [h.length];exact (List.getElem?_eq_some_iff.mp e).1
 obtain ⟨v',e',n⟩:=h.get (List.getElem?_eq_getElem hi)
 rw [e] at e'
 cases e'
 exact ⟨_,List.getElem?_eq_getElem hi,n⟩
theorem Ba{K:PySem.W.Frag}{G:Hp}{L:List Addr}{M:Ms}{H:Hp}(r:Rl K G L M H){n:Nat}{d e:Dt}{b:Bool}(h:EqM M n d e b):∀{v u:V},Den K G L d v→Den K G L e u→EqH K H n v u b:=by
 induction h with
 | flat h1 h2=>
  intro v u n1 n2
  obtain ⟨rfl,f1⟩:=fc h1 n1
  obtain ⟨rfl,f2⟩:=fc h2 n2
  exact .flat f1 f2
 | @tup n ds es f h ih=>
  intro v u n1 n2
  obtain ⟨a,vs,rfl,e1,m1⟩:=n1
  obtain ⟨b,us,rfl,e2,m2⟩:=n2
  rw [m1.length,m2.length]
  refine .tup (.of (r.sub _ _ e1)) (.of (r.sub _ _ e2)) fun j x y hx hy=> ?_
  obtain ⟨d,hd,dn⟩:=m1.back hx
  obtain ⟨e,he,en⟩:=m2.back hy
  exact ih j d e hd he dn en
 | @lst n d e ds es f h1 h2 hl h ih=>
  intro v u n1 n2
  obtain ⟨a,vs,rfl,s1,m1⟩:=gp r n1 h1
  obtain ⟨b,us,rfl,s2,m2⟩:=gp r n2 h2
  rw [m1.length]
  refine .lst s1 s2 (by rw [←m1.length,←m2.length];exact hl) fun j x y hx hy=> ?_
  obtain ⟨d,hd,dn⟩:=m1.back hx
  obtain ⟨e,he,en⟩:=m2.back hy
  exact ih j d e hd he dn en
 | @len n d e ds es h1 h2 hl=>
  intro v u n1 n2
  obtain ⟨a,vs,rfl,s1,m1⟩:=gp r n1 h1
  obtain ⟨b,us,rfl,s2,m2⟩:=gp r n2 h2
  exact .len s1 s2 (by rw [←m1.length,←m2.length];exact hl)
def Bu(M:Ms)(d:Dt):Prop:=(∃ds,d= .tup ds)∨∃xs,uv M d=some xs
theorem j4{K:PySem.W.Frag}{G:Hp}{L:List Addr}{M:Ms}{H:Hp}{d:Dt}{v:V}(r:Rl K G L M H)(n:Den K G L d v)(h:Bu M d):∃a,v= .ref a:=by
 rcases h with ⟨ds,rfl⟩ | ⟨xs,h⟩
 ·obtain ⟨a,vs,rfl,_⟩:=n;exact ⟨a,rfl⟩
 ·obtain ⟨a,vs,rfl,_⟩:=gp r n h;exact ⟨a,rfl⟩
def Es(n:Nat):Dt→Dt→Ms→DQ→Prop:=fun d e M q=>∃b,Bu M d∧Bu M e∧EqM M n d e b∧q (.bl b) M
def El(n:Nat):Dt→Dt→Ms→DQ→Prop:=fun d e M q=>∃b,Bu M d∧Bu M e∧EqM M n d e b∧q (.bl (!b)) M
theorem Fo{K:PySem.W.Frag}{n:Nat}:OpD K (D8 K n) (Es n):=by
 intro G0 L0 H0 G L M H v1 v2 d1 d2 q e r n1 n2 ⟨b,h1,h2,h,hq⟩
 obtain ⟨a,rfl⟩:=j4 r n1 h1
 obtain ⟨a',rfl⟩:=j4 r n2 h2
 exact ⟨a,a',b,rfl,rfl,Ba r h n1 n2,bF e r hq⟩
theorem E7{K:PySem.W.Frag}{n:Nat}:OpD K (D3 K n) (El n):=by
 intro G0 L0 H0 G L M H v1 v2 d1 d2 q e r n1 n2 ⟨b,h1,h2,h,hq⟩
 obtain ⟨a,rfl⟩:=j4 r n1 h1
 obtain ⟨a',rfl⟩:=j4 r n2 h2
 exact ⟨a,a',b,rfl,rfl,Ba r h n1 n2,bF e r hq⟩
section
variable{X:Cx}{R:St→XK}{a b e l u:Expr}{ta tb te tl tu:DE}{t:DA}{pos p p2:Pos}{k':Nat}
theorem C1{A:Around}{k n:Nat}(hr:cT k A)(hn:n≤64):A.units+n < cLine:=Nat.lt_of_le_of_lt (Nat.add_le_add_left hn _) hr.units
theorem AF(n:Nat)(hr:cT k' X.A)(ja:JE X R a ta)(jb:JE X R b tb)(hn:n≤64:=by decide)(hm:behindInMarks .Eq b=false:=by rfl):JT X R (.Compare a [.Eq] [b] pos) (jK (dOp (Es n) ta tb)):=dw (Ae (C1 hr hn)) Fo ja jb hm
theorem AB(n:Nat)(hr:cT k' X.A)(ja:JE X R a ta)(jb:JE X R b tb)(hn:n≤64:=by decide)(hm:behindInMarks .NotEq b=false:=by rfl):JT X R (.Compare a [.NotEq] [b] pos) (jK (dOp (El n) ta tb)):=dw (z7 (C1 hr hn)) E7 ja jb hm
end
end L2
set_option maxRecDepth 100000
set_option maxHeartbeats 4000000
set_option maxRecDepth 100000
namespace L2
open PySem PySem.SeqAt
def uz(prog:Program)(w:World)(A:Around)(s:Shared)(y x:Value)(b:Bool):Prop:=
 ∀(E:Value→Shared→Prop) (Q:Bool→Shared→Prop),Q b s→wpAny (model prog w) A (eqBool y x) Q E s
theorem rO{K:Type} [DecidableEq K]{prog:Program}{w:World}{knd:KeyKind prog w K}{es:List DictEntry}{kvs:List (K×Value)}(p:Pairs knd es kvs):∀{i:Nat} {e:DictEntry},es[i]? =some e→∃k,kvs[i]? =some (k,e.val)∧knd.is k e.key=true:=by
 induction p with
 | nil=>intro i e h;simp at h
 | @cons e0 kv es kvs h1 h2 _ ih=>
  intro i e h
  cases i with
  | zero=>
   have:e0=e:=by simpa using h
   subst this
   exact ⟨kv.1,by rw [h2];rfl,h1⟩
  | succ i=>exact ih (by simpa using h)
theorem tE{K:Type} [DecidableEq K]{prog:Program}{w:World}{knd:KeyKind prog w K}{es:Array DictEntry}{kvs:List (K×Value)}(p:Pairs knd es.toList kvs)(k:K):
  (valueAt kvs k=none∧(es.findIdx? fun e=>knd.is k e.key)=none)∨∃i e,valueAt kvs k=some e.val∧(es.findIdx? fun e=>knd.is k e.key)=some i∧es[i]? =some e:=by
 have hf:(es.find? fun e=>knd.is k e.key).map (·.val)=valueAt kvs k:=by
  rw [←Array.find?_toList];exact p.find k
 cases hi:es.findIdx? fun e=>knd.is k e.key with
 | none=>
  left
  refine ⟨?_,rfl⟩
  rw [←hf]
  have:(es.find? fun e=>knd.is k e.key)=none:=by
   rw [Array.find?_eq_none]
   rw [Array.findIdx?_eq_none_iff] at hi
   intro x hx
   simpa using hi x hx
  rw [this];rfl
 | some i=>
  right
  rw [Array.findIdx?_eq_some_iff_getElem] at hi
  obtain ⟨hlt,h1,h2⟩:=hi
  refine ⟨i,es[i], ?_,rfl,Array.getElem?_eq_getElem hlt⟩
  rw [←hf]
  have:(es.find? fun e=>knd.is k e.key)=some es[i]:=by
   rw [Array.find?_eq_some_iff_getElem]
   exact ⟨h1,i,hlt,rfl,fun j hj=>by simpa using h2 j hj⟩
  rw [this];rfl
theorem kT{K:Type} [DecidableEq K]{prog:Program}{w:World}{knd:KeyKind prog w K}{A:Around}{E:Value→Shared→Prop}{s:Shared}{id:String}{a b:Addr}{kvs kvs2:List (K×Value)}(ha:s.heap.DictOf knd a kvs)(hb:s.heap.DictOf knd b kvs2)(hda:(a==sysModules)=false)(hdb:(b==sysModules)=false)(hl:kvs.length=kvs2.length)
  {e:Nat→Bool} (he:∀j k v,kvs[j]? =some (k,v)→(valueAt kvs2 k=none∧e j=false)∨∃v',valueAt kvs2 k=some v'∧uz prog w A s v v' (e j)) {Q:Bool→Shared→Prop} (h:Q ((List.range kvs.length).all e) s):
  wpAny (model prog w) A (Builtin.Dict.samePairs id a b) Q E s:=by
 obtain ⟨o1,es1,ep1,g1,x1,d1,k1,p1,n1⟩:=ha
 obtain ⟨o2,es2,ep2,g2,x2,d2,k2,p2,n2⟩:=hb
 have sa:∀{c:Addr} {Q:Unit→Shared→Prop},(c==sysModules)=false→Q () s→wpAny (model prog w) A (Builtin.Dict.showsAll c) Q E s:=fun hc hq=>by
  unfold Builtin.Dict.showsAll
  rw [if_neg (by rw [hc];decide)]
  exact wpAny_pure hq
 unfold Builtin.Dict.samePairs
 refine wpAny_bind (sa hda (wpAny_bind (sa hdb (wpAny_bind (wpAny_dictEntries g1 d1 (wpAny_bind (wpAny_dictEntries g2 d2 ?_)))))))
 have z1:es1.size=kvs.length:=by rw [←p1.length];simp
 have z2:es2.size=kvs2.length:=by rw [←p2.length];simp
 rw [if_neg (by rw [z1,z2,hl];simp)]
 refine wpAny_bind (wpAny_dictEpoch g1 d1 ?_)
 refine wpAny_bind ?_
 rw [Std.Legacy.Range.forIn_eq_forIn_range']
 have sz:[:es1.size].size=es1.size:=by simp [Std.Legacy.Range.size]
 rw [sz]
 refine wpAny_forIn_list _ (fun rest b s'=>s'=s∧b.1=none∧∃i,rest=List.range' i (es1.size - i)∧i≤es1.size∧((List.range i).all e=true)) _ ?_ ?_ _ _ ⟨rfl,rfl,0,by simp,Nat.zero_le _,rfl⟩
 ·rintro x rest b s' ⟨rfl,hb,i,hr,hi,hall⟩
  have hlt:i < es1.size:=by
   rcases Nat.lt_or_ge i es1.size with h' | h'
   ·exact h'
   ·rw [Nat.sub_eq_zero_of_le h'] at hr;cases hr
  rw [show es1.size - i=(es1.size - (i+1))+1 by omega,List.range'_succ] at hr
  injection hr with hx hrest
  subst hx
  refine wpAny_bind (wpAny_dictEntries g1 d1 ?_)
  rw [Array.getElem?_eq_getElem hlt]
  dsimp only
  obtain ⟨k,hk1,hk2⟩:=rO p1 (i:=x) (e:=es1[x]) (by rw [Array.getElem?_toList,Array.getElem?_eq_getElem hlt])
  obtain ⟨k',hk3,hk4⟩:=k1 es1[x] (Array.getElem_mem hlt)
  obtain rfl:k=k':=knd.inj _ _ _ hk2 hk3
  rw [hk4]
  refine wpAny_bind (wpAny_mono (Q:=fun r s''=>s''=s'∧r=e x) (E:=E) ?_ (fun r s'' ⟨es,er⟩=> ?_) fun _ _ h'=>h')
  ·refine wpAny_holding (wpAny_bind (wpAny_dictFind_of hk2 g2 d2 k2 ?_))
   rcases he x k _ hk1 with ⟨h1,h2⟩ | ⟨v',h1,h2⟩
   ·rcases tE p2 k with ⟨_,q⟩ | ⟨j,f,q,_⟩
    ·rw [q]
     exact wpAny_pure ⟨rfl,h2.symm⟩
    ·rw [h1] at q;cases q
   ·rcases tE p2 k with ⟨q,_⟩ | ⟨j,f,q,q1,q2⟩
    ·rw [h1] at q;cases q
    ·rw [q1]
     dsimp only
     refine wpAny_bind (wpAny_dictEntries g2 d2 ?_)
     rw [q2]
     dsimp only
     rw [h1] at q
     obtain rfl:v'=f.val:=Option.some.inj q
     exact wpAny_holding (h2 _ _ ⟨rfl,rfl⟩)
  ·subst es er
   cases hex:e x with
   | false=>
    rw [if_pos (by rfl)]
    refine wpAny_pure (wpAny_pure ?_)
    have:(List.range kvs.length).all e=false:=by
     rw [List.all_eq_false]
     exact ⟨x,List.mem_range.mpr (by omega),by rw [hex];decide⟩
    rw [this] at h
    exact h
   | true=>
    rw [if_neg (by decide)]
    refine wpAny_bind (wpAny_dictEpoch g1 d1 ?_)
    rw [if_neg (by simp)]
    refine wpAny_pure ⟨rfl,rfl,x+1,hrest,by omega, ?_⟩
    rw [List.range_succ,List.all_append,hall]
    simp [hex]
 ·rintro ⟨b1,b2⟩ s' ⟨rfl,hb,i,hr,hi,hall⟩
  have hb:b1=none:=hb
  subst hb
  have:i=es1.size:=by
   have:=congrArg List.length hr
   rw [List.length_range'] at this
   simp at this;omega
  subst this
  rw [z1] at hall
  rw [hall] at h
  exact wpAny_pure h
theorem jQ{K:Type} [DecidableEq K]{prog:Program}{w:World}{knd:KeyKind prog w K}{A:Around}{E:Value→Shared→Prop}{s:Shared}{id:String}{a b:Addr}{kvs kvs2:List (K×Value)}(ha:s.heap.DictOf knd a kvs)(hb:s.heap.DictOf knd b kvs2)(hda:(a==sysModules)=false)(hdb:(b==sysModules)=false)(hl:kvs.length≠kvs2.length)
  {Q:Bool→Shared→Prop} (h:Q false s):wpAny (model prog w) A (Builtin.Dict.samePairs id a b) Q E s:=by
 obtain ⟨o1,es1,ep1,g1,x1,d1,k1,p1,n1⟩:=ha
 obtain ⟨o2,es2,ep2,g2,x2,d2,k2,p2,n2⟩:=hb
 have sa:∀{c:Addr} {Q:Unit→Shared→Prop},(c==sysModules)=false→Q () s→wpAny (model prog w) A (Builtin.Dict.showsAll c) Q E s:=fun hc hq=>by
  unfold Builtin.Dict.showsAll
  rw [if_neg (by rw [hc];decide)]
  exact wpAny_pure hq
 unfold Builtin.Dict.samePairs
 refine wpAny_bind (sa hda (wpAny_bind (sa hdb (wpAny_bind (wpAny_dictEntries g1 d1 (wpAny_bind (wpAny_dictEntries g2 d2 ?_)))))))
 have z1:es1.size=kvs.length:=by rw [←p1.length];simp
 have z2:es2.size=kvs2.length:=by rw [←p2.length];simp
 rw [if_pos (by rw [z1,z2];simpa using hl)]
 exact wpAny_bind (wpAny_rule (wpAny_pure h))
section
variable{K:Type} [DecidableEq K]{prog:Program}{w:World}{knd:KeyKind prog w K}{A:Around}{E:Value→Shared→Prop}{s:Shared}{a b:Addr}{kvs kvs2:List (K×Value)}
theorem jA(ha:s.heap.DictOf knd a kvs)(hb:s.heap.DictOf knd b kvs2)(hu:A.units < cLine){c:Bool}(h:∀{E:Value→Shared→Prop} {Q:Bool→Shared→Prop},Q c s→wpAny (model prog w) A.in1 (Builtin.Dict.samePairs s!"dict.{"__eq__"}" a b) Q E s){Q:Value→Shared→Prop}(q:Q (.bool c) s):wpAny (model prog w) A (richCompare .Eq (.ref a) (.ref b)) Q E s:=by
 refine wpAny_richCompare_same_room ha.typeIs hb.typeIs F.slot_dict_eq (wpAny_call_entry F.slot_dict_eq ha.typeIs F.entry_dict_eq ?_ (F.args_dict_eq_2 _ _)) hu
 show wpAny _ _ (Builtin.Dict.dictSlotArgs "__eq__" ⟨[.ref a, .ref b],[]⟩ >>= _) _ _ s
 refine wpAny_bind ?_
 unfold Builtin.Dict.dictSlotArgs
 refine wpAny_bind (wpAny_notOrdered_dict ha.typeIs ?_)
 refine wpAny_bind (m:=slotArgs "__eq__" 1 _) (wpAny_pure ?_)
 refine wpAny_pure ?_
 refine wpAny_bind (wpAny_isInstance hb.typeIs isSubtype_dict_dict ?_)
 rw [if_neg (by decide)]
 refine wpAny_bind (wpAny_pure (wpAny_bind (wpAny_pure (wpAny_bind (h ?_)))))
 have e:(c==true)=c:=by cases c <;> rfl
 refine wpAny_pure ⟨Value.bool (c==true),rfl,⟨fun z=>(nomatch z), ?_⟩⟩
 rw [e];exact q
theorem lY(ha:s.heap.DictOf knd a kvs)(hb:s.heap.DictOf knd b kvs2)(hda:(a==sysModules)=false)(hdb:(b==sysModules)=false)(hu:A.units < cLine)(hl:kvs.length=kvs2.length){e:Nat→Bool}(he:∀j k v,kvs[j]? =some (k,v)→(valueAt kvs2 k=none∧e j=false)∨∃v',valueAt kvs2 k=some v'∧uz prog w A.in1 s v v' (e j))
  {Q:Value→Shared→Prop} (q:Q (.bool ((List.range kvs.length).all e)) s):wpAny (model prog w) A (richCompare .Eq (.ref a) (.ref b)) Q E s:=jA ha hb hu (fun h=>kT ha hb hda hdb hl he h) q
theorem fT(ha:s.heap.DictOf knd a kvs)(hb:s.heap.DictOf knd b kvs2)(hda:(a==sysModules)=false)(hdb:(b==sysModules)=false)(hu:A.units < cLine)(hl:kvs.length≠kvs2.length)
  {Q:Value→Shared→Prop} (q:Q (.bool false) s):wpAny (model prog w) A (richCompare .Eq (.ref a) (.ref b)) Q E s:=jA ha hb hu (fun h=>jQ ha hb hda hdb hl h) q
theorem uz.same(v:Value):uz prog w A s v v true:=fun E Q h=>SeqAt.EqAt.same v prog w E Q h
theorem uz.of_refs{k:Bool}(hne:a≠b)(h:∀(E:Value→Shared→Prop) (Q:Value→Shared→Prop),Q (.bool k) s→wpAny (model prog w) A (richCompare .Eq (.ref a) (.ref b)) Q E s):uz prog w A s (.ref a) (.ref b) k:=fun E Q hq=>by
 unfold eqBool
 refine wpAny_holding ?_
 refine wpAny_ite_split (fun hab=>absurd (by have:=eq_of_beq hab;injection this) hne) (fun _=> ?_)
 exact wpAny_bind (h E _ (wpAny_truthy_bool hq))
end
end L2
namespace L2
open PySem PySem.Spec PyProof.Rows
inductive wa(H:Hp):Nat→V→V→Bool→Prop
 | flat {n:Nat} {x y:V} (h1:cY x=true) (h2:cY y=true):wa H n x y (eqV x y)
 | dct {n:Nat} {a b:Addr} {kvs kvs2:List (Key×V)} {e:Nat→Bool} (h1:Rd H a (.dK kvs)) (h2:Rd H b (.dK kvs2)) (hl:kvs.length=kvs2.length) (hn:∀j k v,kvs[j]? =some (k,v)→fL kvs2 k=none→e j=false)
   (h:∀j k v v',kvs[j]? =some (k,v)→fL kvs2 k=some v'→wa H n v v' (e j)):wa H (n+1) (.ref a) (.ref b) ((List.range kvs.length).all e)
 | len {n:Nat} {a b:Addr} {kvs kvs2:List (Key×V)} (h1:Rd H a (.dK kvs)) (h2:Rd H b (.dK kvs2)) (hl:kvs.length≠kvs2.length):wa H (n+1) (.ref a) (.ref b) false
theorem oy{κ:Type} [DecidableEq κ]:∀{kvs:List (κ×V)} {j:Nat} {k:κ} {v:V},(kvs.map (·.1)).Nodup→kvs[j]? =some (k,v)→fL kvs k=some v
 | [],j,k,v,_,h=>by simp at h
 | p::r,0,k,v,_,h=>by
  have:p=(k,v):=by simpa using h
  subst this
  exact bT rfl
 | p::r,j+1,k,v,hn,h=>by
  have h:r[j]? =some (k,v):=by simpa using h
  rw [List.map_cons,List.nodup_cons] at hn
  have:¬p.1=k:=fun e=>hn.1 (by rw [e];exact List.mem_map.mpr ⟨_,List.mem_of_getElem? h,rfl⟩)
  rw [bU this]
  exact oy hn.2 h
theorem qY{H:Hp}{a:Addr}{u v:HO}(h1:Rd H a u)(h2:Rd H a v)(hu:∀o w,u≠ .frz o w)(hv:∀o w,v≠ .frz o w):u=v:=by
 rcases h1 with h1 | ⟨o,h1⟩ <;> rcases h2 with h2 | ⟨o',h2⟩ <;> rw [h1] at h2
 ·exact Option.some.inj h2
 ·exact absurd (Option.some.inj h2) (hu _ _)
 ·exact absurd (Option.some.inj h2).symm (hv _ _)
 ·have:=Option.some.inj h2
  injection this
theorem si{κ:Type}:∀{kvs:List (κ×V)} {vs:List (κ×Value)},KV kvs vs→∀{j:Nat} {k:κ} {u:Value},vs[j]? =some (k,u)→∃v,kvs[j]? =some (k,v)∧bh v u
 | _,_, .nil,j,k,u,h=>by simp at h
 | _,_, .cons (a:=p) (b:=q) r t,0,k,u,h=>by
  have:q=(k,u):=by simpa using h
  subst this
  have e:p.1=k:=r.1
  exact ⟨p.2,by show some p=_;rw [←e],r.2⟩
 | _,_, .cons r t,j+1,k,u,h=>by
  obtain ⟨v,e,rv⟩:=si t (show _=some (k,u) by simpa using h)
  exact ⟨v,by simpa using e,rv⟩
section
variable{X:Cx}{pins:List (Addr×Obj)}{σ:St}{H:Hp}{s:Shared}
theorem vJ(I:Inv X pins σ H s){a:Addr}{kvs:List (Key×V)}(h:Rd H a (.dK kvs)):(kvs.map (·.1)).Nodup:=by
 obtain ⟨_,_,vs,r,o,es,ep,_,_,_,_,_,n⟩:=fg I.hok h
 rw [r.keys];exact n
theorem tL(I:Inv X pins σ H s){n:Nat}{x y:V}{b:Bool}(h:wa H n x y b):x=y→b=true:=by
 induction h with
 | flat h1 h2=>intro e;subst e;exact pj h1
 | @dct n a b kvs kvs2 f h1 h2 hl hn h ih=>
  intro e
  cases e
  have:=qY h1 h2 (fun _ _ z=>nomatch z) (fun _ _ z=>nomatch z)
  cases this
  refine List.all_eq_true.mpr fun j hj=> ?_
  have hj:=List.mem_range.mp hj
  have g:kvs[j]? =some (kvs[j].1,kvs[j].2):=List.getElem?_eq_getElem hj
  exact ih j _ _ _ g (oy (vJ I h1) g) rfl
 | len h1 h2 hl=>
  intro e
  cases e
  have:=qY h1 h2 (fun _ _ z=>nomatch z) (fun _ _ z=>nomatch z)
  cases this
  exact absurd rfl hl
theorem qF{kvs:List (Key×V)}{vs:List (Key×Value)}(r:KV kvs vs)(k:Key):(fL kvs k=none∧valueAt vs k=none)∨∃v u,fL kvs k=some v∧valueAt vs k=some u∧bh v u:=by
 have:=r.val k
 cases h1:fL kvs k with
 | none=>
  cases h2:valueAt vs k with
  | none=>exact .inl ⟨rfl,rfl⟩
  | some u=>rw [h1,h2] at this;exact this.elim
 | some v=>
  cases h2:valueAt vs k with
  | none=>rw [h1,h2] at this;exact this.elim
  | some u=>rw [h1,h2] at this;exact .inr ⟨v,u,rfl,rfl,this⟩
theorem Bb(I:Inv X pins σ H s){n:Nat}{x y:V}{c:Bool}(h:wa H n x y c):∀{A:Around} {u v:Value},bh x u→bh y v→A.units+n < cLine→uz X.prog X.w A s u v c:=by
 induction h with
 | flat h1 h2=>exact fun ru rv _ E Q q=>lZ ru rv h1 h2 X.prog X.w E Q q
 | @dct n a b kvs kvs2 f h1 h2 hl hn h ih=>
  intro A u v ru rv hu
  cases ru
  cases rv
  by_cases e:a=b
  ·have:=tL I (.dct h1 h2 hl hn h) (congrArg V.ref e)
   rw [this,e]
   exact uz.same _
  ·obtain ⟨_,z1,vs,r1,d1⟩:=fg I.hok h1
   obtain ⟨_,z2,vs2,r2,d2⟩:=fg I.hok h2
   refine uz.of_refs e fun E Q q=> ?_
   rw [r1.length] at q
   refine lY d1 d2 z1 z2 (by omega) (by rw [←r1.length,←r2.length];exact hl) (fun j k u hj=> ?_) q
   obtain ⟨v,hv,rv⟩:=si r1 hj
   rcases qF r2 k with ⟨q1,q2⟩ | ⟨v',u',q1,q2,q3⟩
   ·exact .inl ⟨q2,hn j k v hv q1⟩
   ·exact .inr ⟨u',q2,ih j k v v' hv q1 rv q3 (by show A.units+1+n < cLine;omega)⟩
 | @len n a b kvs kvs2 h1 h2 hl=>
  intro A u v ru rv hu
  cases ru
  cases rv
  have e:a≠b:=fun e=>by
   subst e
   have:=qY h1 h2 (fun _ _ z=>nomatch z) (fun _ _ z=>nomatch z)
   cases this
   exact hl rfl
  obtain ⟨_,z1,vs,r1,d1⟩:=fg I.hok h1
  obtain ⟨_,z2,vs2,r2,d2⟩:=fg I.hok h2
  exact uz.of_refs e fun E Q q=>fT d1 d2 z1 z2 (by omega) (by rw [←r1.length,←r2.length];exact hl) q
end
def zH(n:Nat):R2:=fun x y H Q=>∃a b c,x= .ref a∧y= .ref b∧wa H n x y c∧Q (.bl c) H
theorem x4{X:Cx}{n:Nat}(hu:X.A.units+n < cLine):OpR X (compareOp .Eq) (zH n):=by
 intro pins s σ H x y v u Q I rx ry h
 obtain ⟨a,b,c,rfl,rfl,h,q⟩:=h
 cases rx
 cases ry
 cases h with
 | flat h1 h2=>cases h1
 | @dct n _ _ kvs kvs2 f h1 h2 hl hn h=>
  obtain ⟨_,z1,vs,r1,d1⟩:=fg I.hok h1
  obtain ⟨_,z2,vs2,r2,d2⟩:=fg I.hok h2
  rw [r1.length] at q
  show wpAny _ _ (richCompare .Eq _ _) _ _ s
  refine lY d1 d2 z1 z2 (by omega) (by rw [←r1.length,←r2.length];exact hl) (e:=f) (fun j k u hj=> ?_) ⟨.bl _,H,I,rfl,q⟩
  obtain ⟨v,hv,rv⟩:=si r1 hj
  rcases qF r2 k with ⟨q1,q2⟩ | ⟨v',u',q1,q2,q3⟩
  ·exact .inl ⟨q2,hn j k v hv q1⟩
  ·exact .inr ⟨u',q2,Bb I (h j k v v' hv q1) rv q3 (by show X.A.units+1+n < cLine;omega)⟩
 | @len n _ _ kvs kvs2 h1 h2 hl=>
  obtain ⟨_,z1,vs,r1,d1⟩:=fg I.hok h1
  obtain ⟨_,z2,vs2,r2,d2⟩:=fg I.hok h2
  show wpAny _ _ (richCompare .Eq _ _) _ _ s
  exact fT d1 d2 z1 z2 (by omega) (by rw [←r1.length,←r2.length];exact hl) ⟨.bl _,H,I,rfl,q⟩
end L2
set_option maxRecDepth 100000
set_option maxHeartbeats 4000000
namespace L2
open PySem PySem.Spec PyProof.Rows
def zG(K:PySem.W.Frag):List V→Hp→VK→Prop:=fun xs H Q=>∃(p:Addr) (ns:List Int),xs=[.ref p]∧SqL K H p (ns.map V.int)∧ns≠[]∧∀m∈ns,(∀a∈ns,m≤a)→Q (.int m) H
theorem tZ{X:Cx}(hc:X.calm=true):dH X (.builtin "min") (zG X.K):=by
 intro pins s σ H xs us Q I r h
 obtain ⟨p,ns,rfl,hq,hne,q⟩:=h
 obtain ⟨u,rfl,r1⟩:=kH r
 cases r1
 obtain ⟨its,rv,pl,hz⟩:=I.list hq
 obtain ⟨ts,rfl,rfl⟩:=hV rv
 have e:(ts.map fun p=>Value.int p.1 p.2).toArray=intItems ts.toArray:=by simp [intItems]
 have hl:=pl.isList
 rw [e] at hl
 have hsz:0 < ts.toArray.size:=by
  cases ts with
  | nil=>exact absurd rfl hne
  | cons a l=>simp
 refine min_intList (I.ok.hd hc) hl hsz fun v h' tk hv hk=> ?_
 obtain ⟨t,rfl⟩:=intItems_at hv
 obtain ⟨h1,h2⟩:=argBest_lt (numAt ts.toArray) (ts.toArray.size - 1)
 refine ⟨.int _,H,I.kept hk,⟨t,rfl⟩,q _ ?_ fun a ha=> ?_⟩
 ·rw [numAt_eq];exact getD_mem (by rw [List.length_map];simp at h1 hsz⊢;omega)
 ·obtain ⟨j,hj,rfl⟩:=mem_getD ha
  rw [List.length_map] at hj
  have:=h2 j (by simp;omega)
  rw [numAt_eq,numAt_eq] at this
  rw [numAt_eq];exact this
def yA:List Dt→Ms→DQ→Prop
 | [d],M,q=>∃ns:List Int,uv M d=some (ns.map .int)∧ns≠[]∧∀m∈ns,(∀a∈ns,m≤a)→q (.int m) M
 | _,_,_=>False
theorem CH{K:PySem.W.Frag}:CaD K (zG K) yA:=by
 intro G0 L0 H0 G L M H vs ds q e r n h
 unfold yA at h
 split at h
 ·rename_i d
  obtain ⟨v,rfl,n1⟩:=bB n
  obtain ⟨ns,hs,hne,hq⟩:=h
  obtain ⟨a,us,rfl,sq,dn⟩:=gp r n1 hs
  rw [gz dn] at sq
  exact ⟨a,ns,rfl,sq,hne,fun m hm hle=>⟨.int m,G,L,M,e,r,rfl,hq m hm hle⟩⟩
 ·exact h.elim
section
variable{X:Cx}{R:St→XK}{a b e f o:Expr}{ta tb te tf to:DE}{t:DA}{pos p apos cpos:Pos}{k':Nat}
theorem AO(hm:X.mg "min"=none)(ha:JA X R [e] t)(hc:X.calm=true:=by rfl)(he:starEach [e] X.env=(false,eval e X.env)::starEach [] X.env:=by rfl)(hpl:(backTo pos (starEach [] X.env)).any (·.1)=false:=by rfl)(hg:Gl X "min":=by rfl):JE X R (.Call (.Name "min" p) [e] [] pos) (dFn yA t):=
 eK (tZ hc) CH hm t9 ha hg (by decide) (by decide) he hpl
end
end L2
set_option maxRecDepth 100000
set_option maxHeartbeats 4000000
namespace L2
open PySem PySem.Spec PyProof.Rows
section
variable{X:Cx}{elt iter tg c:Expr}{xs:List Str}{scope:Scope}{pos:Pos}{wi:TI}{gg:TG}{tc:TT}{te:TE}{ys:List Str}{caps:List Nat}
theorem mY{i:Nat}{y:Str}{py spos:Pos}(hN:X.N.Nodup)(hiy:X.N[i]? =some y)(hy:Loc X.env.scope y)(S:cM X scope xs ys caps)(hc:X.calm=true)(hi:PI X tg iter wi)(hg:∀C s H fp,PG (Cx.comp X (xs++ys) scope C s H fp) tg gg)(hk:y4 xs.length gg)(ht:∀C s H fp,PT (Cx.comp X (xs++ys) scope C s H fp) c tc)(he:∀C s H fp,PE (Cx.comp X (xs++ys) scope C s H fp) elt te)
  (hsw:swapsWith (.ListComp elt [⟨tg,iter,[c],0⟩] scope pos) (some (.Name y py)) spos.line X.env=pure true) (hs:∀x,foldedSetIterable iter X.env x=pure x)
  (hf:X.fn y=true∨X.env.scope.names.lookup y=some .local):
  PS X (.Assign [.Name y py] (.ListComp elt [⟨tg,iter,[c],0⟩] scope pos) spos) (fun D σ H=>zr wi xs.length gg tc te caps σ H fun v H1=>D.nx (σ.set i (some v)) H1):=by
 intro pins s σ H D I h
 rw [exec_Assign_Name_used _ _ _ _ hsw]
 refine wpAny_bind (wpAny_standAt (wpAny_bind ?_))
 show wpAny _ _ (do let _←comprehension (.ListComp elt [⟨tg,iter,[c],0⟩] scope pos) scope X.env _ (newList []) false (eval iter X.env) (some (assign (.Name y py) X.env))) _ _ s
 refine wpAny_bind (wpAny_mono (wpAny_comprehension_free (use:=some (assign (.Name y py) X.env)) (Q:=fun _ s'=>SP X pins D .next s') rfl hs (gB (S.has I.ok)) S.kind S.names (thn (hi pins s σ H _ I h) fun v s1 h1=>thn h1 fun itv s2 h2=> ?_)) (fun _ s' hq=>wpAny_pure (wpAny_pure hq)) fun _ _ e=>e)
 obtain ⟨it,fp,tn,J,H2,rfl,I2,T,t0,f2,q⟩:=h2
 refine tU S hc hg hk ht he (Q:=fun v H1=>D.nx (σ.set i (some v)) H1) I2 T t0 f2 q fun Dl C s' H' I' q' n' hC hz hL hcc hp=> ?_
 obtain ⟨m,n'⟩:=n'
 show wpAny _ _ (assign (.Name y py) X.env (.ref Dl)) _ _ s'
 refine wpAny_assign_Name (hZ I' hN hiy hy (v:= .ref Dl) rfl (fun s3 I3 sb3=> ?_) hf)
 obtain ⟨a,sb3,ha⟩:=sb3
 have hCa:C≠a:=by
  rcases ha with rfl | ha
  ·exact hL
  ·exact (hcc _ _ ha).symm
 exact ⟨m,n'.sameBut sb3 hCa,fun h' sb=>⟨_,H',I3.turned (it:=C) (t':=s3.toks) (fun b o hb e=>(sb.2 b hb).trans e) hC hL (.inr hz) hcc hp,q'⟩⟩
end
section
variable{X:Cx}{R:St→XK}{elt iter c:Expr}{x y:Str}{px py tp:Pos}{scope:Scope}{pos:Pos}{ti:DK}{tc:DT}{te:DE}{ys:List Str}{caps:List Nat}{kk:Nat}
end
section
variable{X:Cx}{R:St→XK}{elt iter c:Expr}{x z:Str}{px pz tp:Pos}{scope:Scope}{pos:Pos}{ti:DK}{tc:DT}{te:DE}{ys:List Str}{caps:List Nat}{kk:Nat}
theorem lN{i:Nat}{y:Str}{py spos:Pos}(hN:X.N.Nodup)(hiy:X.N[i]? =some y)(hy:Loc X.env.scope y)(S:cM X scope [x] ys caps)(hi:JK X R (.Name x px) iter ti)(ht:∀C s H fp,JT (Cx.comp X (x::ys) scope C s H fp) (fun _=>E0) c tc)(he:∀C s H fp,JE (Cx.comp X (x::ys) scope C s H fp) (fun _=>E0) elt te)(hc:X.calm=true:=by rfl)
  (hsw:swapsWith (.ListComp elt [⟨.Name x px,iter,[c],0⟩] scope pos) (some (.Name y py)) spos.line X.env=pure true:=by rfl) (hs:∀x,foldedSetIterable iter X.env x=pure x:=by intro _;rfl)
  (hf:X.fn y=true∨X.env.scope.names.lookup y=some .local:=by first | exact .inl rfl | exact .inr rfl | assumption):
  JS X R (.Assign [.Name y py] (.ListComp elt [⟨.Name x px,iter,[c],0⟩] scope pos) spos) (zA i (xh 1 ti (gN 0) tc te caps)):= .of (mY (wi:=BA X.K R ti) (tc:=By X.K (fun _=>E0) tc) (te:=nJ X.K (fun _=>E0) te) hN hiy hy S hc hi (uV S (i:=0) rfl) (qg (Nat.zero_lt_succ 0)) ht he hsw hs hf) fun σ H G L ρ M Dn rl n h hx=>by
 refine ⟨G,L,ρ,M,_,_,rl,n,h,hx,fun J H1 ⟨xs,ok,G1,L1,M1,e1,r1,y,hz,h1⟩ D hD=> ?_⟩
 refine vO cp r1 (n.mono e1) y hD hz h1 fun G2 L2 M2 H2 ds vs e2 r2 g2 l2 h2 n2 k=> ?_
 obtain ⟨d,G3,L3,M3,e3,r3,n3,h3⟩:=ik (q:=fun d M=>Dn.nx (ρ.set i (some d)) M) e2 r2 hD g2 l2 h2 n2 k
 exact ⟨_,G3,L3,M3,e1.trans e3,r3,((n.mono e1).mono e3).set i n3,h3⟩
end
end L2
set_option maxRecDepth 100000
set_option maxHeartbeats 4000000
namespace L2
open PySem PySem.Spec PyProof.Rows
def Eg(M:Ms):Dt→Option (List Dt)
 | .lst xs=>some xs
 | .loc k=>match M[k]? with
  | some (.lst xs)=>some xs
  | _=>none
 | _=>none
theorem yf{K:PySem.W.Frag}{G:Hp}{L:List Addr}{M:Ms}{H:Hp}{d:Dt}{v:V}{xs:List Dt}(r:Rl K G L M H)(n:Den K G L d v)(h:Eg M d=some xs):∃a vs,v= .ref a∧H a=some (.lst vs)∧aJ K G L xs vs:=by
 cases d with
 | lst ds=>cases h;obtain ⟨a,vs,rfl,e,m⟩:=n;exact ⟨a,vs,rfl,r.sub _ _ e,m⟩
 | loc k=>
  obtain ⟨a,rfl,e⟩:=n
  have h:(match M[k]? with | some (.lst xs)=>some xs | _=>none)=some xs:=h
  split at h
  ·rename_i ys hm
   cases h
   obtain ⟨_,vs,e1,m1⟩:=r.ats k a _ e hm
   exact ⟨a,vs,rfl,e1,m1⟩
  ·cases h
 | _=>cases h
section
variable{X:Cx}{R:St→XK}{a b:Expr}{ta tb:DE}{pos:Pos}
end
end L2
set_option maxRecDepth 100000
set_option maxHeartbeats 4000000
namespace L2
open PySem PySem.Spec PyProof.Rows
section
variable{X:Cx}{e l:Expr}{te tl:TE}{pos p2:Pos}
end
section
variable{X:Cx}{R:St→XK}{e l:Expr}{te tl:DE}{pos p2:Pos}
end
end L2
set_option maxRecDepth 100000
set_option maxHeartbeats 4000000
namespace L2
open PySem PySem.Spec PyProof.Rows
section
variable{X:Cx}{elt iter tg:Expr}{xs:List Str}{scope:Scope}{pos:Pos}{wi:TI}{gg:TG}{te:TE}{ys:List Str}{caps:List Nat}
end
section
variable{X:Cx}{R:St→XK}{elt iter:Expr}{x y:Str}{px py tp:Pos}{scope:Scope}{pos:Pos}{ti:DK}{te:DE}{ys:List Str}{caps:List Nat}{kk:Nat}
end
section
variable{X:Cx}{R:St→XK}{e l u a b:Expr}{te tl tu ta tb:DE}{pos p2:Pos}
def A7:Dt→Dt→Ms→DQ→Prop:=fun d e M q=>∃xs k,Eg M d=some xs∧e= .int k∧ -(2 ^ 63)≤k∧k < 2 ^ 63∧xs.length * k.toNat≤sizeLine∧q (.loc M.length) (M++[.lst (List.replicate k.toNat xs).flatten])
theorem B8{K:PySem.W.Frag}:OpD K B9 A7:=by
 intro G0 L0 H0 G L M H v1 v2 d1 d2 q e r n1 n2 ⟨xs,k,h1,h2,a,b,hz,hq⟩
 obtain ⟨p1,w1,rfl,e1,m1⟩:=yf r n1 h1
 subst h2
 have n2:v2= .int k:=n2
 subst n2
 refine ⟨p1,k,w1,rfl,rfl,e1,a,b,by rw [←m1.length];exact hz,fun p hp=> ?_⟩
 exact nU e r hp (aJ.of (ng m1.pair k.toNat)) hq
theorem AM(ja:JE X R a ta)(jb:JE X R b tb):JE X R (.BinOp a .Mult b pos) (dOp A7 ta tb):=wM wC B8 ja jb
end
end L2
set_option maxRecDepth 100000
set_option maxHeartbeats 4000000
namespace L2
open PySem PySem.Spec PyProof.Rows
section
variable{X:Cx}
end
section
variable{X:Cx}{R:St→XK}{e f o:Expr}{t:DA}{to:DE}{apos cpos:Pos}
end
end L2
set_option maxRecDepth 100000
set_option maxHeartbeats 4000000
namespace L2
open PySem PySem.Spec PyProof.Rows
inductive Ist(K:PySem.W.Frag)(x C:Addr)(H0:Hp)(G:Hp)(L:List Addr)(M:Ms)(H:Hp)(fs:List (Str×Dt)):Prop
 | mk (r:Rl K G L M H) (gx:G x=none) (lx:x∉L) (od:Option Addr) (hx:H x=some (xN x C od))
   (hd:(fs=[]∧od=none)∨∃dx vs,od=some dx∧dx≠x∧H0 dx=none∧G dx=none∧dx∉L∧H dx=some (.xd ((fs.map (·.1)).zip vs))∧aJ K G L (fs.map (·.2)) vs)
section
variable{K:PySem.W.Frag}{x C:Addr}{H0 G G' H H':Hp}{L L':List Addr}{M M':Ms}{fs:List (Str×Dt)}
theorem Ex.off(e:Ex G L H G' L' H'){b:Addr}{o:HO}(h:H b=some o)(g:G b=none)(l:b∉L):H' b=some o∧G' b=none∧b∉L':=
 ⟨e.out b o h l,e.fr b g (by rw [h];simp),fun z=>(e.new b z).elim l fun q=>by rw [h] at q;cases q⟩
theorem Ist.on(i:Ist K x C H0 G L M H fs)(e:Ex G L H G' L' H')(r':Rl K G' L' M' H'):Ist K x C H0 G' L' M' H' fs:=by
 obtain ⟨r,gx,lx,od,hx,hd⟩:=i
 obtain ⟨a1,a2,a3⟩:=e.off hx gx lx
 refine ⟨r',a2,a3,od,a1, ?_⟩
 rcases hd with hd | ⟨dx,vs,d1,d2,d3,d4,d5,d6,d7⟩
 ·exact .inl hd
 ·obtain ⟨b1,b2,b3⟩:=e.off d6 d4 d5
  exact .inr ⟨dx,vs,d1,d2,d3,b2,b3,b1,aJ.mono e.g e.l _ _ d7⟩
theorem Rl.aside{o:HO}{a:Addr}(r:Rl K G L M H)(g:G a=none)(l:a∉L):Rl K G L M (upd H a o) where
 sub:=fun b u e=>by rw [ai (fun z=>by rw [z,g] at e;cases e)];exact r.sub b u e
 len:=r.len
 nd:=r.nd
 ats:=fun k b m h1 h2=>by
  obtain ⟨q1,q2⟩:=r.ats k b m h1 h2
  exact ⟨q1,q2.mono (.refl _) (.refl _) (ai fun z=>l (z▸List.mem_of_getElem? h1))⟩
theorem Ex.aside{G0 H00:Hp}{L0:List Addr}{o:HO}{a:Addr}(e:Ex G0 L0 H00 G L H)(h:H00 a=none):Ex G0 L0 H00 G L (upd H a o) where
 g:=e.g
 l:=e.l
 fr:=e.fr
 out:=fun b u h1 h2=>by rw [ai (fun z=>by rw [z,h] at h1;cases h1)];exact e.out b u h1 h2
 new:=e.new
 dom:=fun b h1=>by
  by_cases z:b=a
  ·rw [z,ao];simp
  ·rw [ai z];exact e.dom b h1
end
abbrev DI:=En→Ms→List (Str×Dt)→(En→Ms→List (Str×Dt)→Prop)→Prop
inductive Eh(K:PySem.W.Frag)(x C:Addr)(G0:Hp)(L0:List Addr)(H0:Hp)(t:DI)(De:qB)(σ:St)(H:Hp):Prop
 | mk (G:Hp) (L:List Addr) (ρ:En) (M:Ms) (fs:List (Str×Dt)) (k:En→Ms→List (Str×Dt)→Prop) (e:Ex G0 L0 H0 G L H) (h0:H0 x=none) (i:Ist K x C H0 G L M H fs) (n:EnD K G L ρ σ) (hs:σ[0]? =some (some (.ref x))) (h:t ρ M fs k)
   (hQ:∀σ' H' G' L' ρ' M' fs',Ex G0 L0 H0 G' L' H'→Ist K x C H0 G' L' M' H' fs'→EnD K G' L' ρ' σ'→σ'[0]? =some (some (.ref x))→k ρ' M' fs'→De.nx σ' H')
def JXi(X:Cx)(C:Addr)(st:Stmt)(t:DI):Prop:=∀x G0 L0 H0,PS X st (Eh X.K x C G0 L0 H0 t)
def JXs(X:Cx)(C:Addr)(st:List Stmt)(t:DI):Prop:=∀x G0 L0 H0,PSs X st (Eh X.K x C G0 L0 H0 t)
def EE(t u:DI):DI:=fun ρ M fs k=>t ρ M fs fun ρ' M' fs'=>u ρ' M' fs' k
def BN(te:DE):DI:=fun ρ M fs k=>te ρ M (fun _ M'=>k ρ M' fs) noX
def EF(f:Str)(te:DE):DI:=fun ρ M fs k=>f∉fs.map (·.1)∧fs.length < 900∧te ρ M (fun d M'=>k ρ M' (fs++[(f,d)])) noX
section
variable{X:Cx}{C D fI:Addr}{Bn newId initId:String}{bmB:List Value}{dn sn f:Str}{p p1 apos pos pos':Pos}{e2 value:Expr}{te:DE}{st:Stmt}{rest:List Stmt}{t u:DI}
theorem PS.imp{X:Cx}{st:Stmt}{t u:TS}(h:PS X st t)(hi:∀D σ H,u D σ H→t D σ H):PS X st u:=fun pins s σ H D I q=>h pins s σ H D I (hi D σ H q)
theorem PSs.imp{X:Cx}{st:List Stmt}{t u:TS}(h:PSs X st t)(hi:∀D σ H,u D σ H→t D σ H):PSs X st u:=fun pins s σ H D I q=>h pins s σ H D I (hi D σ H q)
theorem Az(h:JXi X C st t):JXs X C [st] t:=fun x G0 L0 H0=>rn (h x G0 L0 H0)
theorem ym(h:JXi X C st t)(h2:JXs X C rest u):JXs X C (st::rest) (EE t u):=fun x G0 L0 H0=>(oK (h x G0 L0 H0) (h2 x G0 L0 H0)).imp fun De σ H ⟨G,L,ρ,M,fs,k,e,h0,i,n,hs,ht,hQ⟩=>
 ⟨G,L,ρ,M,fs,_,e,h0,i,n,hs,ht,fun σ' H' G' L' ρ' M' fs' e' i' n' hs' hk=>⟨G',L',ρ',M',fs',k,e',h0,i',n',hs',hk,hQ⟩⟩
theorem yk{pl:Sem Bool}(F:ExcBaseFacts Bn newId initId bmB)(c:ee X.K C bmB newId fI)(d:ur X.K D initId)(hm:X.mg dn=some (.ref D))(he:JE X (fun _=>E0) e2 te)(hN:X.N[0]? =some sn:=by rfl)(hv:Vis X.env.scope sn:=by first | exact Or.inl rfl | exact Or.inr (Or.inl rfl) | exact Or.inr (Or.inr rfl))(hg:Gl X dn:=by rfl)
  (hd:(sn==("__debug__":Str))=false:=by decide) (hcd:(sn==("__classdict__":Str))=false:=by decide) (hdb:(dn==("__debug__":Str))=false:=by decide)
  (h1:starEach [.Name sn p1,e2] X.env=(false,eval (.Name sn p1) X.env)::starEach [e2] X.env:=by rfl) (h2:starEach [e2] X.env=(false,eval e2 X.env)::starEach [] X.env:=by rfl) (hpl:(backTo pos (starEach [e2] X.env)).any (·.1)=false:=by rfl)
  (ht:eval (.Call (.Attribute (.Name dn p) "__init__" apos) [.Name sn p1,e2] [] pos) X.env=(do
   let ov←eval (.Name dn p) X.env
   standAt apos.atName
   let (f,first)←holding [ov] (getMethod ov "__init__" pl)
   callWith pos f first (backTo pos (starEach [.Name sn p1,e2] X.env)) (backToKw pos (keywordEach [] X.env))):=by rfl)
  (hsw:swapsWith (.Call (.Attribute (.Name dn p) "__init__" apos) [.Name sn p1,e2] [] pos) none pos'.line X.env=pure false:=by rfl):
  JXi X C (.Expr (.Call (.Attribute (.Name dn p) "__init__" apos) [.Name sn p1,e2] [] pos) pos') (BN te):=fun x G0 L0 H0=>
 (rA (vc (pl:=pl) F c d hg hm (nq (rJ hN hv hd hcd) (nq he wB h2) h1) hdb h1 hpl ht) hsw).imp fun De σ H ⟨G,L,ρ,M,fs,k,e,h0,i,n,hs,h,hQ⟩=>by
  refine ⟨_,hs,G,L,ρ,M,_,noX,(let ⟨r,_,_,_,_,_⟩:=i;r),n,h,hU,fun v H1 ⟨d1,G1,L1,M1,e1,r1,n1,hk⟩=> ?_⟩
  have i1:=i.on e1 r1
  obtain ⟨_,_,_,od,hx,_⟩:=id i1
  exact ⟨x,v,od,rfl,hx,hQ σ H1 G1 L1 ρ M1 fs (e.trans e1) i1 (n.mono e1) hs hk⟩
theorem AA(c:ee X.K C bmB newId fI)(nt:y3 X.K C f)(hv:JE X (fun _=>E0) value te)(hex:X.ex=[]:=by rfl)(hN:X.N[0]? =some sn:=by rfl)(hvi:Vis X.env.scope sn:=by first | exact Or.inl rfl | exact Or.inr (Or.inl rfl) | exact Or.inr (Or.inr rfl))
  (hd:(sn==("__debug__":Str))=false:=by decide) (hcd:(sn==("__classdict__":Str))=false:=by decide) (hs:swapsWith value (some (.Attribute (.Name sn p1) f pos')) pos.line X.env=pure false:=by rfl):
  JXi X C (.Assign [.Attribute (.Name sn p1) f pos'] value pos) (EF f te):=fun x G0 L0 H0=>
 (xJ hex c nt (rJ hN hvi hd hcd) hv hs).imp fun De σ H ⟨G,L,ρ,M,fs,k,e,h0,i,n,hsl,⟨hf,hl,h⟩,hQ⟩=>by
  refine ⟨G,L,ρ,M,_,noX,(let ⟨r,_,_,_,_,_⟩:=i;r),n,h,hU,fun y H1 ⟨d1,G1,L1,M1,e1,r1,n1,hk⟩=> ?_⟩
  have i1:=i.on e1 r1
  have e01:=e.trans e1
  obtain ⟨_,gx,lx,od,hx,hdd⟩:=id i1
  refine ⟨_,hsl,x,rfl, ?_⟩
  rcases hdd with ⟨rfl,rfl⟩ | ⟨dx,vs,rfl,d2,d3,d4,d5,d6,d7⟩
  ·refine .inl ⟨hx,fun dx hdx hne=> ?_⟩
   have gd:G1 dx=none:=r1.sub.free hdx
   have ld:dx∉L1:=r1.memN hdx
   have h0d:H0 dx=none:=by
    cases q:H0 dx with
    | none=>rfl
    | some o=>exact absurd hdx (e01.dom dx (by rw [q];simp))
   refine hQ σ _ G1 L1 ρ M1 [(f,d1)] ((e01.aside h0).aside h0d) ⟨(r1.aside gx lx).aside gd ld,gx,lx,some dx,by rw [ai (Ne.symm hne),ao], .inr ⟨dx,[y],rfl,hne,h0d,gd,ld,by rw [ao];rfl,⟨y,[],rfl,n1,rfl⟩⟩⟩ (n.mono e1) hsl hk
  ·have hlv:(fs.map (·.1)).length=vs.length:=by rw [←d7.length,List.length_map,List.length_map]
   refine .inr ⟨dx,_,hx,d2,d6,by rw [List.length_zip,←hlv,Nat.min_self,List.length_map];omega, ?_⟩
   rw [jU hlv hf]
   refine hQ σ _ G1 L1 ρ M1 (fs++[(f,d1)]) (e01.aside d3) ⟨r1.aside d4 d5,gx,lx,some dx,by rw [ai (Ne.symm d2)];exact hx, .inr ⟨dx,vs++[y],rfl,d2,d3,d4,d5,by rw [ao,List.map_append];rfl,by rw [List.map_append];exact d7.app ⟨y,[],rfl,n1,rfl⟩⟩⟩ (n.mono e1) hsl hk
end
end L2
set_option maxRecDepth 100000
set_option maxHeartbeats 4000000
namespace L2
open PySem PySem.Spec PyProof.Rows
abbrev DIF:=List Dt→Ms→(List (Str×Dt)→Ms→Prop)→Prop
inductive spI(K:PySem.W.Frag)(C:Addr)(T:DIF)(vs:List V)(H:Hp)(Q:VK)(E:XK):Prop
 | mk (x:Addr) (us:List V) (H0:Hp) (G:Hp) (L:List Addr) (ds:List Dt) (M:Ms) (q:List (Str×Dt)→Ms→Prop) (ev:vs= .ref x::us) (eH:H=upd H0 x (xN x C none)) (h0:H0 x=none) (r:Rl K G L M H0) (n:aJ K G L ds us) (h:T ds M q)
   (hQ:∀H' G' L' M' fs,Ex G L H0 G' L' H'→Ist K x C H0 G' L' M' H' fs→q fs M'→Q .non H')
def wo(N:List Str)(ds:List Dt):En:=(h7 N (.non::ds)).set 0 none
section
variable{P:Program}{w:World}{K:PySem.W.Frag}{mg:Str→Option Value}{base:Heap}
theorem EnD.forget{K:PySem.W.Frag}{G:Hp}{L:List Addr}{ρ:En}{σ:St}(h:EnD K G L ρ σ)(i:Nat):EnD K G L (ρ.set i none) σ:=by
 refine ⟨by rw [List.length_set];exact h.len,fun j d' e=> ?_⟩
 by_cases hj:i=j
 ·subst hj
  have hl:i < ρ.length:=by
   have:=(List.getElem?_eq_some_iff.mp e).1
   rwa [List.length_set] at this
  rw [List.getElem?_set_self hl] at e
  cases e
 ·rw [List.getElem?_set_ne hj] at e
  exact h.ats j d' e
theorem Fun.okI{x qual:Str}{st:Stmt}{f:Addr}{fd:FuncData}{N ps:List Str}{k:Nat}{C:Addr}{T:DIF}(F:Fun K x qual st f fd)(S:au N ps (ae st))(len:∀ds M q,T ds M q→ds.length+1=ps.length)
  (hbody:∀(cdv:Value) (A:Around) (outer:List Env) (s:Shared) (H:Hp) (E:XK),cT k (A.deeper (envOfC qual (ae st) s.heap.objs.size f cdv))→
   ∃t,JXs (mH (CX1 P w) P w K mg base N qual (ae st) f cdv A outer s H E) C (aq st) t∧∀ds M q,T ds M q→t (wo N ds) M [] (fun _ M' fs=>q fs M')):
  bC P w K mg base (CX1 P w) (k+1) f fd ps (spI K C T):=by
 refine F.okX S (fun vs H Q E h=> ?_) (fun cdv A outer s H vs Q E hr h=> ?_)
 ·obtain ⟨x,us,H0,G,L,ds,M,q,rfl,rfl,h0,r,n,hT,hQ⟩:=h
  rw [List.length_cons,←n.length];exact len _ _ _ hT
 ·obtain ⟨t,j,ht⟩:=hbody cdv A outer s H E hr
  obtain ⟨x,us,H0,G,L,ds,M,q,rfl,rfl,h0,r,n,hT,hQ⟩:=h
  have gx:G x=none:=r.sub.free h0
  have lx:x∉L:=r.memN h0
  refine ⟨_,j x G L H0,G,L,wo N ds,M,[],_,(Ex.refl G L H0).aside h0,h0,⟨r.aside gx lx,gx,lx,none,ao, .inl ⟨rfl,rfl⟩⟩, ?_,rfl,ht ds M q hT,fun σ' H' G' L' ρ' M' fs' e i _ _ hk=>hQ H' G' L' M' fs' e i hk⟩
  have:=(oC (N:=N) (K:=K) (G:=G) (L:=L) (ds:= .ref x::ds) (vs:= .ref x::us) ⟨_,_,rfl,rfl,n⟩).forget 0
  exact this
end
structure XcD(P:Program)(w:World)(K:PySem.W.Frag)(mg:Str→Option Value)(base:Heap)(k:Nat)(x:Str)(C:Addr)(bmB:List Value)(newId:String)(ps:List Str)(T:DIF)(f:Addr)(fd:FuncData):Prop where
 ok:bC P w K mg base (CX1 P w) k f fd ps (spI K C T)
 b:fX K fd ps []
 c:ee K C bmB newId f
 m:mg x=some (.ref C)
def qT(C:Addr)(T:DIF)(t:DA):DS:=fun Dn ρ M=>t ρ M (fun ds M1=>ds.length≤sizeLine∧T ds M1 (fun fs M2=>fs≠[]∧Dn.x ρ C fs M2)) Dn.x
section
variable{K:PySem.W.Frag}{G G' H H':Hp}{L L':List Addr}{M:Ms}{x dx:Addr}{o:HO}
theorem Ex.leave(e:Ex G L H G' L' H')(hx:H x=none)(hd:H dx=none)(gd:G' dx=none)(hne:dx≠x):Ex G L H (upd G' dx o) L' (drp x H') where
 g:=fun b u q=>by rw [ai (fun z=>by have:=e.g _ _ q;rw [z,gd] at this;cases this)];exact e.g b u q
 l:=e.l
 fr:=fun b h1 h2=>by rw [ai (fun z=>h2 (by rw [z];exact hd))];exact e.fr b h1 h2
 out:=fun b u h1 h2=>by rw [cP (fun z=>by rw [z,hx] at h1;cases h1)];exact e.out b u h1 h2
 new:=e.new
 dom:=fun b h=>by rw [cP (fun z=>h (by rw [z];exact hx))];exact e.dom b h
theorem Rl.leave(r:Rl K G L M H)(gx:G x=none)(lx:x∉L)(gd:G dx=none)(ld:dx∉L)(hd:H dx=some o)(hne:dx≠x):Rl K (upd G dx o) L M (drp x H) where
 sub:=fun b u e=>by
  by_cases hb:b=dx
  ·subst hb;rw [ao] at e;cases e;rw [cP hne];exact hd
  ·rw [ai hb] at e
   rw [cP (fun z=>by rw [z,gx] at e;cases e)];exact r.sub b u e
 len:=r.len
 nd:=r.nd
 ats:=fun k a m h1 h2=>by
  obtain ⟨q1,q2⟩:=r.ats k a m h1 h2
  have ha:=List.mem_of_getElem? h1
  exact ⟨by rw [ai (show a≠dx from fun z=>ld (z▸ha))];exact q1,q2.mono (fun b u e=>by rw [ai (fun z=>by rw [z,gd] at e;cases e)];exact e) (.refl _) (cP fun z=>lx (z▸ha))⟩
end
section
variable{X:Cx}{R:St→XK}{C fI:Addr}{t:DA}{Bn newId initId:String}{bmB:List Value}{x:Str}{np cpos pos:Pos}{e:Expr}{es:List Expr}{k k':Nat}{fd:FuncData}{ps:List Str}{T:DIF}
theorem sA(D:XcD X.prog X.w X.K X.mg X.base k x C bmB newId ps T fI fd)(hr:cT k' X.A)(hR:mD X R)(F:ExcBaseFacts Bn newId initId bmB)(ha:JA X R (e::es) t)(hk:k+1≤k':=by decide)(hc:X.calm=true:=by rfl)(hex:X.ex=[]:=by rfl)(hg:Gl X x:=by rfl)
  (hdb:(x==("__debug__":Str))=false:=by decide) (he:starEach (e::es) X.env=(false,eval e X.env)::starEach es X.env:=by rfl) (hpl:(backTo cpos (starEach es X.env)).any (·.1)=false:=by rfl):
  JS X R (.Raise (some (.Call (.Name x np) (e::es) [] cpos)) none pos) (qT C T t):= .of (rq hR hc hex F D.c D.ok (hr.mono hk) D.b hg D.m ha hdb he hpl) fun σ H G L ρ M Dn rl n h hx=>by
 refine ⟨G,L,ρ,M,_,_,rl,n,h,hx,fun vs H1 ⟨ds,G1,L1,M1,e1,r1,n1,hz,h1⟩=>⟨by rw [←n1.length];exact hz,fun xa hxa=> ?_⟩⟩
 refine ⟨xa,vs,H1,G1,L1,ds,M1,_,rfl,rfl,hxa,r1,n1,h1,fun H' G' L' M' fs ex ist ⟨hf,hq⟩=> ?_⟩
 obtain ⟨r',gx,lx,od,hxN,hd⟩:=ist
 refine ⟨rfl,od,hxN, ?_⟩
 rcases hd with ⟨z,_⟩ | ⟨dx,ws,rfl,d2,d3,d4,d5,d6,d7⟩
 ·exact absurd z hf
 ·have eF:Ex G1 L1 H1 (upd G' dx (.xd ((fs.map (·.1)).zip ws))) L' (drp xa H'):=ex.leave hxa d3 d4 d2
  have rF:=r'.leave gx lx d4 d5 d6 d2
  refine hx σ ρ C fs M' _ L' _ (some dx) hq (e1.trans eF) rF (n.mono (e1.trans eF)) (.inr ⟨hf,dx,ws,rfl,ao,aJ.mono (fun b u e=>by rw [ai (fun z=>by rw [z,d4] at e;cases e)];exact e) (.refl _) _ _ d7⟩)
end
def rpl(x:Addr)(d:Dt):Option Dt→Option Dt
 | some (.ref a)=>if a=x then some d else some (.ref a)
 | o=>o
def vv(i:Nat)(x:Addr)(d:Dt)(Dn:fW):fW:=⟨fun ρ M=>Dn.nx ((ρ.set i none).map (rpl x d)) M,fun _ _=>False,fun _ _=>False,fun _ _=>False,noX⟩
def zz(K:PySem.W.Frag)(D:Addr)(i:Nat)(tb:DS)(ts:Addr→DS):DS:=fun Dn ρ M=>
 tb {Dn with x:=fun ρ' C fs M'=>PySem.W.subIn K (.ref C) (.ref D)=some true∧∀x,ts x (vv i x (.exc C (fs.map (·.1)) (fs.map (·.2))) Dn) (ρ'.set i (some (.ref x))) M'} ρ M
theorem EnD.rpl{K:PySem.W.Frag}{G:Hp}{L:List Addr}{ρ:En}{σ:St}{x:Addr}{d:Dt}(h:EnD K G L ρ σ)(hd:Den K G L d (.ref x)):EnD K G L (ρ.map (rpl x d)) σ:=by
 refine ⟨by rw [List.length_map];exact h.len,fun i d' e=> ?_⟩
 rw [List.getElem?_map] at e
 obtain ⟨o,ho,e'⟩:=Option.map_eq_some_iff.mp e
 clear e
 cases o with
 | none=>cases e'
 | some d0=>
  by_cases hr:∃a,d0= .ref a
  ·obtain ⟨a,rfl⟩:=hr
   obtain ⟨v,h1,h2⟩:=h.ats i _ ho
   cases h2
   have e2:(if a=x then some d else some (.ref a))=some d':=e'
   by_cases z:a=x
   ·rw [if_pos z] at e2;cases e2;rw [z] at h1;exact ⟨_,h1,hd⟩
   ·rw [if_neg z] at e2;cases e2;exact ⟨_,h1,rfl⟩
  ·have e2:some d0=some d':=by
    cases d0 with
    | ref a=>exact absurd ⟨a,rfl⟩ hr
    | _=>exact e'
   cases e2
   exact h.ats i _ ho
section
variable{X:Cx}{R:St→XK}{body:List Stmt}{D:Addr}{dn n:Str}{i:Nat}{b₀:Stmt}{suite:List Stmt}{pos hpos np:Pos}{tb:DS}{ts:Addr→DS}{bmB':List Value}{newId':String}
theorem yo(hN:X.N.Nodup)(hi:X.N[i]? =some n)(d:dG X.K D bmB' newId')(hbe:bmB'.contains (.type "BaseException")=true)(hm:X.mg dn=some (.ref D))
  (hb:∀(R:St→XK) (pins:List (Addr×Obj)),JSs (Cx.tryC X R pins) R body tb)
  (hs:∀(x:Addr) (pn:List (Addr×Obj)),JSs (Cx.suite X x pn) (fun _=>E0) (b₀::suite) (ts x)) (hk:X.env.scope.names.lookup n=some .local:=by rfl) (hc:X.calm=true:=by rfl) (hex:X.ex=[]:=by rfl) (hst:X.stack=X.env::X.outer:=by rfl) (hf:X.env.frame=some X.env.locals:=by rfl) (hg:Gl X dn:=by rfl) (hdb:(dn==("__debug__":Str))=false:=by decide):
  JS X R (.Try body [.ExceptHandler (some (.Name dn np)) (some n) (b₀::suite) hpos] [] [] pos) (zz X.K D i tb ts):=
 .of (xK (tb:=fun R=>Bz X.K R tb) (ts:=fun x=>Bz X.K (fun _=>E0) (ts x)) hN hi hk hc hex hst hf d hbe hg hm hb hs hdb) fun σ H G L ρ M Dn rl n h hx=>by
  refine ⟨fun σ' cls od H'=>∃ρ' C fs M' G' L',cls= .ref C∧(PySem.W.subIn X.K (.ref C) (.ref D)=some true∧∀x,ts x (vv i x (.exc C (fs.map (·.1)) (fs.map (·.2))) Dn) (ρ'.set i (some (.ref x))) M')∧Ex G L H G' L' H'∧Rl X.K G' L' M' H'∧EnD X.K G' L' ρ' σ'∧BL X.K G' L' H' fs od, ?_, ?_⟩
  ·exact ⟨G,L,ρ,M,_,rl,n,h,fun σ' ρ' C fs M' G' L' H' od hq e r n y=>⟨ρ',C,fs,M',G',L',rfl,hq,e,r,n,y⟩,⟨fun _ _ f=>f,fun _ _ f=>f,fun _ _ f=>f,fun _ _ f=>f⟩⟩
  ·rintro σ' cls od H' ⟨ρ',C,fs,M',G',L',rfl,⟨hsub,hts⟩,e,r,n',y⟩
   refine ⟨C,rfl,hsub,fun x hx0=> ?_⟩
   refine ⟨G',L',_,M',_,r,n'.set i (d:= .ref x) rfl,hts x,hU,⟨fun σ1 H1 ⟨ρ1,G1,L1,M1,e1,r1,n1,h1⟩ hx1=> ?_,fun _ _ ⟨_,_,_,_,_,_,_,f⟩=>f.elim,fun _ _ ⟨_,_,_,_,_,_,_,f⟩=>f.elim,fun _ _ ⟨_,_,_,_,_,_,_,f⟩=>f.elim⟩⟩
   have e2:=r1.exG (o:=xO x C od) hx1
   have r2:=r1.newG (o:=xO x C od) hx1
   have eg:=e1.trans e2
   refine ⟨_,_,L1,M1,e.trans eg,r2,((n1.unset i).mono e2).rpl ?_,h1⟩
   rcases y with ⟨rfl,rfl⟩ | ⟨hne,dx,vs,rfl,q1,q2⟩
   ·exact ⟨x,none,[],rfl,ao, .inl ⟨rfl,rfl⟩,rfl,rfl⟩
   ·exact ⟨x,some dx,vs,rfl,ao, .inr ⟨dx,rfl,eg.g _ _ q1⟩,by rw [List.length_map,List.length_map],aJ.mono eg.g eg.l _ _ q2⟩
end
def dXA(K:PySem.W.Frag)(f:Str)(te:DE):DE:=fun ρ M q x=>te ρ M (fun d M1=>∃C ns ds v,d= .exc C ns ds∧mE K C∧XAt K C f∧(ns.zip ds).lookup f=some v∧q v M1) x
def Em(K:PySem.W.Frag):List Dt→Ms→DQ→Prop:=fun ds M q=>(∃C ns xs c t' b,ds=[.exc C ns xs,c]∧mE K C∧Dy c=some t'∧PySem.W.kitOne K (.ref C) t'=some b∧q (.bl b) M)∨yB K ds M q
section
variable{X:Cx}{R:St→XK}{e e2:Expr}{f:Str}{te:DE}{t:DA}{p pos:Pos}
theorem sG(K:PySem.W.Frag)(he:JE X R e te)(hb:attributeBase e f X.env (eval e X.env)=eval e X.env:=by rfl)(hK:X.K=K:=by rfl):JE X R (.Attribute e f pos) (dXA K f te):=by
 subst hK
 exact .of (xQ he hb) fun σ H G L ρ M q x rl en h hx=>by
  refine ⟨G,L,ρ,M,_,x,rl,en,h,hx,fun v H1 ⟨d1,G1,L1,M1,e1,r1,n1,C,ns,ds,y,ed,ty,xa,hl,h1⟩=> ?_⟩
  subst ed
  obtain ⟨a,od,vs,rfl,g1,g2,g3,dn⟩:=n1
  obtain ⟨u,hu,du⟩:=jG dn hl
  rcases g2 with ⟨rfl,rfl⟩ | ⟨dx,rfl,g4⟩
  ·cases hl
  ·exact ⟨a,C,dx,_,u,rfl,r1.sub _ _ g1,r1.sub _ _ g4,ty,xa,hu,y,G1,L1,M1,e1,r1,du,h1⟩
theorem t4:dH X (.builtin "isinstance") (fun xs H Q=>Co X.K xs H Q∨∃x c t t' b,xs=[x,c]∧kE X.K H x t∧yM c=some t'∧PySem.W.kitOne X.K t t'=some b∧Q (.bl b) H):=by
 intro pins s σ H xs us Q I r h
 rcases h with h | h
 ·exact vR pins s σ H xs us Q I r h
 ·exact iP pins s σ H xs us Q I r h
theorem Fg{K:PySem.W.Frag}:CaD K (fun xs H Q=>Co K xs H Q∨∃x c t t' b,xs=[x,c]∧kE K H x t∧yM c=some t'∧PySem.W.kitOne K t t'=some b∧Q (.bl b) H) (Em K):=by
 intro G0 L0 H0 G L M H vs ds q e r n h
 rcases h with ⟨C,ns,xs,c,t',b,ed,ty,hc,hk,hq⟩ | h
 ·subst ed
  obtain ⟨v,u,rfl,n1,n2⟩:=fe n
  obtain ⟨a,od,ws,rfl,g1,g2,g3,dn⟩:=n1
  refine .inl ⟨a,C,od,u,t',b,rfl,r.sub _ _ g1,fun dx hd=> ?_,ty,tW n2 hc,hk,bF e r hq⟩
  subst hd
  rcases g2 with ⟨_,z⟩ | ⟨dx',z,g4⟩
  ·cases z
  ·cases z;exact ⟨_,r.sub _ _ g4⟩
 ·exact .inr (AZ G0 L0 H0 G L M H vs ds q e r n h)
theorem gv(K:PySem.W.Frag)(hm:X.mg "isinstance"=none)(ha:JA X R [e,e2] t)(he:starEach [e,e2] X.env=(false,eval e X.env)::starEach [e2] X.env:=by rfl)(hpl:(backTo pos (starEach [e2] X.env)).any (·.1)=false:=by rfl)(hg:Gl X "isinstance":=by rfl)(hK:X.K=K:=by rfl):JE X R (.Call (.Name "isinstance" p) [e,e2] [] pos) (dFn (Em K) t):=by
 subst hK
 exact eK t4 Fg hm ez ha hg (by decide) (by decide) he hpl
end
end L2
set_option maxRecDepth 100000
set_option maxHeartbeats 4000000
namespace L2
open PySem PySem.Spec PyProof.Rows
end L2
namespace L2
open PySem PySem.Spec PyProof.Rows
end L2
set_option maxRecDepth 100000
set_option maxHeartbeats 4000000
namespace L2
open PySem PySem.Spec PyProof.Rows
section
variable{X:Cx}{R:St→XK}{body:List Stmt}{D D2:Addr}{dn dn2 n:Str}{i:Nat}{b₀ b₂:Stmt}{suite suite2:List Stmt}{pos hpos hpos2 np np2:Pos}{tb:DS}{ts ts2:Addr→Addr→Option Addr→DS}{bmB' bmB2:List Value}{newId' newId2:String}
end
section
variable{X:Cx}{R:St→XK}{e e2:Expr}{f:Str}{te:DE}{t:DA}{p pos:Pos}{x C:Addr}{od:Option Addr}
end
end L2
set_option maxRecDepth 100000
set_option maxHeartbeats 4000000
namespace L2
open PySem PySem.Spec PyProof.Rows
def inK(ks:List Key)(k:Key):Bool:=ks.any fun c=>decide (c=k)
theorem gR{k:Key}:∀{ks:List Key} {vs:List V},ks.length=vs.length→(fL (ks.zip vs) k).isSome=inK ks k
 | [],[],_=>rfl
 | c::ks,v::vs,h=>by
  have h:ks.length=vs.length:=by simpa using h
  rw [List.zip_cons_cons]
  by_cases e:c=k
  ·rw [bT e];subst e;simp [inK]
  ·rw [bU e,gR h]
   unfold inK
   rw [List.any_cons,decide_eq_false e,Bool.false_or]
section
variable{X:Cx}{R:St→XK}{o i e a b:Expr}{to ti te ta tb:DE}{pos p:Pos}{k':Nat}
theorem sJ:JE X R (.Dict [] [] pos) (fun _ M q _=>q (.loc M.length) (M++[.dct [] []])):=
 .of u3 fun σ H G L ρ M q x rl n h hx=>by
  intro p hp
  exact ⟨.loc M.length,G,L++[p],_,rl.exM hp,rl.newM (m:= .dct [] []) hp ⟨[],ao,rfl,rfl⟩,⟨p,rfl,by rw [←rl.len,List.getElem?_append_right (Nat.le_refl _)];simp⟩,h⟩
def Dg:Dt→Dt→Ms→DQ→Prop:=fun di d M q=>∃k ks ds key,d= .loc k∧M[k]? =some (.dct ks ds)∧y8 di=some key∧q (.bl (inK ks key)) M
theorem wF(hu:X.A.units+1 < cLine):OpR X (compareOp .In) (fun y x H Q=>∃a o,x=V.ref a∧wb H a y o∧Q (.bl o.isSome) H):=by
 intro pins s σ H x y u v Q I rx ry ⟨a,o,ex,g,q⟩
 subst ex
 obtain rfl:v=Value.ref a:=ry
 exact Fs hu I g rx fun s3 I3=>⟨.bl o.isSome,H,I3,rfl,q⟩
theorem Ew{K:PySem.W.Frag}:OpD K (fun y x H Q=>∃a o,x=V.ref a∧wb H a y o∧Q (.bl o.isSome) H) Dg:=by
 intro G0 L0 H0 G L M H v1 v2 d1 d2 q e r n1 n2 ⟨k,ks,ds,key,ed,hm,hk,h⟩
 subst ed
 obtain ⟨a,rfl,hk1⟩:=n2
 obtain ⟨_,vs,hH,hl,dn⟩:=r.ats k a _ hk1 hm
 refine ⟨a,_,rfl, .inl ⟨_,key, .inl hH,iz hk n1,rfl⟩, ?_⟩
 have hl2:ks.length=vs.length:=hl.trans dn.length
 rw [gR hl2]
 exact bF e r h
theorem CU(hr:cT k' X.A)(ja:JE X R a ta)(jb:JE X R b tb)(hm:behindInMarks .In b=false:=by rfl):JE X R (.Compare a [.In] [b] pos) (dOp Dg ta tb):=sL (wF (sP hr)) Ew ja jb hm
theorem AH(hr:cT k' X.A)(ja:JE X R a ta)(jb:JE X R b tb)(hm:behindInMarks .In b=false:=by rfl):JT X R (.Compare a [.In] [b] pos) (jK (dOp Dg ta tb)):=dw (wF (sP hr)) Ew ja jb hm
end
def mX(ks:List Key)(k:Key):List Key:=if inK ks k=true then ks else ks++[k]
def iV{α:Type}(k:Key)(v:α):List Key→List α→List α
 | c::ks,x::xs=>(if c=k then v else x)::iV k v ks xs
 | _,_=>[]
def jV{α:Type}(ks:List Key)(k:Key)(xs:List α)(v:α):List α:=if inK ks k=true then iV k v ks xs else xs++[v]
theorem kW{α:Type}{k:Key}{v:α}:∀{ks:List Key} {xs:List α},ks.length=xs.length→(iV k v ks xs).length=ks.length
 | [],[],_=>rfl
 | _::ks,_::xs,h=>by
  have h:ks.length=xs.length:=by simpa using h
  show (iV k v ks xs).length+1=ks.length+1
  rw [kW h]
theorem kU{k:Key}{v:V}:∀{ks:List Key} {vs:List V},ks.length=vs.length→(ks.zip vs).map (fun kv=>if kv.1=k then (kv.1,v) else kv)=ks.zip (iV k v ks vs)
 | [],[],_=>rfl
 | c::ks,x::vs,h=>by
  have h:ks.length=vs.length:=by simpa using h
  rw [List.zip_cons_cons,List.map_cons,kU h]
  show _=(c,if c=k then v else x)::ks.zip (iV k v ks vs)
  congr 1
  show (if c=k then (c,v) else (c,x))=_
  split <;> rfl
theorem kX{K:PySem.W.Frag}{G:Hp}{L:List Addr}{k:Key}{d:Dt}{v:V}(n:Den K G L d v):∀{ks:List Key} {ds:List Dt} {vs:List V},aJ K G L ds vs→ks.length=ds.length→aJ K G L (iV k d ks ds) (iV k v ks vs)
 | [],[],_,h,_=>by cases h;rfl
 | c::ks,x::ds,_,⟨y,vs,e,n0,ns⟩,hl=>by
  subst e
  have hl:ks.length=ds.length:=by simpa using hl
  refine ⟨_,_,rfl, ?_,kX n ns hl⟩
  show Den K G L (if c=k then d else x) (if c=k then v else y)
  split
  ·exact n
  ·exact n0
theorem zK{k:Key}{v:V}{ks:List Key}{vs:List V}(h:ks.length=vs.length):jr (ks.zip vs) k v=(mX ks k).zip (jV ks k vs v):=by
 unfold jr mX jV
 rw [gS,gR h]
 split
 ·exact kU h
 ·rw [List.zip_append h];rfl
def oG(to ti tv:DE):DS:=fun Dn ρ M=>tv ρ M (fun y M1=>to ρ M1 (fun d M2=>ti ρ M2 (fun di M3=>∃k ks ds key,d= .loc k∧M3[k]? =some (.dct ks ds)∧y8 di=some key∧ks.length < 1000∧Dn.nx ρ (M3.set k (.dct (mX ks key) (jV ks key ds y)))) Dn.x) Dn.x) Dn.x
section
variable{X:Cx}{R:St→XK}{o i value:Expr}{to ti tv:DE}{pos pos':Pos}{k':Nat}
theorem nM(hr:cT k' X.A)(ho:JE X R o to)(hi:JE X R i ti)(hv:JE X R value tv)(hs:swapsWith value (some (.Subscript o i pos')) pos.line X.env=pure false:=by rfl):JS X R (.Assign [.Subscript o i pos'] value pos) (oG to ti tv):=
 .of (xM (sP hr) ho hi hv hs) fun σ H G L ρ M Dn rl n h hx=>by
  refine ⟨G,L,ρ,M,_,_,rl,n,h,hx,fun v H1 ⟨dv,G1,L1,M1,e1,r1,n1,h1⟩=> ?_⟩
  refine ⟨G1,L1,ρ,M1,_,_,r1,n.mono e1,h1,hx.on e1,fun ov H2 ⟨d,G2,L2,M2,e2,r2,n2,h2⟩=> ?_⟩
  refine ⟨G2,L2,ρ,M2,_,_,r2,(n.mono e1).mono e2,h2,(hx.on e1).on e2,fun iv H3 ⟨di,G3,L3,M3,e3,r3,n3,k,ks,ds,key,ed,hm,hk,hlen,h3⟩=> ?_⟩
  subst ed
  obtain ⟨a,rfl,hka⟩:=n2
  have hk3:=e3.l.get hka
  obtain ⟨_,vs,hH,hl,dn⟩:=r3.ats k a _ hk3 hm
  have e23:=e2.trans e3
  have dv3:=Den.mono e23.g e23.l _ _ n1
  have hl2:ks.length=vs.length:=hl.trans dn.length
  obtain rfl:iv=kV key:=iz hk n3
  have z:(ks.zip vs).length < sizeLine:=by
   rw [List.length_zip]
   exact Nat.lt_of_le_of_lt (Nat.min_le_left _ _) (Nat.lt_trans hlen (by decide))
  refine ⟨a,_,rfl,Bv.k hH z,ρ,G3,L3,_,((e1.trans e2).trans e3).trans (r3.exS hk3),r3.setM (m:= .dct (mX ks key) (jV ks key ds dv)) hk3 ⟨jV ks key vs v,by rw [ao,zK hl2], ?_, ?_⟩,(((n.mono e1).mono e2).mono e3).mono (r3.exS (o:= .own a) hk3),h3⟩
  ·unfold mX jV
   split
   ·rw [kW hl]
   ·rw [List.length_append,List.length_append,hl];rfl
  ·unfold jV
   split
   ·exact kX dv3 dn hl
   ·exact dn.app ⟨_,_,rfl,dv3,rfl⟩
end
end L2
set_option maxRecDepth 100000
set_option maxHeartbeats 4000000
namespace L2
open PySem PySem.Spec PyProof.Rows
section
variable{X:Cx}{R:St→XK}{elt iter:Expr}{x:Str}{px:Pos}{scope:Scope}{pos:Pos}{ti:DA}{te:DE}{ys:List Str}{caps:List Nat}
end
end L2
set_option maxRecDepth 100000
set_option maxHeartbeats 4000000
namespace L2
open PySem PySem.Spec PyProof.Rows
inductive EqD(M:Ms):Nat→Dt→Dt→Bool→Prop
 | flat {n:Nat} {d e:Dt} {x y:V} (h1:nR d=some x) (h2:nR e=some y):EqD M n d e (eqV x y)
 | dct {n k1 k2:Nat} {ks ks2:List Key} {ds ds2:List Dt} {f:Nat→Bool} (h1:M[k1]? =some (.dct ks ds)) (h2:M[k2]? =some (.dct ks2 ds2)) (hl:ks.length=ks2.length) (hn:∀j k,ks[j]? =some k→aT ks2 ds2 k=none→f j=false)
   (h:∀j k d d',ks[j]? =some k→ds[j]? =some d→aT ks2 ds2 k=some d'→EqD M n d d' (f j)):EqD M (n+1) (.loc k1) (.loc k2) ((List.range ks.length).all f)
 | len {n k1 k2:Nat} {ks ks2:List Key} {ds ds2:List Dt} (h1:M[k1]? =some (.dct ks ds)) (h2:M[k2]? =some (.dct ks2 ds2)) (hl:ks.length≠ks2.length):EqD M (n+1) (.loc k1) (.loc k2) false
theorem mf{K:PySem.W.Frag}{G:Hp}{L:List Addr}:∀{ds:List Dt} {vs:List V},aJ K G L ds vs→∀{j:Nat} {v:V},vs[j]? =some v→∃d,ds[j]? =some d∧Den K G L d v
 | [],vs,h,j,v,e=>by cases h;simp at e
 | d::ds,_,⟨y,r,e0,n0,ns⟩,0,v,e=>by
  subst e0
  have:y=v:=by simpa using e
  subst this
  exact ⟨d,rfl,n0⟩
 | d::ds,_,⟨y,r,e0,n0,ns⟩,j+1,v,e=>by
  subst e0
  obtain ⟨d',h1,h2⟩:=mf ns (show r[j]? =some v by simpa using e)
  exact ⟨d',by simpa using h1,h2⟩
theorem iM{K:PySem.W.Frag}{G:Hp}{L:List Addr}{k:Key}:∀{ks:List Key} {ds:List Dt} {vs:List V},aJ K G L ds vs→ks.length=ds.length→(aT ks ds k=none∧fL (ks.zip vs) k=none)∨∃d v,aT ks ds k=some d∧fL (ks.zip vs) k=some v∧Den K G L d v
 | [],ds,vs,_,_=> .inl ⟨rfl,rfl⟩
 | c::ks,[],vs,_,hl=>by simp at hl
 | c::ks,d::ds,_,⟨y,r,e0,n0,ns⟩,hl=>by
  subst e0
  have hl:ks.length=ds.length:=by simpa using hl
  have e1:aT (c::ks) (d::ds) k=if c=k then some d else aT ks ds k:=by
   unfold aT
   rw [List.zip_cons_cons,List.find?_cons]
   by_cases e:c=k
   ·rw [if_pos e];simp [e]
   ·rw [if_neg e];simp [e]
  rw [List.zip_cons_cons,e1]
  by_cases e:c=k
  ·rw [if_pos e,bT e]
   exact .inr ⟨d,y,rfl,rfl,n0⟩
  ·rw [if_neg e,bU e]
   exact iM ns hl
theorem Dk{K:PySem.W.Frag}{G:Hp}{L:List Addr}{M:Ms}{H:Hp}(r:Rl K G L M H){n:Nat}{d e:Dt}{c:Bool}(h:EqD M n d e c):∀{x y:V},Den K G L d x→Den K G L e y→wa H n x y c:=by
 induction h with
 | flat h1 h2=>
  intro x y n1 n2
  obtain ⟨e1,f1⟩:=fc h1 n1
  obtain ⟨e2,f2⟩:=fc h2 n2
  subst e1 e2
  exact .flat f1 f2
 | @dct n k1 k2 ks ks2 ds ds2 f h1 h2 hl hn h ih=>
  intro x y n1 n2
  obtain ⟨a,rfl,a1⟩:=n1
  obtain ⟨b,rfl,b1⟩:=n2
  obtain ⟨_,vs,hH,hz,dn⟩:=r.ats k1 a _ a1 h1
  obtain ⟨_,vs2,hH2,hz2,dn2⟩:=r.ats k2 b _ b1 h2
  have l1:(ks.zip vs).length=ks.length:=by rw [List.length_zip,←dn.length,hz,Nat.min_self]
  have l2:(ks2.zip vs2).length=ks2.length:=by rw [List.length_zip,←dn2.length,hz2,Nat.min_self]
  have:=wa.dct (H:=H) (n:=n) (e:=f) (.inl hH) (.inl hH2) (by rw [l1,l2];exact hl) (fun j k v hj hv=>by
   obtain ⟨g1,g2⟩:=List.getElem?_zip_eq_some.mp hj
   rcases iM (k:=k) dn2 hz2 with ⟨q1,_⟩ | ⟨d',v',_,q2,_⟩
   ·exact hn j k g1 q1
   ·rw [hv] at q2;cases q2) (fun j k v v' hj hv=>by
   obtain ⟨g1,g2⟩:=List.getElem?_zip_eq_some.mp hj
   obtain ⟨d0,g3,g4⟩:=mf dn g2
   rcases iM (k:=k) dn2 hz2 with ⟨_,q1⟩ | ⟨d',v2,q1,q2,q3⟩
   ·rw [hv] at q1;cases q1
   ·rw [hv] at q2
    obtain rfl:v'=v2:=Option.some.inj q2
    exact ih j k d0 d' g1 g3 q1 g4 q3)
  rwa [l1] at this
 | @len n k1 k2 ks ks2 ds ds2 h1 h2 hl=>
  intro x y n1 n2
  obtain ⟨a,rfl,a1⟩:=n1
  obtain ⟨b,rfl,b1⟩:=n2
  obtain ⟨_,vs,hH,hz,dn⟩:=r.ats k1 a _ a1 h1
  obtain ⟨_,vs2,hH2,hz2,dn2⟩:=r.ats k2 b _ b1 h2
  have l1:(ks.zip vs).length=ks.length:=by rw [List.length_zip,←dn.length,hz,Nat.min_self]
  have l2:(ks2.zip vs2).length=ks2.length:=by rw [List.length_zip,←dn2.length,hz2,Nat.min_self]
  exact .len (.inl hH) (.inl hH2) (by rw [l1,l2];exact hl)
def Et(n:Nat):Dt→Dt→Ms→DQ→Prop:=fun d e M q=>∃k1 k2 c,d= .loc k1∧e= .loc k2∧EqD M n d e c∧q (.bl c) M
theorem Fp{K:PySem.W.Frag}{n:Nat}:OpD K (zH n) (Et n):=by
 intro G0 L0 H0 G L M H v1 v2 d1 d2 q e r n1 n2 ⟨k1,k2,c,e1,e2,h,hq⟩
 have:=Dk r h n1 n2
 subst e1 e2
 obtain ⟨a,rfl,_⟩:=n1
 obtain ⟨b,rfl,_⟩:=n2
 exact ⟨a,b,c,rfl,rfl,this,bF e r hq⟩
section
variable{X:Cx}{R:St→XK}{o i e f a b v1 v2:Expr}{to ti te ta tb tx t1 t2:DE}{t:DA}{pos p apos cpos:Pos}{k':Nat}
theorem AG(n:Nat)(hr:cT k' X.A)(ja:JE X R a ta)(jb:JE X R b tb)(hn:n≤64:=by decide)(hm:behindInMarks .Eq b=false:=by rfl):JT X R (.Compare a [.Eq] [b] pos) (jK (dOp (Et n) ta tb)):=dw (x4 (C1 hr hn)) Fp ja jb hm
def tF:Dt→Dt→Ms→DQ→Prop:=fun di d M q=>∃k ks ds key,d= .loc k∧M[k]? =some (.dct ks ds)∧y8 di=some key∧q (.bl (!inK ks key)) M
theorem rR(hu:X.A.units+1 < cLine):OpR X (compareOp .NotIn) (fun y x H Q=>∃a o,x=V.ref a∧wb H a y o∧Q (.bl (!o.isSome)) H):=by
 intro pins s σ H x y u v Q I rx ry ⟨a,o,ex,g,q⟩
 subst ex
 obtain rfl:v=Value.ref a:=ry
 exact yK hu I g rx fun s3 I3=>⟨.bl (!o.isSome),H,I3,rfl,q⟩
theorem yI{K:PySem.W.Frag}:OpD K (fun y x H Q=>∃a o,x=V.ref a∧wb H a y o∧Q (.bl (!o.isSome)) H) tF:=by
 intro G0 L0 H0 G L M H v1 v2 d1 d2 q e r n1 n2 ⟨k,ks,ds,key,ed,hm,hk,h⟩
 subst ed
 obtain ⟨a,rfl,hk1⟩:=n2
 obtain ⟨_,vs,hH,hl,dn⟩:=r.ats k a _ hk1 hm
 refine ⟨a,_,rfl, .inl ⟨_,key, .inl hH,iz hk n1,rfl⟩, ?_⟩
 have hl2:ks.length=vs.length:=hl.trans dn.length
 rw [gR hl2]
 exact bF e r h
theorem sx(hr:cT k' X.A)(ja:JE X R a ta)(jb:JE X R b tb)(hm:behindInMarks .NotIn b=false:=by rfl):JT X R (.Compare a [.NotIn] [b] pos) (jK (dOp tF ta tb)):=dw (rR (sP hr)) yI ja jb hm
theorem mv:dH X (.type "dict") (fun xs H Q=>∃a kvs,xs=[V.ref a]∧Rd H a (.dK kvs)∧∀p,H p=none→Q (.ref p) (upd H p (.dK kvs))):=by
 intro pins s σ H xs us Q I r ⟨a,kvs,ex,e,q⟩
 subst ex
 cases r with
 | cons r1 r2=>
  cases r2
  cases r1
  exact vL I e fun p s' hp I'=>⟨.ref p,_,I',rfl,q p hp⟩
def yD:List Dt→Ms→DQ→Prop
 | [d],M,q=>∃k ks ds,d= .loc k∧M[k]? =some (.dct ks ds)∧q (.loc M.length) (M++[.dct ks ds])
 | _,_,_=>False
theorem Du{K:PySem.W.Frag}:CaD K (fun xs H Q=>∃a kvs,xs=[V.ref a]∧Rd H a (.dK kvs)∧∀p,H p=none→Q (.ref p) (upd H p (.dK kvs))) yD:=by
 intro G0 L0 H0 G L M H vs ds q e r n h
 unfold yD at h
 split at h
 ·rename_i d
  obtain ⟨v,rfl,n1⟩:=bB n
  obtain ⟨k,ks,ds,ed,hm,h⟩:=h
  subst ed
  obtain ⟨a,rfl,hk⟩:=n1
  obtain ⟨_,vs,hH,hl,dn⟩:=r.ats k a _ hk hm
  refine ⟨a,_,rfl, .inl hH,fun p hp=> ?_⟩
  exact ⟨.loc M.length,G,L++[p],_,e.trans (r.exM hp),r.newM (m:= .dct ks ds) hp ⟨vs,ao,hl,aJ.mono (.refl _) ⟨[p],rfl⟩ _ _ dn⟩,⟨p,rfl,by rw [←r.len,List.getElem?_append_right (Nat.le_refl _)];simp⟩,h⟩
 ·exact h.elim
theorem qv:bootBuiltins "dict"=some (.type "dict"):=by decide+kernel
theorem wQ(hm:X.mg "dict"=none)(ha:JA X R [e] t)(hg:Gl X "dict":=by rfl)(he:starEach [e] X.env=(false,eval e X.env)::starEach [] X.env:=by rfl)(hpl:(backTo pos (starEach [] X.env)).any (·.1)=false:=by rfl):JE X R (.Call (.Name "dict" p) [e] [] pos) (dFn yD t):=
 oX mv Du hm qv ha hg (by decide) (by decide) he hpl
end
end L2
namespace L2
open PySem PySem.Spec PyProof.Rows
def mh(ks:List Key)(k:Key):List Key:=ks.filter fun c=>decide (c≠k)
def fH{α:Type}(k:Key):List Key→List α→List α
 | c::ks,x::xs=>if c=k then fH k ks xs else x::fH k ks xs
 | _,_=>[]
theorem nZ{k:Key}:∀{ks:List Key} {vs:List V},ks.length=vs.length→gO (ks.zip vs) k=(mh ks k).zip (fH k ks vs)
 | [],[],_=>rfl
 | c::ks,x::vs,h=>by
  have h:ks.length=vs.length:=by simpa using h
  rw [List.zip_cons_cons]
  unfold mh fH
  rw [List.filter_cons]
  by_cases e:c=k
  ·rw [tN e,if_neg (by simp [e]),if_pos e];exact nZ h
  ·rw [tO e,if_pos (by simp [e]),if_neg e,List.zip_cons_cons,nZ h];rfl
theorem n8{α:Type}{k:Key}:∀{ks:List Key} {xs:List α},ks.length=xs.length→(mh ks k).length=(fH k ks xs).length
 | [],[],_=>rfl
 | c::ks,x::xs,h=>by
  have h:ks.length=xs.length:=by simpa using h
  unfold mh fH
  rw [List.filter_cons]
  by_cases e:c=k
  ·rw [if_neg (by simp [e]),if_pos e];exact n8 h
  ·rw [if_pos (by simp [e]),if_neg e,List.length_cons,List.length_cons]
   exact congrArg (· +1) (n8 h)
theorem n9{K:PySem.W.Frag}{G:Hp}{L:List Addr}{k:Key}:∀{ks:List Key} {ds:List Dt} {vs:List V},aJ K G L ds vs→ks.length=ds.length→aJ K G L (fH k ks ds) (fH k ks vs)
 | [],[],_,h,_=>by cases h;rfl
 | c::ks,x::ds,_,⟨y,vs,e,n0,ns⟩,hl=>by
  subst e
  have hl:ks.length=ds.length:=by simpa using hl
  unfold fH
  by_cases e:c=k
  ·rw [if_pos e,if_pos e];exact n9 ns hl
  ·rw [if_neg e,if_neg e]
   exact ⟨_,_,rfl,n0,n9 ns hl⟩
def xg(to ti tx:DE):DE:=fun ρ M q x=>to ρ M (fun d M1=>(∃k ks ds,d= .loc k∧M1[k]? =some (.dct ks ds))∧ti ρ M1 (fun di M2=>tx ρ M2 (fun z M3=>∃k ks ds key,d= .loc k∧M3[k]? =some (.dct ks ds)∧y8 di=some key∧
 (∀v,aT ks ds key=some v→q v (M3.set k (.dct (mh ks key) (fH key ks ds))))∧(aT ks ds key=none→q z M3)) x) x) x
section
variable{X:Cx}{R:St→XK}{o e f v1 v2:Expr}{to te tx t1 t2:DE}{pos apos cpos:Pos}
theorem yq(ho:JE X R o to)(he:JE X R e te)(hf:JE X R f tx)(m:M2 X o "pop" apos e f cpos:=by exact ⟨rfl,rfl,rfl,rfl⟩):JE X R (.Call (.Attribute o "pop" apos) [e,f] [] cpos) (xg to te tx):=
 .of (uZ ho he hf m) fun σ H G L ρ M q x rl n h hx=>by
  refine ⟨G,L,ρ,M,_,x,rl,n,h,hx,fun v H1 ⟨d1,G1,L1,M1,e1,r1,n1,⟨k0,ks0,ds0,ed0,hm0⟩,h1⟩=> ?_⟩
  subst ed0
  obtain ⟨a,rfl,hk1⟩:=n1
  obtain ⟨_,vs0,hH0,_,_⟩:=r1.ats k0 a _ hk1 hm0
  refine ⟨a,rfl, .inl ⟨_, .inl hH0⟩, ?_⟩
  refine ⟨G1,L1,ρ,M1,_,x,r1,n.mono e1,h1,hx.on e1,fun v2 H2 ⟨d2,G2,L2,M2,e2,r2,n2,h2⟩=> ?_⟩
  refine ⟨G2,L2,ρ,M2,_,x,r2,(n.mono e1).mono e2,h2,(hx.on e1).on e2,fun v3 H3 ⟨d3,G3,L3,M3,e3,r3,n3,k,ks,ds,key,ed,hm,hk,hs,hn⟩=> ?_⟩
  cases ed
  have hk3:=e3.l.get (e2.l.get hk1)
  obtain ⟨_,vs,hH,hl,dn⟩:=r3.ats k0 a _ hk3 hm
  have hl2:ks.length=vs.length:=hl.trans dn.length
  refine ⟨_,key,hH,iz hk (Den.mono e3.g e3.l _ _ n2),fun v hv=> ?_,fun hv=> ?_⟩
  ·rcases iM (k:=key) dn hl with ⟨_,q1⟩ | ⟨d',v',q1,q2,q3⟩
   ·rw [hv] at q1;cases q1
   ·rw [hv] at q2
    obtain rfl:v=v':=Option.some.inj q2
    exact ⟨d',G3,L3,_,((e1.trans e2).trans e3).trans (r3.exS hk3),r3.setM (m:= .dct (mh ks key) (fH key ks ds)) hk3 ⟨fH key ks vs,by rw [ao,nZ hl2],n8 hl,n9 dn hl⟩,q3,hs d' q1⟩
  ·rcases iM (k:=key) dn hl with ⟨q1,_⟩ | ⟨d',v',q1,q2,q3⟩
   ·exact aL ((e1.trans e2).trans e3) r3 n3 (hn q1)
   ·rw [hv] at q2;cases q2
theorem xY{K:PySem.W.Frag}{G1:Hp}{L1:List Addr}{H1 G:Hp}{L:List Addr}{M:Ms}{H:Hp}{p:Addr}{ks:List Key}{ds:List Dt}{vs:List V}{q:DQ}(e:Ex G1 L1 H1 G L H)(r:Rl K G L M H)(hp1:H1 p=none)(hg:G p=none)(hl:p∉L)(h:H p=some (.dK (ks.zip vs)))(hk:ks.length=ds.length)(n:aJ K G L ds vs)(k:q (.loc M.length) (M++[.dct ks ds])):Fin K G1 L1 H1 q (.ref p) H:=by
 refine ⟨.loc M.length,G,L++[p],M++[.dct ks ds],⟨e.g,e.l.trans ⟨[p],rfl⟩,e.fr,e.out,fun b hb=> ?_,e.dom⟩,⟨r.sub,by rw [List.length_append,List.length_append,r.len];rfl,List.nodup_append.mpr ⟨r.nd,by simp,fun a ha b hb=> ?_⟩,fun k a m h1 h2=> ?_⟩,⟨p,rfl,by rw [←r.len,List.getElem?_append_right (Nat.le_refl _)];simp⟩,k⟩
 ·rcases List.mem_append.mp hb with z | z
  ·exact e.new b z
  ·have e:b=p:=by simpa using z
   right;rw [e];exact hp1
 ·have e:b=p:=by simpa using hb
  rw [e];exact fun z=>hl (z▸ha)
 ·by_cases hk':k < L.length
  ·rw [List.getElem?_append_left hk'] at h1
   rw [List.getElem?_append_left (by rw [←r.len];exact hk')] at h2
   obtain ⟨q1,q2⟩:=r.ats k a m h1 h2
   exact ⟨q1,q2.mono (.refl _) ⟨[p],rfl⟩ rfl⟩
  ·have e:k=L.length:=by
    have:=(List.getElem?_eq_some_iff.mp h1).1
    rw [List.length_append] at this
    simp at this
    omega
   rw [e,List.getElem?_append_right (Nat.le_refl _)] at h1
   rw [e,r.len,List.getElem?_append_right (Nat.le_refl _)] at h2
   simp at h1 h2
   subst h1 h2
   exact ⟨hg,vs,h,hk,aJ.mono (.refl _) ⟨[p],rfl⟩ _ _ n⟩
theorem nN{z1 z2:Str}{c1 c2:Nat}{p1 p2:Pos}(hv1:JE X R v1 t1)(hv2:JE X R v2 t2)(hne:z1≠z2:=by decide):
  JE X R (.Dict [some (.Constant (.str z1) c1 p1),some (.Constant (.str z2) c2 p2)] [v1,v2] pos) (fun ρ M q x=>t1 ρ M (fun d1 M1=>t2 ρ M1 (fun d2 M2=>q (.loc M2.length) (M2++[.dct [Sum.inr z1,Sum.inr z2] [d1,d2]])) x) x):=
 .of (xS (oN pcs hv1 (oN pcs hv2 xP)) rfl rfl (by simp) (by show 2≤15;decide)) fun σ H G L ρ M q x rl n h hx=>by
  intro p hp
  have gn:G p=none:=rl.sub.free hp
  have ln:p∉L:=rl.memN hp
  have e0:Ex G L H G L (upd H p (.dK [])):=⟨.refl _, .refl _,fun _ h _=>h,fun b u h1 _=>by rw [ai (fun z=>by rw [z,hp] at h1;cases h1)];exact h1,fun _ h=> .inl h,fun b h=>by rw [ai (fun z=>h (by rw [z];exact hp))];exact h⟩
  have r0:Rl X.K G L M (upd H p (.dK [])):=⟨fun b u e=>by rw [ai (fun z=>by rw [z,gn] at e;cases e)];exact rl.sub b u e,rl.len,rl.nd,fun i a m h1 h2=>by
   obtain ⟨q1,q2⟩:=rl.ats i a m h1 h2
   exact ⟨q1,q2.mono (.refl _) (.refl _) (ai fun z=>q2.there (by rw [z];exact hp))⟩⟩
  refine ⟨G,L,ρ,M,_,x,r0,n,h,hx.on e0,fun u1 H1 ⟨d1,G1,L1,M1,e1,r1,n1,h1⟩=> ?_⟩
  have hp1:H1 p=some (.dK []):=e1.out _ _ ao ln
  have g1:G1 p=none:=e1.fr _ gn (by rw [ao];simp)
  have l1:p∉L1:=fun z=>(e1.new _ z).elim ln fun q=>by rw [ao] at q;cases q
  refine ⟨G1,L1,ρ,M1,_,x,r1,n.mono (e0.trans e1),h1,hx.on (e0.trans e1),fun u2 H2 ⟨d2,G2,L2,M2,e2,r2,n2,h2⟩=> ?_⟩
  have hp2:H2 p=some (.dK []):=e2.out _ _ hp1 l1
  have g2:G2 p=none:=e2.fr _ g1 (by rw [hp1];simp)
  have l2:p∉L2:=fun z=>(e2.new _ z).elim l1 fun q=>by rw [hp1] at q;cases q
  refine ⟨hp2,[(Sum.inr z1,u1),(Sum.inr z2,u2)],rfl,by show 2≤15;decide, ?_⟩
  rw [lG _ [] (fun _ _=>rfl) (by simp [hne]),List.nil_append]
  have e02:=(e0.trans e1).trans e2
  have gne:∀{b:Addr} {w:HO},G2 b=some w→b≠p:=fun e z=>by rw [z,g2] at e;cases e
  refine xY (G:=G2) (L:=L2) (M:=M2) (ks:=[Sum.inr z1,Sum.inr z2]) (ds:=[d1,d2]) (vs:=[u1,u2]) ⟨e02.g,e02.l,e02.fr,fun b w h1 h2=> ?_,e02.new,fun b h=> ?_⟩ ⟨fun b w e=> ?_,r2.len,r2.nd,fun i a m h1 h2=> ?_⟩ hp g2 l2 ao rfl ⟨_,_,rfl,Den.mono e2.g e2.l _ _ n1,_,_,rfl,n2,rfl⟩ h2
  ·rw [ai (fun z=>by rw [z,hp] at h1;cases h1)];exact e02.out b w h1 h2
  ·by_cases hb:b=p
   ·rw [hb,ao];simp
   ·rw [ai hb];exact e02.dom b h
  ·rw [ai (gne e)];exact r2.sub b w e
  ·obtain ⟨q1,q2⟩:=r2.ats i a m h1 h2
   exact ⟨q1,q2.mono (.refl _) (.refl _) (ai fun z=>l2 (by rw [←z];exact List.mem_of_getElem? h1))⟩
end
end L2
set_option maxRecDepth 100000
set_option maxHeartbeats 4000000
namespace L2
open PySem PySem.Spec PyProof.Rows
def Ef:Dt→Bool
 | .non=>true
 | _=>false
theorem yb{K:PySem.W.Frag}{G:Hp}{L:List Addr}{d:Dt}{v:V}(n:Den K G L d v):decide (v= .non)=Ef d:=by
 cases d with
 | non=>cases n;rfl
 | bl b=>cases n;rfl
 | int i=>cases n;rfl
 | str x=>cases n;rfl
 | tup ds=>obtain ⟨a,vs,rfl,_⟩:=n;rfl
 | lst ds=>obtain ⟨a,vs,rfl,_⟩:=n;rfl
 | obj C ns ds=>obtain ⟨a,dx,vs,rfl,_⟩:=n;rfl
 | loc k=>obtain ⟨a,rfl,_⟩:=n;rfl
 | ref a=>cases n;rfl
 | ty m=>cases n;rfl
 | scr ns=>obtain ⟨a,rfl,_⟩:=n;rfl
 | kt ds=>obtain ⟨a,vs,rfl,_⟩:=n;rfl
 | exc C ns ds=>obtain ⟨a,od,vs,rfl,_⟩:=n;rfl
 | exn x C od ns ds=>obtain ⟨vs,rfl,_⟩:=n;rfl
def A8:Dt→Dt→Ms→DQ→Prop:=fun d e M q=>e= .non∧q (.bl (!Ef d)) M
theorem CD{K:PySem.W.Frag}:OpD K (fun x y H Q=>y= .non∧Q (.bl (!decide (x= .non))) H) A8:=by
 intro G0 L0 H0 G L M H v1 v2 d1 d2 q e r n1 n2 ⟨e2,h⟩
 subst e2
 refine ⟨n2, ?_⟩
 rw [yb n1]
 exact bF e r h
section
variable{X:Cx}{R:St→XK}{a b:Expr}{ta tb:DE}{pos:Pos}
theorem sv(ja:JE X R a ta)(jb:JE X R b tb):JT X R (.Compare a [.IsNot] [b] pos) (jK (dOp A8 ta tb)):=dw xZ CD ja jb (eE _)
end
end L2
set_option maxRecDepth 100000
set_option maxHeartbeats 4000000
namespace Fr0
def g(a b:Int):Int:=(Int.gcd a b:Nat)
theorem sY{a b:Int}(h:b≠0):0 < g a b:=by
 have:=Int.gcd_pos_of_ne_zero_right a h
 unfold g;omega
theorem wZ{a:Int}(h:0≤a):g a 0=a:=by
 unfold g;rw [Int.gcd_zero_right];omega
theorem w4{a b:Int}(hb:0 < b):g b (a.fmod b)=g a b:=by
 unfold g
 rw [Int.fmod_eq_emod_of_nonneg a (Int.le_of_lt hb),Int.gcd_comm a b]
 congr 1
 refine Int.gcd_right_eq_iff.mpr fun c hc=> ?_
 rw [Int.emod_def]
 constructor
 ·intro h
  have:=Int.dvd_add h (Int.dvd_mul_of_dvd_left (c:=a / b) hc)
  rwa [Int.sub_add_cancel] at this
 ·intro h
  exact Int.dvd_sub h (Int.dvd_mul_of_dvd_left (c:=a / b) hc)
theorem A4(a b:Int):g (if a < 0 then -a else a) (if b < 0 then -b else b)=g a b:=by
 unfold g
 split <;> split <;> simp
def dv(t b:Int):Int:=if b < 0 then -(g t b) else g t b
def cx(t b:Int):Int×Int:=(t.fdiv (dv t b),b.fdiv (dv t b))
theorem vG{t b:Int}(h:b≠0):dv t b≠0:=by
 have:=sY (a:=t) h
 unfold dv;split <;> omega
theorem ph{k p:Int}(h:k≠0):(k * p).fdiv k=p:=by
 rw [Int.mul_comm];exact Int.mul_fdiv_cancel p h
theorem vF{t b:Int}(h:b≠0):∃p q:Int,t=dv t b * p∧b=dv t b * q∧0 < q∧Int.gcd p q=1:=by
 have hg:=sY (a:=t) h
 have h0:0 < Int.gcd t b:=Int.gcd_pos_of_ne_zero_right t h
 obtain ⟨p,hp⟩:=Int.gcd_dvd_left t b
 obtain ⟨q,hq⟩:=Int.gcd_dvd_right t b
 have hc:Int.gcd p q=1:=by
  have e:=Int.gcd_ediv_gcd_ediv_gcd h0
  have n0:(Int.gcd t b:Int)≠0:=by omega
  have e1:t / (Int.gcd t b:Int)=p:=by
   conv=>lhs;arg 1;rw [hp]
   exact Int.mul_ediv_cancel_left p n0
  have e2:b / (Int.gcd t b:Int)=q:=by
   conv=>lhs;arg 1;rw [hq]
   exact Int.mul_ediv_cancel_left q n0
  rwa [e1,e2] at e
 have hp':t=g t b * p:=hp
 have hq':b=g t b * q:=hq
 by_cases hb:b < 0
 ·have hd:dv t b= -(g t b):=by unfold dv;rw [if_pos hb]
  refine ⟨-p, -q, ?_, ?_, ?_, ?_⟩
  ·rw [hd,Int.neg_mul_neg];exact hp'
  ·rw [hd,Int.neg_mul_neg];exact hq'
  ·have:g t b * q < 0:=by rw [←hq'];exact hb
   by_cases q0:0≤q
   ·exact absurd (Int.mul_nonneg (Int.le_of_lt hg) q0) (by omega)
   ·omega
  ·simpa using hc
 ·have hd:dv t b=g t b:=by unfold dv;rw [if_neg hb]
  refine ⟨p,q,by rw [hd];exact hp',by rw [hd];exact hq', ?_,hc⟩
  have:0 < g t b * q:=by rw [←hq'];omega
  exact Int.pos_of_mul_pos_right this hg
theorem dD {t b : Int} (h : b ≠ 0) : ∃ p q : Int, cx t b = (p, q) ∧ 0 < q ∧ Int.gcd p q = 1 ∧ t = dv t b * p ∧ b = dv t b * q := by
  obtain ⟨p, q, hp, hq, h0, hc⟩ := vF (t := t) h
  have n0 := vG (t := t) h
  refine ⟨p, q, ?_, h0, hc, hp, hq⟩
  unfold cx
  have e1 : t.fdiv (dv t b) = p := by conv => lhs; arg 1; rw [hp]
                                      exact ph n0
  have e2 : b.fdiv (dv t b) = q := by conv => lhs; arg 1; rw [hq]
                                      exact ph n0
  rw [e1, e2]
theorem dE{t b:Int}(h:b≠0):t * (cx t b).2=b * (cx t b).1:=by
 obtain ⟨p,q,e,_,_,hp,hq⟩:=dD (t:=t) h
 rw [e]
 show t * q=b * p
 calc t * q=dv t b * p * q:=by rw [←hp]
  _=dv t b * q * p:=by rw [Int.mul_assoc,Int.mul_comm p q,←Int.mul_assoc]
  _=b * p:=by rw [←hq]
theorem cC{t b:Int}(h:b≠0):0 < (cx t b).2:=by
 obtain ⟨p,q,e,h0,_⟩:=dD (t:=t) h
 rw [e];exact h0
theorem vy{t b:Int}(h:b≠0):Int.gcd (cx t b).1 (cx t b).2=1:=by
 obtain ⟨p,q,e,_,hc,_⟩:=dD (t:=t) h
 rw [e];exact hc
end Fr0
namespace Fr0
theorem ma{t b:Int}(h:b≠0):(dv t b).natAbs≤b.natAbs:=by
 have e:(dv t b).natAbs=Int.gcd t b:=by unfold dv g;split <;> omega
 rw [e]
 exact Int.gcd_le_natAbs_right t h
theorem pe {t b : Int} (h : b ≠ 0) : (cx t b).1.natAbs ≤ t.natAbs := by
  obtain ⟨p, q, e, _, _, hp, _⟩ := dD (t := t) h
  have n0 := vG (t := t) h
  rw [e]
  show p.natAbs ≤ t.natAbs
  have : t.natAbs = (dv t b).natAbs * p.natAbs := by conv => lhs; rw [hp]
                                                     exact Int.natAbs_mul _ _
  rw [this]
  exact Nat.le_mul_of_pos_left _ (by omega)
theorem kj {t b : Int} (h : b ≠ 0) : (cx t b).2.natAbs ≤ b.natAbs := by
  obtain ⟨p, q, e, _, _, _, hq⟩ := dD (t := t) h
  have n0 := vG (t := t) h
  rw [e]
  show q.natAbs ≤ b.natAbs
  have : b.natAbs = (dv t b).natAbs * q.natAbs := by conv => lhs; rw [hq]
                                                     exact Int.natAbs_mul _ _
  rw [this]
  exact Nat.le_mul_of_pos_left _ (by omega)
theorem yz{t b:Int}(h:0 < b):cx t b=(t.fdiv (g t b),b.fdiv (g t b)):=by
 unfold cx dv
 rw [if_neg (by omega)]
end Fr0
namespace Tx
open PySem PySem.NumText
end Tx
set_option maxRecDepth 100000
set_option maxHeartbeats 4000000
namespace Tx
open PySem PySem.NumText
end Tx
set_option maxRecDepth 100000
set_option maxHeartbeats 4000000
seal L2.JE L2.JT L2.JW L2.JA L2.JS L2.JSs L2.JI L2.JK L2.JXs L2.JXi
local macro_rules | `(tactic| walk_at "vc")=>`(tactic| dsimp only [L2.gN,L2.DZ,L2.Ek,L2.dFz,L2.B6,L2.zB,L2.sIf,L2.DY,L2.zA,L2.zD,L2.wt,L2.Bk,L2.dFn,L2.dOp,L2.dUn,L2.oa,L2.dC,L2.vY,L2.jd,L2.Ey,L2.BG,L2.jK,L2.orT,L2.Ee,L2.EA,L2.dOr,L2.Ez,L2.dIf,L2.h7,List.map_cons,List.map_nil,List.length_cons,List.length_nil,List.cons_append,List.nil_append,List.replicate,List.getElem?_cons_zero,List.getElem?_cons_succ,List.set_cons_zero,List.set_cons_succ,Nat.reduceSub,Nat.reduceAdd,Nat.zero_add])
namespace Pg
open PySem L2
def top(i:Nat):Stmt:=PySem.Challenge.pw_chanceduel_k65_no_plan_for_a_mean.main.body.getD i (.Pass ⟨0,0,0,0⟩)
def cls(i j:Nat):Stmt:=match top i with
 | .ClassDef _ _ _ b _ _ _ _ _ _ _=>b.getD j (.Pass ⟨0,0,0,0⟩)
 | _=> .Pass ⟨0,0,0,0⟩
abbrev bo:Stmt:=top 14
abbrev dj:Stmt:=top 15
abbrev pT:Stmt:=top 16
abbrev jj:Stmt:=top 17
abbrev ji:Stmt:=top 18
abbrev e7:Stmt:=top 23
abbrev dt:Stmt:=top 24
abbrev bA:Stmt:=top 25
abbrev aN:Stmt:=top 26
abbrev bN:Stmt:=top 27
abbrev cV:Stmt:=top 28
abbrev cK:Stmt:=top 29
abbrev cJ:Stmt:=top 33
abbrev eW:Stmt:=top 34
abbrev dh:Stmt:=top 35
abbrev jk:Stmt:=top 36
abbrev e6:Stmt:=top 39
abbrev e9:Stmt:=top 40
abbrev dc:Stmt:=top 41
abbrev cD:Stmt:=top 43
abbrev bu:Stmt:=top 44
abbrev bO:Stmt:=top 45
abbrev eC:Stmt:=top 46
abbrev gh:Stmt:=top 48
abbrev cE:Stmt:=top 49
abbrev eZ:Stmt:=top 50
abbrev cF:Stmt:=top 51
abbrev de:Stmt:=top 52
abbrev gf:Stmt:=top 53
abbrev bD:Stmt:=top 54
abbrev eY:Stmt:=top 55
abbrev df:Stmt:=top 56
abbrev bK:Stmt:=top 57
abbrev eX:Stmt:=top 58
abbrev ck:Stmt:=top 59
abbrev uQ:Stmt:=top 60
abbrev cj:Stmt:=cls 10 0
abbrev bM:Stmt:=cls 37 0
abbrev cG:Stmt:=cls 37 1
abbrev cH:Stmt:=cls 37 3
abbrev cn:Stmt:=cls 37 4
abbrev dq:Stmt:=cls 37 5
abbrev cm:Stmt:=cls 37 7
abbrev aM:Stmt:=cls 37 8
abbrev bL:Stmt:=cls 37 9
end Pg
namespace Pg
open PySem L2 Fr0 Tx
abbrev VB:List Value:=[.type "ValueError", .type "Exception", .type "BaseException", .type "object"]
structure Ev(K:PySem.W.Frag)(mg:Str→Option Value)(Cn CN CF Ca Cj Ce Cf Ci Ck Cb Cd Cl:Addr):Prop where
 n_len:mg "len"=none
 n_abs:mg "abs"=none
 n_isinstance:mg "isinstance"=none
 n_int:mg "int"=none
 n_bool:mg "bool"=none
 n_str:mg "str"=none
 n_tuple:mg "tuple"=none
 n_list:mg "list"=none
 n_range:mg "range"=none
 n_enumerate:mg "enumerate"=none
 n_any:mg "any"=none
 n_all:mg "all"=none
 n_sum:mg "sum"=none
 n_zip:mg "zip"=none
 n_max:mg "max"=none
 n_min:mg "min"=none
 n_ValueError:mg "ValueError"=none
 ib:PySem.W.kitOne K (.type "int") (.type "bool")=some false
 kis:PySem.W.kitOne K (.type "int") (.type "str")=some false
 kts:PySem.W.kitOne K (.type "tuple") (.type "str")=some false
 kti:PySem.W.kitOne K (.type "tuple") (.type "int")=some false
 kls:PySem.W.kitOne K (.type "list") (.type "str")=some false
 kli:PySem.W.kitOne K (.type "list") (.type "int")=some false
 ktl:PySem.W.kitOne K (.type "tuple") (.type "list")=some false
 klt:PySem.W.kitOne K (.type "list") (.type "tuple")=some false
 mNoNumber:mg "NoNumber"=some (.ref CN)
 mNoFloor:mg "NoFloor"=some (.ref CF)
 mDuelError:mg "DuelError"=some (.ref Ca)
 mNoPlan:mg "NoPlan"=some (.ref Cj)
 mNoText:mg "NoText"=some (.ref Ce)
 mNoName:mg "NoName"=some (.ref Cf)
 mNoPlace:mg "NoPlace"=some (.ref Ci)
 mNoGoal:mg "NoGoal"=some (.ref Ck)
 mNoAnswer:mg "NoAnswer"=some (.ref Cb)
 mManyAnswers:mg "ManyAnswers"=some (.ref Cd)
 mNoRow:mg "NoRow"=some (.ref Cl)
 eNoNumber:dG K CN VB "ValueError.__new__"
 eNoFloor:dG K CF VB "ValueError.__new__"
 eDuelError:dG K Ca VB "ValueError.__new__"
 iDuelError:ur K Ca "ValueError.__init__"
 tNoPlan:mE K Cj
 sNoPlan:PySem.W.subIn K (.ref Cj) (.ref Ca)=some true
 kv_NoPlan:PySem.W.kitOne K (.ref Cj) (.type "ValueError")=some true
 k_NoPlan_place:y3 K Cj "place"
 x_NoPlan_place:XAt K Cj "place"
 kx_NoPlan_NoNumber:PySem.W.kitOne K (.ref Cj) (.ref CN)=some false
 kx_NoPlan_NoFloor:PySem.W.kitOne K (.ref Cj) (.ref CF)=some false
 kx_NoPlan_NoText:PySem.W.kitOne K (.ref Cj) (.ref Ce)=some false
 kx_NoPlan_NoName:PySem.W.kitOne K (.ref Cj) (.ref Cf)=some false
 kx_NoPlan_NoPlace:PySem.W.kitOne K (.ref Cj) (.ref Ci)=some false
 kx_NoPlan_NoGoal:PySem.W.kitOne K (.ref Cj) (.ref Ck)=some false
 kx_NoPlan_NoAnswer:PySem.W.kitOne K (.ref Cj) (.ref Cb)=some false
 kx_NoPlan_ManyAnswers:PySem.W.kitOne K (.ref Cj) (.ref Cd)=some false
 kx_NoPlan_NoRow:PySem.W.kitOne K (.ref Cj) (.ref Cl)=some false
 clsFloor:Cls K Cn
 na_kept_rows:fj K Cn "kept_rows"
 na_kept_share:fj K Cn "kept_share"
 n_dict:mg "dict"=none
 mHANDS:∃a o its n,mg "HANDS"=some (.ref a)∧K.lookup a=some o∧o.cls= .type "tuple"∧o.data= .seq its n∧its.size≤sizeLine∧Paired (fun (z:Str) (u:Value)=>∃tk,u= .str z tk) ["one","other"] its.toList
 mMOST_DOORS:∃tk,mg "MOST_DOORS"=some (.int 6 tk)
 mMOST_BOTTOM:∃tk,mg "MOST_BOTTOM"=some (.int 1000000 tk)
 mMOST_PLACES:∃tk,mg "MOST_PLACES"=some (.int 12 tk)
 mMOST_SHARE_BOTTOM:∃tk,mg "MOST_SHARE_BOTTOM"=some (.int 1000 tk)
theorem so{K:PySem.W.Frag}{T:String}:PySem.W.kitOne K (.type T) (.type T)=some true:=by
 unfold PySem.W.kitOne
 rw [if_pos (beq_self_eq_true _)]
theorem yj{K:PySem.W.Frag}{C:Addr}:PySem.W.kitOne K (.ref C) (.ref C)=some true:=by
 unfold PySem.W.kitOne
 rw [if_pos (beq_self_eq_true _)]
end Pg
namespace Pg
open PySem L2 Fr0 Tx
section
variable{P:Program}{w:World}{K:PySem.W.Frag}{mg:Str→Option Value}{base:Heap}{Cn CN CF Ca Cj Ce Cf Ci Ck Cb Cd Cl:Addr}
def zc:DF:=fun ds M q _=>match ds with
 | [.int a, .int b]=>q (.int (g a b)) M
 | _=>False
theorem aV:au ["one","other","great","small","rest"] ["one","other"] (ae bo):=⟨rfl,rfl,rfl,by decide+kernel,rfl,by decide+kernel,by decide+kernel⟩
theorem gL{f:Addr}{fd:FuncData}(F:Fun K "common_divisor" "common_divisor" bo f fd)(E:Ev K mg Cn CN CF Ca Cj Ce Cf Ci Ck Cb Cd Cl):bC P w K mg base (CX1 P w) 1 f fd ["one","other"] (spD K zc):=by
 refine F.okD aV (fun ds M q x h=> ?_) (fun cdv A outer s H E' hr=>⟨_,(ag (ax (i:=2) aV.nd rfl (Or.inl rfl) (vo E.n_abs (aa (jv 0) af (hs:=aj))))
   (ag (ax (i:=3) aV.nd rfl (Or.inl rfl) (vo E.n_abs (aa (jv 1) af (hs:=aj))))
   (ag (oV (yn hr (jv 3) ay) (ag (ax (i:=4) aV.nd rfl (Or.inl rfl) (bX (jv 2) (jv 3)))
   (ag (ax (i:=2) aV.nd rfl (Or.inl rfl) (jv 3))
   (ah (ax (i:=3) aV.nd rfl (Or.inl rfl) (jv 4))))))
   (ah (av (jv 2)))))),fun ds M q x h=> ?_⟩)
 ·unfold zc at h;split at h; · rfl
  ·exact h.elim
 ·unfold zc at h
  split at h
  ·rename_i a b
   refine ⟨fun m ρ M'=>M'=M∧∃(x y:Int) (r:Option Dt),ρ=[some (.int a),some (.int b),some (.int x),some (.int y),r]∧0≤x∧0≤y∧g x y=g a b∧m=y.toNat,⟨_,rfl,_,_,_,rfl,by split <;> omega,by split <;> omega,A4 a b,rfl⟩, ?_⟩
   rintro m ρ M' ⟨rfl,x,y,r,rfl,hx,hy,e,rfl⟩
   refine ⟨fun hb=> ?_,fun hb=> ?_⟩
   ·have hy0:y≠0:=by simpa using hb
    refine ⟨_,fun ρ' M2 h2=>h2, ?_⟩
    refine ⟨by omega,(x % y).toNat, ?_,rfl,y,x % y,_,rfl,hy,Int.emod_nonneg _ hy0, ?_,rfl⟩
    ·have:=Int.emod_lt_of_pos x (show 0 < y by omega)
     have:=Int.emod_nonneg x hy0
     omega
    ·rw [←Int.fmod_eq_emod_of_nonneg x hy,w4 (by omega)];exact e
   ·have hy0:y=0:=by simpa using hb
    subst hy0
    rw [wZ hx] at e
    subst e
    exact h
  ·exact h.elim
end
end Pg
namespace Pg
open PySem L2 Fr0 Tx
section
variable{P:Program}{w:World}{K:PySem.W.Frag}{mg:Str→Option Value}{base:Heap}{Cn CN CF Ca Cj Ce Cf Ci Ck Cb Cd Cl:Addr}
theorem uf{i j:Int}(h:Big j)(l:i.natAbs≤j.natAbs):Big i:=Nat.lt_of_le_of_lt l h
def qx(CN:Addr):DF:=fun ds M q x=>match ds with
 | [.int t, .int b]=>Big b∧(b=0→x CN [] M)∧(b≠0→q (.tup [.int (cx t b).1, .int (cx t b).2]) M)
 | _=>False
theorem gc:au ["top","bottom","divisor"] ["top","bottom"] (ae dj):=⟨rfl,rfl,rfl,by decide+kernel,rfl,by decide+kernel,by decide+kernel⟩
theorem nB{f:Addr}{fd:FuncData}(F:Fun K "fraction" "fraction" dj f fd)(E:Ev K mg Cn CN CF Ca Cj Ce Cf Ci Ck Cb Cd Cl){fCommonDivisor:Addr}{dCommonDivisor:FuncData}(c_CommonDivisor:aR P w K mg base 1 "common_divisor" ["one","other"] zc fCommonDivisor dCommonDivisor):bC P w K mg base (CX1 P w) 2 f fd ["top","bottom"] (spD K (qx CN)):=by
 refine F.okD gc (fun ds M q x h=> ?_) (fun cdv A outer s H E' hr=>⟨_,(ag (bc (dR hr (jv 1) ay) (ah (ke jT PySem.F.excBase_ValueError E.eNoNumber E.mNoNumber (aa gG af (hs:=cy)))) aB)
   (ag (ax (i:=2) gc.nd rfl (Or.inl rfl) (bR c_CommonDivisor hr ak (aa (jv 0) (aa (jv 1) af (hs:=aj)) (hs:=aj))))
   (ag (sD (bc (vl (jv 1) ay) (ah (ax (i:=2) gc.nd rfl (Or.inl rfl) (AN (jv 2)))) aB))
   (ah (av (ff (aa (wO (jv 0) (jv 2)) (aa (wO (jv 1) (jv 2)) af (hs:=bQ)) (hs:=bQ)))))))),fun ds M q x h=> ?_⟩)
 ·unfold qx at h;split at h; · rfl
  ·exact h.elim
 ·unfold qx at h
  split at h
  ·rename_i t b
   obtain ⟨hB,h0,h1⟩:=h
   refine ⟨fun hb=> ?_,fun hb=> ?_⟩
   ·exact ⟨by decide,h0 (by simpa using hb)⟩
   ·have hb0:b≠0:=by simpa using hb
    refine ⟨fun ρ M'=>M'=M∧ρ=[some (.int t),some (.int b),some (.int (dv t b))],⟨fun hn=> ?_,fun hn=> ?_⟩, ?_⟩
    ·have hn':b < 0:=by simpa using hn
     exact ⟨rfl,by unfold dv;rw [if_pos hn'];rfl⟩
    ·have hn':¬b < 0:=by simpa using hn
     exact ⟨rfl,by unfold dv;rw [if_neg hn'];rfl⟩
    ·rintro ρ M' ⟨rfl,rfl⟩
     have hd:=vG (t:=t) hb0
     have hbd:Big (dv t b):=uf hB (ma hb0)
     exact ⟨⟨hd,hbd⟩,⟨hd,hbd⟩,(by show 2≤sizeLine;decide),h1 hb0⟩
  ·exact h.elim
end
end Pg
namespace Pg
open PySem L2 Fr0 Tx
section
variable{P:Program}{w:World}{K:PySem.W.Frag}{mg:Str→Option Value}{base:Heap}{Cn CN CF Ca Cj Ce Cf Ci Ck Cb Cd Cl:Addr}
abbrev Fr:=Int×Int
def frD(p:Fr):Dt:= .tup [.int p.1, .int p.2]
def aS(p:Fr):Bool:=decide ((if p.1 < 0 then -p.1 else p.1)≤10 ^ 30)&&decide (p.2≤1000000)
def hG:DF:=fun ds M q _=>∃p,ds=[frD p]∧q (.bl (aS p)) M
theorem qR:au ["pay"] ["pay"] (ae e7):=⟨rfl,rfl,rfl,by decide+kernel,rfl,by decide+kernel,by decide+kernel⟩
theorem p7{f:Addr}{fd:FuncData}(F:Fun K "fits_pay" "fits_pay" e7 f fd)(E:Ev K mg Cn CN CF Ca Cj Ce Cf Ci Ck Cb Cd Cl):bC P w K mg base (CX1 P w) 1 f fd ["pay"] (spD K hG):=by
 refine F.okD qR (fun ds M q x h=> ?_) (fun cdv A outer s H E' hr=>⟨_,(ah (av (eh (wN (vo E.n_abs (aa (aY (jv 0) ay) af (hs:=cg))) (i7 ay ay)) (fR (wN (aY (jv 0) ay) (lQ E.mMOST_BOTTOM)))))),fun ds M q x h=> ?_⟩)
 ·obtain ⟨p,rfl,_⟩:=h;rfl
 ·obtain ⟨p,rfl,h⟩:=h
  refine ⟨⟨by decide,by decide,by decide⟩,fun h1=> ?_,fun h1=> ?_⟩
  ·have e:aS p=decide (p.2≤1000000):=by unfold aS;rw [show decide ((if p.1 < 0 then -p.1 else p.1)≤10 ^ 30)=true from h1];rfl
   rw [e] at h;exact h
  ·have e:aS p=false:=by unfold aS;rw [show decide ((if p.1 < 0 then -p.1 else p.1)≤10 ^ 30)=false from h1];rfl
   rw [e] at h;exact h
end
end Pg
namespace Pg
open PySem L2 Fr0 Tx
theorem j9{M:Ms}{d:Dt}{xs:List Dt}{ok:Ms→Prop}(h:mF M d=some (xs,ok)):ok M:=by
 cases d with
 | lst ds=>cases h;trivial
 | scr ns=>cases h;trivial
 | loc k=>
  have h:(match M[k]? with | some (.lst xs)=>some (xs,fun M':Ms=>M'[k]? =some (.lst xs)) | _=>none)=some (xs,ok):=h
  split at h
  ·rename_i ys hm;cases h;exact hm
  ·cases h
 | _=>cases h
theorem oY{M:Ms}{d:Dt}{xs:List Dt}{ok:Ms→Prop}(h:mF M d=some (xs,ok)):qj M d=some (xs,ok):=by
 cases d with
 | lst ds=>cases h;rfl
 | scr ns=>cases h;rfl
 | loc k=>exact h
 | _=>cases h
theorem dz{i:Nat}{ρ:En}{M:Ms}{d:Dt}{xs:List Dt}{ok:Ms→Prop}{q:List Dt→(Ms→Prop)→Ms→Prop}{x:DX}(hv:ρ[i]? =some (some d))(hl:mF M d=some (xs,ok))(h:q xs ok M):iG (oa i) ρ M q x:=by
 unfold iG oa
 rw [hv]
 show (match qj M d with | some (xs,ok)=>q xs ok M | none=>False)
 rw [oY hl]
 exact h
theorem bg{n:Int}{k:Nat}(h:n.natAbs < 2 ^ k)(hk:k≤8000:=by decide):Big n:=Nat.lt_of_lt_of_le h (Nat.pow_le_pow_right (by decide) hk)
section
variable{P:Program}{w:World}{K:PySem.W.Frag}{mg:Str→Option Value}{base:Heap}{Cn CN CF Ca Cj Ce Cf Ci Ck Cb Cd Cl:Addr}
def aI(t:Int)(p:Fr)(size:Int):Bool:=decide (0≤t)&&(decide (t < size)&&aS p)
def iR:DF:=fun ds M q _=>∃t p r size,ds=[.tup (.int t::frD p::r), .int size]∧q (.bl (aI t p size)) M
theorem pS:au ["door","size"] ["door","size"] (ae dt):=⟨rfl,rfl,rfl,by decide+kernel,rfl,by decide+kernel,by decide+kernel⟩
theorem nD{f:Addr}{fd:FuncData}(F:Fun K "fits_door" "fits_door" dt f fd)(E:Ev K mg Cn CN CF Ca Cj Ce Cf Ci Ck Cb Cd Cl){fFitsPay:Addr}{dFitsPay:FuncData}(c_FitsPay:aR P w K mg base 1 "fits_pay" ["pay"] hG fFitsPay dFitsPay):bC P w K mg base (CX1 P w) 2 f fd ["door","size"] (spD K iR):=by
 refine F.okD pS (fun ds M q x h=> ?_) (fun cdv A outer s H E' hr=>⟨_,(ah (av (eh (wN ay (aY (jv 0) ay)) (eh (y9 (aY (jv 0) ay) (jv 1)) (fR (bR c_FitsPay hr ak (aa (aY (jv 0) ay) af (hs:=cg)))))))),fun ds M q x h=> ?_⟩)
 ·obtain ⟨t,p,r,size,rfl,_⟩:=h;rfl
 ·obtain ⟨t,p,r,size,rfl,h⟩:=h
  walk_at "vc"
  refine aD rfl d8 ?_
  refine ⟨fun h1=> ?_,fun h1=> ?_⟩
  ·refine aD rfl d8 ⟨fun h2=> ?_,fun h2=> ?_⟩
   ·refine aD rfl (aG (j:=1) rfl) ⟨p,rfl, ?_⟩
    have e:aI t p size=aS p:=by unfold aI;rw [h1,h2];rfl
    rw [←e];exact h
   ·have e:aI t p size=false:=by unfold aI;rw [h1,h2];rfl
    rw [←e];exact h
  ·have e:aI t p size=false:=by unfold aI;rw [h1];rfl
   rw [←e];exact h
abbrev DrG:=Int×Fr×List Fr
def drG(d:DrG):Dt:= .tup (.int d.1::frD d.2.1::d.2.2.map frD)
def aF(ds:List DrG)(size:Int):Bool:=decide (1≤ds.length)&&decide (ds.length≤6)&&ds.all fun d=>aI d.1 d.2.1 size
def gD:DF:=fun as M q _=>∃d size ds ok,as=[d, .int size]∧mF M d=some (ds.map drG,ok)∧ds.length≤100∧q (.bl (aF ds size)) M
theorem mU:au ["doors","size"] ["doors","size"] (ae bN):=⟨rfl,rfl,rfl,by decide+kernel,rfl,by decide+kernel,by decide+kernel⟩
theorem lC{f:Addr}{fd:FuncData}(F:Fun K "fits_doors" "fits_doors" bN f fd)(E:Ev K mg Cn CN CF Ca Cj Ce Cf Ci Ck Cb Cd Cl){fFitsDoor:Addr}{dFitsDoor:FuncData}(c_FitsDoor:aR P w K mg base 2 "fits_door" ["door","size"] iR fFitsDoor dFitsDoor):bC P w K mg base (CX1 P w) 3 f fd ["doors","size"] (spD K gD):=by
 refine F.okD mU (fun ds M q x h=> ?_) (fun cdv A outer s H E' hr=>⟨_,(ag (bc (JW.jt (fF (vl (eJ E.n_len (aa (jv 0) af (hs:=aj))) ay) (eG (AE (eJ E.n_len (aa (jv 0) af (hs:=aj))) (lQ E.mMOST_DOORS))))) (ah (av jbl)) aB)
   (ah (av (CW E.n_all (aa (gw (ys:=["size"]) (caps:=[1]) ⟨rfl,by decide+kernel,by decide+kernel,rfl,(by show∀p:Str×NameKind,p∈_→p.2=NameKind.free→List.lookup p.1 (ae bN).names=some .cell;decide+kernel),by decide+kernel,(by show∀q:Str×Nat,q∈_→(["doors","size"]:List Str)[q.2]? =some q.1∧List.lookup q.1 (ae bN).names=some .cell∧_;decide+kernel),rfl⟩ (ef (jv 0)) (fun C s H fp=>(bR c_FitsDoor hr (fw (P:=P) (w:=w)) (aa (jv 0) (aa (jv 1) af (hs:=aj)) (hs:=aj))))) af))))),fun ds M q x h=> ?_⟩)
 ·obtain ⟨d,size,ds,ok,rfl,_⟩:=h;rfl
 ·obtain ⟨d,size,ds,ok,rfl,hl,hz,h⟩:=h
  have hs:=g6 hl
  walk_at "vc"
  refine aQ hs ⟨fun h1=> ?_,fun h1=> ?_⟩
  ·refine ⟨fun _=> ?_,fun z=>(nomatch z)⟩
   have e:aF ds size=false:=by
    have:(ds.length:Int) < 1:=by simpa using h1
    unfold aF
    rw [decide_eq_false (by omega)];rfl
   rw [←e];exact h
  ·have h1:¬(ds.length:Int) < 1:=by simpa using h1
   refine aQ hs ⟨fun h2=> ?_,fun h2=> ?_⟩
   ·have e:aF ds size=false:=by
     have:6 < (ds.length:Int):=by simpa using h2
     unfold aF
     rw [decide_eq_false (p:=ds.length≤6) (by omega),Bool.and_false];rfl
    rw [←e];exact h
   ·have h2:¬6 < (ds.length:Int):=by simpa using h2
    refine dz rfl hl ⟨by rw [List.length_map];exact Nat.le_trans hz (by decide), ?_⟩
    refine cQ (f:=fun d=> .bl (match d with | .tup (.int t:: .tup [.int a, .int b]::_)=>aI t (a,b) size | _=>false)) (j9 hl) (fun x hx q hq=> ?_) ?_
    ·obtain ⟨y,_,rfl⟩:=List.mem_map.mp hx
     exact ⟨y.1,y.2.1,y.2.2.map frD,size,rfl,hq⟩
    ·refine ⟨ds.map fun d=>aI d.1 d.2.1 size, ?_, ?_⟩
     ·rw [List.map_map,List.nil_append,List.map_map];rfl
     ·have e:aF ds size=(ds.map fun d=>aI d.1 d.2.1 size).all id:=by
       unfold aF
       rw [decide_eq_true (show 1≤ds.length by omega),decide_eq_true (show ds.length≤6 by omega),List.all_map];rfl
      rw [←e];exact h
end
end Pg
namespace Pg
open PySem L2 Fr0 Tx
def gu(cs:List Fr):Int:=cs.foldl (fun b c=>b * c.2 / g b c.2) 1
theorem g7{b c:Int}(hb:0 < b)(hc:0 < c):0 < b * c / g b c∧b * c / g b c≤b * c∧0 < g b c∧g b c≤c:=by
 have hg:0 < g b c:=sY (by omega)
 have hbc:0 < b * c:=Int.mul_pos hb hc
 have hd:g b c∣c:=Int.gcd_dvd_right ..
 have hle:g b c≤c:=Int.le_of_dvd hc hd
 have h1:c≤b * c:=by
  have:=Int.mul_le_mul_of_nonneg_right (show 1≤b by omega) (show 0≤c by omega)
  simpa using this
 refine ⟨Int.ediv_pos_of_pos_of_dvd hbc (by omega) (Int.dvd_mul_of_dvd_right hd), ?_,hg,hle⟩
 exact Int.ediv_le_self _ (by omega)
def Ok3(cs:List Fr):Prop:=cs.length≤12∧∀c∈cs,0 < c.2∧c.2 < 2 ^ 200∧c.1.natAbs < 2 ^ 200
theorem ix:∀(cs:List Fr) (b:Int) (k:Nat),0 < b→b≤2 ^ (200 * k)→(∀c∈cs,0 < c.2∧c.2 < 2 ^ 200)→0 < cs.foldl (fun b c=>b * c.2 / g b c.2) b∧cs.foldl (fun b c=>b * c.2 / g b c.2) b≤2 ^ (200 * (k+cs.length))
 | [],b,k,h0,h1,_=>⟨h0,h1⟩
 | c::cs,b,k,h0,h1,hc=>by
  obtain ⟨c0,c1⟩:=hc c List.mem_cons_self
  obtain ⟨s0,s1,_⟩:=g7 h0 c0
  have hlt:b * c.2 / g b c.2≤2 ^ (200 * (k+1)):=by
   refine Int.le_trans s1 ?_
   rw [show 200 * (k+1)=200 * k+200 by omega,Int.pow_add]
   exact Int.mul_le_mul h1 (Int.le_of_lt c1) (Int.le_of_lt c0) (Int.le_of_lt (Int.pow_pos (by decide)))
  have:=ix cs _ (k+1) s0 hlt fun d hd=>hc d (List.mem_cons_of_mem _ hd)
  rw [List.foldl_cons,List.length_cons,show k+(cs.length+1)=k+1+cs.length by omega]
  exact this
theorem EB{n:Int}{k:Nat}(h0:0≤n)(h:n≤2 ^ k)(hk:k < 8000):Big n:=by
 refine bg (k:=k+1) ?_ hk
 have:(n.natAbs:Int) < ((2 ^ (k+1):Nat):Int):=by
  rw [Int.natAbs_of_nonneg h0,Int.natCast_pow,Int.pow_succ]
  have:(0:Int) < 2 ^ k:=Int.pow_pos (by decide)
  show n < 2 ^ k * 2
  omega
 exact Int.ofNat_lt.mp this
theorem dQ:∀(cs:List Fr) (b:Int),0 < b→(∀c∈cs,0 < c.2)→0 < cs.foldl (fun b c=>b * c.2 / g b c.2) b
 | [],_,h0,_=>h0
 | c::cs,b,h0,hc=>dQ cs _ (g7 h0 (hc c List.mem_cons_self)).1 fun d hd=>hc d (List.mem_cons_of_mem _ hd)
theorem Bo{n:Int}{k:Nat}(h0:0≤n)(h:n < 2 ^ k)(hk:k≤8000):Big n:=by
 refine bg (k:=k) ?_ hk
 have:(n.natAbs:Int) < ((2 ^ k:Nat):Int):=by rw [Int.natAbs_of_nonneg h0,Int.natCast_pow];exact h
 exact Int.ofNat_lt.mp this
section
variable{P:Program}{w:World}{K:PySem.W.Frag}{mg:Str→Option Value}{base:Heap}{Cn CN CF Ca Cj Ce Cf Ci Ck Cb Cd Cl:Addr}
def d9:DF:=fun ds M q _=>∃cs:List Fr,ds=[.lst (cs.map frD)]∧Ok3 cs∧q (.int (gu cs)) M
theorem cu:au ["chances","bottom","chance"] ["chances"] (ae bA):=⟨rfl,rfl,rfl,by decide+kernel,rfl,by decide+kernel,by decide+kernel⟩
theorem ip{f:Addr}{fd:FuncData}(F:Fun K "common_bottom" "common_bottom" bA f fd)(E:Ev K mg Cn CN CF Ca Cj Ce Cf Ci Ck Cb Cd Cl){fCommonDivisor:Addr}{dCommonDivisor:FuncData}(c_CommonDivisor:aR P w K mg base 1 "common_divisor" ["one","other"] zc fCommonDivisor dCommonDivisor):bC P w K mg base (CX1 P w) 2 f fd ["chances"] (spD K d9):=by
 refine F.okD cu (fun ds M q x h=> ?_) (fun cdv A outer s H E' hr=>⟨_,(ag (ax (i:=1) cu.nd rfl (Or.inl rfl) ay)
   (ag (eI (ef (jv 0)) (aK (i:=2) cu.nd rfl (Or.inl rfl)) cp (ah (ax (i:=1) cu.nd rfl (Or.inl rfl) (dU (eA (jv 1) (aY (jv 2) ay)) (bR c_CommonDivisor hr ak (aa (jv 1) (aa (aY (jv 2) ay) af (hs:=cg)) (hs:=aj)))))))
   (ah (av (jv 1))))),fun ds M q x h=> ?_⟩)
 ·obtain ⟨cs,rfl,_⟩:=h;rfl
 ·obtain ⟨cs,rfl,⟨hz,hc⟩,h⟩:=h
  walk_at "vc"
  refine dz (i:=0) rfl rfl ?_
  refine dW (fun xs ρ M'=>M'=M∧∃don rest r,cs=don++rest∧xs=rest.map frD∧ρ=[some (.lst (cs.map frD)),some (.int (gu don)),r]) (fun _ _ _ _=>trivial) (fun x xs ρ M' hj nxt=> ?_) (fun ρ M' hj=> ?_) _ _ _ ⟨rfl,[],cs,none,rfl,rfl,rfl⟩
  ·obtain ⟨rfl,don,rest,r,e,ex,rfl⟩:=hj
   cases rest with
   | nil=>cases ex
   | cons c rest=>
    cases ex
    have hd:∀d∈don,0 < d.2∧d.2 < 2 ^ 200:=fun d hd=>by
     obtain ⟨a,b,_⟩:=hc d (by rw [e];exact List.mem_append_left _ hd)
     exact ⟨a,b⟩
    obtain ⟨c0,c1,_⟩:=hc c (by rw [e];exact List.mem_append_right _ List.mem_cons_self)
    obtain ⟨b0,b1⟩:=ix don 1 0 (by decide) (by decide) hd
    have hl:don.length≤12:=by
     have:=congrArg List.length e
     rw [List.length_append] at this
     omega
    obtain ⟨s0,s1,g0,g1⟩:=g7 b0 c0
    refine ⟨⟨EB (Int.le_of_lt b0) b1 (by omega),Bo (Int.le_of_lt c0) c1 (by decide)⟩,⟨g0,Bo (Int.le_of_lt g0) (Int.lt_of_le_of_lt g1 c1) (by decide)⟩, ?_⟩
    refine nxt _ _ ⟨rfl,don++[c],rest,some (frD c),by rw [e];simp,rfl, ?_⟩
    have e2:gu (don++[c])=gu don * c.2 / g (gu don) c.2:=by unfold gu;rw [List.foldl_append];rfl
    rw [e2];rfl
  ·obtain ⟨rfl,don,rest,r,e,ex,rfl⟩:=hj
   cases rest with
   | nil=>rw [List.append_nil] at e;subst e;exact h
   | cons c rest=>cases ex
def aA(cs:List Fr):Bool:= !(cs.any fun c=>decide (c.1≤0))&&(decide ((cs.map fun c=>c.1 * (gu cs / c.2)).sum=gu cs)&&decide (gu cs≤1000000))
def eR:DF:=fun ds M q _=>∃cs:List Fr,ds=[.lst (cs.map frD)]∧Ok3 cs∧q (.bl (aA cs)) M
theorem dM:au ["chances","bottom","whole"] ["chances"] (ae aN):=⟨rfl,rfl,rfl,by decide+kernel,rfl,by decide+kernel,by decide+kernel⟩
theorem iY{f:Addr}{fd:FuncData}(F:Fun K "fits_chances" "fits_chances" aN f fd)(E:Ev K mg Cn CN CF Ca Cj Ce Cf Ci Ck Cb Cd Cl){fCommonBottom:Addr}{dCommonBottom:FuncData}(c_CommonBottom:aR P w K mg base 2 "common_bottom" ["chances"] d9 fCommonBottom dCommonBottom):bC P w K mg base (CX1 P w) 3 f fd ["chances"] (spD K eR):=by
 refine F.okD dM (fun ds M q x h=> ?_) (fun cdv A outer s H E' hr=>⟨_,(ag (bc (bE (CV E.n_any (aa (gw (ys:=[]) (caps:=[]) ⟨rfl,by decide+kernel,by decide+kernel,rfl,(by show∀p:Str×NameKind,p∈_→p.2=NameKind.free→List.lookup p.1 (ae aN).names=some .cell;decide+kernel),by decide+kernel,(by show∀q:Str×Nat,q∈_→(["chances","bottom","whole"]:List Str)[q.2]? =some q.1∧List.lookup q.1 (ae aN).names=some .cell∧_;decide+kernel),rfl⟩ (ef (jv 0)) (fun C s H fp=>(wN (aY (jv 0) ay) ay))) af))) (ah (av jbl)) aB)
   (ag (ax (i:=1) dM.nd rfl (Or.inr rfl) (bR c_CommonBottom hr ak (aa (jv 0) af (hs:=aj))))
   (ag (ax (i:=2) dM.nd rfl (Or.inl rfl) (AL E.n_sum (aa (gw (ys:=["bottom"]) (caps:=[1]) ⟨rfl,by decide+kernel,by decide+kernel,rfl,(by show∀p:Str×NameKind,p∈_→p.2=NameKind.free→List.lookup p.1 (ae aN).names=some .cell;decide+kernel),by decide+kernel,(by show∀q:Str×Nat,q∈_→(["chances","bottom","whole"]:List Str)[q.2]? =some q.1∧List.lookup q.1 (ae aN).names=some .cell∧_;decide+kernel),rfl⟩ (ef (jv 0)) (fun C s H fp=>(eA (aY (jv 0) ay) (dU (jv 1) (aY (jv 0) ay))))) af)))
   (ah (av (eh (Ej hr (jv 2) (jv 1)) (fR (wN (jv 1) (lQ E.mMOST_BOTTOM))))))))),fun ds M q x h=> ?_⟩)
 ·obtain ⟨cs,rfl,_⟩:=h;rfl
 ·obtain ⟨cs,rfl,ok3,h⟩:=h
  obtain ⟨hz,hc⟩:=id ok3
  have hz2:(cs.map frD).length≤sizeLine:=by rw [List.length_map];exact Nat.le_trans hz (by decide)
  obtain ⟨b0,b1⟩:=ix cs 1 0 (by decide) (by decide) fun c h=>⟨(hc c h).1,(hc c h).2.1⟩
  walk_at "vc"
  refine dz (i:=0) rfl rfl ⟨hz2, ?_⟩
  refine cQ (f:=fun d=> .bl (match d with | .tup [.int a, .int b]=>decide (a≤0) | _=>false)) trivial (fun x hx q hq=> ?_) ?_
  ·obtain ⟨y,_,rfl⟩:=List.mem_map.mp hx
   exact hq
  ·refine ⟨cs.map fun c=>decide (c.1≤0),by rw [List.map_map,List.nil_append,List.map_map];rfl,fun _ z=>(nomatch z),fun _ z=>(nomatch z), ?_⟩
   have ea:(cs.map fun c=>decide (c.1≤0)).any id=cs.any fun c=>decide (c.1≤0):=by rw [List.any_map];rfl
   rw [ea]
   refine ⟨fun h1=> ?_,fun h1=> ?_⟩
   ·have e:aA cs=false:=by unfold aA;rw [h1];rfl
    rw [←e];exact h
   ·refine ⟨cs,rfl,ok3, ?_⟩
    walk_at "vc"
    refine dz (i:=0) rfl rfl ⟨hz2, ?_⟩
    refine cQ (f:=fun d=> .int (match d with | .tup [.int a, .int b]=>a * (gu cs / b) | _=>0)) trivial (fun x hx q hq=> ?_) ?_
    ·obtain ⟨y,hy,rfl⟩:=List.mem_map.mp hx
     obtain ⟨y0,y1,y2⟩:=hc y hy
     refine ⟨⟨y0,Bo (Int.le_of_lt y0) y1 (by decide)⟩,⟨bg y2, ?_⟩,hq⟩
     refine EB (k:=200 * (0+cs.length)) (Int.ediv_nonneg (Int.le_of_lt b0) (Int.le_of_lt y0)) (Int.le_trans (Int.ediv_le_self _ (Int.le_of_lt b0)) b1) (by omega)
    ·refine ⟨cs.map fun c=>c.1 * (gu cs / c.2),by rw [List.map_map,List.nil_append,List.map_map];rfl,⟨_,_,rfl⟩, ?_⟩
     refine ⟨fun h2=> ?_,fun h2=> ?_⟩
     ·have e:aA cs=decide (gu cs≤1000000):=by unfold aA;rw [h1,h2];rfl
      rw [e] at h;exact h
     ·have e:aA cs=false:=by unfold aA;rw [h1,h2];rfl
      rw [←e];exact h
end
end Pg
namespace Pg
open PySem L2 Fr0 Tx
inductive Rw where
 | fin (p:Fr)
 | doors (k:Str) (ds:List DrG)
def aw(d:DrG):Fr:=d.2.2.headD (0,1)
def fh:Rw→Prop
 | .fin p=>0 < p.2
 | .doors k ds=>k≠"end"∧ds.length≤12∧(k="chance"→(∀d∈ds,d.2.2=[aw d])∧Ok3 (ds.map aw))∧∀d∈ds,d.2.2.length≤1∧0 < d.2.1.2
def iT(M:Ms)(d:Dt):Rw→Prop
 | .fin p=>d= .tup [.str "end",frD p]
 | .doors k ds=>∃e ok,d= .tup [.str k,e]∧mF M e=some (ds.map drG,ok)
def cz:Rw→Dt
 | .fin p=> .tup [.str "end",frD p]
 | .doors k ds=> .tup [.str k, .lst (ds.map drG)]
theorem xD(M:Ms)(r:Rw):iT M (cz r) r:=by
 cases r with
 | fin p=>rfl
 | doors k ds=>exact ⟨_,_,rfl,rfl⟩
theorem lW{n:Nat}(p:Fr):(frD p).under n:=⟨trivial,trivial,trivial⟩
theorem kl{n:Nat}:∀(ps:List Fr),Dt.underL n (ps.map frD)
 | []=>trivial
 | p::ps=>⟨lW p,kl ps⟩
theorem Be{n:Nat}(d:DrG):(drG d).under n:=⟨trivial,lW _,kl _⟩
theorem dY{n:Nat}:∀(ds:List DrG),Dt.underL n (ds.map drG)
 | []=>trivial
 | d::ds=>⟨Be d,dY ds⟩
theorem xC{n:Nat}(r:Rw):(cz r).under n:=by
 cases r with
 | fin p=>exact ⟨trivial,lW p,trivial⟩
 | doors k ds=>exact ⟨trivial,dY ds,trivial⟩
theorem gU{n:Nat}:∀(rs:List Rw),Dt.underL n (rs.map cz)
 | []=>trivial
 | r::rs=>⟨xC r,gU rs⟩
def az(k:Str):Bool:=k=="one" || k=="other"
def dX(r:Rw)(size:Int):Bool:=match r with
 | .fin p=>aS p
 | .doors k ds=>if az k then aF ds size else if k="chance" then aF ds size&&aA (ds.map aw) else false
theorem vp{i:Nat}{j:Int}{ρ:En}{M:Ms}{d:Dt}{ds xs:List Dt}{ok:Ms→Prop}{q:List Dt→(Ms→Prop)→Ms→Prop}{x:DX}(hv:ρ[i]? =some (some (.tup ds)))(hj:atI ds j=some d)(hl:mF M d=some (xs,ok))(h:q xs ok M):iG (dOp fIx (oa i) (dC (.int j))) ρ M q x:=by
 unfold iG dOp oa
 rw [hv]
 show fIx (.tup ds) (.int j) M (fun d M1=>match qj M1 d with | some (xs,ok)=>q xs ok M1 | none=>False)
 refine aD rfl hj ?_
 show (match qj M d with | some (xs,ok)=>q xs ok M | none=>False)
 rw [oY hl]
 exact h
theorem oZ{k:Str}:inV (.str k) [.str "one", .str "other"]=az k:=by
 show ((("one":Str)==k) || ((("other":Str)==k) || false))=(k=="one" || k=="other")
 rw [Bool.or_false,BEq.comm (a:=("one":Str)),BEq.comm (a:=("other":Str))]
section
variable{P:Program}{w:World}{K:PySem.W.Frag}{mg:Str→Option Value}{base:Heap}{Cn CN CF Ca Cj Ce Cf Ci Ck Cb Cd Cl:Addr}
def kz:DF:=fun as M q _=>∃d r size,as=[d, .int size]∧iT M d r∧fh r∧q (.bl (dX r size)) M
theorem kR:au ["row","size","kind"] ["row","size"] (ae cV):=⟨rfl,rfl,rfl,by decide+kernel,rfl,by decide+kernel,by decide+kernel⟩
theorem p5 {f:Addr} {fd:FuncData} (F:Fun K "fits_row" "fits_row" cV f fd) (E:Ev K mg Cn CN CF Ca Cj Ce Cf Ci Ck Cb Cd Cl) {fFitsPay:Addr} {dFitsPay:FuncData} (c_FitsPay:aR P w K mg base 1 "fits_pay" ["pay"] hG fFitsPay dFitsPay) {fFitsDoors:Addr} {dFitsDoors:FuncData} (c_FitsDoors:aR P w K mg base 3 "fits_doors" ["doors","size"] gD fFitsDoors dFitsDoors) {fFitsChances:Addr} {dFitsChances:FuncData} (c_FitsChances:aR P w K mg base 3 "fits_chances" ["chances"] eR fFitsChances dFitsChances):bC P w K mg base (CX1 P w) 4 f fd ["row","size"] (spD K kz):=by
 refine F.okD kR (fun ds M q x h=> ?_) (fun cdv A outer s H E' hr=>⟨_,(ag (ax (i:=2) kR.nd rfl (Or.inl rfl) (aY (jv 0) ay))
   (ag (bc (dR hr (jv 2) gG) (ah (av (bR c_FitsPay hr ak (aa (aY (jv 0) ay) af (hs:=cg))))) aB)
   (ag (bc (wL (jv 2) (AU E.mHANDS)) (ah (av (bR c_FitsDoors hr ak (aa (aY (jv 0) ay) (aa (jv 1) af (hs:=aj)) (hs:=cg))))) aB)
   (ag (bc (dR hr (jv 2) gG) (ah (av (eh (bR c_FitsDoors hr ak (aa (aY (jv 0) ay) (aa (jv 1) af (hs:=aj)) (hs:=cg))) (fR (bR c_FitsChances hr ak (aa (gw (ys:=[]) (caps:=[]) ⟨rfl,by decide+kernel,by decide+kernel,rfl,(by show∀p:Str×NameKind,p∈_→p.2=NameKind.free→List.lookup p.1 (ae cV).names=some .cell;decide+kernel),by decide+kernel,(by show∀q:Str×Nat,q∈_→(["row","size","kind"]:List Str)[q.2]? =some q.1∧List.lookup q.1 (ae cV).names=some .cell∧_;decide+kernel),rfl⟩ (ef (aY (jv 0) ay)) (fun C s H fp=>(aY (jv 0) ay))) af)))))) aB)
   (ah (av jbl)))))),fun ds M q x h=> ?_⟩)
 ·obtain ⟨d,r,size,rfl,_⟩:=h;rfl
 ·obtain ⟨d,r,size,rfl,ra,ro,h⟩:=h
  cases r with
  | fin p=>
   have ra:d= .tup [.str "end",frD p]:=ra
   subst ra
   exact ⟨fun _=>⟨p,rfl,h⟩,fun z=>(nomatch z)⟩
  | doors k ds=>
   obtain ⟨e,ok,rfl,hl⟩:=ra
   obtain ⟨hk,hz,hch,_⟩:=ro
   refine ⟨fun z=>absurd (of_decide_eq_true z) hk,fun _=> ?_⟩
   refine ⟨.str k,[.str "one", .str "other"],[.str "one", .str "other"],rfl,rfl,rfl, ?_⟩
   rw [oZ]
   refine ⟨fun h1=> ?_,fun h1=> ?_⟩
   ·refine ⟨e,size,ds,ok,rfl,hl,by omega, ?_⟩
    have e1:dX (.doors k ds) size=aF ds size:=by
     show (if az k then _ else _)=_
     rw [if_pos h1]
    rw [←e1];exact h
   ·have e1:dX (.doors k ds) size=if k="chance" then aF ds size&&aA (ds.map aw) else false:=by
     show (if az k then _ else _)=_
     rw [if_neg (by rw [h1];decide)]
    rw [e1] at h
    refine ⟨fun h2=> ?_,fun h2=> ?_⟩
    ·have h2:k="chance":=of_decide_eq_true h2
     rw [if_pos h2] at h
     obtain ⟨hone,ok3⟩:=hch h2
     refine ⟨e,size,ds,ok,rfl,hl,by omega,fun h3=> ?_,fun h3=> ?_⟩
     ·rw [h3,Bool.true_and] at h
      show iG _ _ _ _ _
      refine vp (i:=0) (j:=1) (ds:=[.str k,e]) rfl (aG (j:=1) rfl) hl ⟨by rw [List.length_map];exact Nat.le_trans hz (by decide), ?_⟩
      refine cQ (f:=fun d=>match d with | .tup [_,_,c]=>c | _=> .non) (j9 hl) (fun x hx q hq=> ?_) ?_
      ·obtain ⟨y,hy,rfl⟩:=List.mem_map.mp hx
       have ey:drG y= .tup [.int y.1,frD y.2.1,frD (aw y)]:=by unfold drG;rw [hone y hy];rfl
       rw [ey] at hq⊢
       exact hq
      ·refine ⟨ds.map aw, ?_,ok3,h⟩
       rw [List.nil_append,List.map_map,List.map_map]
       have:∀y∈ds,((fun d=>match d with | Dt.tup [_,_,c]=>c | _=>Dt.non) ∘ drG) y=(frD ∘ aw) y:=fun y hy=>by
        have ey:drG y= .tup [.int y.1,frD y.2.1,frD (aw y)]:=by unfold drG;rw [hone y hy];rfl
        show (match drG y with | Dt.tup [_,_,c]=>c | _=>Dt.non)=frD (aw y)
        rw [ey]
       rw [List.map_congr_left this]
     ·rw [h3,Bool.false_and] at h
      exact h
    ·have h2:k≠"chance":=of_decide_eq_false h2
     rw [if_neg h2] at h
     exact h
def gE:DF:=fun as M q _=>∃d r,as=[d]∧iT M d r∧fh r∧match r with
 | .fin p=>q (.tup [.str "end",frD p]) M
 | .doors k ds=>q (.tup [.str k, .loc M.length]) (M++[.lst (ds.map drG)])
theorem mV:au ["row"] ["row"] (ae cK):=⟨rfl,rfl,rfl,by decide+kernel,rfl,by decide+kernel,by decide+kernel⟩
theorem lD{f:Addr}{fd:FuncData}(F:Fun K "copied_row" "copied_row" cK f fd)(E:Ev K mg Cn CN CF Ca Cj Ce Cf Ci Ck Cb Cd Cl):bC P w K mg base (CX1 P w) 1 f fd ["row"] (spD K gE):=by
 refine F.okD mV (fun ds M q x h=> ?_) (fun cdv A outer s H E' hr=>⟨_,(ag (bc (dR hr (aY (jv 0) ay) gG) (ah (av (ff (aa (aY (jv 0) ay) (aa (aY (jv 0) ay) af (hs:=cg)) (hs:=cg))))) aB)
   (ah (av (ff (aa (aY (jv 0) ay) (aa (sI E.n_list (aa (aY (jv 0) ay) af (hs:=cg))) af (hs:=bI)) (hs:=cg)))))),fun ds M q x h=> ?_⟩)
 ·obtain ⟨d,r,rfl,_⟩:=h;rfl
 ·obtain ⟨d,r,rfl,ra,ro,h⟩:=h
  cases r with
  | fin p=>
   have ra:d= .tup [.str "end",frD p]:=ra
   subst ra
   exact ⟨fun _=>⟨by show 2≤sizeLine;decide,h⟩,fun z=>(nomatch z)⟩
  | doors k ds=>
   obtain ⟨e,ok,rfl,hl⟩:=ra
   refine ⟨fun z=>absurd (of_decide_eq_true z) ro.1,fun _=> ?_⟩
   show (match qA M e with | some xs=>_ | none=>False)
   rw [g6 hl]
   exact ⟨by show 2≤sizeLine;decide,h⟩
def bf(p:Fr):Bool:=decide (0≤p.1)&&(decide (p.1 < p.2)&&decide (p.2≤1000))
def gC:DF:=fun as M q _=>∃p,as=[frD p]∧q (.bl (bf p)) M
theorem mT:au ["share"] ["share"] (ae cJ):=⟨rfl,rfl,rfl,by decide+kernel,rfl,by decide+kernel,by decide+kernel⟩
theorem lB{f:Addr}{fd:FuncData}(F:Fun K "fits_share" "fits_share" cJ f fd)(E:Ev K mg Cn CN CF Ca Cj Ce Cf Ci Ck Cb Cd Cl):bC P w K mg base (CX1 P w) 1 f fd ["share"] (spD K gC):=by
 refine F.okD mT (fun ds M q x h=> ?_) (fun cdv A outer s H E' hr=>⟨_,(ah (av (eh (wN ay (aY (jv 0) ay)) (eh (y9 (aY (jv 0) ay) (aY (jv 0) ay)) (fR (wN (aY (jv 0) ay) (lQ E.mMOST_SHARE_BOTTOM))))))),fun ds M q x h=> ?_⟩)
 ·obtain ⟨p,rfl,_⟩:=h;rfl
 ·obtain ⟨p,rfl,h⟩:=h
  unfold bf at h
  refine ⟨fun h1=>⟨fun h2=> ?_,fun h2=> ?_⟩,fun h1=> ?_⟩
  ·rw [show decide (0≤p.1)=true from h1,show decide (p.1 < p.2)=true from h2] at h;exact h
  ·rw [show decide (0≤p.1)=true from h1,show decide (p.1 < p.2)=false from h2] at h;exact h
  ·rw [show decide (0≤p.1)=false from h1] at h;exact h
end
end Pg
namespace Pg
open PySem L2 Fr0 Tx
theorem yi{b c S:Int}(hb:b∣S)(hc:c∣S)(hb0:0 < b)(hc0:0 < c):b * c / g b c∣S∧b∣b * c / g b c∧c∣b * c / g b c:=by
 have e:b * c / g b c=(Int.lcm b c:Nat):=by
  have h:=Int.gcd_mul_lcm b c
  have hg:0 < g b c:=sY (by omega)
  have h2:((Int.gcd b c:Nat):Int) * ((Int.lcm b c:Nat):Int)=b * c:=by
   rw [←Int.natCast_mul,h,Int.natCast_mul,Int.natAbs_of_nonneg (Int.le_of_lt hb0),Int.natAbs_of_nonneg (Int.le_of_lt hc0)]
  rw [←h2]
  exact Int.mul_ediv_cancel_left _ (by unfold g at hg;omega)
 rw [e]
 exact ⟨Int.coe_lcm_dvd hb hc,Int.dvd_lcm_left ..,Int.dvd_lcm_right ..⟩
theorem g8:∀(cs:List Fr) (b S:Int),0 < b→b∣S→(∀c∈cs,0 < c.2∧c.2∣S)→cs.foldl (fun b c=>b * c.2 / g b c.2) b∣S∧b∣cs.foldl (fun b c=>b * c.2 / g b c.2) b∧∀c∈cs,c.2∣cs.foldl (fun b c=>b * c.2 / g b c.2) b
 | [],b,S,_,h,_=>⟨h,Int.dvd_refl b,fun c hc=>nomatch hc⟩
 | c::cs,b,S,h0,h,hc=>by
  obtain ⟨c0,cS⟩:=hc c List.mem_cons_self
  obtain ⟨d1,d2,d3⟩:=yi h cS h0 c0
  obtain ⟨i1,i2,i3⟩:=g8 cs _ S (g7 h0 c0).1 d1 fun x hx=>hc x (List.mem_cons_of_mem _ hx)
  rw [List.foldl_cons]
  refine ⟨i1,Int.dvd_trans d2 i2,fun x hx=> ?_⟩
  rcases List.mem_cons.mp hx with rfl | hx
  ·exact Int.dvd_trans d3 i2
  ·exact i3 x hx
theorem hX(m:Int)(f:Int→Int):∀(ws:List Int),(ws.map fun w=>m * f w).sum=m * (ws.map f).sum
 | []=>by simp
 | w::ws=>by simp only [List.map_cons,List.sum_cons];rw [hX m f ws,Int.mul_add]
theorem vz{t b:Int}(h:0 < b):(cx t b).2∣b:=by
 obtain ⟨p,q,e,_,_,_,eb⟩:=dD (t:=t) (show b≠0 by omega)
 rw [e]
 exact ⟨dv t b,by show b=q * dv t b;rw [Int.mul_comm];exact eb⟩
theorem nQ{t b:Int}(ht:0 < t)(h:0 < b):0 < (cx t b).1:=by
 have hc:=dE (t:=t) (show b≠0 by omega)
 have hp:=cC (t:=t) (show b≠0 by omega)
 have h1:0 < t * (cx t b).2:=Int.mul_pos ht hp
 rw [hc] at h1
 exact Int.pos_of_mul_pos_right h1 h |> fun z=>z
theorem qr{ws:List Int}{S:Int}(hS:ws.sum=S)(hw:∀w∈ws,0 < w)(hn:ws≠[])(hS1:S≤1000000)(hz:ws.length≤12):aA (ws.map fun w=>cx w S)=true∧Ok3 (ws.map fun w=>cx w S):=by
 have pos:∀{l:List Int},(∀w∈l,0 < w)→0≤l.sum∧(l≠[]→0 < l.sum)∧∀w∈l,w≤l.sum:=by
  intro l
  induction l with
  | nil=>exact fun _=>⟨by simp,fun z=>absurd rfl z,fun w hw=>nomatch hw⟩
  | cons a l ih=>
   intro h
   obtain ⟨i1,i2,i3⟩:=ih fun w hw=>h w (List.mem_cons_of_mem _ hw)
   have:=h a List.mem_cons_self
   rw [List.sum_cons]
   refine ⟨by omega,fun _=>by omega,fun w hw=> ?_⟩
   rcases List.mem_cons.mp hw with rfl | hw
   ·omega
   ·have:=i3 w hw;omega
 obtain ⟨_,p2,p3⟩:=pos hw
 have S0:0 < S:=by rw [←hS];exact p2 hn
 have Sne:S≠0:=by omega
 have hd:∀c∈ws.map (fun w=>cx w S),0 < c.2∧c.2∣S:=fun c hc=>by
  obtain ⟨w,_,rfl⟩:=List.mem_map.mp hc
  exact ⟨cC Sne,vz S0⟩
 obtain ⟨⟨m,hm⟩,_,hB⟩:=g8 (ws.map fun w=>cx w S) 1 S (by decide) (Int.one_dvd _) hd
 have B0:0 < gu (ws.map fun w=>cx w S):=by
  refine (dQ (ws.map fun w=>cx w S) 1 (by decide) fun c hc=>(hd c hc).1)
 generalize hBd:gu (ws.map fun w=>cx w S)=B at *
 have hm:S=B * m:=by rw [←hBd];exact hm
 have m0:0 < m:=by
  rcases Int.lt_trichotomy m 0 with h | h | h
  ·have:=Int.mul_neg_of_pos_of_neg B0 h;omega
  ·rw [h,Int.mul_zero] at hm;omega
  ·exact h
 have key:((ws.map fun w=>cx w S).map fun c=>c.1 * (B / c.2)).sum=B:=by
  have e1:∀w∈ws,m * ((cx w S).1 * (B / (cx w S).2))=w:=fun w hw=>by
   have hb:(cx w S).2∣B:=by
    rw [←hBd]
    exact hB _ (List.mem_map.mpr ⟨w,hw,rfl⟩)
   obtain ⟨k,hk⟩:=hb
   have q0:=cC (t:=w) Sne
   have e2:B / (cx w S).2=k:=by rw [hk];exact Int.mul_ediv_cancel_left _ (by omega)
   have hc:=dE (t:=w) Sne
   rw [e2]
   have hS':S=(cx w S).2 * k * m:=by rw [←hk];exact hm
   generalize (cx w S).1=x at *
   generalize (cx w S).2=y at *
   have e4:S * x=y * (m * (x * k)):=by
    rw [hS']
    simp only [Int.mul_assoc,Int.mul_comm,Int.mul_left_comm]
   have e3:y * (m * (x * k))=y * w:=by rw [←e4,←hc,Int.mul_comm]
   exact Int.eq_of_mul_eq_mul_left (by omega) e3
  have e5:m * ((ws.map fun w=>cx w S).map fun c=>c.1 * (B / c.2)).sum=m * B:=by
   rw [List.map_map]
   show m * (ws.map fun w=>(cx w S).1 * (B / (cx w S).2)).sum=m * B
   rw [←hX,List.map_congr_left e1,List.map_id',hS,hm,Int.mul_comm]
  exact Int.eq_of_mul_eq_mul_left (by omega) e5
 refine ⟨?_,⟨by rw [List.length_map];exact hz,fun c hc=> ?_⟩⟩
 ·unfold aA
  rw [hBd,key]
  have ha:((ws.map fun w=>cx w S).any fun c=>decide (c.1≤0))=false:=by
   rw [List.any_eq_false]
   intro c hc
   obtain ⟨w,hw',rfl⟩:=List.mem_map.mp hc
   have:=nQ (hw w hw') S0
   simpa using this
  have hle:B≤S:=by
   have:=Int.mul_le_mul_of_nonneg_left (show 1≤m by omega) (Int.le_of_lt B0)
   rw [Int.mul_one,←hm] at this
   exact this
  rw [ha,decide_eq_true rfl,decide_eq_true (show B≤1000000 by omega)];rfl
 ·obtain ⟨w,hw',rfl⟩:=List.mem_map.mp hc
  have q0:=cC (t:=w) Sne
  have l1:=pe (t:=w) Sne
  have l2:=kj (t:=w) Sne
  have:=p3 w hw'
  have w0:=hw w hw'
  have big:(1000000:Int) < 2 ^ 200:=by decide
  have bigN:1000000 < 2 ^ 200:=by decide
  exact ⟨q0,by omega,by omega⟩
end Pg
set_option maxRecDepth 100000
set_option maxHeartbeats 4000000
namespace Pg
open PySem L2 Fr0 Tx
theorem jB{α:Type}{te:DE}{cs:En}{ok:Ms→Prop}{F:Dt→α→Prop}{f:α→Dt}{M:Ms}{k:List Dt→Ms→Prop}(ho:ok M)(ht:∀x a,F x a→∀q:DQ,q (f a) M→te (some x::cs) M q noX):∀{xs:List Dt} {as:List α} {acc:List Dt},Paired F xs as→k (acc++as.map f) M→qp te cs ok xs acc M k
 | _,_,acc, .nil,h=>⟨ho,by simpa using h⟩
 | _,_,acc, .cons r t,h=>⟨ho,ht _ _ r _ (jB ho ht t (by simpa using h))⟩
theorem oS{M:Ms}{k:Nat}{C C':Addr}{ns ns':List Str}{xs xs':List Dt}{e:Dt}{ys:List Dt}{ok:Ms→Prop}(hk:M[k]? =some (.ins C ns xs))(h:mF M e=some (ys,ok)):mF (M.set k (.ins C' ns' xs')) e=some (ys,ok):=by
 cases e with
 | lst ds=>exact h
 | scr ns=>exact h
 | loc j=>
  have h:(match M[j]? with | some (.lst xs)=>some (xs,fun M':Ms=>M'[j]? =some (.lst xs)) | _=>none)=some (ys,ok):=h
  have ne:k≠j:=fun z=>by
   subst z
   rw [hk] at h
   cases h
  show (match (M.set k (.ins C' ns' xs'))[j]? with | some (.lst xs)=>some (xs,fun M':Ms=>M'[j]? =some (.lst xs)) | _=>none)=some (ys,ok)
  rw [List.getElem?_set_ne ne]
  exact h
 | _=>cases h
theorem qV{M:Ms}{k:Nat}{C C':Addr}{ns ns':List Str}{xs xs':List Dt}{d:Dt}{r:Rw}(hk:M[k]? =some (.ins C ns xs))(h:iT M d r):iT (M.set k (.ins C' ns' xs')) d r:=by
 cases r with
 | fin p=>exact h
 | doors k' ds=>
  obtain ⟨e,ok,h1,h2⟩:=h
  exact ⟨e,ok,h1,oS hk h2⟩
def aP(C:Addr)(share:Fr)(rows:List Rw):Dt:= .obj C ["kept_share","kept_rows"] [frD share, .lst (rows.map cz)]
section
variable{P:Program}{w:World}{K:PySem.W.Frag}{mg:Str→Option Value}{base:Heap}{Cn CN CF Ca Cj Ce Cf Ci Ck Cb Cd Cl:Addr}
def yY(Cn:Addr):DF:=fun as M q _=>∃k d share ds rows ok,as=[.loc k,frD share,d]∧M[k]? =some (.ins Cn [] [])∧mF M d=some (ds,ok)∧Paired (iT M) ds rows∧bf share=true∧1≤rows.length∧rows.length≤12∧
 (∀r∈rows,fh r∧dX r rows.length=true)∧q .non (M.set k (.ins Cn ["kept_share","kept_rows"] [frD share, .lst (rows.map cz)]))
theorem fq:au ["self","share","rows","place","row"] ["self","share","rows"] (ae bM):=⟨rfl,rfl,rfl,by decide+kernel,rfl,by decide+kernel,by decide+kernel⟩
theorem lA{f:Addr}{fd:FuncData}(F:Fun K "__init__" "Floor.__init__" bM f fd)(E:Ev K mg Cn CN CF Ca Cj Ce Cf Ci Ck Cb Cd Cl){fFitsShare:Addr}{dFitsShare:FuncData}(c_FitsShare:aR P w K mg base 1 "fits_share" ["share"] gC fFitsShare dFitsShare){fFitsRow:Addr}{dFitsRow:FuncData}(c_FitsRow:aR P w K mg base 4 "fits_row" ["row","size"] kz fFitsRow dFitsRow){fCopiedRow:Addr}{dCopiedRow:FuncData}(c_CopiedRow:aR P w K mg base 1 "copied_row" ["row"] gE fCopiedRow dCopiedRow):bC P w K mg base (CX1 P w) 5 f fd ["self","share","rows"] (spD K (yY Cn)):=by
 refine F.okD fq (fun ds M q x h=> ?_) (fun cdv A outer s H E' hr=>⟨_,(ag (bc (iA (bE (bR c_FitsShare hr ak (aa (jv 1) af (hs:=aj))))) (ah (ke jT PySem.F.excBase_ValueError E.eNoFloor E.mNoFloor (aa gG af (hs:=cy)))) aB)
   (ag (bc (JW.jt (fF (vl (eJ E.n_len (aa (jv 2) af (hs:=aj))) ay) (eG (AE (eJ E.n_len (aa (jv 2) af (hs:=aj))) (lQ E.mMOST_PLACES))))) (ah (ke jT PySem.F.excBase_ValueError E.eNoFloor E.mNoFloor (aa gG af (hs:=cy)))) aB)
   (ag (eI (sF E.n_enumerate (aa (jv 2) af (hs:=aj))) (kY rfl (cv (aK (i:=3) fq.nd rfl (Or.inl rfl)) (cv (aK (i:=4) fq.nd rfl (Or.inl rfl)) ij))) sX (ah (bc (iA (bE (bR c_FitsRow hr ak (aa (jv 4) (aa (eJ E.n_len (aa (jv 2) af (hs:=aj))) af (hs:=bI)) (hs:=aj))))) (ah vm) aB)))
   (ag (sC E.clsFloor E.na_kept_share (jv 0) (jv 1))
   (ah (sC E.clsFloor E.na_kept_rows (jv 0) (gw (ys:=[]) (caps:=[]) ⟨rfl,by decide+kernel,by decide+kernel,rfl,(by show∀p:Str×NameKind,p∈_→p.2=NameKind.free→List.lookup p.1 (ae bM).names=some .cell;decide+kernel),by decide+kernel,(by show∀q:Str×Nat,q∈_→(["self","share","rows","place","row"]:List Str)[q.2]? =some q.1∧List.lookup q.1 (ae bM).names=some .cell∧_;decide+kernel),rfl⟩ (ef (jv 2)) (fun C s H fp=>(gM (bR c_CopiedRow hr (fw (P:=P) (w:=w)) (aa (jv 0) af (hs:=aj)))))))))))),fun ds M q x h=> ?_⟩)
 ·obtain ⟨k,d,share,ds,rows,ok,rfl,_⟩:=h;rfl
 ·obtain ⟨k,d,share,ds,rows,ok,rfl,hk,hl,hp,hs,h1,h12,hr2,h⟩:=h
  have hlen:ds.length=rows.length:=Paired.length hp
  walk_at "vc"
  refine ⟨share,rfl,fun z=> ?_,fun _=> ?_⟩
  ·rw [hs] at z;exact nomatch z
  have hsq:=g6 hl
  refine aQ hsq ⟨fun z=> ?_,fun _=> ?_⟩
  ·have:(ds.length:Int) < 1:=by simpa using z
   omega
  refine aQ hsq ⟨fun z=> ?_,fun _=> ?_⟩
  ·have:12 < (ds.length:Int):=by simpa using z
   omega
  refine ⟨d,ds,ok,rfl,hl, ?_⟩
  refine dW (fun xs ρ M'=>M'=M∧∃n ds' rows' a b,xs=iL n ds'∧Paired (iT M) ds' rows'∧(∀r∈rows',r∈rows)∧ρ=[some (.loc k),some (frD share),some d,a,b]) (fun xs ρ M' hj=>by obtain ⟨rfl,_⟩:=hj;exact j9 hl) (fun x xs ρ M' hj nxt=> ?_) (fun ρ M' hj=> ?_) _ _ _ ⟨rfl,0,ds,rows,none,none,rfl,hp,fun _ h=>h,rfl⟩
  ·obtain ⟨rfl,n,ds',rows',a,b,ex,hp',hin,rfl⟩:=hj
   cases hp' with
   | nil=>cases ex
   | cons ra t=>
    rename_i d1 r1 ds1 rows1
    cases ex
    refine aQ hsq ⟨d1,r1,ds.length,rfl,ra,(hr2 r1 (hin r1 List.mem_cons_self)).1,fun z=> ?_,fun _=> ?_⟩
    ·rw [hlen,(hr2 r1 (hin r1 List.mem_cons_self)).2] at z;exact nomatch z
    ·exact nxt _ _ ⟨rfl,n+1,ds1,rows1,_,_,rfl,t,fun r hr=>hin r (List.mem_cons_of_mem _ hr),rfl⟩
  ·obtain ⟨rfl,n,ds',rows',a,b,ex,hp',hin,rfl⟩:=hj
   have hkl:k < M'.length:=(List.getElem?_eq_some_iff.mp hk).1
   refine ⟨k,[],[],rfl,hk,(fun z=>(nomatch z)),by decide, ?_⟩
   have hl1:=oS (C':=Cn) (ns':=["kept_share"]) (xs':=[frD share]) hk hl
   dsimp only [zC,List.nil_append]
   show iG _ _ _ _ _
   refine dz (i:=2) rfl hl1 ⟨by rw [hlen];exact Nat.le_trans h12 (by decide), ?_⟩
   have hp2:Paired (fun x a=>iT (M'.set k (.ins Cn ["kept_share"] [frD share])) x a∧fh a) ds rows:=by
    have:∀{xs:List Dt} {rs:List Rw},Paired (iT M') xs rs→(∀r∈rs,fh r)→Paired (fun x a=>iT (M'.set k (.ins Cn ["kept_share"] [frD share])) x a∧fh a) xs rs:=by
     intro xs rs hp
     induction hp with
     | nil=>exact fun _=> .nil
     | cons r t ih=>exact fun h=> .cons ⟨qV hk r,h _ List.mem_cons_self⟩ (ih fun y hy=>h y (List.mem_cons_of_mem _ hy))
    exact this hp fun r hr=>(hr2 r hr).1
   refine jB (f:=cz) (j9 hl1) (fun x a ha q' hq=> ?ht) hp2 ?fin
   case ht=>
    obtain ⟨ha,ho⟩:=ha
    refine ⟨x,a,rfl,ha,ho, ?_⟩
    cases a with
    | fin p=>exact tj ⟨trivial,lW p,trivial⟩ hq
    | doors k2 ds2=>exact tm (.tup (.cons (.old trivial) (.cons (.newL (Nat.le_refl _) (by simp) (mI.old (dY ds2))) .nil))) hq
   case fin=>
    refine ⟨k,["kept_share"],[frD share],rfl,by rw [List.getElem?_set_self hkl],by decide,by decide, ?_⟩
    rw [List.set_set]
    exact h
end
end Pg
namespace Pg
open PySem L2 Fr0 Tx
def kindOf:Rw→Str
 | .fin _=>"end"
 | .doors k _=>k
def aE:Rw→List DrG
 | .fin _=>[]
 | .doors _ ds=>ds
def Cz:Rw→Dt
 | .fin p=>frD p
 | .doors _ _=> .non
theorem ie{rows:List Rw}{i:Nat}{r:Rw}(h:rows[i]? =some r):(rows.map cz)[i]? =some (cz r):=by rw [List.getElem?_map,h];rfl
theorem wu{r:Rw}:∃e,cz r= .tup [.str (kindOf r),e]:=by
 cases r with
 | fin p=>exact ⟨_,rfl⟩
 | doors k ds=>exact ⟨_,rfl⟩
section
variable{P:Program}{w:World}{K:PySem.W.Frag}{mg:Str→Option Value}{base:Heap}{Cn CN CF Ca Cj Ce Cf Ci Ck Cb Cd Cl:Addr}
def oq(C:Addr):DF:=fun as M q _=>∃share rows,as=[aP C share rows]∧q (.int rows.length) M
theorem mR:au ["self"] ["self"] (ae cG):=⟨rfl,rfl,rfl,by decide+kernel,rfl,by decide+kernel,by decide+kernel⟩
theorem lu{f:Addr}{fd:FuncData}(F:Fun K "size" "Floor.size" cG f fd)(E:Ev K mg Cn CN CF Ca Cj Ce Cf Ci Ck Cb Cd Cl):bC P w K mg base (CX1 P w) 1 f fd ["self"] (spD K (oq Cn)):=by
 refine F.okD mR (fun ds M q x h=> ?_) (fun cdv A outer s H E' hr=>⟨_,(ah (av (eJ E.n_len (aa (qi E.clsFloor E.na_kept_rows (jv 0)) af)))),fun ds M q x h=> ?_⟩)
 ·obtain ⟨share,rows,rfl,_⟩:=h;rfl
 ·obtain ⟨share,rows,rfl,h⟩:=h
  refine ⟨_,_,_, .inl rfl,rfl, ?_⟩
  show mG [.lst (rows.map cz)] M _
  refine aQ (xs:=rows.map cz) rfl ?_
  rw [List.length_map];exact h
def mC(C:Addr):DF:=fun as M q _=>∃share rows i r,as=[aP C share rows, .int (i:Nat)]∧rows[i]? =some r∧q (.str (kindOf r)) M
theorem mS:au ["self","place"] ["self","place"] (ae cH):=⟨rfl,rfl,rfl,by decide+kernel,rfl,by decide+kernel,by decide+kernel⟩
theorem lz{f:Addr}{fd:FuncData}(F:Fun K "kind" "Floor.kind" cH f fd)(E:Ev K mg Cn CN CF Ca Cj Ce Cf Ci Ck Cb Cd Cl):bC P w K mg base (CX1 P w) 1 f fd ["self","place"] (spD K (mC Cn)):=by
 refine F.okD mS (fun ds M q x h=> ?_) (fun cdv A outer s H E' hr=>⟨_,(ah (av (aY (aY (qi E.clsFloor E.na_kept_rows (jv 0)) (jv 1)) ay))),fun ds M q x h=> ?_⟩)
 ·obtain ⟨share,rows,i,r,rfl,_⟩:=h;rfl
 ·obtain ⟨share,rows,i,r,rfl,hi,h⟩:=h
  refine ⟨_,_,_, .inl rfl,rfl, ?_⟩
  walk_at "vc"
  refine aD (xs:=rows.map cz) rfl (aG (ie hi)) ?_
  obtain ⟨e,er⟩:=wu (r:=r)
  rw [er]
  exact h
def jF(C:Addr):DF:=fun as M q _=>∃share rows i r,as=[aP C share rows, .int (i:Nat)]∧rows[i]? =some r∧fh r∧q (.loc M.length) (M++[.lst ((aE r).map drG)])
theorem kQ:au ["self","place"] ["self","place"] (ae cn):=⟨rfl,rfl,rfl,by decide+kernel,rfl,by decide+kernel,by decide+kernel⟩
theorem jZ{f:Addr}{fd:FuncData}(F:Fun K "doors" "Floor.doors" cn f fd)(E:Ev K mg Cn CN CF Ca Cj Ce Cf Ci Ck Cb Cd Cl){fFloorKind:Addr}{dFloorKind:FuncData}(c_FloorKind:fM P w K mg base 1 Cn "kind" ["self","place"] (mC Cn) fFloorKind dFloorKind):bC P w K mg base (CX1 P w) 2 f fd ["self","place"] (spD K (jF Cn)):=by
 refine F.okD kQ (fun ds M q x h=> ?_) (fun cdv A outer s H E' hr=>⟨_,(ag (bc (dR hr (bY c_FloorKind hr ak (jv 0) (aa (jv 1) af (hs:=aj))) gG) (ah (av (lO af))) aB)
   (ah (av (sI E.n_list (aa (aY (aY (qi E.clsFloor E.na_kept_rows (jv 0)) (jv 1)) ay) af (hs:=cg)))))),fun ds M q x h=> ?_⟩)
 ·obtain ⟨share,rows,i,r,rfl,_⟩:=h;rfl
 ·obtain ⟨share,rows,i,r,rfl,hi,ro,h⟩:=h
  refine ⟨⟨_,_, .inl rfl,rfl⟩,share,rows,i,r,rfl,hi, ?_⟩
  cases r with
  | fin p=>exact ⟨fun _=>⟨by decide,h⟩,fun z=>(nomatch z)⟩
  | doors k ds=>
   refine ⟨fun z=>absurd (of_decide_eq_true z) ro.1,fun _=> ?_⟩
   refine ⟨_,_,_, .inl rfl,rfl, ?_⟩
   walk_at "vc"
   refine aD (xs:=rows.map cz) rfl (aG (ie hi)) ?_
   exact h
def BH(C:Addr):DF:=fun as M q _=>∃share rows i r,as=[aP C share rows, .int (i:Nat)]∧rows[i]? =some r∧fh r∧q (Cz r) M
theorem pR:au ["self","place"] ["self","place"] (ae dq):=⟨rfl,rfl,rfl,by decide+kernel,rfl,by decide+kernel,by decide+kernel⟩
theorem nC{f:Addr}{fd:FuncData}(F:Fun K "pay" "Floor.pay" dq f fd)(E:Ev K mg Cn CN CF Ca Cj Ce Cf Ci Ck Cb Cd Cl){fFloorKind:Addr}{dFloorKind:FuncData}(c_FloorKind:fM P w K mg base 1 Cn "kind" ["self","place"] (mC Cn) fFloorKind dFloorKind):bC P w K mg base (CX1 P w) 2 f fd ["self","place"] (spD K (BH Cn)):=by
 refine F.okD pR (fun ds M q x h=> ?_) (fun cdv A outer s H E' hr=>⟨_,(ag (bc (dR hr (bY c_FloorKind hr ak (jv 0) (aa (jv 1) af (hs:=aj))) gG) (ah (av (aY (aY (qi E.clsFloor E.na_kept_rows (jv 0)) (jv 1)) ay))) aB)
   (ah (av yp))),fun ds M q x h=> ?_⟩)
 ·obtain ⟨share,rows,i,r,rfl,_⟩:=h;rfl
 ·obtain ⟨share,rows,i,r,rfl,hi,ro,h⟩:=h
  refine ⟨⟨_,_, .inl rfl,rfl⟩,share,rows,i,r,rfl,hi, ?_⟩
  cases r with
  | fin p=>
   refine ⟨fun _=> ?_,fun z=>(nomatch z)⟩
   refine ⟨_,_,_, .inl rfl,rfl, ?_⟩
   walk_at "vc"
   refine aD (xs:=rows.map cz) rfl (aG (ie hi)) ?_
   exact h
  | doors k ds=>exact ⟨fun z=>absurd (of_decide_eq_true z) ro.1,fun _=>h⟩
end
end Pg
set_option maxRecDepth 100000
set_option maxHeartbeats 4000000
namespace Pg
open PySem L2 Fr0 Tx
theorem fS{M:Ms}{q:DQ}{ds:List Dt}(u:Dt.underL M.length ds)(h:q (.lst ds) M):frzU M q (.loc M.length) (M++[.lst ds]):=tm (.newL (Nat.le_refl _) (by rw [Nat.sub_self];rfl) (mI.old u)) h
theorem yx{M:Ms}{q:DQ}{ds:List Dt}(u:Dt.underL M.length ds)(h:q (.lst ds) M):vD [.lst ds] M (frzU M q):=by
 show frzU M q (.loc M.length) (M++[.lst ds])
 exact fS u h
theorem Dr{d:DrG}{M:Ms}{q:DQ}(h:q (frD d.2.1) M):fIx (drG d) (.int 1) M q:=aD (xs:= .int d.1::frD d.2.1::d.2.2.map frD) rfl (aG (j:=1) rfl) h
theorem yG{d:DrG}{M:Ms}{q:DQ}(h:q (.int d.1) M):fIx (drG d) (.int 0) M q:=aD (xs:= .int d.1::frD d.2.1::d.2.2.map frD) rfl d8 h
theorem xB{k:Str}{e:Dt}{M:Ms}{q:DQ}(h:q e M):fIx (.tup [.str k,e]) (.int 1) M q:=aD (xs:=[.str k,e]) rfl (aG (j:=1) rfl) h
theorem cX{g:Dt→En→(En→Prop)→Prop}{tb:DS}{Dn:fW}(J:List Dt→En→Ms→Prop)
  (step:∀x xs ρ M,J (x::xs) ρ M→(∀ρ M,J xs ρ M→vA g tb Dn xs ρ M)→g x ρ fun ρ'=>tb {Dn with nx:=vA g tb Dn xs,ct:=vA g tb Dn xs,bk:=Dn.nx} ρ' M)
  (fin:∀ρ M,J [] ρ M→Dn.nx ρ M):∀(xs:List Dt) (ρ:En) (M:Ms),J xs ρ M→vA g tb Dn xs ρ M
 | [],ρ,M,h=>fin _ _ h
 | x::xs,ρ,M,h=>step x xs ρ M h fun ρ' M' h'=>cX J step fin xs ρ' M' h'
theorem cN{lo:Int}{n:Nat}{x:Dt}{xs:List Dt}(h:x::xs=gk lo n):∃m,n=m+1∧x= .int lo∧xs=gk (lo+1) m:=by
 cases n with
 | zero=>exact nomatch h
 | succ m=>
  unfold gk at h
  rw [List.range_succ_eq_map,List.map_cons,List.map_map] at h
  cases h
  refine ⟨m,rfl,by simp, ?_⟩
  unfold gk
  apply List.map_congr_left
  intro k _
  show Dt.int (lo+((k+1:Nat):Int))=Dt.int (lo+1+(k:Int))
  congr 1
  omega
theorem fP{lo:Int}{n:Nat}{x:Dt}(h:x∈gk lo n):∃k:Nat,k < n∧x= .int (lo+k):=by
 unfold gk at h
 obtain ⟨k,hk,rfl⟩:=List.mem_map.mp h
 exact ⟨k,List.mem_range.mp hk,rfl⟩
theorem cB{lo:Int}{n:Nat}:(gk lo n).length=n:=by unfold gk;simp
end Pg
namespace Pg
open PySem L2 Fr0 Tx
theorem jC{α:Type}{te:DE}{cs:En}{M:Ms}{f:α→Dt}(G:α→Prop){k:List Dt→Ms→Prop}:∀(xs:List Dt) (acc:List α),(∀a∈acc,G a)→(∀x∈xs,∀q:DQ,(∀a,G a→q (f a) M)→te (some x::cs) M q noX)→
  (∀as:List α,as.length=acc.length+xs.length→(∀a∈as,G a)→k (as.map f) M)→qq te cs xs (acc.map f) M k
 | [],acc,ha,_,h=>h acc (by simp) ha
 | x::xs,acc,ha,ht,h=>ht x List.mem_cons_self _ fun a hg=>by
  have e:acc.map f++[f a]=(acc++[a]).map f:=by simp
  rw [e]
  refine jC G xs (acc++[a]) (fun b hb=> ?_) (fun y hy=>ht y (List.mem_cons_of_mem _ hy)) fun as hl hg'=>h as (by rw [hl];simp;omega) hg'
  rcases List.mem_append.mp hb with hb | hb
  ·exact ha b hb
  ·have:b=a:=by simpa using hb
   rw [this];exact hg
theorem wm{m:Int}:∀{l:List Int},(∀w∈l,w≤m)→l.sum≤l.length * m
 | [],_=>by simp
 | a::l,h=>by
  have i:=wm (l:=l) fun w hw=>h w (List.mem_cons_of_mem _ hw)
  have:=h a List.mem_cons_self
  rw [List.sum_cons,List.length_cons,Int.natCast_add,Int.add_mul]
  omega
def kC(many:Int)(r:Rw):Prop:=fh r∧dX r many=true
theorem yt{k:Str}{ds:List DrG}{many:Int}(hk:az k=true)(hz:1≤ds.length)(hz6:ds.length≤6)(hd:∀d∈ds,aI d.1 d.2.1 many=true)(hs:∀d∈ds,d.2.2=[]∧0 < d.2.1.2):kC many (.doors k ds):=by
 have fd:aF ds many=true:=by
  unfold aF
  rw [decide_eq_true hz,decide_eq_true hz6,List.all_eq_true.mpr hd];rfl
 have ne:k≠"end"∧k≠"chance":=by
  refine ⟨fun z=> ?_,fun z=> ?_⟩ <;> (subst z;exact absurd hk (by decide))
 refine ⟨⟨ne.1,by omega,fun z=>absurd z ne.2,fun d h=>⟨by rw [(hs d h).1];exact Nat.zero_le _,(hs d h).2⟩⟩, ?_⟩
 show (if az k then _ else _)=true
 rw [if_pos hk];exact fd
theorem tY{ds:List DrG}{many:Int}(hz:1≤ds.length)(hz6:ds.length≤6)(hd:∀d∈ds,aI d.1 d.2.1 many=true)(h1:∀d∈ds,d.2.2=[aw d])(hc:aA (ds.map aw)=true)(ho:Ok3 (ds.map aw))(hp:∀d∈ds,0 < d.2.1.2):kC many (.doors "chance" ds):=by
 have fd:aF ds many=true:=by
  unfold aF
  rw [decide_eq_true hz,decide_eq_true hz6,List.all_eq_true.mpr hd];rfl
 refine ⟨⟨by decide,by omega,fun _=>⟨h1,ho⟩,fun d h=>⟨by rw [h1 d h];exact Nat.le_refl _,hp d h⟩⟩, ?_⟩
 have e:dX (.doors "chance" ds) many=(aF ds many&&aA (ds.map aw)):=by
  dsimp only [dX]
  rw [if_neg (by decide),if_pos rfl]
 rw [e,fd,hc];rfl
theorem yH{t many:Int}{p:Fr}(h0:0≤t)(h1:t < many)(hp:aS p=true):aI t p many=true:=by
 unfold aI
 rw [decide_eq_true h0,decide_eq_true h1,hp];rfl
theorem yd{m:Nat}(h1:1≤m)(h6:m≤6):0 < (1000000:Int) / m∧(m:Int) * (1000000 / m)≤1000000:=by
 have:m=1∨m=2∨m=3∨m=4∨m=5∨m=6:=by omega
 rcases this with rfl | rfl | rfl | rfl | rfl | rfl <;> decide
theorem wW{xs:List Int}{j:Nat}(h:j < xs.length):atI (xs.map Dt.int) (j:Int)=some (.int xs[j]):=aG (by rw [List.getElem?_map,List.getElem?_eq_getElem h];rfl)
theorem qM:∀{l:List Int},(∀w∈l,0 < w)→l≠[]→0 < l.sum
 | [],_,z=>absurd rfl z
 | [a],h,_=>by have:=h a List.mem_cons_self;simpa using this
 | a::b::l,h,_=>by
  have i:=qM (l:=b::l) (fun w hw=>h w (List.mem_cons_of_mem _ hw)) (by simp)
  have:=h a List.mem_cons_self
  rw [List.sum_cons];omega
end Pg
namespace Pg
open PySem L2 Fr0 Tx
def nth(ns:List Int)(k:Int):Int:=ns.getD k.toNat 0
theorem rX{ns:List Int}{k:Int}(h0:0≤k)(h2:k < ns.length):atI (ns.map Dt.int) k=some (.int (nth ns k)):=by
 have e:(ns.map Dt.int)[k.toNat]? =some (.int (nth ns k)):=by
  rw [List.getElem?_map,List.getElem?_eq_getElem (show k.toNat < ns.length by omega)]
  unfold nth
  rw [List.getD_eq_getElem?_getD,List.getElem?_eq_getElem (show k.toNat < ns.length by omega)]
  rfl
 have:=aG e
 rwa [show ((k.toNat:Nat):Int)=k by omega] at this
theorem ya{ns:List Int}{k:Int}(h:¬k < ns.length):nth ns k=0:=by
 unfold nth
 rw [List.getD_eq_getElem?_getD,List.getElem?_eq_none (by omega)]
 rfl
def BC(ns:List Int)(k:Int):Bool:=decide (k < ns.length)&&(decide (nth ns k < 0) || decide (nth ns k ≥ 10 ^ 18))
theorem yc{ns:List Int}{k:Int}(h:BC ns k=false):0≤nth ns k∧nth ns k < 10 ^ 18:=by
 unfold BC at h
 by_cases hk:k < ns.length
 ·rw [decide_eq_true hk,Bool.true_and,Bool.or_eq_false_iff,decide_eq_false_iff_not,decide_eq_false_iff_not] at h
  omega
 ·rw [ya hk];exact ⟨by decide,by decide⟩
theorem p18:uA 10 18:=⟨by decide,by decide,by decide⟩
theorem p64:uA 10 64:=⟨by decide,by decide,by decide⟩
theorem p8:uA 10 8:=⟨by decide,by decide,by decide⟩
theorem p6:uA 10 6:=⟨by decide,by decide,by decide⟩
theorem p22:uA 10 22:=⟨by decide,by decide,by decide⟩
theorem p30:uA 10 30:=⟨by decide,by decide,by decide⟩
def Nm(n:Int):Prop:=0≤n∧n < 10 ^ 128
theorem wI{n:Int}(h:Nm n):Big n:=Bo (k:=440) h.1 (Int.lt_of_lt_of_le h.2 (by decide)) (by decide)
theorem lE{a m:Int}(h0:0 < m)(h1:m≤10 ^ 128):Nm (a % m):=⟨Int.emod_nonneg _ (by omega),Int.lt_of_lt_of_le (Int.emod_lt_of_pos _ h0) h1⟩
theorem wH{a m:Int}(h:Nm a)(h0:0 < m):Nm (a / m):=⟨Int.ediv_nonneg h.1 (by omega),Int.lt_of_le_of_lt (Int.ediv_le_self _ h.1) h.2⟩
section
variable{P:Program}{w:World}{K:PySem.W.Frag}{mg:Str→Option Value}{base:Heap}{Cn CN CF Ca Cj Ce Cf Ci Ck Cb Cd Cl:Addr}
def BI:DF:=fun as M q _=>∃(ns:List Int) (k:Int),as=[.scr ns, .int k]∧0≤k∧q (.bl (BC ns k)) M
theorem uP:au ["_law_script","_law_k"] ["_law_script","_law_k"] (ae gh):=⟨rfl,rfl,rfl,by decide+kernel,rfl,by decide+kernel,by decide+kernel⟩
theorem rV{f:Addr}{fd:FuncData}(F:Fun K "_law_far" "_law_far" gh f fd)(E:Ev K mg Cn CN CF Ca Cj Ce Cf Ci Ck Cb Cd Cl):bC P w K mg base (CX1 P w) 1 f fd ["_law_script","_law_k"] (spD K BI):=by
 refine F.okD uP (fun ds M q x h=> ?_) (fun cdv A outer s H E' hr=>⟨_,(ah (av (eh (y9 (jv 1) (eJ E.n_len (aa (jv 0) af (hs:=aj)))) (fR (CQ (y9 (aY (jv 0) (jv 1)) ay) (fR (Ff (aY (jv 0) (jv 1)) (i7 ay ay)))))))),fun ds M q x h=> ?_⟩)
 ·obtain ⟨ns,k,rfl,_⟩:=h;rfl
 ·obtain ⟨ns,k,rfl,hk,h⟩:=h
  unfold BC at h
  walk_at "vc"
  refine (aQ (d:= .scr ns) (xs:=ns.map .int) rfl ?_:mG [.scr ns] M _)
  rw [List.length_map]
  refine ⟨fun h1=> ?_,fun h1=> ?_⟩
  ·have h1:decide (k < ns.length)=true:=h1
   have h1':k < ns.length:=of_decide_eq_true h1
   rw [h1,Bool.true_and] at h
   refine (aD (d:= .scr ns) rfl (rX hk h1') ?_:fIx (.scr ns) (.int k) M _)
   refine ⟨fun h2=> ?_,fun h2=> ?_⟩
   ·have h2:decide (nth ns k < 0)=true:=h2
    rw [h2,Bool.true_or] at h
    exact h
   ·have h2:decide (nth ns k < 0)=false:=h2
    rw [h2,Bool.false_or] at h
    refine (aD (d:= .scr ns) rfl (rX hk h1') ?_:fIx (.scr ns) (.int k) M _)
    exact ⟨p18,h⟩
  ·have h1:decide (k < ns.length)=false:=h1
   rw [h1,Bool.false_and] at h
   exact h
def uo:DF:=fun as M q _=>∃(ns:List Int) (k:Int),as=[.scr ns, .int k]∧0≤k∧k≤200∧∀n,Nm n→q (.int n) M
end
end Pg
namespace Pg
open PySem L2 Fr0 Tx
theorem wG(x:Int)(h0:0≤x)(h1:x < 2147483647):Big x∧Big (x % 65521+30011):=⟨bg (k:=40) (by omega),bg (k:=40) (by omega)⟩
theorem Aj{k:Int}(h0:0≤k)(h1:k≤200):Big ((k+1) * (k+1)):=by
 have a:=Int.mul_le_mul (show k+1≤201 by omega) (show k+1≤201 by omega) (show 0≤k+1 by omega) (show (0:Int)≤201 by decide)
 have b:0≤(k+1) * (k+1):=Int.mul_nonneg (by omega) (by omega)
 exact bg (k:=40) (by omega)
section
variable{P:Program}{w:World}{K:PySem.W.Frag}{mg:Str→Option Value}{base:Heap}{Cn CN CF Ca Cj Ce Cf Ci Ck Cb Cd Cl:Addr}
theorem fo:au ["_law_script","_law_k","_law_cell","_law_number_here"] ["_law_script","_law_k"] (ae cE):=⟨rfl,rfl,rfl,by decide+kernel,rfl,by decide+kernel,by decide+kernel⟩
theorem lj{f:Addr}{fd:FuncData}(F:Fun K "_law_number" "_law_number" cE f fd)(E:Ev K mg Cn CN CF Ca Cj Ce Cf Ci Ck Cb Cd Cl){fLawFar:Addr}{dLawFar:FuncData}(c_LawFar:aR P w K mg base 1 "_law_far" ["_law_script","_law_k"] BI fLawFar dLawFar):bC P w K mg base (CX1 P w) 2 f fd ["_law_script","_law_k"] (spD K uo):=by
 refine F.okD fo (fun ds M q x h=> ?_) (fun cdv A outer s H E' hr=>⟨_,(ag (ax (i:=2) fo.nd rfl (Or.inl rfl) (vn (vl (jv 1) (eJ E.n_len (aa (jv 0) af (hs:=aj)))) (aY (jv 0) (jv 1)) ay))
   (ag (bc (bE (bR c_LawFar hr ak (aa (jv 0) (aa (jv 1) af (hs:=aj)) (hs:=aj)))) (ah (av (bX (jv 2) (i7 ay ay)))) aB)
   (ag (ax (i:=3) fo.nd rfl (Or.inl rfl) (bX (cU (eA (jv 2) ay) (eA (eA (cU (jv 1) ay) (cU (jv 1) ay)) ay)) ay))
   (ah (av (bX (cU (eA (jv 3) (cU (bX (jv 3) ay) ay)) (eA (cU (jv 1) ay) ay)) ay)))))),fun ds M q x h=> ?_⟩)
 ·obtain ⟨ns,k,rfl,_⟩:=h;rfl
 ·obtain ⟨ns,k,rfl,hk,k2,h⟩:=h
  have bk:=Aj hk k2
  have b1:Big (k+1):=bg (k:=40) (by omega)
  have b3:Big (k+3):=bg (k:=40) (by omega)
  have cc:∀n:Int,n.natAbs < 2 ^ 20→Big n:=fun n hn=>bg hn
  walk_at "vc"
  refine (aQ (d:= .scr ns) (xs:=ns.map .int) rfl ?_:mG [.scr ns] M _)
  rw [List.length_map]
  refine ⟨fun h1=> ?_,fun h1=> ?_⟩
  ·have h1':k < ns.length:=of_decide_eq_true h1
   refine (aD (d:= .scr ns) rfl (rX hk h1') ?_:fIx (.scr ns) (.int k) M _)
   refine ⟨ns,k,rfl,hk,fun h2=> ?_,fun h2=> ?_⟩
   ·exact ⟨p64,by decide,h _ (lE (by decide) (by decide))⟩
   ·obtain ⟨c0,c1⟩:=yc h2
    refine ⟨⟨bg (k:=64) (by omega),cc _ (by decide)⟩,⟨b1,b1⟩,⟨bk,cc _ (by decide)⟩,by decide, ?_⟩
    exact ⟨by decide,wG _ (Int.emod_nonneg _ (by decide)) (Int.emod_lt_of_pos _ (by decide)),⟨b3,cc _ (by decide)⟩,by decide,h _ (lE (by decide) (by decide))⟩
  ·have h1':¬k < ns.length:=of_decide_eq_false h1
   refine ⟨ns,k,rfl,hk,fun h2=> ?_,fun h2=> ?_⟩
   ·exact ⟨p64,by decide,h _ (lE (by decide) (by decide))⟩
   ·refine ⟨⟨cc _ (by decide),cc _ (by decide)⟩,⟨b1,b1⟩,⟨bk,cc _ (by decide)⟩,by decide, ?_⟩
    exact ⟨by decide,wG _ (Int.emod_nonneg _ (by decide)) (Int.emod_lt_of_pos _ (by decide)),⟨b3,cc _ (by decide)⟩,by decide,h _ (lE (by decide) (by decide))⟩
end
end Pg
namespace Pg
open PySem L2 Fr0 Tx
section
variable{P:Program}{w:World}{K:PySem.W.Frag}{mg:Str→Option Value}{base:Heap}{Cn CN CF Ca Cj Ce Cf Ci Ck Cb Cd Cl:Addr}
theorem kN:au ["_law_script","_law_k","_law_number_here"] ["_law_script","_law_k"] (ae eZ):=⟨rfl,rfl,rfl,by decide+kernel,rfl,by decide+kernel,by decide+kernel⟩
theorem pY{f:Addr}{fd:FuncData}(F:Fun K "_law_rest" "_law_rest" eZ f fd)(E:Ev K mg Cn CN CF Ca Cj Ce Cf Ci Ck Cb Cd Cl){fLawNumber:Addr}{dLawNumber:FuncData}(c_LawNumber:aR P w K mg base 2 "_law_number" ["_law_script","_law_k"] uo fLawNumber dLawNumber){fLawFar:Addr}{dLawFar:FuncData}(c_LawFar:aR P w K mg base 1 "_law_far" ["_law_script","_law_k"] BI fLawFar dLawFar):bC P w K mg base (CX1 P w) 3 f fd ["_law_script","_law_k"] (spD K uo):=by
 refine F.okD kN (fun ds M q x h=> ?_) (fun cdv A outer s H E' hr=>⟨_,(ag (ax (i:=2) kN.nd rfl (Or.inl rfl) (bR c_LawNumber hr ak (aa (jv 0) (aa (jv 1) af (hs:=aj)) (hs:=aj))))
   (ag (bc (bE (bR c_LawFar hr ak (aa (jv 0) (aa (jv 1) af (hs:=aj)) (hs:=aj)))) (ah (av (dU (jv 2) (i7 ay ay)))) aB)
   (ah (av (bX (eA (jv 2) ay) ay))))),fun ds M q x h=> ?_⟩)
 ·obtain ⟨ns,k,rfl,_⟩:=h;rfl
 ·obtain ⟨ns,k,rfl,hk,k2,h⟩:=h
  refine ⟨ns,k,rfl,hk,k2,fun n hn=> ?_⟩
  refine ⟨ns,k,rfl,hk,fun h2=> ?_,fun h2=> ?_⟩
  ·exact ⟨p8,⟨by decide,bg (k:=40) (by decide)⟩,h _ (wH hn (by decide))⟩
  ·exact ⟨⟨wI hn,bg (k:=20) (by decide)⟩,by decide,h _ (lE (by decide) (by decide))⟩
end
end Pg
namespace Pg
open PySem L2 Fr0 Tx
theorem Cy{a b:Int}(h1: -(10 ^ 30)≤a)(h2:a≤10 ^ 30)(h3:b≤1000000):aS (a,b)=true:=by
 unfold aS
 have:(if a < 0 then -a else a)≤10 ^ 30:=by split <;> omega
 show (decide ((if a < 0 then -a else a)≤10 ^ 30)&&decide (b≤1000000))=true
 rw [decide_eq_true this,decide_eq_true h3];rfl
theorem rN{t b:Int}(h1: -(10 ^ 30)≤t)(h2:t≤10 ^ 30)(h0:0 < b)(h3:b≤1000000):aS (cx t b)=true:=by
 have l1:=pe (t:=t) (show b≠0 by omega)
 have l2:=kj (t:=t) (show b≠0 by omega)
 generalize cx t b=f at *
 obtain ⟨x,y⟩:=f
 have l1:x.natAbs≤t.natAbs:=l1
 have l2:y.natAbs≤b.natAbs:=l2
 exact Cy (by omega) (by omega) (by omega)
theorem pP{t b:Int}(t0:0≤t)(t1:t < b)(hb1:b≤1000):bf (cx t b)=true:=by
 have hb0:0 < b:=by omega
 have l2:=kj (t:=t) (show b≠0 by omega)
 have q0:=cC (t:=t) (show b≠0 by omega)
 have hc:=dE (t:=t) (show b≠0 by omega)
 generalize cx t b=f at *
 obtain ⟨x,y⟩:=f
 have l2:y.natAbs≤b.natAbs:=l2
 have q0:0 < y:=q0
 have hc:t * y=b * x:=hc
 have x0:0≤x:=by
  rcases Int.lt_or_le x 0 with z | z
  ·have:=Int.mul_neg_of_pos_of_neg hb0 z
   have:=Int.mul_nonneg t0 (Int.le_of_lt q0)
   omega
  ·exact z
 have x1:x < y:=by
  rcases Int.lt_or_le x y with z | z
  ·exact z
  ·have h3:b * y≤b * x:=Int.mul_le_mul_of_nonneg_left z (Int.le_of_lt hb0)
   have h4:t * y < b * y:=Int.mul_lt_mul_of_pos_right t1 q0
   omega
 unfold bf
 show (decide (0≤x)&&(decide (x < y)&&decide (y≤1000)))=true
 rw [decide_eq_true x0,decide_eq_true x1,decide_eq_true (show y≤1000 by omega)];rfl
section
variable{P:Program}{w:World}{K:PySem.W.Frag}{mg:Str→Option Value}{base:Heap}{Cn CN CF Ca Cj Ce Cf Ci Ck Cb Cd Cl:Addr}
def Bs:DF:=fun as M q _=>∃t b:Int,as=[.int t, .int b]∧0 < b∧Big b∧q (frD (cx t b)) M
theorem dJ:au ["_law_top","_law_bottom","_law_one","_law_other"] ["_law_top","_law_bottom"] (ae cF):=⟨rfl,rfl,rfl,by decide+kernel,rfl,by decide+kernel,by decide+kernel⟩
theorem lr{f:Addr}{fd:FuncData}(F:Fun K "_law_lowest" "_law_lowest" cF f fd)(E:Ev K mg Cn CN CF Ca Cj Ce Cf Ci Ck Cb Cd Cl):bC P w K mg base (CX1 P w) 1 f fd ["_law_top","_law_bottom"] (spD K Bs):=by
 refine F.okD dJ (fun ds M q x h=> ?_) (fun cdv A outer s H E' hr=>⟨_,(ag (ax (i:=2) dJ.nd rfl (Or.inl rfl) (vo E.n_abs (aa (jv 0) af (hs:=aj))))
   (ag (ax (i:=3) dJ.nd rfl (Or.inl rfl) (jv 1))
   (ag (oV (yn hr (jv 3) ay) (ah (AI (i:=2) (j:=3) dJ.nd rfl rfl (aa (jv 3) (aa (bX (jv 2) (jv 3)) af (hs:=bQ)) (hs:=aj)))))
   (ah (av (ff (aa (dU (jv 0) (jv 2)) (aa (dU (jv 1) (jv 2)) af (hs:=bQ)) (hs:=bQ)))))))),fun ds M q x h=> ?_⟩)
 ·obtain ⟨t,b,rfl,_⟩:=h;rfl
 ·obtain ⟨t,b,rfl,h0,h1,h⟩:=h
  have ga:g (if t < 0 then -t else t) b=g t b:=by
   have:=A4 t b
   rwa [if_neg (show¬b < 0 by omega)] at this
  refine ⟨fun m ρ M'=>M'=M∧∃(x y:Int),ρ=[some (.int t),some (.int b),some (.int x),some (.int y)]∧0≤x∧0≤y∧g x y=g t b∧m=y.toNat,⟨_,rfl,_,_,rfl,by split <;> omega,by omega,ga,rfl⟩, ?_⟩
  rintro m ρ M' ⟨rfl,x,y,rfl,hx,hy,e,rfl⟩
  refine ⟨fun hb=> ?_,fun hb=> ?_⟩
  ·have hy0:y≠0:=by simpa using hb
   refine ⟨_,fun ρ' M2 h2=>h2, ?_⟩
   refine ⟨by omega,(x % y).toNat, ?_,rfl,y,x % y,rfl,hy,Int.emod_nonneg _ hy0, ?_,rfl⟩
   ·have:=Int.emod_lt_of_pos x (show 0 < y by omega)
    have:=Int.emod_nonneg x hy0
    omega
   ·rw [←Int.fmod_eq_emod_of_nonneg x hy,w4 (by omega)];exact e
  ·have hy0:y=0:=by simpa using hb
   subst hy0
   rw [wZ hx] at e
   subst e
   have hg:0 < g t b:=sY (by omega)
   have hle:g t b≤b:=Int.le_of_dvd h0 (Int.gcd_dvd_right ..)
   have hb:Big (g t b):=Nat.lt_of_le_of_lt (show (g t b).natAbs≤b.natAbs by omega) h1
   have e:cx t b=(t / g t b,b / g t b):=by rw [yz h0,Int.fdiv_eq_ediv_of_nonneg _ (Int.le_of_lt hg),Int.fdiv_eq_ediv_of_nonneg _ (Int.le_of_lt hg)]
   rw [e] at h
   exact ⟨⟨hg,hb⟩,⟨hg,hb⟩,(by show 2≤sizeLine;decide),h⟩
def vZ:DF:=fun as M q _=>∃n:Int,as=[.int n]∧Nm n∧∀p,aS p=true→0 < p.2→q (frD p) M
theorem uO:au ["_law_number_here"] ["_law_number_here"] (ae gf):=⟨rfl,rfl,rfl,by decide+kernel,rfl,by decide+kernel,by decide+kernel⟩
theorem rT{f:Addr}{fd:FuncData}(F:Fun K "_law_pay" "_law_pay" gf f fd)(E:Ev K mg Cn CN CF Ca Cj Ce Cf Ci Ck Cb Cd Cl){fLawLowest:Addr}{dLawLowest:FuncData}(c_LawLowest:aR P w K mg base 1 "_law_lowest" ["_law_top","_law_bottom"] Bs fLawLowest dLawLowest):bC P w K mg base (CX1 P w) 2 f fd ["_law_number_here"] (spD K vZ):=by
 refine F.okD uO (fun ds M q x h=> ?_) (fun cdv A outer s H E' hr=>⟨_,(ag (bc (dR hr (bX (jv 0) ay) ay) (ah (av (bR c_LawLowest hr ak (aa (sH (bX (eA (jv 0) (i7 ay ay)) (cU (eA ay (i7 ay ay)) ay)) (i7 ay ay)) (aa (cU ay (bX (dU (jv 0) ay) (i7 ay ay))) af (hs:=bQ)) (hs:=bQ))))) aB)
   (ah (av (bR c_LawLowest hr ak (aa (sH (bX (dU (jv 0) ay) ay) ay) (aa (cU ay (bX (dU (jv 0) ay) ay)) af (hs:=bQ)) (hs:=bQ)))))),fun ds M q x h=> ?_⟩)
 ·obtain ⟨n,rfl,_⟩:=h;rfl
 ·obtain ⟨n,rfl,hn,h⟩:=h
  refine ⟨by decide,fun _=> ?_,fun _=> ?_⟩
  ·have hb6:0 < 1+n / 8 % 10 ^ (6:Int).toNat∧1+n / 8 % 10 ^ (6:Int).toNat≤1000000:=by
    show 0 < 1+n / 8 % 1000000∧1+n / 8 % 1000000≤1000000
    omega
   have hb7:Big (1+n / 8 % 10 ^ (6:Int).toNat):=Bo (k:=20) (Int.le_of_lt hb6.1) (Int.lt_of_le_of_lt hb6.2 (by decide)) (by decide)
   have b22:Big ((10:Int) ^ (22:Int).toNat):=bg (k:=110) (by decide)
   have b30:Big ((10:Int) ^ (30:Int).toNat):=bg (k:=110) (by decide)
   have m0:(0:Int) < 2 * 10 ^ (30:Int).toNat+1:=by decide
   have hm0:=Int.emod_nonneg (n * 10 ^ (22:Int).toNat) (show (2 * 10 ^ (30:Int).toNat+1:Int)≠0 by decide)
   have hm1:=Int.emod_lt_of_pos (n * 10 ^ (22:Int).toNat) m0
   refine ⟨p22,⟨wI hn,b22⟩,p30,⟨bg (k:=4) (by decide),b30⟩,m0,p30,⟨by decide,bg (k:=5) (by decide)⟩,p6,(by show (0:Int) < 1000000;decide),_,_,rfl,hb6.1,hb7,h _ (rN ?_ ?_ hb6.1 hb6.2) (cC (by omega))⟩
   ·show -(10 ^ 30)≤n * 10 ^ (22:Int).toNat % (2 * 10 ^ (30:Int).toNat+1) - 10 ^ 30
    omega
   ·have e:(10:Int) ^ (30:Int).toNat=10 ^ 30:=rfl
    rw [e] at hm1
    show n * 10 ^ (22:Int).toNat % (2 * 10 ^ 30+1) - 10 ^ 30≤10 ^ 30
    omega
  ·exact ⟨⟨by decide,bg (k:=4) (by decide)⟩,by decide,⟨by decide,bg (k:=8) (by decide)⟩,by decide,_,_,rfl,by omega,bg (k:=10) (by omega),h _ (rN (by omega) (by omega) (by omega) (by omega)) (cC (by omega))⟩
end
end Pg
set_option maxRecDepth 100000
set_option maxHeartbeats 4000000
namespace Pg
open PySem L2 Fr0 Tx
structure qz(kd:Str)(size:Int)(cs:List Fr)(ds:List DrG):Prop where
 fit:∀d∈ds,aI d.1 d.2.1 size=true∧0 < d.2.1.2
 cha:kd="chance"→(∀d∈ds,d.2.2=[aw d])∧ds.map aw=cs.take ds.length
 han:kd≠"chance"→∀d∈ds,d.2.2=[]
theorem qz.more{kd:Str}{size:Int}{cs:List Fr}{ds:List DrG}{d:DrG}(h:qz kd size cs ds)(h1:aI d.1 d.2.1 size=true)(h2:0 < d.2.1.2)(hl:ds.length < cs.length)(h3:kd="chance"→d.2.2=[cs[ds.length]])(h4:kd≠"chance"→d.2.2=[]):qz kd size cs (ds++[d]):=by
 refine ⟨fun e he=> ?_,fun hc=>⟨fun e he=> ?_, ?_⟩,fun hc e he=> ?_⟩
 ·rcases List.mem_append.mp he with he | he
  ·exact h.fit e he
  ·have:e=d:=by simpa using he
   subst this;exact ⟨h1,h2⟩
 ·rcases List.mem_append.mp he with he | he
  ·exact (h.cha hc).1 e he
  ·have:e=d:=by simpa using he
   subst this;unfold aw;rw [h3 hc];rfl
 ·rw [List.map_append,(h.cha hc).2,List.length_append]
  show cs.take ds.length++[aw d]=cs.take (ds.length+1)
  rw [List.take_succ,List.getElem?_eq_getElem hl]
  unfold aw;rw [h3 hc];rfl
 ·rcases List.mem_append.mp he with he | he
  ·exact h.han hc e he
  ·have:e=d:=by simpa using he
   subst this;exact h4 hc
theorem qz.good{kd:Str}{size:Int}{cs:List Fr}{ds:List DrG}(h:qz kd size cs ds)(hk:az kd=true∨kd="chance")(h1:1≤ds.length)(h6:ds.length≤6)(hl:ds.length=cs.length)(hc:aA cs=true)(ho:Ok3 cs):kC size (.doors kd ds):=by
 by_cases hch:kd="chance"
 ·subst hch
  have e:ds.map aw=cs:=by rw [(h.cha rfl).2,hl,List.take_length]
  exact tY h1 h6 (fun d hd=>(h.fit d hd).1) (h.cha rfl).1 (by rw [e];exact hc) (by rw [e];exact ho) fun d hd=>(h.fit d hd).2
 ·exact yt (hk.resolve_right hch) h1 h6 (fun d hd=>(h.fit d hd).1) fun d hd=>⟨h.han hch d hd,(h.fit d hd).2⟩
def RwG(size:Int)(r:Rw):Prop:=kC size r∧∀k ds,r= .doors k ds→az k=true→∀d∈ds,d.2.2=[]
theorem yu{k:Str}(h:az k=true):k≠"chance":=fun z=>by subst z;exact absurd h (by decide)
section
variable{P:Program}{w:World}{K:PySem.W.Frag}{mg:Str→Option Value}{base:Heap}{Cn CN CF Ca Cj Ce Cf Ci Ck Cb Cd Cl:Addr}
def ou:DF:=fun as M q _=>∃(ns:List Int) (a:Int) (kd:Str) (many:Nat) (size:Int),as=[.scr ns, .int a, .str kd, .int many, .int size]∧1≤a∧a≤150∧1≤many∧many≤6∧1≤size∧size≤12∧(az kd=true∨kd="chance")∧∀ds,RwG size (.doors kd ds)→q (.loc M.length) (M++[.lst (ds.map drG)])
theorem bJ:au ["_law_script","_law_at","_law_kind","_law_many","_law_size","_law_numbers","_law_most","_law_weights","_law_doors_here","_law_k","_law_door"] ["_law_script","_law_at","_law_kind","_law_many","_law_size"] (ae bD):=⟨rfl,rfl,rfl,by decide+kernel,rfl,by decide+kernel,by decide+kernel⟩
theorem nz{f:Addr}{fd:FuncData}(F:Fun K "_law_doors" "_law_doors" bD f fd)(E:Ev K mg Cn CN CF Ca Cj Ce Cf Ci Ck Cb Cd Cl){fLawNumber:Addr}{dLawNumber:FuncData}(c_LawNumber:aR P w K mg base 2 "_law_number" ["_law_script","_law_k"] uo fLawNumber dLawNumber){fLawPay:Addr}{dLawPay:FuncData}(c_LawPay:aR P w K mg base 2 "_law_pay" ["_law_number_here"] vZ fLawPay dLawPay){fLawRest:Addr}{dLawRest:FuncData}(c_LawRest:aR P w K mg base 3 "_law_rest" ["_law_script","_law_k"] uo fLawRest dLawRest){fLawLowest:Addr}{dLawLowest:FuncData}(c_LawLowest:aR P w K mg base 1 "_law_lowest" ["_law_top","_law_bottom"] Bs fLawLowest dLawLowest):bC P w K mg base (CX1 P w) 4 f fd ["_law_script","_law_at","_law_kind","_law_many","_law_size"] (spD K ou):=by
 refine F.okD bJ (fun ds M q x h=> ?_) (fun cdv A outer s H E' hr=>⟨_,(ag (jy (i:=5) bJ.nd rfl (Or.inl rfl) (ys:=["_law_script","_law_at"]) (caps:=[0,1]) ⟨rfl,by decide+kernel,by decide+kernel,rfl,(by show∀p:Str×NameKind,p∈_→p.2=NameKind.free→List.lookup p.1 (ae bD).names=some .cell;decide+kernel),by decide+kernel,(by show∀q:Str×Nat,q∈_→(["_law_script","_law_at","_law_kind","_law_many","_law_size","_law_numbers","_law_most","_law_weights","_law_doors_here","_law_k","_law_door"]:List Str)[q.2]? =some q.1∧List.lookup q.1 (ae bD).names=some .cell∧_;decide+kernel),rfl⟩ (bG E.n_range (aa (jv 3) af (hs:=aj))) (fun C s H fp=>(bR c_LawNumber hr (fw (P:=P) (w:=w)) (aa (jv 1) (aa (cU (jv 2) (jv 0)) af (hs:=bQ)) (hs:=aj)))))
   (ag (ax (i:=6) bJ.nd rfl (Or.inr rfl) (aY (lP (aa ay (aa (dU (i7 ay ay) (jv 3)) af (hs:=bQ)) (hs:=cy))) (dU (bX (dU (bR c_LawNumber hr ak (aa (jv 0) (aa (sH (jv 1) ay) af (hs:=bQ)) (hs:=aj))) ay) ay) ay)))
   (ag (nL (i:=7) bJ.nd rfl (Or.inl rfl) (ys:=["_law_most","_law_size"]) (caps:=[6,4]) ⟨rfl,by decide+kernel,by decide+kernel,rfl,(by show∀p:Str×NameKind,p∈_→p.2=NameKind.free→List.lookup p.1 (ae bD).names=some .cell;decide+kernel),by decide+kernel,(by show∀q:Str×Nat,q∈_→(["_law_script","_law_at","_law_kind","_law_many","_law_size","_law_numbers","_law_most","_law_weights","_law_doors_here","_law_k","_law_door"]:List Str)[q.2]? =some q.1∧List.lookup q.1 (ae bD).names=some .cell∧_;decide+kernel),rfl⟩ (ef (jv 5)) (fun C s H fp=>(cU ay (bX (dU (jv 0) (jv 2)) (jv 1)))))
   (ag (ax (i:=8) bJ.nd rfl (Or.inl rfl) (lO af))
   (ag (iB (bG E.n_range (aa (jv 3) af (hs:=aj))) (aK (i:=9) bJ.nd rfl (Or.inl rfl)) cp (ag (ax (i:=10) bJ.nd rfl (Or.inl rfl) (ff (aa (bX (aY (jv 5) (jv 9)) (jv 4)) (aa (bR c_LawPay hr ak (aa (bR c_LawRest hr ak (aa (jv 0) (aa (cU (jv 1) (jv 9)) af (hs:=bQ)) (hs:=aj))) af (hs:=bI))) af (hs:=bI)) (hs:=bQ))))
   (ag (sD (bc (dR hr (jv 2) gG) (ah (ax (i:=10) bJ.nd rfl (Or.inl rfl) (cU (jv 10) (ff (aa (bR c_LawLowest hr ak (aa (aY (jv 7) (jv 9)) (aa (AL E.n_sum (aa (jv 7) af (hs:=aj))) af (hs:=bI)) (hs:=cg))) af (hs:=bI)))))) aB))
   (ah (fG (fb (jv 8) (aa (jv 10) af (hs:=aj))))))))
   (ah (av (jv 8)))))))),fun ds M q x h=> ?_⟩)
 ·obtain ⟨ns,a,kd,many,size,rfl,_⟩:=h;rfl
 ·obtain ⟨ns,a,kd,many,size,rfl,a0,a1,n1,n6,s1,s12,hkd,h⟩:=h
  walk_at "vc"
  refine ⟨⟨by omega,by omega⟩,by rw [cB];exact Nat.le_trans (show _≤6 by omega) (by decide), ?_⟩
  refine jC (f:=Dt.int) Nm _ [] (fun _ z=>(nomatch z)) (fun x hxm q' hq=> ?_) fun xs hlx hx=> ?_
  ·obtain ⟨k,hk,rfl⟩:=fP hxm
   have hk6:(k:Int) < 6:=by omega
   exact ⟨ns,a+(0+(k:Int)),rfl,by omega,by omega,hq⟩
  have hlx:xs.length=many:=by rw [hlx,cB];simp
  refine ⟨p6,⟨by omega,bg (k:=10) (by omega)⟩,(by show 2≤sizeLine;decide),ns,a - 1,rfl,by omega,by omega,fun n hn=> ?_⟩
  refine ⟨⟨by decide,bg (k:=8) (by decide)⟩,by decide,⟨by decide,bg (k:=4) (by decide)⟩, ?_⟩
  obtain ⟨most,em,m0,m1⟩:∃most:Int,atI [Dt.int 6,Dt.int (10 ^ (6:Int).toNat / (many:Int))] (n / 42 % 4 / 3)=some (.int most)∧0 < most∧many * most≤1000000:=by
   obtain ⟨t1,t2⟩:=yd n1 n6
   have:n / 42 % 4 / 3=0∨n / 42 % 4 / 3=1:=by omega
   rcases this with e | e
   ·rw [e];exact ⟨6,d8,by decide,by omega⟩
   ·rw [e];exact ⟨_,aG (j:=1) rfl,t1,t2⟩
  refine aD (d:= .lst [Dt.int 6,Dt.int (10 ^ (6:Int).toNat / (many:Int))]) rfl em ?_
  show iG _ _ _ _ _
  refine dz (i:=5) (d:= .lst (xs.map .int)) rfl rfl ⟨by rw [List.length_map,hlx];exact Nat.le_trans n6 (by decide), ?_⟩
  refine cQ (f:=fun d=>match d with | .int n=> .int (1+n / size % most) | _=> .non) trivial (fun x hxm q' hq=> ?_) ?_
  ·obtain ⟨y,hy,rfl⟩:=List.mem_map.mp hxm
   exact ⟨⟨by omega,bg (k:=10) (by omega)⟩,m0,hq⟩
  rw [List.nil_append,show (xs.map Dt.int).map (fun d=>match d with | .int n=> .int (1+n / size % most) | _=> .non)=(xs.map fun n=>1+n / size % most).map Dt.int by rw [List.map_map,List.map_map];rfl]
  generalize hws:(xs.map fun n=>1+n / size % most)=ws
  have wl:ws.length=many:=by rw [←hws,List.length_map,hlx]
  have w0:∀w∈ws,0 < w∧w≤most:=fun w hw=>by
   rw [←hws] at hw
   obtain ⟨y,_,rfl⟩:=List.mem_map.mp hw
   have e0:=Int.emod_nonneg (y / size) (show most≠0 by omega)
   have e1:=Int.emod_lt_of_pos (y / size) m0
   omega
  have hS:ws.sum≤1000000:=by
   have:=wm fun w hwm=>(w0 w hwm).2
   rw [wl] at this
   omega
  have hne:ws≠[]:=fun z=>by rw [z] at wl;simp at wl;omega
  have Spos:=qM (fun w hw=>(w0 w hw).1) hne
  obtain ⟨c1,c2⟩:=qr (S:=ws.sum) rfl (fun w hwm=>(w0 w hwm).1) hne hS (by omega)
  have cl:(ws.map fun w=>cx w ws.sum).length=many:=by rw [List.length_map,wl]
  have bS:Big ws.sum:=bg (k:=21) (by omega)
  clear hws
  refine ⟨by decide,⟨by omega,by omega⟩, ?_⟩
  refine cX (fun zs ρ M'=>∃(n k:Nat) (ds:List DrG) (o1 o2:Option Dt),zs=gk k n∧k+n=many∧ds.length=k∧qz kd size (ws.map fun w=>cx w ws.sum) ds∧M'=M++[MO.lst (ds.map drG)]∧ρ=[some (.scr ns),some (.int a),some (.str kd),some (.int many),some (.int size),some (.lst (xs.map .int)),some (.int most),some (.lst (ws.map .int)),some (.loc M.length),o1,o2]) (fun x zs ρ M' hj nxt=> ?_) (fun ρ M' hj=> ?_) _ _ _ ⟨many,0,[],none,none,by simp,by simp,rfl,⟨fun _ z=>(nomatch z),fun _=>⟨fun _ z=>(nomatch z),rfl⟩,fun _ _ z=>(nomatch z)⟩,rfl,rfl⟩
  ·obtain ⟨n,k,ds,o1,o2,ex,hkn,hl,hd,rfl,rfl⟩:=hj
   obtain ⟨m,rfl,rfl,rfl⟩:=cN ex
   have k6:(k:Int) < 6:=by omega
   have kx:k < xs.length:=by omega
   have kw:k < ws.length:=by omega
   have atM:(M++[MO.lst (ds.map drG)])[M.length]? =some (.lst (ds.map drG)):=by simp
   have setM:∀y:DrG,(M++[MO.lst (ds.map drG)]).set M.length (.lst (ds.map drG++[drG y]))=M++[.lst ((ds++[y]).map drG)]:=fun y=>by simp
   have lt:(ds.map drG).length < sizeLine:=by rw [List.length_map,hl];exact Nat.lt_of_le_of_lt (show k≤12 by omega) (by decide)
   walk_at "vc"
   refine (aD (d:= .lst (xs.map .int)) rfl (wW kx) ?_:fIx (.lst (xs.map .int)) (.int (k:Int)) _ _)
   refine ⟨by omega,ns,_,rfl,by omega,by omega,fun r hr2=>⟨r,rfl,hr2,fun p hp hp0=>⟨by show 2≤sizeLine;decide, ?_⟩⟩⟩
   have hfit:aI (xs[k] % size) p size=true:=yH (Int.emod_nonneg _ (by omega)) (Int.emod_lt_of_pos _ (by omega)) hp
   refine ⟨fun ρ M2=>M2=M++[MO.lst (ds.map drG)]∧∃d:DrG,(aI d.1 d.2.1 size=true∧0 < d.2.1.2∧(kd="chance"→d.2.2=[cx ws[k] ws.sum])∧(kd≠"chance"→d.2.2=[]))∧ρ=[some (.scr ns),some (.int a),some (.str kd),some (.int many),some (.int size),some (.lst (xs.map .int)),some (.int most),some (.lst (ws.map .int)),some (.loc M.length),some (.int (k:Int)),some (drG d)],⟨fun hc=> ?_,fun hc=> ?_⟩, ?_⟩
   ·have hc:kd="chance":=of_decide_eq_true hc
    walk_at "vc"
    refine (aD (d:= .lst (ws.map .int)) rfl (wW kw) ?_:fIx (.lst (ws.map .int)) (.int (k:Int)) _ _)
    exact ⟨ws,rfl,⟨_,_,rfl⟩,_,_,rfl,Spos,bS,(by show 1≤sizeLine;decide),⟨by simp,by show 3≤sizeLine;decide⟩,rfl,(xs[k] % size,p,[cx ws[k] ws.sum]),⟨hfit,hp0,fun _=>rfl,fun z=>absurd hc z⟩,rfl⟩
   ·have hc:kd≠"chance":=of_decide_eq_false hc
    exact ⟨rfl,(xs[k] % size,p,[]),⟨hfit,hp0,fun z=>absurd z hc,fun _=>rfl⟩,rfl⟩
   ·rintro ρ2 M2 ⟨rfl,d,⟨d1,d2,d3,d4⟩,rfl⟩
    refine ⟨⟨M.length,_,rfl,atM⟩,M.length,_,_,rfl,rfl,atM,lt, ?_⟩
    rw [setM d]
    refine nxt _ _ ⟨m,k+1,ds++[d],_,_,by simp,by omega,by simp [hl],hd.more d1 d2 (by rw [cl];omega) (fun z=> ?_) d4,rfl,rfl⟩
    rw [d3 z]
    simp [hl]
  ·obtain ⟨n,k,ds,o1,o2,ex,hkn,hl,hd,rfl,rfl⟩:=hj
   have hn:n=0:=by
    have:=congrArg List.length ex
    unfold gk at this
    simpa using this.symm
   exact h ds ⟨hd.good hkd (by omega) (by omega) (by rw [cl];omega) c1 c2,fun k' ds' e hk d hd'=>by cases e;exact hd.han (yu hk) d hd'⟩
end
end Pg
set_option maxRecDepth 100000
set_option maxHeartbeats 4000000
namespace Pg
open PySem L2 Fr0 Tx
theorem vk{n:Int}:∃kd:Str,atI [Dt.str "one",Dt.str "chance",Dt.str "other",Dt.str "end",Dt.str "chance",Dt.str "one",Dt.str "other"] (n % 7)=some (.str kd)∧(az kd=true∨kd="chance"∨kd="end"):=by
 have:n % 7=0∨n % 7=1∨n % 7=2∨n % 7=3∨n % 7=4∨n % 7=5∨n % 7=6:=by omega
 rcases this with e | e | e | e | e | e | e <;> rw [e]
 ·exact ⟨_,d8, .inl (by decide)⟩
 ·exact ⟨_,aG (j:=1) rfl, .inr (.inl rfl)⟩
 ·exact ⟨_,aG (j:=2) rfl, .inl (by decide)⟩
 ·exact ⟨_,aG (j:=3) rfl, .inr (.inr rfl)⟩
 ·exact ⟨_,aG (j:=4) rfl, .inr (.inl rfl)⟩
 ·exact ⟨_,aG (j:=5) rfl, .inl (by decide)⟩
 ·exact ⟨_,aG (j:=6) rfl, .inl (by decide)⟩
section
variable{P:Program}{w:World}{K:PySem.W.Frag}{mg:Str→Option Value}{base:Heap}{Cn CN CF Ca Cj Ce Cf Ci Ck Cb Cd Cl:Addr}
def uj:DF:=fun as M q _=>∃ns:List Int,as=[.scr ns, .int 6, .int 5]∧∀rows:List Rw,1≤rows.length→rows.length≤6→(∀r∈rows,RwG rows.length r)→q (.loc M.length) (M++[.lst (rows.map cz)])
theorem cw:au ["_law_script","_law_most","_law_wide","_law_size","_law_rows_here","_law_place","_law_at","_law_first","_law_kind"] ["_law_script","_law_most","_law_wide"] (ae eY):=⟨rfl,rfl,rfl,by decide+kernel,rfl,by decide+kernel,by decide+kernel⟩
theorem pX{f:Addr}{fd:FuncData}(F:Fun K "_law_rows" "_law_rows" eY f fd)(E:Ev K mg Cn CN CF Ca Cj Ce Cf Ci Ck Cb Cd Cl){fLawNumber:Addr}{dLawNumber:FuncData}(c_LawNumber:aR P w K mg base 2 "_law_number" ["_law_script","_law_k"] uo fLawNumber dLawNumber){fLawPay:Addr}{dLawPay:FuncData}(c_LawPay:aR P w K mg base 2 "_law_pay" ["_law_number_here"] vZ fLawPay dLawPay){fLawDoors:Addr}{dLawDoors:FuncData}(c_LawDoors:aR P w K mg base 4 "_law_doors" ["_law_script","_law_at","_law_kind","_law_many","_law_size"] ou fLawDoors dLawDoors):bC P w K mg base (CX1 P w) 5 f fd ["_law_script","_law_most","_law_wide"] (spD K uj):=by
 refine F.okD cw (fun ds M q x h=> ?_) (fun cdv A outer s H E' hr=>⟨_,(ag (ax (i:=3) cw.nd rfl (Or.inl rfl) (cU ay (bX (bR c_LawNumber hr ak (aa (jv 0) (aa ay af (hs:=cy)) (hs:=aj))) (jv 1))))
   (ag (sD (ax (i:=2) cw.nd rfl (Or.inl rfl) (vn (CM (jv 3) ay) ay (jv 2))))
   (ag (ax (i:=4) cw.nd rfl (Or.inl rfl) (lO af))
   (ag (iB (bG E.n_range (aa (jv 3) af (hs:=aj))) (aK (i:=5) cw.nd rfl (Or.inl rfl)) cp (ag (ax (i:=6) cw.nd rfl (Or.inl rfl) (cU ay (eA (jv 2) (jv 5))))
   (ag (ax (i:=7) cw.nd rfl (Or.inl rfl) (bR c_LawNumber hr ak (aa (jv 0) (aa (jv 6) af (hs:=aj)) (hs:=aj))))
   (ag (ax (i:=8) cw.nd rfl (Or.inl rfl) (aY (iE 3 (d:= .lst [.str "one", .str "chance", .str "other", .str "end", .str "chance", .str "one", .str "other"]) (by rfl)) (bX (jv 7) ay)))
   (ah (bc (dR hr (jv 8) gG) (ah (fG (fb (jv 4) (aa (ff (aa gG (aa (bR c_LawPay hr ak (aa (dU (jv 7) ay) af (hs:=bQ))) af (hs:=bI)) (hs:=cy))) af (hs:=xq))))) (ah (fG (fb (jv 4) (aa (ff (aa (jv 8) (aa (gM (bR c_LawDoors hr ak (aa (jv 0) (aa (cU (jv 6) ay) (aa (jv 8) (aa (cU ay (bX (dU (jv 7) ay) (sH (jv 2) ay))) (aa (jv 3) af (hs:=aj)) (hs:=bQ)) (hs:=aj)) (hs:=bQ)) (hs:=aj)))) af (hs:=bI)) (hs:=aj))) af (hs:=xq)))))))))))
   (ah (av (jv 4))))))),fun ds M q x h=> ?_⟩)
 ·obtain ⟨ns,rfl,_⟩:=h;rfl
 ·obtain ⟨ns,rfl,h⟩:=h
  refine ⟨ns,0,rfl,by decide,by decide,fun n0 hn0=>⟨by decide, ?_⟩⟩
  obtain ⟨sz,hz,z1,z6⟩:∃sz:Nat,1+n0 % 6=(sz:Int)∧1≤sz∧sz≤6:=⟨(1+n0 % 6).toNat,by omega,by omega,by omega⟩
  dsimp only [BF]
  rw [hz]
  refine ⟨fun ρ M'=>M'=M∧∃wd:Int,(wd=5∨wd=7)∧ρ=[some (.scr ns),some (.int 6),some (.int wd),some (.int sz),none,none,none,none,none],⟨fun _=>⟨rfl,7, .inr rfl,rfl⟩,fun _=>⟨rfl,5, .inl rfl,rfl⟩⟩, ?_⟩
  rintro ρ' M' ⟨rfl,wd,hwd,rfl⟩
  refine ⟨by decide,⟨by omega,by omega⟩, ?_⟩
  refine cX (fun zs ρ M2=>∃(n k:Nat) (rs:List Rw) (o1 o2 o3 o4:Option Dt),zs=gk k n∧k+n=sz∧rs.length=k∧(∀r∈rs,RwG sz r)∧M2=M'++[MO.lst (rs.map cz)]∧ρ=[some (.scr ns),some (.int 6),some (.int wd),some (.int sz),some (.loc M'.length),o1,o2,o3,o4]) (fun x zs ρ M2 hj nxt=> ?_) (fun ρ M2 hj=> ?_) _ _ _ ⟨sz,0,[],none,none,none,none,by simp,by simp,rfl,fun _ z=>(nomatch z),rfl,rfl⟩
  ·obtain ⟨n,k,rs,o1,o2,o3,o4,ex,hkn,hl,hd,rfl,rfl⟩:=hj
   obtain ⟨m,rfl,rfl,rfl⟩:=cN ex
   have k6:(k:Int) < 6:=by omega
   have hat:0≤2+wd * (k:Int)∧2+wd * (k:Int)≤100:=by rcases hwd with rfl | rfl <;> omega
   have bw:Big wd:=bg (k:=10) (by omega)
   have atM:(M'++[MO.lst (rs.map cz)])[M'.length]? =some (.lst (rs.map cz)):=by simp
   have setM:∀y:Rw,(M'++[MO.lst (rs.map cz)]).set M'.length (.lst (rs.map cz++[cz y]))=M'++[.lst ((rs++[y]).map cz)]:=fun y=>by simp
   have lt:(rs.map cz).length < sizeLine:=by rw [List.length_map,hl];exact Nat.lt_of_le_of_lt (show k≤12 by omega) (by decide)
   have first:∃k' xs',Dt.loc M'.length= .loc k'∧(M'++[MO.lst (rs.map cz)])[k']? =some (.lst xs'):=⟨_,_,rfl,atM⟩
   have more:∀y,RwG sz y→∀r∈rs++[y],RwG sz r:=fun y hy r hr=>by
    rcases List.mem_append.mp hr with hr | hr
    ·exact hd r hr
    ·have:r=y:=by simpa using hr
     rw [this];exact hy
   refine ⟨⟨bw,bg (k:=10) (by omega)⟩,ns,_,rfl,hat.1,by omega,fun f hf=>⟨by decide, ?_⟩⟩
   obtain ⟨kd,ek,hkd⟩:=vk (n:=f)
   refine aD rfl ek ?_
   refine ⟨fun z=> ?_,fun z=> ?_⟩
   ·refine ⟨first,⟨by decide,bg (k:=4) (by decide)⟩,_,rfl,wH hf (by decide),fun p hp hp0=>⟨by show 2≤sizeLine;decide,M'.length,_,_,rfl,rfl,atM,lt, ?_⟩⟩
    refine nxt _ _ ⟨m,k+1,rs++[Rw.fin p],_,_,_,_,by simp,by omega,by simp [hl],more (.fin p) ⟨⟨hp0,hp⟩,fun _ _ e=>nomatch e⟩,setM (.fin p),rfl⟩
   ·have z:kd≠"end":=of_decide_eq_false z
    have hkd:az kd=true∨kd="chance":=by
     rcases hkd with hk | hk | hk
     ·exact .inl hk
     ·exact .inr hk
     ·exact absurd hk z
    have w1:0 < wd - 1:=by omega
    have hm0:=Int.emod_nonneg (f / 7) (show wd - 1≠0 by omega)
    have hm1:=Int.emod_lt_of_pos (f / 7) w1
    refine ⟨first,⟨by decide,bg (k:=4) (by decide)⟩,w1,ns,_,kd,(1+f / 7 % (wd - 1)).toNat,sz,by rw [Int.toNat_of_nonneg (by omega)],by omega,by omega,by omega,by omega,by omega,by omega,hkd,fun ds hds=>fS (dY ds) ?_⟩
    refine ⟨by show 2≤sizeLine;decide,M'.length,_,_,rfl,rfl,atM,lt, ?_⟩
    exact nxt _ _ ⟨m,k+1,rs++[Rw.doors kd ds],_,_,_,_,by simp,by omega,by simp [hl],more (.doors kd ds) hds,setM (.doors kd ds),rfl⟩
  ·obtain ⟨n,k,rs,o1,o2,o3,o4,ex,hkn,hl,hd,rfl,rfl⟩:=hj
   have hn:n=0:=by
    have:=congrArg List.length ex
    unfold gk at this
    simpa using this.symm
   have e:rs.length=sz:=by omega
   exact h rs (by omega) (by omega) (by rw [e];exact hd)
end
end Pg
namespace Pg
open PySem L2 Fr0 Tx
section
variable{P:Program}{w:World}{K:PySem.W.Frag}{mg:Str→Option Value}{base:Heap}{Cn CN CF Ca Cj Ce Cf Ci Ck Cb Cd Cl:Addr}
def ot:DF:=fun as M q _=>∃n:Int,as=[.int n]∧∀p,bf p=true→q (frD p) M
theorem jh:au ["_law_number_here","_law_bottom"] ["_law_number_here"] (ae de):=⟨rfl,rfl,rfl,by decide+kernel,rfl,by decide+kernel,by decide+kernel⟩
theorem nv{f:Addr}{fd:FuncData}(F:Fun K "_law_share" "_law_share" de f fd)(E:Ev K mg Cn CN CF Ca Cj Ce Cf Ci Ck Cb Cd Cl){fLawLowest:Addr}{dLawLowest:FuncData}(c_LawLowest:aR P w K mg base 1 "_law_lowest" ["_law_top","_law_bottom"] Bs fLawLowest dLawLowest):bC P w K mg base (CX1 P w) 2 f fd ["_law_number_here"] (spD K ot):=by
 refine F.okD jh (fun ds M q x h=> ?_) (fun cdv A outer s H E' hr=>⟨_,(ag (ax (i:=1) jh.nd rfl (Or.inl rfl) (aY (lP (aa ay (aa (cU ay (bX (jv 0) ay)) (aa ay af (hs:=cy)) (hs:=bQ)) (hs:=cy))) (bX (dU (jv 0) ay) ay)))
   (ah (av (bR c_LawLowest hr ak (aa (bX (dU (jv 0) ay) (jv 1)) (aa (jv 1) af (hs:=aj)) (hs:=bQ)))))),fun ds M q x h=> ?_⟩)
 ·obtain ⟨n,rfl,_⟩:=h;rfl
 ·obtain ⟨n,rfl,h⟩:=h
  refine ⟨by decide,(by show 3≤sizeLine;decide),⟨by decide,bg (k:=11) (by decide)⟩,by decide, ?_⟩
  obtain ⟨b,eb,b0,b1⟩:∃b:Int,atI [Dt.int 2, .int (1+n % 1000), .int 3] (n / 1000 % 3)=some (.int b)∧0 < b∧b≤1000:=by
   have:n / 1000 % 3=0∨n / 1000 % 3=1∨n / 1000 % 3=2:=by omega
   rcases this with e | e | e <;> rw [e]
   ·exact ⟨_,d8,by decide,by decide⟩
   ·exact ⟨_,aG (j:=1) rfl,by omega,by omega⟩
   ·exact ⟨_,aG (j:=2) rfl,by decide,by decide⟩
  refine aD rfl eb ?_
  exact ⟨⟨by decide,bg (k:=13) (by decide)⟩,b0,_,_,rfl,b0,bg (k:=11) (by omega),h _ (pP (Int.emod_nonneg _ (by omega)) (Int.emod_lt_of_pos _ b0) b1)⟩
end
end Pg
set_option maxRecDepth 100000
set_option maxHeartbeats 4000000
namespace Pg
open PySem L2 Fr0 Tx
def Sz(k:Nat)(p:Fr):Prop:=p.1.natAbs < 2 ^ k∧0 < p.2∧p.2.natAbs < 2 ^ k
def ft(p q:Fr):Fr:=cx (p.1 * q.2+q.1 * p.2) (p.2 * q.2)
def bV(p q:Fr):Fr:=cx (p.1 * q.1) (p.2 * q.2)
theorem hW{k k':Nat}{p:Fr}(h:Sz k p)(hk:k≤k'):Sz k' p:=
 ⟨Nat.lt_of_lt_of_le h.1 (Nat.pow_le_pow_right (by decide) hk),h.2.1,Nat.lt_of_lt_of_le h.2.2 (Nat.pow_le_pow_right (by decide) hk)⟩
theorem cL{a b k l:Nat}(h:a < 2 ^ k)(h':b < 2 ^ l):a * b < 2 ^ (k+l):=by
 rw [Nat.pow_add]
 exact Nat.mul_lt_mul'' h h'
theorem rE{p q:Fr}{k l:Nat}(hp:Sz k p)(hq:Sz l q):(p.1 * q.2+q.1 * p.2).natAbs < 2 ^ (k+l+1)∧(p.2 * q.2).natAbs < 2 ^ (k+l+1)∧0 < p.2 * q.2:=by
 have a:=cL hp.1 hq.2.2
 have b:=cL hq.1 hp.2.2
 have c:=cL hp.2.2 hq.2.2
 rw [Nat.add_comm l k] at b
 have e:(2:Nat) ^ (k+l+1)=2 ^ (k+l)+2 ^ (k+l):=by rw [Nat.pow_succ];omega
 have hn:=Int.natAbs_add_le (p.1 * q.2) (q.1 * p.2)
 rw [Int.natAbs_mul,Int.natAbs_mul] at hn
 refine ⟨by rw [e];omega, ?_,Int.mul_pos hp.2.1 hq.2.1⟩
 rw [Int.natAbs_mul,e];omega
theorem pM{p q:Fr}{k l:Nat}(hp:Sz k p)(hq:Sz l q):(p.1 * q.1).natAbs < 2 ^ (k+l)∧(p.2 * q.2).natAbs < 2 ^ (k+l)∧0 < p.2 * q.2:=by
 have a:=cL hp.1 hq.1
 have c:=cL hp.2.2 hq.2.2
 exact ⟨by rw [Int.natAbs_mul];exact a,by rw [Int.natAbs_mul];exact c,Int.mul_pos hp.2.1 hq.2.1⟩
theorem jL{p:Fr}{k:Nat}(h:Sz k p)(hk:k≤8000):Big p.1:=bg h.1 hk
theorem gb{p:Fr}{k:Nat}(h:Sz k p)(hk:k≤8000):Big p.2:=bg h.2.2 hk
theorem zv{p:Fr}(h:aS p=true)(h0:0 < p.2):Sz 101 p:=by
 unfold aS at h
 rw [Bool.and_eq_true,decide_eq_true_iff,decide_eq_true_iff] at h
 obtain ⟨h1,h2⟩:=h
 have e1:(10:Int) ^ 30 < 2 ^ 101:=by decide
 have n1:(p.1.natAbs:Int)≤10 ^ 30:=by
  split at h1 <;> omega
 refine ⟨?_,h0, ?_⟩
 ·have:(p.1.natAbs:Int) < ((2 ^ 101:Nat):Int):=Int.lt_of_le_of_lt n1 (by decide)
  exact Int.ofNat_lt.mp this
 ·have:(p.2.natAbs:Int) < ((2 ^ 101:Nat):Int):=Int.lt_of_le_of_lt (show (p.2.natAbs:Int)≤1000000 by omega) (by decide)
  exact Int.ofNat_lt.mp this
theorem uJ{p:Fr}(h:bf p=true):Sz 11 p:=by
 unfold bf at h
 rw [Bool.and_eq_true,Bool.and_eq_true,decide_eq_true_iff,decide_eq_true_iff,decide_eq_true_iff] at h
 obtain ⟨h1,h2,h3⟩:=h
 exact ⟨by omega,by omega,by omega⟩
end Pg
namespace Pg
open PySem L2 Fr0 Tx
section
variable{P:Program}{w:World}{K:PySem.W.Frag}{mg:Str→Option Value}{base:Heap}{Cn CN CF Ca Cj Ce Cf Ci Ck Cb Cd Cl:Addr}
def uk:DF:=fun as M q _=>∃p r k l,as=[frD p,frD r]∧Sz k p∧Sz l r∧k+l+1≤8000∧q (frD (ft p r)) M
theorem zx:au ["one","other"] ["one","other"] (ae pT):=⟨rfl,rfl,rfl,by decide+kernel,rfl,by decide+kernel,by decide+kernel⟩
theorem x6{f:Addr}{fd:FuncData}(F:Fun K "plus" "plus" pT f fd)(E:Ev K mg Cn CN CF Ca Cj Ce Cf Ci Ck Cb Cd Cl){fFraction:Addr}{dFraction:FuncData}(c_Fraction:aR P w K mg base 2 "fraction" ["top","bottom"] (qx CN) fFraction dFraction):bC P w K mg base (CX1 P w) 3 f fd ["one","other"] (spD K uk):=by
 refine F.okD zx (fun ds M q x h=> ?_) (fun cdv A outer s H E' hr=>⟨_,(ah (av (bR c_Fraction hr ak (aa (cU (eA (aY (jv 0) ay) (aY (jv 1) ay)) (eA (aY (jv 1) ay) (aY (jv 0) ay))) (aa (eA (aY (jv 0) ay) (aY (jv 1) ay)) af (hs:=bQ)) (hs:=bQ))))),fun ds M q x h=> ?_⟩)
 ·obtain ⟨p,r,k,l,rfl,_⟩:=h;rfl
 ·obtain ⟨p,r,k,l,rfl,hp,hr',hk,h⟩:=h
  obtain ⟨a,b,c⟩:=rE hp hr'
  refine ⟨⟨jL hp (by omega),gb hr' (by omega)⟩,⟨jL hr' (by omega),gb hp (by omega)⟩,⟨gb hp (by omega),gb hr' (by omega)⟩,bg b hk,fun z=>absurd z (by omega),fun _=>h⟩
def mB:DF:=fun as M q _=>∃p r k l,as=[frD p,frD r]∧Sz k p∧Sz l r∧k+l+1≤8000∧q (frD (bV p r)) M
theorem xy:au ["one","other"] ["one","other"] (ae jj):=⟨rfl,rfl,rfl,by decide+kernel,rfl,by decide+kernel,by decide+kernel⟩
theorem ve{f:Addr}{fd:FuncData}(F:Fun K "times" "times" jj f fd)(E:Ev K mg Cn CN CF Ca Cj Ce Cf Ci Ck Cb Cd Cl){fFraction:Addr}{dFraction:FuncData}(c_Fraction:aR P w K mg base 2 "fraction" ["top","bottom"] (qx CN) fFraction dFraction):bC P w K mg base (CX1 P w) 3 f fd ["one","other"] (spD K mB):=by
 refine F.okD xy (fun ds M q x h=> ?_) (fun cdv A outer s H E' hr=>⟨_,(ah (av (bR c_Fraction hr ak (aa (eA (aY (jv 0) ay) (aY (jv 1) ay)) (aa (eA (aY (jv 0) ay) (aY (jv 1) ay)) af (hs:=bQ)) (hs:=bQ))))),fun ds M q x h=> ?_⟩)
 ·obtain ⟨p,r,k,l,rfl,_⟩:=h;rfl
 ·obtain ⟨p,r,k,l,rfl,hp,hr',hk,h⟩:=h
  obtain ⟨a,b,c⟩:=pM hp hr'
  refine ⟨⟨jL hp (by omega),jL hr' (by omega)⟩,⟨gb hp (by omega),gb hr' (by omega)⟩,bg b (by omega),fun z=>absurd z (by omega),fun _=>h⟩
end
end Pg
namespace Pg
open PySem L2 Fr0 Tx
def Bw(B:Int)(c:Fr):Int:=c.1 * (B / c.2)
structure DP(cs:List Fr):Prop where
 pos:∀c∈cs,0 < Bw (gu cs) c
 sum:(cs.map (Bw (gu cs))).sum=gu cs
 b0:0 < gu cs
 b1:gu cs≤1000000
 ne:cs≠[]
 ok3:Ok3 cs
theorem Dz{cs:List Fr}(h:aA cs=true)(o:Ok3 cs)(n:cs≠[]):DP cs:=by
 unfold aA at h
 rw [Bool.and_eq_true,Bool.and_eq_true,decide_eq_true_iff,decide_eq_true_iff,Bool.not_eq_true'] at h
 obtain ⟨h1,h2,h3⟩:=h
 have B0:0 < gu cs:=dQ cs 1 (by decide) fun c hc=>(o.2 c hc).1
 obtain ⟨_,_,hB⟩:=g8 cs 1 0 (by decide) (Int.dvd_zero _) fun c hc=>⟨(o.2 c hc).1,Int.dvd_zero _⟩
 refine ⟨fun c hc=> ?_,h2,B0,h3,n,o⟩
 have c1:0 < c.1:=by
  have:=List.any_eq_false.mp h1 c hc
  simpa using this
 exact Int.mul_pos c1 (Int.ediv_pos_of_pos_of_dvd B0 (Int.le_of_lt (o.2 c hc).1) (hB c hc))
structure Red(p:Fr):Prop where
 pos:0 < p.2
 low:Int.gcd p.1 p.2=1
theorem oJ{t b:Int}(h:b≠0):Red (cx t b):=⟨cC h,vy h⟩
def kF(p:Fr)(E:Int):Prop:=∃N,p.1 * E=N * p.2
theorem lS{t b E N:Int}(h:b≠0)(e:t * E=N * b):kF (cx t b) E:=by
 have hx:=dE (t:=t) h
 generalize hf:cx t b=f at *
 obtain ⟨x,y⟩:=f
 refine ⟨N, ?_⟩
 show x * E=N * y
 have hx:t * y=b * x:=hx
 have:b * (x * E)=b * (N * y):=by grind
 exact Int.eq_of_mul_eq_mul_left h this
theorem vu{p:Fr}{E:Int}(k:Int)(h:kF p E):kF p (E * k):=by
 obtain ⟨N,e⟩:=h
 exact ⟨N * k,by grind⟩
theorem sR(p:Fr):kF p p.2:=⟨p.1,rfl⟩
theorem sS{p q:Fr}{E:Int}(hp:0 < p.2)(hq:0 < q.2)(h:kF p E)(h':kF q E):kF (ft p q) E:=by
 obtain ⟨N,e⟩:=h
 obtain ⟨N',e'⟩:=h'
 unfold ft
 exact lS (N:=N+N') (Int.ne_of_gt (Int.mul_pos hp hq)) (by grind)
theorem qk{p q:Fr}{E F:Int}(hp:0 < p.2)(hq:0 < q.2)(h:kF p E)(h':kF q F):kF (bV p q) (E * F):=by
 obtain ⟨N,e⟩:=h
 obtain ⟨N',e'⟩:=h'
 unfold bV
 exact lS (N:=N * N') (Int.ne_of_gt (Int.mul_pos hp hq)) (by grind)
theorem xE{p:Fr}{E:Int}(hp:Red p)(h:kF p E):p.2∣E:=by
 obtain ⟨N,e⟩:=h
 have d:p.2∣p.1 * E:=⟨N,by rw [e,Int.mul_comm]⟩
 have d2:p.2.natAbs∣p.1.natAbs * E.natAbs:=by
  rw [←Int.natAbs_mul];exact Int.natAbs_dvd_natAbs.mpr d
 have co:Nat.Coprime p.2.natAbs p.1.natAbs:=by
  have:=hp.low
  unfold Int.gcd at this
  rw [Nat.coprime_comm];exact this
 exact Int.natAbs_dvd_natAbs.mp (co.dvd_of_dvd_mul_left d2)
def gQ(p:Fr)(C:Int):Prop:=p.1≤p.2 * C∧ -(p.2 * C)≤p.1
theorem pF{t b C:Int}(h:0 < b)(h1:t≤b * C)(h2: -(b * C)≤t):gQ (cx t b) C:=by
 have hx:=dE (t:=t) (show b≠0 by omega)
 have hq:=cC (t:=t) (show b≠0 by omega)
 generalize hf:cx t b=f at *
 obtain ⟨x,y⟩:=f
 have hx:t * y=b * x:=hx
 have hq:0 < y:=hq
 constructor
 ·show x≤y * C
  have:=Int.mul_le_mul_of_nonneg_right h1 (Int.le_of_lt hq)
  rw [hx] at this
  have e:b * C * y=b * (y * C):=by grind
  rw [e] at this
  exact Int.le_of_mul_le_mul_left this h
 ·show -(y * C)≤x
  have:=Int.mul_le_mul_of_nonneg_right h2 (Int.le_of_lt hq)
  rw [hx] at this
  have e: -(b * C) * y=b * (-(y * C)):=by grind
  rw [e] at this
  exact Int.le_of_mul_le_mul_left this h
theorem fA{a b c:Int}(h:a≤b)(hc:0≤c):a * c≤b * c:=Int.mul_le_mul_of_nonneg_right h hc
theorem vX{p q:Fr}{C D:Int}(hp:0 < p.2)(hq:0 < q.2)(h:gQ p C)(h':gQ q D):gQ (ft p q) (C+D):=by
 unfold ft
 have a:=fA h.1 (Int.le_of_lt hq)
 have b:=fA h'.1 (Int.le_of_lt hp)
 have c:=fA h.2 (Int.le_of_lt hq)
 have d:=fA h'.2 (Int.le_of_lt hp)
 refine pF (Int.mul_pos hp hq) ?_ ?_
 ·have e:p.2 * q.2 * (C+D)=p.2 * C * q.2+q.2 * D * p.2:=by grind
  omega
 ·have e: -(p.2 * q.2 * (C+D))= -(p.2 * C) * q.2+ -(q.2 * D) * p.2:=by grind
  omega
def jE(c:Fr):Prop:=0≤c.1∧c.1≤c.2
theorem ui{c p:Fr}{C:Int}(hc:0 < c.2)(hp:0 < p.2)(u:jE c)(h:gQ p C)(hC:0≤C):gQ (bV c p) C:=by
 unfold bV
 have pc:0≤p.2 * C:=Int.mul_nonneg (Int.le_of_lt hp) hC
 have a:=fA h.1 u.1
 have b:=fA u.2 pc
 have c':=fA h.2 u.1
 refine pF (Int.mul_pos hc hp) ?_ ?_
 ·have e:c.2 * p.2 * C=c.2 * (p.2 * C):=by grind
  have e1:c.1 * p.1=p.1 * c.1:=Int.mul_comm ..
  have e2:p.2 * C * c.1=c.1 * (p.2 * C):=Int.mul_comm ..
  omega
 ·have e: -(c.2 * p.2 * C)= -(c.2 * (p.2 * C)):=by grind
  have e1:c.1 * p.1=p.1 * c.1:=Int.mul_comm ..
  have e2: -(p.2 * C) * c.1= -(c.1 * (p.2 * C)):=by grind
  omega
theorem B2{p:Fr}{E C:Int}{k m:Nat}(r:Red p)(h:kF p E)(e0:0 < E)(e1:E < 2 ^ k)(a:gQ p C)(c0:0≤C)(c1:C < 2 ^ m):Sz (k+m) p:=by
 have d:=Int.le_of_dvd e0 (xE r h)
 have rp:=r.pos
 have b1:p.2.natAbs < 2 ^ k:=by
  have:(p.2.natAbs:Int) < ((2 ^ k:Nat):Int):=by
   rw [Int.natAbs_of_nonneg (Int.le_of_lt rp)]
   exact Int.lt_of_le_of_lt d (by exact_mod_cast e1)
  exact Int.ofNat_lt.mp this
 have b2:C.natAbs < 2 ^ m:=by
  have:(C.natAbs:Int) < ((2 ^ m:Nat):Int):=by
   rw [Int.natAbs_of_nonneg c0]
   exact_mod_cast c1
  exact Int.ofNat_lt.mp this
 have b3:=cL b1 b2
 refine ⟨?_,rp,Nat.lt_of_lt_of_le b1 (Nat.pow_le_pow_right (by decide) (Nat.le_add_right _ _))⟩
 refine Nat.lt_of_le_of_lt ?_ b3
 rw [←Int.natAbs_mul]
 have q0:0≤p.2 * C:=Int.mul_nonneg (Int.le_of_lt rp) c0
 have:=a.1
 have:=a.2
 omega
end Pg
namespace Pg
open PySem L2 Fr0 Tx
theorem A5{cs:List Fr}{j:Nat}(h:j < cs.length):atI (cs.map frD) (j:Int)=some (frD cs[j]):=aG (by rw [List.getElem?_map,List.getElem?_eq_getElem h];rfl)
theorem Dq{ds:List DrG}{j:Nat}(h:j < ds.length):atI (ds.map drG) (j:Int)=some (drG ds[j]):=aG (by rw [List.getElem?_map,List.getElem?_eq_getElem h];rfl)
structure Bt(share:Fr)(rows:List Rw):Prop where
 sh:bf share=true
 len:rows.length≤12
 row:∀r∈rows,fh r∧dX r rows.length=true
structure DO(rows:List Rw)(k:Str)(ds:List DrG):Prop where
 ro:fh (.doors k ds)
 l1:1≤ds.length
 l6:ds.length≤6
 kd:az k=true∨(az k=false∧k="chance"∧DP (ds.map aw))
 to:∀d∈ds,0≤d.1∧d.1 < rows.length
 py:∀d∈ds,aS d.2.1=true∧0 < d.2.1.2
theorem aU{share:Fr}{rows:List Rw}{k:Str}{ds:List DrG}(f:Bt share rows)(h:Rw.doors k ds∈rows):DO rows k ds:=by
 obtain ⟨ro,h2⟩:=f.row _ h
 have h2:(if az k then aF ds rows.length else if k="chance" then aF ds rows.length&&aA (ds.map aw) else false)=true:=h2
 have key:aF ds rows.length=true∧(az k=true∨(az k=false∧k="chance"∧aA (ds.map aw)=true)):=by
  by_cases hk:az k=true
  ·rw [if_pos hk] at h2;exact ⟨h2, .inl hk⟩
  ·rw [if_neg hk] at h2
   by_cases hc:k="chance"
   ·rw [if_pos hc,Bool.and_eq_true] at h2;exact ⟨h2.1, .inr ⟨by simpa using hk,hc,h2.2⟩⟩
   ·rw [if_neg hc] at h2;cases h2
 obtain ⟨fd,hk⟩:=key
 unfold aF at fd
 rw [Bool.and_eq_true,Bool.and_eq_true,decide_eq_true_iff,decide_eq_true_iff] at fd
 obtain ⟨⟨d1,d6⟩,fa⟩:=fd
 have each:∀d∈ds,0≤d.1∧d.1 < rows.length∧aS d.2.1=true:=fun d hd=>by
  have h3:=List.all_eq_true.mp fa d hd
  unfold aI at h3
  rw [Bool.and_eq_true,Bool.and_eq_true,decide_eq_true_iff,decide_eq_true_iff] at h3
  exact ⟨h3.1,h3.2.1,h3.2.2⟩
 refine ⟨ro,d1,d6, ?_,fun d hd=>⟨(each d hd).1,(each d hd).2.1⟩,fun d hd=>⟨(each d hd).2.2,(ro.2.2.2 d hd).2⟩⟩
 rcases hk with hk | ⟨hk,hc,hf⟩
 ·exact .inl hk
 ·refine .inr ⟨hk,hc,Dz hf (ro.2.2.1 hc).2 fun z=> ?_⟩
  have:=congrArg List.length z
  rw [List.length_map] at this
  have:ds.length=0:=this
  omega
theorem qW{α:Type}(xs:List α)(a:α)(f:α→Dt):(gk 0 xs.length).map (fun x=>match x with | .int j=>f (xs.getD j.toNat a) | _=> .non)=xs.map f:=by
 unfold gk
 rw [List.map_map]
 apply List.ext_getElem
 ·simp
 ·intro i h1 h2
  simp only [List.getElem_map,List.getElem_range,Function.comp]
  rw [show (0+(i:Int)).toNat=i by omega]
  have hi:i < xs.length:=by simpa using h2
  rw [List.getD_eq_getElem?_getD,List.getElem?_eq_getElem hi];rfl
abbrev d0:DrG:=(0,(0,1),[])
def kJ(tb:List Fr)(t:Int):Fr:=tb.getD t.toNat (0,1)
def cf(share:Fr)(tb:List Fr)(d:DrG):Fr:=ft d.2.1 (bV share (kJ tb d.1))
def qE(ps:List (Fr×Fr)):Fr:=ps.foldl (fun w p=>ft w (bV p.1 p.2)) (0,1)
def qe(share:Fr)(tb:List Fr):Rw→Fr
 | .fin p=>p
 | .doors _ ds=>qE ((ds.map aw).zip (ds.map (cf share tb)))
structure Nb(E C:Int)(p:Fr):Prop where
 pos:0 < p.2
 he:kF p E
 ab:gQ p C
 sz:Sz 2600 p
structure Bd(E C:Int):Prop where
 e0:0 < E
 e1:E < 2 ^ 2200
 c0:0≤C
 c1:C < 2 ^ 400
theorem Am{E C:Int}{p:Fr}(r:Red p)(h:kF p E)(a:gQ p C)(b:Bd E C):Nb E C p:=⟨r.pos,h,a,B2 (k:=2200) (m:=400) r h b.e0 b.e1 a b.c0 b.c1⟩
theorem nE{E C D:Int}{p q:Fr}(h:Nb E C p)(h':Nb E D q)(b:Bd E (C+D)):Nb E (C+D) (ft p q):=Am (oJ (Int.ne_of_gt (Int.mul_pos h.pos h'.pos))) (sS h.pos h'.pos h.he h'.he) (vX h.pos h'.pos h.ab h'.ab) b
theorem gZ{E F C:Int}{c p:Fr}(c0:0 < c.2)(hc:kF c F)(u:jE c)(h:Nb E C p)(b:Bd (F * E) C):Nb (F * E) C (bV c p):=Am (oJ (Int.ne_of_gt (Int.mul_pos c0 h.pos))) (qk c0 h.pos hc h.he) (ui c0 h.pos u h.ab b.c0) b
theorem lF{E C:Int}{p:Fr}(k:Int)(h:Nb E C p):Nb (E * k) C p:=⟨h.pos,vu k h.he,h.ab,h.sz⟩
theorem Bq{p:Fr}{C D:Int}(h0:0 < p.2)(h:gQ p C)(hd:C≤D):gQ p D:=by
 have:=Int.mul_le_mul_of_nonneg_left hd (Int.le_of_lt h0)
 obtain ⟨a,b⟩:=h
 exact ⟨by omega,by omega⟩
theorem j6{E C D:Int}{p:Fr}(h:Nb E C p)(hd:C≤D):Nb E D p:=⟨h.pos,h.he,Bq h.pos h.ab hd,h.sz⟩
theorem An{E:Int}:Nb E 0 (0,1):=⟨by decide,⟨0,by simp⟩,⟨by decide,by decide⟩,hW (k:=1) ⟨by decide,by decide,by decide⟩ (by decide)⟩
structure Fl(share:Fr)(rows:List Rw)(E B:Int):Prop where
 pl:Bt share rows
 e0:0 < E
 e1:E < 2 ^ 1000
 b0:0 < B
 b1:B < 2 ^ 250
 pay:∀k ds,Rw.doors k ds∈rows→∀d∈ds,Nb E (10 ^ 30) d.2.1
 fin:∀p,Rw.fin p∈rows→Nb E (10 ^ 30) p
 hnd:∀k ds,Rw.doors k ds∈rows→az k=true→∀d∈ds,d.2.2=[]
 ch:∀ds,Rw.doors "chance" ds∈rows→∀d∈ds,0 < (aw d).2∧kF (aw d) B∧jE (aw d)∧Sz 300 (aw d)
structure Tb(rows:List Rw)(E C:Int)(tb:List Fr):Prop where
 len:tb.length=rows.length
 nb:∀t∈tb,Nb E C t
theorem gT{p:Fr}(h:bf p=true):0 < p.2∧p.2≤1000∧jE p:=by
 unfold bf at h
 rw [Bool.and_eq_true,Bool.and_eq_true,decide_eq_true_iff,decide_eq_true_iff,decide_eq_true_iff] at h
 obtain ⟨h1,h2,h3⟩:=h
 exact ⟨by omega,h3,h1,by omega⟩
theorem wj{rows:List Rw}{E C:Int}{tb:List Fr}{t:Int}(f:Tb rows E C tb)(h0:0≤t)(h1:t < rows.length):atI (tb.map frD) t=some (frD (kJ tb t))∧Nb E C (kJ tb t):=by
 have hl:t.toNat < tb.length:=by rw [f.len];omega
 have e:kJ tb t=tb[t.toNat]:=by unfold kJ;rw [List.getD_eq_getElem?_getD,List.getElem?_eq_getElem hl];rfl
 refine ⟨?_,by rw [e];exact f.nb _ (List.getElem_mem hl)⟩
 have e2:(tb.map frD)[t.toNat]? =some (frD (kJ tb t)):=by rw [List.getElem?_map,List.getElem?_eq_getElem hl,e];rfl
 have:=aG e2
 rwa [show ((t.toNat:Nat):Int)=t by omega] at this
theorem aX{a b:Int}{m n:Nat}(h0:0 < a)(h1:a < 2 ^ m)(h2:0 < b)(h3:b < 2 ^ n):0 < a * b∧a * b < 2 ^ (m+n):=by
 refine ⟨Int.mul_pos h0 h2, ?_⟩
 rw [Int.pow_add]
 exact Int.lt_of_le_of_lt (Int.mul_le_mul_of_nonneg_right (Int.le_of_lt h1) (Int.le_of_lt h2)) (Int.mul_lt_mul_of_pos_left h3 (Int.pow_pos (by decide)))
section
variable{share:Fr}{rows:List Rw}{E B F C:Int}{tb:List Fr}{k:Str}{ds:List DrG}{d:DrG}
structure Gr(F C:Int):Prop where
 f0:0 < F
 f1:F < 2 ^ 900
 c0:0≤C
 c1:C < 2 ^ 200
theorem oB(fl:Fl share rows E B)(g:Gr F C)(tb':Tb rows (E * F) C tb){t:Int}(h0:0≤t)(h1:t < rows.length):Nb (E * F * share.2) C (bV share (kJ tb t)):=by
 obtain ⟨s0,s1,su⟩:=gT fl.pl.sh
 obtain ⟨a,b⟩:=aX fl.e0 fl.e1 g.f0 g.f1
 obtain ⟨a2,b2⟩:=aX a b s0 (show share.2 < 2 ^ 10 by omega)
 have:=gZ s0 (sR share) su (wj tb' h0 h1).2 (by rw [Int.mul_comm];exact ⟨a2,Int.lt_of_lt_of_le b2 (by decide),g.c0,Int.lt_trans g.c1 (by decide)⟩)
 rwa [Int.mul_comm] at this
theorem jN(fl:Fl share rows E B)(g:Gr F C)(tb':Tb rows (E * F) C tb)(hm:Rw.doors k ds∈rows)(hd:d∈ds):Nb (E * F * share.2) (10 ^ 30+C) (cf share tb d):=by
 obtain ⟨s0,s1,su⟩:=gT fl.pl.sh
 obtain ⟨a,b⟩:=aX fl.e0 fl.e1 g.f0 g.f1
 obtain ⟨a2,b2⟩:=aX a b s0 (show share.2 < 2 ^ 10 by omega)
 obtain ⟨t0,t1⟩:=(aU fl.pl hm).to d hd
 have hp:Nb (E * F * share.2) (10 ^ 30) d.2.1:=lF _ (lF _ (fl.pay k ds hm d hd))
 have c0:=g.c0
 have c1:=g.c1
 exact nE hp (oB fl g tb' t0 t1) ⟨a2,Int.lt_of_lt_of_le b2 (by decide),by omega,by omega⟩
end
section
variable{P:Program}{w:World}{K:PySem.W.Frag}{mg:Str→Option Value}{base:Heap}{Cn CN CF Ca Cj Ce Cf Ci Ck Cb Cd Cl:Addr}
def pG(A:Addr):DF:=fun as M q _=>∃share rows tb i j k ds d E B F C,as=[aP A share rows, .int (i:Nat), .int (j:Nat), .lst (tb.map frD)]∧rows[i]? =some (.doors k ds)∧ds[j]? =some d∧Fl share rows E B∧Gr F C∧Tb rows (E * F) C tb∧q (frD (cf share tb d)) M
theorem gF:au ["self","place","door","table","taken"] ["self","place","door","table"] (ae cm):=⟨rfl,rfl,rfl,by decide+kernel,rfl,by decide+kernel,by decide+kernel⟩
theorem jY{f:Addr}{fd:FuncData}(F:Fun K "shown" "Floor.shown" cm f fd)(E:Ev K mg Cn CN CF Ca Cj Ce Cf Ci Ck Cb Cd Cl){fPlus:Addr}{dPlus:FuncData}(c_Plus:aR P w K mg base 3 "plus" ["one","other"] uk fPlus dPlus){fTimes:Addr}{dTimes:FuncData}(c_Times:aR P w K mg base 3 "times" ["one","other"] mB fTimes dTimes):bC P w K mg base (CX1 P w) 4 f fd ["self","place","door","table"] (spD K (pG Cn)):=by
 refine F.okD gF (fun ds M q x h=> ?_) (fun cdv A outer s H E' hr=>⟨_,(ag (ax (i:=4) gF.nd rfl (Or.inl rfl) (aY (aY (aY (qi E.clsFloor E.na_kept_rows (jv 0)) (jv 1)) ay) (jv 2)))
   (ah (av (bR c_Plus hr ak (aa (aY (jv 4) ay) (aa (bR c_Times hr ak (aa (qi E.clsFloor E.na_kept_share (jv 0)) (aa (aY (jv 3) (aY (jv 4) ay)) af (hs:=cg)))) af (hs:=bI)) (hs:=cg)))))),fun ds M q x h=> ?_⟩)
 ·obtain ⟨share,rows,tb,i,j,k,ds,d,E,B,F,C,rfl,_⟩:=h;rfl
 ·obtain ⟨share,rows,tb,i,j,k,ds,d,Ep,B,Ft,C,rfl,hi,hj,fl,g,ht,h⟩:=h
  have hm:Rw.doors k ds∈rows:=List.mem_of_getElem? hi
  have hd:d∈ds:=List.mem_of_getElem? hj
  obtain ⟨a,b⟩:=(aU fl.pl hm).to d hd
  obtain ⟨t1,t2⟩:=wj ht a b
  have hdj:(ds.map drG)[j]? =some (drG d):=by rw [List.getElem?_map,hj];rfl
  refine ⟨_,_,_, .inl rfl,rfl, ?_⟩
  walk_at "vc"
  refine aD (xs:=rows.map cz) rfl (aG (ie hi)) (xB (aD (d:= .lst (ds.map drG)) rfl (aG hdj) ?_))
  exact Dr ⟨_,_,_, .inl rfl,rfl,yG (aD (d:= .lst (tb.map frD)) rfl t1 ⟨share,kJ tb d.1,11,2600,rfl,uJ fl.pl.sh,t2.sz,by decide,d.2.1,_,2600,2600,rfl,(fl.pay k ds hm d hd).sz,(oB fl g ht a b).sz,by decide,h⟩)⟩
def iS(A:Addr):DF:=fun as M q _=>∃share rows tb i k ds E B F C,as=[aP A share rows, .int (i:Nat), .lst (tb.map frD)]∧rows[i]? =some (.doors k ds)∧Fl share rows E B∧Gr F C∧Tb rows (E * F) C tb∧q (.lst (ds.map fun d=>frD (cf share tb d))) M
theorem ic:au ["self","place","table"] ["self","place","table"] (ae aM):=⟨rfl,rfl,rfl,by decide+kernel,rfl,by decide+kernel,by decide+kernel⟩
theorem gK{f:Addr}{fd:FuncData}(F:Fun K "all_shown" "Floor.all_shown" aM f fd)(E:Ev K mg Cn CN CF Ca Cj Ce Cf Ci Ck Cb Cd Cl){fFloorDoors:Addr}{dFloorDoors:FuncData}(c_FloorDoors:fM P w K mg base 2 Cn "doors" ["self","place"] (jF Cn) fFloorDoors dFloorDoors){fFloorShown:Addr}{dFloorShown:FuncData}(c_FloorShown:fM P w K mg base 4 Cn "shown" ["self","place","door","table"] (pG Cn) fFloorShown dFloorShown):bC P w K mg base (CX1 P w) 5 f fd ["self","place","table"] (spD K (iS Cn)):=by
 refine F.okD ic (fun ds M q x h=> ?_) (fun cdv A outer s H E' hr=>⟨_,(ah (av (wR (ys:=["place","table","self"]) (caps:=[1,2,0]) ⟨rfl,by decide+kernel,by decide+kernel,rfl,(by show∀p:Str×NameKind,p∈_→p.2=NameKind.free→List.lookup p.1 (ae aM).names=some .cell;decide+kernel),by decide+kernel,(by show∀q:Str×Nat,q∈_→(["self","place","table"]:List Str)[q.2]? =some q.1∧List.lookup q.1 (ae aM).names=some .cell∧_;decide+kernel),rfl⟩ (bG E.n_range (aa (eJ E.n_len (aa (gM (bY c_FloorDoors hr ak (jv 0) (aa (jv 1) af (hs:=aj)))) af (hs:=bI))) af (hs:=bI))) (fun C s H fp=>(bY c_FloorShown hr (fw (P:=P) (w:=w)) (jv 3) (aa (jv 1) (aa (jv 0) (aa (jv 2) af (hs:=aj)) (hs:=aj)) (hs:=aj))))))),fun ds M q x h=> ?_⟩)
 ·obtain ⟨share,rows,tb,i,k,ds,E,B,F,C,rfl,_⟩:=h;rfl
 ·obtain ⟨share,rows,tb,i,k,ds,Ep,B,Ft,C,rfl,hi,fl,g,ht,h⟩:=h
  have hm:Rw.doors k ds∈rows:=List.mem_of_getElem? hi
  have dr:=aU fl.pl hm
  have l6:=dr.l6
  refine ⟨⟨_,_, .inl rfl,rfl⟩,share,rows,i, .doors k ds,rfl,hi,dr.ro,fS (ds:=ds.map drG) (dY ds) ?_⟩
  walk_at "vc"
  refine aQ (d:= .lst (ds.map drG)) (xs:=ds.map drG) rfl ?_
  rw [List.length_map]
  refine ⟨⟨by omega,by omega⟩,by rw [cB];exact Nat.le_trans (show _≤6 by omega) (by decide), ?_⟩
  refine fU (f:=fun x=>match x with | .int j=>frD (cf share tb (ds.getD j.toNat d0)) | _=> .non) _ _ (fun x hxm q' hq=> ?_) ?_
  ·obtain ⟨j,hj,rfl⟩:=fP hxm
   have hj:j < ds.length:=by omega
   have e:ds.getD (0+(j:Int)).toNat d0=ds[j]:=by
    rw [show (0+(j:Int)).toNat=j by omega,List.getD_eq_getElem?_getD,List.getElem?_eq_getElem hj];rfl
   have hq:q' (frD (cf share tb (ds.getD (0+(j:Int)).toNat d0))) M:=hq
   rw [e] at hq
   refine ⟨⟨_,_, .inl rfl,rfl⟩,share,rows,tb,i,j,k,ds,ds[j],Ep,B,Ft,C,by rw [Int.zero_add],hi,List.getElem?_eq_getElem hj,fl,g,ht,hq⟩
  ·rw [List.nil_append,show ((ds.length:Int)).toNat=ds.length by omega,qW ds d0 (fun d=>frD (cf share tb d))]
   exact h
end
end Pg
set_option maxRecDepth 100000
set_option maxHeartbeats 4000000
namespace Pg
open PySem L2 Fr0 Tx
theorem uB(cs ns:List Fr):we (cs.map frD) (ns.map frD)=(cs.zip ns).map fun p=> .tup [frD p.1,frD p.2]:=by
 unfold we
 rw [List.zip_map,List.map_map];rfl
structure Ch(B:Int)(c:Fr):Prop where
 pos:0 < c.2
 he:kF c B
 u:jE c
 sz:Sz 300 c
theorem jI{E B C:Int}(b0:0 < B)(e0:0 < E)(be:B * E < 2 ^ 2200)(c0:0≤C)(c1:C < 2 ^ 300):∀(ps:List (Fr×Fr)) (w:Fr) (j:Nat),j+ps.length≤6→Nb (B * E) (j * C) w→(∀p∈ps,Ch B p.1∧Nb E C p.2)→Nb (B * E) ((j+ps.length:Nat) * C) (ps.foldl (fun w p=>ft w (bV p.1 p.2)) w)
 | [],w,j,_,hw,_=>hw
 | p::ps,w,j,hj,hw,h=>by
  rw [List.length_cons] at hj
  obtain ⟨h1,h2⟩:=h p List.mem_cons_self
  have jc:((j:Int)+1) * C=j * C+C:=by rw [Int.add_mul,Int.one_mul]
  have jm:((j:Int)+1) * C≤6 * C:=Int.mul_le_mul_of_nonneg_right (by omega) c0
  have j0:0≤(j:Int) * C:=Int.mul_nonneg (by omega) c0
  have ht:=gZ h1.pos h1.he h1.u h2 ⟨Int.mul_pos b0 e0,be,c0,Int.lt_trans c1 (by decide)⟩
  have hp:=nE hw ht ⟨Int.mul_pos b0 e0,be,by omega,by omega⟩
  rw [←jc] at hp
  have:=jI b0 e0 be c0 c1 ps _ (j+1) (by omega) (by exact_mod_cast hp) (fun q hq=>h q (List.mem_cons_of_mem _ hq))
  rw [List.foldl_cons,List.length_cons,show j+(ps.length+1)=j+1+ps.length by omega]
  exact this
section
variable{P:Program}{w:World}{K:PySem.W.Frag}{mg:Str→Option Value}{base:Heap}{Cn CN CF Ca Cj Ce Cf Ci Ck Cb Cd Cl:Addr}
def ku:DF:=fun as M q _=>∃(cs ns:List Fr) (E B C:Int),as=[.lst (cs.map frD), .lst (ns.map frD)]∧cs.length≤6∧0 < B∧0 < E∧B * E < 2 ^ 2200∧0≤C∧C < 2 ^ 300∧(∀c∈cs,Ch B c)∧(∀n∈ns,Nb E C n)∧q (frD (qE (cs.zip ns))) M
theorem eB:au ["chances","numbers","whole","chance","number"] ["chances","numbers"] (ae eW):=⟨rfl,rfl,rfl,by decide+kernel,rfl,by decide+kernel,by decide+kernel⟩
theorem pV{f:Addr}{fd:FuncData}(F:Fun K "weighed" "weighed" eW f fd)(E:Ev K mg Cn CN CF Ca Cj Ce Cf Ci Ck Cb Cd Cl){fPlus:Addr}{dPlus:FuncData}(c_Plus:aR P w K mg base 3 "plus" ["one","other"] uk fPlus dPlus){fTimes:Addr}{dTimes:FuncData}(c_Times:aR P w K mg base 3 "times" ["one","other"] mB fTimes dTimes):bC P w K mg base (CX1 P w) 4 f fd ["chances","numbers"] (spD K ku):=by
 refine F.okD eB (fun ds M q x h=> ?_) (fun cdv A outer s H E' hr=>⟨_,(ag (ax (i:=2) eB.nd rfl (Or.inl rfl) (ff (aa ay (aa ay af (hs:=cy)) (hs:=cy))))
   (ag (eI (AJ E.n_zip (aa (jv 0) (aa (jv 1) af (hs:=aj)) (hs:=aj))) (kY rfl (cv (aK (i:=3) eB.nd rfl (Or.inl rfl)) (cv (aK (i:=4) eB.nd rfl (Or.inl rfl)) ij))) sX (ah (ax (i:=2) eB.nd rfl (Or.inl rfl) (bR c_Plus hr ak (aa (jv 2) (aa (bR c_Times hr ak (aa (jv 3) (aa (jv 4) af (hs:=aj)) (hs:=aj))) af (hs:=bI)) (hs:=aj))))))
   (ah (av (jv 2))))),fun ds M q x h=> ?_⟩)
 ·obtain ⟨cs,ns,E,B,C,rfl,_⟩:=h;rfl
 ·obtain ⟨cs,ns,Ep,B,C,rfl,hz,b0,e0,be,c0,c1,hc,hn,h⟩:=h
  refine ⟨by show 2≤sizeLine;decide, ?_⟩
  refine ⟨.lst (cs.map frD), .lst (ns.map frD),cs.map frD,ns.map frD,fun _=>True,fun _=>True,rfl,rfl,rfl, ?_⟩
  rw [uB]
  refine dW (fun xs ρ M'=>M'=M∧∃(rest:List (Fr×Fr)) (w:Fr) (a b:Option Dt) (j:Nat),xs=rest.map (fun p=> .tup [frD p.1,frD p.2])∧(∀p∈rest,Ch B p.1∧Nb Ep C p.2)∧Nb (B * Ep) (j * C) w∧j+rest.length≤6∧rest.foldl (fun w p=>ft w (bV p.1 p.2)) w=qE (cs.zip ns)∧ρ=[some (.lst (cs.map frD)),some (.lst (ns.map frD)),some (frD w),a,b]) (fun xs ρ M' hj=>⟨trivial,trivial⟩) (fun x xs ρ M' hj nxt=> ?_) (fun ρ M' hj=> ?_) _ _ _ ⟨rfl,cs.zip ns,(0,1),none,none,0,rfl,fun p hp=>⟨hc _ (List.of_mem_zip hp).1,hn _ (List.of_mem_zip hp).2⟩,by rw [Int.natCast_zero,Int.zero_mul];exact An, ?_,rfl,rfl⟩
  ·obtain ⟨rfl,rest,w,a,b,j,ex,hr2,hw,hj,hf,rfl⟩:=hj
   cases rest with
   | nil=>cases ex
   | cons p rest=>
    cases ex
    obtain ⟨h1,h2⟩:=hr2 p List.mem_cons_self
    rw [List.length_cons] at hj
    have ht:=gZ h1.pos h1.he h1.u h2 ⟨Int.mul_pos b0 e0,be,c0,Int.lt_trans c1 (by decide)⟩
    refine ⟨p.1,p.2,300,2600,rfl,h1.sz,h2.sz,by decide,w,bV p.1 p.2,2600,2600,rfl,hw.sz,ht.sz,by decide, ?_⟩
    refine nxt _ _ ⟨rfl,rest,_,_,_,j+1,rfl,fun p hp=>hr2 p (List.mem_cons_of_mem _ hp), ?_,by omega,hf,rfl⟩
    exact jI b0 e0 be c0 c1 [p] w j (by simp;omega) hw (fun q hq=>by rw [List.mem_singleton.mp hq];exact ⟨h1,h2⟩)
  ·obtain ⟨rfl,rest,w,a,b,j,ex,hr2,hw,hj,hf,rfl⟩:=hj
   cases rest with
   | nil=>rw [←hf] at h;exact h
   | cons p rest=>cases ex
  ·rw [List.length_zip];omega
def uy:DF:=fun _ _ _ _=>False
theorem xx:au ["one","other"] ["one","other"] (ae ji):=⟨rfl,rfl,rfl,by decide+kernel,rfl,by decide+kernel,by decide+kernel⟩
theorem vd{f:Addr}{fd:FuncData}(F:Fun K "under" "under" ji f fd)(E:Ev K mg Cn CN CF Ca Cj Ce Cf Ci Ck Cb Cd Cl):bC P w K mg base (CX1 P w) 1 f fd ["one","other"] (spD K uy):=by
 exact F.okD xx (fun ds M q x h=>h.elim) (fun cdv A outer s H E' hr=>⟨_,(ah (av (y9 (eA (aY (jv 0) ay) (aY (jv 1) ay)) (eA (aY (jv 1) ay) (aY (jv 0) ay))))),fun ds M q x h=>h.elim⟩)
theorem eV:au ["numbers","found","number"] ["numbers"] (ae dh):=⟨rfl,rfl,rfl,by decide+kernel,rfl,by decide+kernel,by decide+kernel⟩
theorem nA{f:Addr}{fd:FuncData}(F:Fun K "greatest" "greatest" dh f fd)(E:Ev K mg Cn CN CF Ca Cj Ce Cf Ci Ck Cb Cd Cl){fUnder:Addr}{dUnder:FuncData}(c_Under:aR P w K mg base 1 "under" ["one","other"] uy fUnder dUnder):bC P w K mg base (CX1 P w) 2 f fd ["numbers"] (spD K uy):=by
 exact F.okD eV (fun ds M q x h=>h.elim) (fun cdv A outer s H E' hr=>⟨_,(ag (ax (i:=1) eV.nd rfl (Or.inl rfl) (aY (jv 0) ay))
   (ag (eI (ef (jv 0)) (aK (i:=2) eV.nd rfl (Or.inl rfl)) cp (ah (bc (bE (bR c_Under hr ak (aa (jv 1) (aa (jv 2) af (hs:=aj)) (hs:=aj)))) (ah (ax (i:=1) eV.nd rfl (Or.inl rfl) (jv 2))) aB)))
   (ah (av (jv 1))))),fun ds M q x h=>h.elim⟩)
theorem jP:au ["numbers","found","number"] ["numbers"] (ae jk):=⟨rfl,rfl,rfl,by decide+kernel,rfl,by decide+kernel,by decide+kernel⟩
theorem vf{f:Addr}{fd:FuncData}(F:Fun K "least" "least" jk f fd)(E:Ev K mg Cn CN CF Ca Cj Ce Cf Ci Ck Cb Cd Cl){fUnder:Addr}{dUnder:FuncData}(c_Under:aR P w K mg base 1 "under" ["one","other"] uy fUnder dUnder):bC P w K mg base (CX1 P w) 2 f fd ["numbers"] (spD K uy):=by
 exact F.okD jP (fun ds M q x h=>h.elim) (fun cdv A outer s H E' hr=>⟨_,(ag (ax (i:=1) jP.nd rfl (Or.inl rfl) (aY (jv 0) ay))
   (ag (eI (ef (jv 0)) (aK (i:=2) jP.nd rfl (Or.inl rfl)) cp (ah (bc (bE (bR c_Under hr ak (aa (jv 2) (aa (jv 1) af (hs:=aj)) (hs:=aj)))) (ah (ax (i:=1) jP.nd rfl (Or.inl rfl) (jv 2))) aB)))
   (ah (av (jv 1))))),fun ds M q x h=>h.elim⟩)
end
section
variable{share:Fr}{rows:List Rw}{E B F C:Int}{tb:List Fr}{ds:List DrG}
theorem Fl.chs(fl:Fl share rows E B)(h:Rw.doors "chance" ds∈rows):∀c∈ds.map aw,Ch B c:=fun c hc=>by
 obtain ⟨d,hd,rfl⟩:=List.mem_map.mp hc
 obtain ⟨a,b,c,e⟩:=fl.ch ds h d hd
 exact ⟨a,b,c,e⟩
theorem sf(fl:Fl share rows E B)(g:Gr F C):0 < E * F * share.2∧B * (E * F * share.2) < 2 ^ 2200:=by
 obtain ⟨s0,s1,su⟩:=gT fl.pl.sh
 obtain ⟨a,b⟩:=aX fl.e0 fl.e1 g.f0 g.f1
 obtain ⟨a2,b2⟩:=aX a b s0 (show share.2 < 2 ^ 10 by omega)
 obtain ⟨a3,b3⟩:=aX fl.b0 fl.b1 a2 b2
 exact ⟨a2,Int.lt_of_lt_of_le b3 (by decide)⟩
theorem yg(fl:Fl share rows E B)(g:Gr F C)(tb':Tb rows (E * F) C tb){r:Rw}(hm:r∈rows)(hk:kindOf r="chance"∨kindOf r="end"):Nb (E * (F * (share.2 * B))) (6 * (10 ^ 30+C)) (qe share tb r):=by
 have c0:=g.c0
 have c1:=g.c1
 cases r with
 | fin p=>exact j6 (lF _ (fl.fin p hm)) (by omega)
 | doors k ds=>
  have hk:k="chance":=by
   rcases hk with z | z
   ·exact z
   ·exact absurd z ((fl.pl.row _ hm).1).1
  subst hk
  have l6:=(aU fl.pl hm).l6
  obtain ⟨z1,z2⟩:=sf fl g
  have:=jI fl.b0 z1 z2 (show 0≤10 ^ 30+C by omega) (by omega) ((ds.map aw).zip (ds.map (cf share tb))) (0,1) 0 (by rw [List.length_zip,List.length_map,List.length_map];omega) (by rw [Int.natCast_zero,Int.zero_mul];exact An) (fun p hp=>⟨fl.chs hm _ (List.of_mem_zip hp).1,by
   obtain ⟨d,hd,e⟩:=List.mem_map.mp (List.of_mem_zip hp).2
   rw [←e];exact jN fl g tb' hm hd⟩)
  have e:B * (E * F * share.2)=E * (F * (share.2 * B)):=by grind
  rw [e] at this
  refine j6 this ?_
  refine Int.mul_le_mul_of_nonneg_right ?_ (by omega)
  rw [List.length_zip,List.length_map,List.length_map]
  omega
end
section
variable{P:Program}{w:World}{K:PySem.W.Frag}{mg:Str→Option Value}{base:Heap}{Cn CN CF Ca Cj Ce Cf Ci Ck Cb Cd Cl:Addr}
def yX(A:Addr):DF:=fun as M q _=>∃share rows tb i r E B F C,as=[aP A share rows, .int (i:Nat), .lst (tb.map frD)]∧rows[i]? =some r∧(kindOf r="chance"∨kindOf r="end")∧Fl share rows E B∧Gr F C∧Tb rows (E * F) C tb∧q (frD (qe share tb r)) M
theorem ia:au ["self","place","table","kind"] ["self","place","table"] (ae bL):=⟨rfl,rfl,rfl,by decide+kernel,rfl,by decide+kernel,by decide+kernel⟩
theorem ly{f:Addr}{fd:FuncData}(F:Fun K "look" "Floor.look" bL f fd)(E:Ev K mg Cn CN CF Ca Cj Ce Cf Ci Ck Cb Cd Cl){fFloorKind:Addr}{dFloorKind:FuncData}(c_FloorKind:fM P w K mg base 1 Cn "kind" ["self","place"] (mC Cn) fFloorKind dFloorKind){fFloorPay:Addr}{dFloorPay:FuncData}(c_FloorPay:fM P w K mg base 2 Cn "pay" ["self","place"] (BH Cn) fFloorPay dFloorPay){fWeighed:Addr}{dWeighed:FuncData}(c_Weighed:aR P w K mg base 4 "weighed" ["chances","numbers"] ku fWeighed dWeighed){fFloorAllShown:Addr}{dFloorAllShown:FuncData}(c_FloorAllShown:fM P w K mg base 5 Cn "all_shown" ["self","place","table"] (iS Cn) fFloorAllShown dFloorAllShown){fFloorDoors:Addr}{dFloorDoors:FuncData}(c_FloorDoors:fM P w K mg base 2 Cn "doors" ["self","place"] (jF Cn) fFloorDoors dFloorDoors){fGreatest:Addr}{dGreatest:FuncData}(c_Greatest:aR P w K mg base 2 "greatest" ["numbers"] uy fGreatest dGreatest){fLeast:Addr}{dLeast:FuncData}(c_Least:aR P w K mg base 2 "least" ["numbers"] uy fLeast dLeast):bC P w K mg base (CX1 P w) 6 f fd ["self","place","table"] (spD K (yX Cn)):=by
 refine F.okD ia (fun ds M q x h=> ?_) (fun cdv A outer s H E' hr=>⟨_,(ag (ax (i:=3) ia.nd rfl (Or.inl rfl) (bY c_FloorKind hr ak (jv 0) (aa (jv 1) af (hs:=aj))))
   (ag (bc (dR hr (jv 3) gG) (ah (av (bY c_FloorPay hr ak (jv 0) (aa (jv 1) af (hs:=aj))))) aB)
   (ag (bc (dR hr (jv 3) gG) (ah (av (bR c_Weighed hr ak (aa (gw (ys:=[]) (caps:=[]) ⟨rfl,by decide+kernel,by decide+kernel,rfl,(by show∀p:Str×NameKind,p∈_→p.2=NameKind.free→List.lookup p.1 (ae bL).names=some .cell;decide+kernel),by decide+kernel,(by show∀q:Str×Nat,q∈_→(["self","place","table","kind"]:List Str)[q.2]? =some q.1∧List.lookup q.1 (ae bL).names=some .cell∧_;decide+kernel),rfl⟩ (ef (gM (bY c_FloorDoors hr ak (jv 0) (aa (jv 1) af (hs:=aj))))) (fun C s H fp=>(aY (jv 0) ay))) (aa (bY c_FloorAllShown hr ak (jv 0) (aa (jv 1) (aa (jv 2) af (hs:=aj)) (hs:=aj))) af (hs:=bI)))))) aB)
   (ag (bc (dR hr (jv 3) gG) (ah (av (bR c_Greatest hr ak (aa (bY c_FloorAllShown hr ak (jv 0) (aa (jv 1) (aa (jv 2) af (hs:=aj)) (hs:=aj))) af (hs:=bI))))) aB)
   (ah (av (bR c_Least hr ak (aa (bY c_FloorAllShown hr ak (jv 0) (aa (jv 1) (aa (jv 2) af (hs:=aj)) (hs:=aj))) af (hs:=bI))))))))),fun ds M q x h=> ?_⟩)
 ·obtain ⟨share,rows,tb,i,r,E,B,F,C,rfl,_⟩:=h;rfl
 ·obtain ⟨share,rows,tb,i,r,Ep,B,Ft,C,rfl,hi,hk,fl,g,ht,h⟩:=h
  have hm:r∈rows:=List.mem_of_getElem? hi
  have ro:=(fl.pl.row _ hm).1
  refine ⟨⟨_,_, .inl rfl,rfl⟩,share,rows,i,r,rfl,hi, ?_⟩
  cases r with
  | fin p=>exact ⟨fun _=>⟨⟨_,_, .inl rfl,rfl⟩,share,rows,i, .fin p,rfl,hi,ro,h⟩,fun z=>(nomatch z)⟩
  | doors k ds=>
   have hk:k="chance":=by
    rcases hk with z | z
    ·exact z
    ·exact absurd z ro.1
   subst hk
   have l6:=(aU fl.pl hm).l6
   have eS:ds.map (fun d=>frD (cf share tb d))=(ds.map (cf share tb)).map frD:=by rw [List.map_map];rfl
   refine ⟨fun z=>absurd (of_decide_eq_true z) ro.1,fun _=>⟨fun z=> ?_,fun z=>absurd rfl (of_decide_eq_false z)⟩⟩
   obtain ⟨hone,ok3⟩:=ro.2.2.1 rfl
   refine ⟨⟨_,_, .inl rfl,rfl⟩,share,rows,i, .doors "chance" ds,rfl,hi,ro,fS (ds:=ds.map drG) (dY ds) ?_⟩
   refine ⟨by rw [List.length_map];exact Nat.le_trans l6 (by decide), ?_⟩
   refine cQ (f:=fun d=>match d with | .tup [_,_,c]=>c | _=> .non) trivial (fun x hx q' hq=> ?_) ?_
   ·obtain ⟨y,hy,rfl⟩:=List.mem_map.mp hx
    have ey:drG y= .tup [.int y.1,frD y.2.1,frD (aw y)]:=by unfold drG;rw [hone y hy];rfl
    rw [ey] at hq⊢
    exact hq
   ·rw [List.nil_append,List.map_map]
    have e2:ds.map ((fun d=>match d with | Dt.tup [_,_,c]=>c | _=>Dt.non) ∘ drG)=(ds.map aw).map frD:=by
     rw [List.map_map]
     apply List.map_congr_left
     intro y hy
     have ey:drG y= .tup [.int y.1,frD y.2.1,frD (aw y)]:=by unfold drG;rw [hone y hy];rfl
     show (match drG y with | Dt.tup [_,_,c]=>c | _=>Dt.non)=frD (aw y)
     rw [ey]
    rw [e2]
    refine ⟨⟨_,_, .inl rfl,rfl⟩,share,rows,tb,i,"chance",ds,Ep,B,Ft,C,rfl,hi,fl,g,ht, ?_⟩
    rw [eS]
    obtain ⟨z1,z2⟩:=sf fl g
    have c0:=g.c0
    have c1:=g.c1
    exact ⟨_,_,Ep * Ft * share.2,B,10 ^ 30+C,rfl,by rw [List.length_map];exact l6,fl.b0,z1,z2,by omega,by omega,fl.chs hm,fun n hn=>by
     obtain ⟨d,hd,rfl⟩:=List.mem_map.mp hn
     exact jN fl g ht hm hd,h⟩
end
end Pg
set_option maxRecDepth 100000
set_option maxHeartbeats 4000000
namespace Pg
open PySem L2 Fr0 Tx
abbrev Pl:=List (Int×Int)
def kP(pl:Pl):List Key:=pl.map fun p=>Sum.inl p.1
def vP(pl:Pl):List Dt:=pl.map fun p=>Dt.int p.2
abbrev dP(pl:Pl):MO:= .dct (kP pl) (vP pl)
def bq:Pl→Int→Option Int
 | [],_=>none
 | p::r,i=>if p.1=i then some p.2 else bq r i
def jq(pl:Pl)(i v:Int):Pl:=if (bq pl i).isSome=true then pl.map (fun p=>if p.1=i then (p.1,v) else p) else pl++[(i,v)]
def vK(pl:Pl)(i:Int):Pl:=pl.filter fun p=>decide (p.1≠i)
theorem wX{a b:Int}:(decide ((Sum.inl a:Key)=Sum.inl b))=decide (a=b):=by
 by_cases h:a=b
 ·rw [decide_eq_true h,decide_eq_true (congrArg Sum.inl h)]
 ·rw [decide_eq_false h,decide_eq_false fun z=>h (Sum.inl.inj z)]
theorem lU{i:Int}:∀{pl:Pl},aT (kP pl) (vP pl) (Sum.inl i)=(bq pl i).map Dt.int
 | []=>rfl
 | p::r=>by
  have ih:=lU (i:=i) (pl:=r)
  unfold aT at ih⊢
  show (List.find? (fun q:Key×Dt=>decide (q.1=Sum.inl i)) ((Sum.inl p.1,Dt.int p.2)::(kP r).zip (vP r))).map (·.2)=Option.map Dt.int (if p.1=i then some p.2 else bq r i)
  rw [List.find?_cons,wX]
  by_cases h:p.1=i
  ·rw [decide_eq_true h,if_pos h];rfl
  ·rw [decide_eq_false h,if_neg h];exact ih
theorem A1{i:Int}:∀{pl:Pl},inK (kP pl) (Sum.inl i)=(bq pl i).isSome
 | []=>rfl
 | p::r=>by
  have ih:=A1 (i:=i) (pl:=r)
  unfold inK at ih⊢
  show (decide ((Sum.inl p.1:Key)=Sum.inl i) || (kP r).any fun c=>decide (c=Sum.inl i))=(if p.1=i then some p.2 else bq r i).isSome
  rw [wX,ih]
  by_cases h:p.1=i
  ·rw [decide_eq_true h,if_pos h];rfl
  ·rw [decide_eq_false h,if_neg h,Bool.false_or]
theorem rh{i v:Int}:∀{pl:Pl},iV (Sum.inl i:Key) (Dt.int v) (kP pl) (vP pl)=vP (pl.map fun p=>if p.1=i then (p.1,v) else p)
 | []=>rfl
 | p::r=>by
  show (if (Sum.inl p.1:Key)=Sum.inl i then Dt.int v else Dt.int p.2)::iV (Sum.inl i:Key) (Dt.int v) (kP r) (vP r)=Dt.int (if p.1=i then (p.1,v) else p).2::vP (r.map fun p=>if p.1=i then (p.1,v) else p)
  rw [rh]
  by_cases h:p.1=i
  ·rw [if_pos h,if_pos (congrArg Sum.inl h)]
  ·rw [if_neg h,if_neg fun z=>h (Sum.inl.inj z)]
theorem oU{i v:Int}:∀{pl:Pl},kP (pl.map fun p=>if p.1=i then (p.1,v) else p)=kP pl
 | []=>rfl
 | p::r=>by
  show (Sum.inl (if p.1=i then (p.1,v) else p).1:Key)::kP (r.map fun p=>if p.1=i then (p.1,v) else p)=Sum.inl p.1::kP r
  rw [oU]
  split <;> rfl
theorem xF{pl:Pl}{i v:Int}:mX (kP pl) (Sum.inl i)=kP (jq pl i v):=by
 unfold mX jq
 rw [A1]
 split
 ·exact oU.symm
 ·unfold kP;rw [List.map_append];rfl
theorem xG{pl:Pl}{i v:Int}:jV (kP pl) (Sum.inl i) (vP pl) (Dt.int v)=vP (jq pl i v):=by
 unfold jV jq
 rw [A1]
 split
 ·exact rh
 ·unfold vP;rw [List.map_append];rfl
theorem Bg{i:Int}:∀{pl:Pl},mh (kP pl) (Sum.inl i)=kP (vK pl i)
 | []=>rfl
 | p::r=>by
  have ih:=Bg (i:=i) (pl:=r)
  unfold mh vK at ih⊢
  show List.filter (fun c=>decide (c≠Sum.inl i)) (Sum.inl p.1::kP r)=kP (List.filter (fun p=>decide (p.1≠i)) (p::r))
  rw [List.filter_cons,List.filter_cons]
  by_cases h:p.1=i
  ·rw [if_neg (by simp [h]),if_neg (by simp [h])];exact ih
  ·rw [if_pos (by simp [h]),if_pos (by simp [h]),ih];rfl
theorem Bh{i:Int}:∀{pl:Pl},fH (Sum.inl i:Key) (kP pl) (vP pl)=vP (vK pl i)
 | []=>rfl
 | p::r=>by
  have ih:=Bh (i:=i) (pl:=r)
  unfold vK at ih⊢
  show (if (Sum.inl p.1:Key)=Sum.inl i then fH (Sum.inl i:Key) (kP r) (vP r) else Dt.int p.2::fH (Sum.inl i:Key) (kP r) (vP r))=vP (List.filter (fun p=>decide (p.1≠i)) (p::r))
  rw [List.filter_cons]
  by_cases h:p.1=i
  ·rw [if_pos (congrArg Sum.inl h),if_neg (by simp [h])];exact ih
  ·rw [if_neg fun z=>h (Sum.inl.inj z),if_pos (by simp [h]),ih];rfl
theorem ki{i v j:Int}:∀{pl:Pl},bq (pl.map fun p=>if p.1=i then (p.1,v) else p) j=if j=i then (bq pl j).map fun _=>v else bq pl j
 | []=>by split <;> rfl
 | p::r=>by
  have ih:=ki (i:=i) (v:=v) (j:=j) (pl:=r)
  rw [List.map_cons]
  unfold bq
  by_cases h:p.1=i
  ·rw [if_pos h]
   by_cases hj:p.1=j
   ·rw [if_pos hj,if_pos hj,if_pos (by omega)];rfl
   ·rw [if_neg hj,if_neg hj];exact ih
  ·rw [if_neg h]
   by_cases hj:p.1=j
   ·rw [if_pos hj,if_pos hj,if_neg (by omega)]
   ·rw [if_neg hj,if_neg hj];exact ih
theorem sV{i j v:Int}:∀{pl:Pl},bq (pl++[(i,v)]) j=if (bq pl j).isSome=true then bq pl j else if i=j then some v else none
 | []=>rfl
 | p::r=>by
  have ih:=sV (i:=i) (j:=j) (v:=v) (pl:=r)
  rw [List.cons_append]
  unfold bq
  by_cases hj:p.1=j
  ·rw [if_pos hj,if_pos hj];rfl
  ·rw [if_neg hj,if_neg hj];exact ih
theorem iI{pl:Pl}{i v j:Int}:bq (jq pl i v) j=if j=i then some v else bq pl j:=by
 unfold jq
 split
 ·rename_i h
  rw [ki]
  split
  ·rename_i e
   subst e
   obtain ⟨x,hx⟩:=Option.isSome_iff_exists.mp h
   rw [hx];rfl
  ·rfl
 ·rename_i h
  rw [sV]
  by_cases e:j=i
  ·subst e
   rw [if_neg h,if_pos rfl,if_pos rfl]
  ·rw [if_neg e]
   cases hj:bq pl j with
   | none=>rw [if_neg (by simp),if_neg (by omega)]
   | some x=>rfl
theorem nP{i j:Int}:∀{pl:Pl},bq (vK pl i) j=if j=i then none else bq pl j
 | []=>by show none=_;split <;> rfl
 | p::r=>by
  have ih:=nP (i:=i) (j:=j) (pl:=r)
  unfold vK at ih⊢
  rw [List.filter_cons]
  by_cases h:p.1=i
  ·rw [if_neg (by simp [h]),ih]
   by_cases hj:j=i
   ·rw [if_pos hj,if_pos hj]
   ·rw [if_neg hj,if_neg hj]
    show _=if p.1=j then some p.2 else bq r j
    rw [if_neg (by omega)]
  ·rw [if_pos (by simp [h])]
   show (if p.1=j then some p.2 else bq (r.filter fun p=>decide (p.1≠i)) j)=if j=i then none else if p.1=j then some p.2 else bq r j
   rw [ih]
   by_cases hj:p.1=j
   ·rw [if_pos hj,if_pos hj,if_neg (by omega)]
   ·rw [if_neg hj,if_neg hj]
def NdP(pl:Pl):Prop:=(pl.map (·.1)).Nodup
theorem kh{i v:Int}:∀{pl:Pl},bq pl i=some v→(i,v)∈pl
 | [],h=>by cases h
 | p::r,h=>by
  unfold bq at h
  split at h
  ·rename_i e
   have:p=(i,v):=by rw [←e,←Option.some.inj h]
   rw [this];exact List.mem_cons_self
  ·exact List.mem_cons_of_mem _ (kh h)
theorem nI{i v:Int}:∀{pl:Pl},NdP pl→(i,v)∈pl→bq pl i=some v
 | [],_,h=>by cases h
 | p::r,nd,h=>by
  unfold NdP at nd
  rw [List.map_cons,List.nodup_cons] at nd
  unfold bq
  rcases List.mem_cons.mp h with e | e
  ·rw [if_pos (by rw [←e])];rw [←e]
  ·have:p.1≠i:=fun z=>nd.1 (by rw [z];exact List.mem_map.mpr ⟨_,e,rfl⟩)
   rw [if_neg this];exact nI nd.2 e
theorem pd{i:Int}{pl:Pl}(h:bq pl i=none):i∉pl.map (·.1):=fun z=>by
 obtain ⟨p,hp,e⟩:=List.mem_map.mp z
 have:∀{pl:Pl},p∈pl→bq pl i≠none:=fun {pl}=>by
  induction pl with
  | nil=>intro h;cases h
  | cons q r ih=>
   intro h
   unfold bq
   rcases List.mem_cons.mp h with e' | e'
   ·rw [if_pos (by rw [←e'];exact e)];simp
   ·split
    ·simp
    ·exact ih e'
 exact this hp h
theorem wJ{pl:Pl}{i v:Int}(h:NdP pl):NdP (jq pl i v):=by
 unfold NdP jq
 split
 ·have e:(pl.map fun p=>if p.1=i then (p.1,v) else p).map (·.1)=pl.map (·.1):=by
   rw [List.map_map]
   refine List.map_congr_left fun p _=> ?_
   show (if p.1=i then (p.1,v) else p).1=p.1
   split <;> rfl
  rw [e];exact h
 ·rename_i hn
  have hn:bq pl i=none:=by
   cases hg:bq pl i with
   | none=>rfl
   | some x=>rw [hg] at hn;exact absurd rfl hn
  rw [List.map_append]
  refine List.nodup_append.mpr ⟨h,by simp,fun a ha b hb z=> ?_⟩
  have:b=i:=by simpa using hb
  exact pd hn (by rw [←this,←z];exact ha)
theorem Al{pl:Pl}{i:Int}(h:NdP pl):NdP (vK pl i):=by
 unfold NdP vK
 exact List.Nodup.sublist (List.Sublist.map _ List.filter_sublist) h
def eqP(p1 p2:Pl):Bool:=decide (p1.length=p2.length)&&(List.range p1.length).all fun j=>decide (bq p2 (p1.getD j (0,0)).1=some (p1.getD j (0,0)).2)
theorem Ay{pl:Pl}{j:Nat}{k:Key}(h:(kP pl)[j]? =some k):j < pl.length∧k=Sum.inl (pl.getD j (0,0)).1:=by
 unfold kP at h
 rw [List.getElem?_map] at h
 obtain ⟨p,hp,e⟩:=Option.map_eq_some_iff.mp h
 refine ⟨(List.getElem?_eq_some_iff.mp hp).1, ?_⟩
 rw [List.getD_eq_getElem?_getD,hp];exact e.symm
theorem BO{pl:Pl}{j:Nat}{d:Dt}(h:(vP pl)[j]? =some d):d= .int (pl.getD j (0,0)).2:=by
 unfold vP at h
 rw [List.getElem?_map] at h
 obtain ⟨p,hp,e⟩:=Option.map_eq_some_iff.mp h
 rw [List.getD_eq_getElem?_getD,hp];exact e.symm
theorem yF(a b:Int):eqV (V.int a) (V.int b)=decide (a=b):=by
 unfold eqV
 by_cases h:a=b
 ·subst h;simp
 ·simp [h]
theorem Bc{M:Ms}{k1 k2:Nat}{p1 p2:Pl}{n:Nat}(h1:M[k1]? =some (dP p1))(h2:M[k2]? =some (dP p2)):EqD M (n+1) (.loc k1) (.loc k2) (eqP p1 p2):=by
 have l1:(kP p1).length=p1.length:=by unfold kP;simp
 have l2:(kP p2).length=p2.length:=by unfold kP;simp
 by_cases hl:p1.length=p2.length
 ·have:=EqD.dct (M:=M) (n:=n) (f:=fun j=>decide (bq p2 (p1.getD j (0,0)).1=some (p1.getD j (0,0)).2)) h1 h2 (by rw [l1,l2];exact hl) (fun j k hk hn=>by
   obtain ⟨hj,e⟩:=Ay hk
   subst e
   rw [lU] at hn
   have hn:bq p2 (p1.getD j (0,0)).1=none:=by
    cases hg:bq p2 (p1.getD j (0,0)).1 with
    | none=>rfl
    | some x=>rw [hg] at hn;cases hn
   rw [hn];rfl) (fun j k d d' hk hd hg=>by
   obtain ⟨hj,e⟩:=Ay hk
   have ed:=BO hd
   subst e ed
   rw [lU] at hg
   obtain ⟨x,hx,ex⟩:=Option.map_eq_some_iff.mp hg
   subst ex
   have:decide (bq p2 (p1.getD j (0,0)).1=some (p1.getD j (0,0)).2)=eqV (V.int (p1.getD j (0,0)).2) (V.int x):=by
    rw [hx,yF]
    by_cases e:(p1.getD j (0,0)).2=x
    ·rw [decide_eq_true e,e];simp
    ·rw [decide_eq_false e,decide_eq_false fun z=>e (Option.some.inj z).symm]
   show EqD M n _ _ (decide (bq p2 (p1.getD j (0,0)).1=some (p1.getD j (0,0)).2))
   rw [this]
   exact EqD.flat rfl rfl)
  rw [l1] at this
  unfold eqP
  rw [decide_eq_true hl,Bool.true_and]
  exact this
 ·have e:eqP p1 p2=false:=by unfold eqP;rw [decide_eq_false hl];rfl
  rw [e]
  exact EqD.len h1 h2 (by rw [l1,l2];exact hl)
theorem sW{pl:Pl}{j:Nat}(h:j < pl.length):pl.getD j (0,0)∈pl:=by
 rw [List.getD_eq_getElem?_getD,List.getElem?_eq_getElem h];exact List.getElem_mem _
theorem pk{pl:Pl}(nd:NdP pl):eqP pl pl=true:=by
 unfold eqP
 rw [decide_eq_true rfl,Bool.true_and,List.all_eq_true]
 intro j hj
 exact decide_eq_true (nI nd (sW (List.mem_range.mp hj)))
theorem tI{p1 p2:Pl}(h:eqP p1 p2=true){i v:Int}(hg:bq p1 i=some v):bq p2 i=some v:=by
 unfold eqP at h
 rw [Bool.and_eq_true,List.all_eq_true] at h
 obtain ⟨j,hj,e⟩:=List.getElem_of_mem (kh hg)
 have:=of_decide_eq_true (h.2 j (List.mem_range.mpr hj))
 rwa [List.getD_eq_getElem?_getD,List.getElem?_eq_getElem hj,Option.getD_some,e] at this
theorem vE{p1 p2:Pl}(nd:NdP p1)(h:eqP p1 p2=true){i:Int}(hg:bq p1 i=none):bq p2 i=none:=by
 cases h2:bq p2 i with
 | none=>rfl
 | some v=>
  have hl:p1.length=p2.length:=by
   unfold eqP at h
   rw [Bool.and_eq_true] at h
   exact of_decide_eq_true h.1
  have nd2:(i::p1.map (·.1)).Nodup:=List.nodup_cons.mpr ⟨pd hg,nd⟩
  have:=nd2.length_le_of_subset (l₂:=p2.map (·.1)) fun c hc=>by
   rcases List.mem_cons.mp hc with e | e
   ·rw [e];exact List.mem_map.mpr ⟨_,kh h2,rfl⟩
   ·obtain ⟨p,hp,rfl⟩:=List.mem_map.mp e
    exact List.mem_map.mpr ⟨_,kh (tI h (nI nd hp)),rfl⟩
  rw [List.length_cons,List.length_map,List.length_map] at this
  omega
structure Two(M:Ms)(k:Nat)(p1 p2:Pl):Prop where
 ex:∃k1 k2,M[k]? =some (.dct [Sum.inr "one",Sum.inr "other"] [.loc k1, .loc k2])∧M[k1]? =some (dP p1)∧M[k2]? =some (dP p2)
theorem eQ{M E:Ms}{k:Nat}{m:MO}(h:M[k]? =some m):(M++E)[k]? =some m:=by
 rw [List.getElem?_append_left (List.getElem?_eq_some_iff.mp h).1];exact h
theorem Two.app{M E:Ms}{k:Nat}{p1 p2:Pl}(h:Two M k p1 p2):Two (M++E) k p1 p2:=by
 obtain ⟨k1,k2,a,b,c⟩:=h
 exact ⟨k1,k2,eQ a,eQ b,eQ c⟩
theorem tK{M:Ms}{k k':Nat}{p1 p2 r1 r2:Pl}(h:Two M k p1 p2)(h':Two M k' r1 r2):EqD M 2 (.loc k) (.loc k') (eqP p1 r1&&eqP p2 r2):=by
 obtain ⟨k1,k2,a,b,c⟩:=h
 obtain ⟨j1,j2,a',b',c'⟩:=h'
 have:=EqD.dct (M:=M) (n:=1) (f:=fun j=>if j=0 then eqP p1 r1 else eqP p2 r2) a a' rfl (fun j k hk hn=>by
  match j,hk with
  | 0,hk=>
   cases hk
   have:aT [Sum.inr "one",Sum.inr "other"] [Dt.loc j1,Dt.loc j2] (Sum.inr "one")=some (.loc j1):=rfl
   rw [this] at hn;cases hn
  | 1,hk=>
   cases hk
   have:aT [Sum.inr "one",Sum.inr "other"] [Dt.loc j1,Dt.loc j2] (Sum.inr "other")=some (.loc j2):=rfl
   rw [this] at hn;cases hn) (fun j k d d' hk hd hg=>by
  match j,hk,hd with
  | 0,hk,hd=>
   cases hk;cases hd
   have:d'= .loc j1:=by
    have:aT [Sum.inr "one",Sum.inr "other"] [Dt.loc j1,Dt.loc j2] (Sum.inr "one")=some (.loc j1):=rfl
    rw [this] at hg;exact (Option.some.inj hg).symm
   subst this
   exact Bc b b'
  | 1,hk,hd=>
   cases hk;cases hd
   have:d'= .loc j2:=by
    have:aT [Sum.inr "one",Sum.inr "other"] [Dt.loc j1,Dt.loc j2] (Sum.inr "other")=some (.loc j2):=rfl
    rw [this] at hg;exact (Option.some.inj hg).symm
   subst this
   exact Bc c c')
 have e:((List.range ([Sum.inr "one",Sum.inr "other"]:List Key).length).all fun j=>if j=0 then eqP p1 r1 else eqP p2 r2)=(eqP p1 r1&&eqP p2 r2):=by
  show ((List.range 2).all fun j=>if j=0 then eqP p1 r1 else eqP p2 r2)=_
  simp [List.range_succ]
 rw [e] at this
 exact this
end Pg
set_option maxRecDepth 100000
set_option maxHeartbeats 4000000
namespace Pg
open PySem L2 Fr0 Tx
def br(pl:Pl)(i:Nat)(n:Nat):Bool:=match bq pl i with
 | some v=>decide (0≤v)&&decide (v < n)
 | none=>false
def aW(p1 p2:Pl)(k:Str):Option Pl:=if k="one" then some p1 else if k="other" then some p2 else none
def eL(p1 p2:Pl)(i:Nat)(r:Rw):Bool:=match aW p1 p2 (kindOf r) with
 | some pl=>br pl i (aE r).length
 | none=>true
def aZ(rows:List Rw)(p1 p2:Pl)(i:Nat):Bool:=match rows[i]? with
 | some r=>eL p1 p2 i r
 | none=>true
def iQ(rows:List Rw)(p1 p2:Pl):Nat→Pl
 | 0=>[]
 | n+1=>match (rows[n]?).bind fun r=>aW p1 p2 (kindOf r) with
  | some pl=>jq (iQ rows p1 p2 n) n ((bq pl n).getD 0)
  | none=>iQ rows p1 p2 n
theorem uh(rows:List Rw)(p1 p2:Pl):∀n,(iQ rows p1 p2 n).length≤n
 | 0=>Nat.le_refl _
 | n+1=>by
  have ih:=uh rows p1 p2 n
  unfold iQ
  split
  ·unfold jq
   split
   ·rw [List.length_map];omega
   ·rw [List.length_append];exact Nat.succ_le_succ ih
  ·omega
theorem om(rows:List Rw)(p1 p2:Pl):∀(n i:Nat),bq (iQ rows p1 p2 n) i=if i < n then ((rows[i]?).bind fun r=>aW p1 p2 (kindOf r)).map fun pl=>(bq pl i).getD 0 else none
 | 0,i=>by rw [if_neg (Nat.not_lt_zero _)];rfl
 | n+1,i=>by
  have ih:=om rows p1 p2 n i
  have step:bq (iQ rows p1 p2 (n+1)) i=if i=n then (match (rows[n]?).bind fun r=>aW p1 p2 (kindOf r) with | some pl=>some ((bq pl n).getD 0) | none=>bq (iQ rows p1 p2 n) i) else bq (iQ rows p1 p2 n) i:=by
   rw [iQ]
   cases hb:(rows[n]?).bind fun r=>aW p1 p2 (kindOf r) with
   | none=>dsimp only;split <;> rfl
   | some pl=>
    dsimp only
    rw [iI]
    by_cases e:i=n
    ·rw [if_pos e,if_pos (by omega)]
    ·rw [if_neg e,if_neg (by omega)]
  rw [step,ih]
  by_cases e:i=n
  ·subst e
   rw [if_pos rfl,if_neg (Nat.lt_irrefl _),if_pos (Nat.lt_succ_self _)]
   cases (rows[i]?).bind fun r=>aW p1 p2 (kindOf r) with
   | none=>rfl
   | some pl=>rfl
  ·rw [if_neg e]
   by_cases h:i < n
   ·rw [if_pos h,if_pos (by omega)]
   ·rw [if_neg h,if_neg (by omega)]
theorem yv(k:Str):inK [Sum.inr "one",Sum.inr "other"] (Sum.inr k)=az k:=by
 have e:∀z:Str,decide ((Sum.inr z:Key)=Sum.inr k)=(k==z):=fun z=>by
  by_cases h:z=k
  ·rw [decide_eq_true (congrArg Sum.inr h),h];simp
  ·rw [decide_eq_false fun y=>h (Sum.inr.inj y)];simp;exact fun y=>h y.symm
 show (decide ((Sum.inr (Str.ofString "one"):Key)=Sum.inr k) || (decide ((Sum.inr (Str.ofString "other"):Key)=Sum.inr k) || false))=az k
 rw [e,e,Bool.or_false]
 rfl
theorem iH{p1 p2:Pl}{k:Str}(h:az k=false):aW p1 p2 k=none:=by
 unfold az at h
 rw [Bool.or_eq_false_iff,beq_eq_false_iff_ne,beq_eq_false_iff_ne] at h
 unfold aW
 rw [if_neg h.1,if_neg h.2]
theorem xn{M:Ms}{k:Nat}{p1 p2:Pl}(h:Two M k p1 p2){z:Str}(hz:az z=true):∃ks ds k' pl,M[k]? =some (.dct ks ds)∧aT ks ds (Sum.inr z)=some (.loc k')∧aW p1 p2 z=some pl∧M[k']? =some (dP pl):=by
 obtain ⟨k1,k2,a,b,c⟩:=h
 unfold az at hz
 rw [Bool.or_eq_true,beq_iff_eq,beq_iff_eq] at hz
 rcases hz with rfl | rfl
 ·exact ⟨_,_,k1,p1,a,rfl,rfl,b⟩
 ·exact ⟨_,_,k2,p2,a,rfl,rfl,c⟩
theorem cR{M:Ms}{o:MO}:(M++[o])[M.length]? =some o:=by simp
theorem fk{M:Ms}{a c:MO}:(M++[a]).set M.length c=M++[c]:=by simp [List.set_append]
section
variable{P:Program}{w:World}{K:PySem.W.Frag}{mg:Str→Option Value}{base:Heap}{Cn CN CF Ca Cj Ce Cf Ci Ck Cb Cd Cl:Addr}
def TNp:DIF:=fun ds M q=>∃i:Int,ds=[.int i]∧0≤i∧i≤100∧q [("place", .int i)] M
theorem kM:au ["self","place"] ["self","place"] (ae cj):=⟨rfl,rfl,rfl,by decide+kernel,rfl,by decide+kernel,by decide+kernel⟩
theorem jW{f:Addr}{fd:FuncData}(F:Fun K "__init__" "NoPlan.__init__" cj f fd)(E:Ev K mg Cn CN CF Ca Cj Ce Cf Ci Ck Cb Cd Cl)(cI:ee K Cj VB "ValueError.__new__" f):bC P w K mg base (CX1 P w) 1 f fd ["self","place"] (spI K Cj TNp):=by
 refine F.okI kM (fun ds M q h=> ?_) (fun cdv A outer s H E' hr=>⟨_,(ym (yk PySem.F.excBase_ValueError cI E.iDuelError E.mDuelError (AR (.cons gG (.cons (CT (jv 1)) .nil)))) (Az (AA cI E.k_NoPlan_place (jv 1)))),fun ds M q h=> ?_⟩)
 ·obtain ⟨i,rfl,_⟩:=h;rfl
 ·obtain ⟨i,rfl,i0,i1,h⟩:=h
  obtain ⟨j,rfl⟩:∃j:Nat,i=(j:Int):=⟨i.toNat,by omega⟩
  have hj:j < 101:=by omega
  have l1:∀j:Nat,j < 101→(Str.empty++Str.ofString "the plan has no door at place "++Str.ofString (toString (j:Int))).length≤sizeLine:=by decide+kernel
  have l3:∀j:Nat,j < 101→(j:Int).natAbs.log2 < 1920:=by decide+kernel
  exact ⟨by decide+kernel,l3 j hj,l1 j hj,by decide,by decide,h⟩
def DG(A:Addr):DF:=fun as M q _=>∃share rows i r k pl,as=[aP A share rows, .loc k, .int (i:Nat)]∧M[k]? =some (dP pl)∧rows[i]? =some r∧fh r∧q (.bl (br pl i (aE r).length)) M
theorem qQ:au ["floor","plan","place"] ["floor","plan","place"] (ae e6):=⟨rfl,rfl,rfl,by decide+kernel,rfl,by decide+kernel,by decide+kernel⟩
theorem pZ{f:Addr}{fd:FuncData}(F:Fun K "has_door" "has_door" e6 f fd)(E:Ev K mg Cn CN CF Ca Cj Ce Cf Ci Ck Cb Cd Cl){fFloorDoors:Addr}{dFloorDoors:FuncData}(c_FloorDoors:fM P w K mg base 2 Cn "doors" ["self","place"] (jF Cn) fFloorDoors dFloorDoors):bC P w K mg base (CX1 P w) 3 f fd ["floor","plan","place"] (spD K (DG Cn)):=by
 refine F.okD qQ (fun ds M q x h=> ?_) (fun cdv A outer s H E' hr=>⟨_,(ah (av (eh (CU hr (jv 2) (jv 1)) (eh (wN ay (cW hr (jv 1) (jv 2))) (fR (y9 (cW hr (jv 1) (jv 2)) (eJ E.n_len (aa (gM (bY c_FloorDoors hr ak (jv 0) (aa (jv 2) af (hs:=aj)))) af (hs:=bI))))))))),fun ds M q x h=> ?_⟩)
 ·obtain ⟨share,rows,i,r,k,pl,rfl,_⟩:=h;rfl
 ·obtain ⟨share,rows,i,r,k,pl,rfl,hk,hi,ro,h⟩:=h
  unfold br at h
  have gi:(Sum.inl (i:Int):Key)=Sum.inl ((i:Nat):Int):=rfl
  refine ⟨k,_,_,Sum.inl (i:Int),rfl,hk,rfl, ?_⟩
  rw [A1]
  cases hg:bq pl i with
  | none=>
   rw [hg] at h
   exact ⟨fun z=>(nomatch z),fun _=>h⟩
  | some v=>
   rw [hg] at h
   have h:q (.bl (decide (0≤v)&&decide (v < ((aE r).length:Int)))) M:=h
   have dg:aT (kP pl) (vP pl) (Sum.inl (i:Int))=some (.int v):=by rw [lU,hg];rfl
   refine ⟨fun _=> ?_,fun z=>(nomatch z)⟩
   refine ⟨k,_,_,Sum.inl (i:Int),_,rfl,hk,rfl,dg, ?_⟩
   refine ⟨fun z=> ?_,fun z=> ?_⟩
   ·have z:0≤v:=of_decide_eq_true z
    rw [decide_eq_true z,Bool.true_and] at h
    refine ⟨k,_,_,Sum.inl (i:Int),_,rfl,hk,rfl,dg, ?_⟩
    refine ⟨⟨_,_, .inl rfl,rfl⟩,share,rows,i,r,rfl,hi,ro,fS (dY _) ?_⟩
    walk_at "vc"
    refine (aQ (d:= .lst ((aE r).map drG)) (xs:=(aE r).map drG) rfl ?_:mG [.lst ((aE r).map drG)] _ _)
    rw [List.length_map]
    exact h
   ·have z:¬0≤v:=of_decide_eq_false z
    rw [decide_eq_false z,Bool.false_and] at h
    have key:decide (0≤v)=false:=decide_eq_false z
    exact h
def kB(A CP:Addr):DF:=fun as M q x=>∃share rows k p1 p2,as=[aP A share rows, .loc k]∧Two M k p1 p2∧Bt share rows∧
 ((∀i,i < rows.length→aZ rows p1 p2 i=true)→q (.loc M.length) (M++[dP (iQ rows p1 p2 rows.length)]))∧
 ∀j,j < rows.length→aZ rows p1 p2 j=false→(∀i,i < j→aZ rows p1 p2 i=true)→∀E,x CP [("place", .int (j:Int))] (M++E)
theorem fN:au ["floor","plans","doors","place","hand"] ["floor","plans"] (ae e9):=⟨rfl,rfl,rfl,by decide+kernel,rfl,by decide+kernel,by decide+kernel⟩
theorem p9{f:Addr}{fd:FuncData}(F:Fun K "doors_of" "doors_of" e9 f fd)(E:Ev K mg Cn CN CF Ca Cj Ce Cf Ci Ck Cb Cd Cl){fFloorSize:Addr}{dFloorSize:FuncData}(c_FloorSize:fM P w K mg base 1 Cn "size" ["self"] (oq Cn) fFloorSize dFloorSize){fFloorKind:Addr}{dFloorKind:FuncData}(c_FloorKind:fM P w K mg base 1 Cn "kind" ["self","place"] (mC Cn) fFloorKind dFloorKind){fHasDoor:Addr}{dHasDoor:FuncData}(c_HasDoor:aR P w K mg base 3 "has_door" ["floor","plan","place"] (DG Cn) fHasDoor dHasDoor){fNoplanInit:Addr}{dNoplanInit:FuncData}(c_NoplanInit:XcD P w K mg base 1 "NoPlan" Cj VB "ValueError.__new__" ["self","place"] TNp fNoplanInit dNoplanInit):bC P w K mg base (CX1 P w) 4 f fd ["floor","plans"] (spD K (kB Cn Cj)):=by
 refine F.okD fN (fun ds M q x h=> ?_) (fun cdv A outer s H E' hr=>⟨_,(ag (ax (i:=2) fN.nd rfl (Or.inl rfl) sJ)
   (ag (iB (bG E.n_range (aa (iD c_FloorSize hr ak (jv 0)) af (hs:=bI))) (aK (i:=3) fN.nd rfl (Or.inl rfl)) cp (ag (ax (i:=4) fN.nd rfl (Or.inl rfl) (bY c_FloorKind hr ak (jv 0) (aa (jv 3) af (hs:=aj))))
   (ag (bc (sx hr (jv 4) (jv 1)) (ah iC) aB)
   (ag (bc (iA (bE (bR c_HasDoor hr ak (aa (jv 0) (aa (cW hr (jv 1) (jv 4)) (aa (jv 3) af (hs:=aj)) (hs:=cg)) (hs:=aj))))) (ah (sA c_NoplanInit hr jT PySem.F.excBase_ValueError (aa (jv 3) af (hs:=aj)))) aB)
   (ah (nM hr (jv 2) (jv 3) (cW hr (cW hr (jv 1) (jv 4)) (jv 3))))))))
   (ah (av (jv 2))))),fun ds M q x h=> ?_⟩)
 ·obtain ⟨share,rows,k,p1,p2,rfl,_⟩:=h;rfl
 ·obtain ⟨share,rows,k,p1,p2,rfl,tw,pl,hg,hb⟩:=h
  have l12:=pl.len
  have km:k≠M.length:=fun e=>by
   obtain ⟨k1,k2,a,_⟩:=tw
   rw [e,List.getElem?_eq_none (Nat.le_refl _)] at a;cases a
  walk_at "vc"
  refine ⟨⟨_,_, .inl rfl,rfl⟩,share,rows,rfl, ?_⟩
  refine ⟨by omega, ?_⟩
  rw [show ((rows.length:Int)).toNat=rows.length by omega]
  refine cX (fun zs ρ' M'=>∃(i m:Nat) (o3 o4:Option Dt),zs=gk (i:Int) m∧i+m=rows.length∧(∀j,j < i→aZ rows p1 p2 j=true)∧M'=M++[dP (iQ rows p1 p2 i)]∧ρ'=[some (aP Cn share rows),some (.loc k),some (.loc M.length),o3,o4]) (fun x zs ρ' M' hj nxt=> ?_) (fun ρ' M' hj=> ?_) _ _ _ ⟨0,rows.length,none,none,rfl,by omega,fun j hj=>absurd hj (Nat.not_lt_zero _),rfl,rfl⟩
  ·obtain ⟨i,m,o3,o4,ex,im,gd,rfl,rfl⟩:=hj
   obtain ⟨m',rfl,rfl,rfl⟩:=cN ex
   have il:i < rows.length:=by omega
   have hi:rows[i]? =some rows[i]:=List.getElem?_eq_getElem il
   generalize hr0:rows[i]=r at *
   have rm:r∈rows:=List.mem_of_getElem? hi
   have ro:=(pl.row r rm).1
   have ga:aZ rows p1 p2 i=eL p1 p2 i r:=by unfold aZ;rw [hi]
   have ac:∀pl',aW p1 p2 (kindOf r)=some pl'→iQ rows p1 p2 (i+1)=jq (iQ rows p1 p2 i) i ((bq pl' i).getD 0):=fun pl' e=>by
    rw [iQ,hi];show (match aW p1 p2 (kindOf r) with | some pl=>_ | none=>_)=_;rw [e]
   have an:aW p1 p2 (kindOf r)=none→iQ rows p1 p2 (i+1)=iQ rows p1 p2 i:=fun e=>by
    rw [iQ,hi];show (match aW p1 p2 (kindOf r) with | some pl=>_ | none=>_)=_;rw [e]
   have tw':Two (M++[dP (iQ rows p1 p2 i)]) k p1 p2:=tw.app
   obtain ⟨c1,c2,ca,cb,cc⟩:=tw'
   refine ⟨⟨_,_, .inl rfl,rfl⟩,share,rows,i,r,rfl,hi, ?_⟩
   refine ⟨k,_,_,Sum.inr (kindOf r),rfl,ca,rfl, ?_⟩
   rw [yv]
   cases hh:az (kindOf r) with
   | false=>
    refine ⟨fun _=> ?_,fun z=>(nomatch z)⟩
    have e:=iH (p1:=p1) (p2:=p2) hh
    refine nxt _ _ ⟨i+1,m',_,_,by rw [Int.natCast_add];rfl,by omega,fun j hj=> ?_,by rw [an e],rfl⟩
    by_cases ej:j=i
    ·rw [ej,ga];unfold eL;rw [e]
    ·exact gd j (by omega)
   | true=>
    refine ⟨fun z=>(nomatch z),fun _=> ?_⟩
    obtain ⟨ks,ds,k',pl',g1,g2,g3,g4⟩:=xn (M:=M++[dP (iQ rows p1 p2 i)]) tw.app hh
    refine ⟨k,ks,ds,Sum.inr (kindOf r),_,rfl,g1,rfl,g2, ?_⟩
    have gr:eL p1 p2 i r=br pl' i (aE r).length:=by unfold eL;rw [g3]
    refine ⟨share,rows,i,r,k',pl',rfl,g4,hi,ro,fun z=> ?_,fun z=> ?_⟩
    ·have z:br pl' i (aE r).length=false:=by simpa using z
     dsimp only [qT]
     walk_at "vc"
     exact ⟨by decide,i,rfl,by omega,by omega,(fun z=>nomatch z),hb i il (by rw [ga,gr];exact z) gd _⟩
    ·have z:br pl' i (aE r).length=true:=by simpa using z
     obtain ⟨v,hv⟩:∃v,bq pl' i=some v:=by
      unfold br at z
      cases hv:bq pl' i with
      | none=>rw [hv] at z;cases z
      | some v=>exact ⟨v,rfl⟩
     have dg:aT (kP pl') (vP pl') (Sum.inl (i:Int))=some (.int v):=by rw [lU,hv];rfl
     dsimp only [oG,vM]
     walk_at "vc"
     refine ⟨k,ks,ds,Sum.inr (kindOf r),_,rfl,g1,rfl,g2, ?_⟩
     refine ⟨k',_,_,Sum.inl (i:Int),_,rfl,g4,rfl,dg, ?_⟩
     refine ⟨M.length,_,_,Sum.inl (i:Int),rfl,cR,rfl, ?_, ?_⟩
     ·unfold kP;rw [List.length_map]
      have:=uh rows p1 p2 i
      omega
     rw [xF (v:=v),xG,fk]
     have e:=ac pl' g3
     rw [hv] at e
     have e:iQ rows p1 p2 (i+1)=jq (iQ rows p1 p2 i) i v:=e
     refine nxt _ _ ⟨i+1,m',_,_,by rw [Int.natCast_add];rfl,by omega,fun j hj=> ?_,by rw [e],rfl⟩
     by_cases ej:j=i
     ·rw [ej,ga,gr];exact z
     ·exact gd j (by omega)
  ·obtain ⟨i,m,o3,o4,ex,im,gd,rfl,rfl⟩:=hj
   have m0:m=0:=by
    have:=congrArg List.length ex
    rw [cB] at this;exact this.symm
   have:i=rows.length:=by omega
   subst this
   exact hg gd
end
end Pg
set_option maxRecDepth 100000
set_option maxHeartbeats 4000000
namespace Pg
open PySem L2 Fr0 Tx
structure zd(rows:List Rw)(acc:Pl):Prop where
 hand:∀(i:Nat) (r:Rw),rows[i]? =some r→az (kindOf r)=true→∃j:Nat,bq acc i=some (j:Int)∧j < (aE r).length
 oth:∀(i:Nat) (r:Rw),rows[i]? =some r→az (kindOf r)=false→bq acc i=none
theorem Dp{rows:List Rw}{p1 p2:Pl}(h:∀i,i < rows.length→aZ rows p1 p2 i=true):zd rows (iQ rows p1 p2 rows.length):=by
 refine ⟨fun i r hi hk=> ?_,fun i r hi hk=> ?_⟩
 ·have il:=(List.getElem?_eq_some_iff.mp hi).1
  have g:=h i il
  unfold aZ at g
  rw [hi] at g
  have g:eL p1 p2 i r=true:=g
  obtain ⟨pl,e⟩:∃pl,aW p1 p2 (kindOf r)=some pl:=by
   unfold az at hk
   rw [Bool.or_eq_true,beq_iff_eq,beq_iff_eq] at hk
   rcases hk with e | e <;> rw [e]
   ·exact ⟨p1,rfl⟩
   ·exact ⟨p2,rfl⟩
  unfold eL at g
  rw [e] at g
  have g:br pl i (aE r).length=true:=g
  unfold br at g
  cases hv:bq pl i with
  | none=>rw [hv] at g;cases g
  | some v=>
   rw [hv] at g
   have g:(decide (0≤v)&&decide (v < ((aE r).length:Int)))=true:=g
   rw [Bool.and_eq_true,decide_eq_true_iff,decide_eq_true_iff] at g
   refine ⟨v.toNat, ?_,by omega⟩
   rw [om,if_pos il,hi]
   show Option.map (fun pl=>(bq pl i).getD 0) (aW p1 p2 (kindOf r))=_
   rw [e]
   show some ((bq pl i).getD 0)=_
   rw [hv,Int.toNat_of_nonneg g.1];rfl
 ·have il:=(List.getElem?_eq_some_iff.mp hi).1
  rw [om,if_pos il,hi]
  show Option.map (fun pl=>(bq pl i).getD 0) (aW p1 p2 (kindOf r))=_
  rw [iH hk];rfl
def gJ(acc:Pl)(i:Nat)(r:Rw):List DrG:=match bq acc i with
 | some j=>let d:=(aE r).getD j.toNat d0;[(d.1,d.2.1,d.2.2++[(1,1)])]
 | none=>aE r
def fB(share:Fr)(rows:List Rw)(acc:Pl)(tb:List Fr):List Fr:=(List.range rows.length).map fun i:Nat=>match rows[i]? with
 | some r=>(match bq acc i with
  | some j=>cf share tb ((aE r).getD j.toNat d0)
  | none=>qe share tb r)
 | none=>(0,1)
def eu(rows:List Rw):List Fr:=rows.map fun r=>match r with
 | .fin p=>p
 | .doors _ _=>(0,1)
section
variable{P:Program}{w:World}{K:PySem.W.Frag}{mg:Str→Option Value}{base:Heap}{Cn CN CF Ca Cj Ce Cf Ci Ck Cb Cd Cl:Addr}
def yS(A:Addr):DF:=fun as M q _=>∃share rows i r k acc,as=[aP A share rows, .int (i:Nat), .loc k]∧M[k]? =some (dP acc)∧rows[i]? =some r∧fh r∧zd rows acc∧q (.lst ((gJ acc i r).map drG)) M
theorem jg:au ["floor","place","doors","ways"] ["floor","place","doors"] (ae dc):=⟨rfl,rfl,rfl,by decide+kernel,rfl,by decide+kernel,by decide+kernel⟩
theorem nr{f:Addr}{fd:FuncData}(F:Fun K "ways_from" "ways_from" dc f fd)(E:Ev K mg Cn CN CF Ca Cj Ce Cf Ci Ck Cb Cd Cl){fFloorDoors:Addr}{dFloorDoors:FuncData}(c_FloorDoors:fM P w K mg base 2 Cn "doors" ["self","place"] (jF Cn) fFloorDoors dFloorDoors){fFloorKind:Addr}{dFloorKind:FuncData}(c_FloorKind:fM P w K mg base 1 Cn "kind" ["self","place"] (mC Cn) fFloorKind dFloorKind):bC P w K mg base (CX1 P w) 3 f fd ["floor","place","doors"] (spD K (yS Cn)):=by
 refine F.okD jg (fun ds M q x h=> ?_) (fun cdv A outer s H E' hr=>⟨_,(ag (ax (i:=3) jg.nd rfl (Or.inl rfl) (gM (bY c_FloorDoors hr ak (jv 0) (aa (jv 1) af (hs:=aj)))))
   (ag (bc (wL (bY c_FloorKind hr ak (jv 0) (aa (jv 1) af (hs:=aj))) (AU E.mHANDS)) (ah (av (lP (aa (cU (aY (jv 3) (cW hr (jv 2) (jv 1))) (iE 3 (d:= .tup [.tup [.int 1, .int 1]]) (by rfl))) af (hs:=bQ))))) aB)
   (ah (av (jv 3))))),fun ds M q x h=> ?_⟩)
 ·obtain ⟨share,rows,i,r,k,acc,rfl,_⟩:=h;rfl
 ·obtain ⟨share,rows,i,r,k,acc,rfl,hk,hi,ro,dk,h⟩:=h
  refine ⟨⟨_,_, .inl rfl,rfl⟩,share,rows,i,r,rfl,hi,ro,fS (dY _) ?_⟩
  refine ⟨⟨_,_, .inl rfl,rfl⟩,share,rows,i,r,rfl,hi, ?_⟩
  refine ⟨_,_,_,rfl,rfl,rfl, ?_⟩
  rw [oZ]
  cases hh:az (kindOf r) with
  | true=>
   refine ⟨fun _=> ?_,fun z=>(nomatch z)⟩
   obtain ⟨j,hj,jl⟩:=dk.hand i r hi hh
   have dg:aT (kP acc) (vP acc) (Sum.inl (i:Int))=some (.int (j:Int)):=by rw [lU,hj];rfl
   have e:gJ acc i r=[(((aE r).getD j d0).1,((aE r).getD j d0).2.1,((aE r).getD j d0).2.2++[(1,1)])]:=by
    unfold gJ;rw [hj];rfl
   rw [e] at h
   have gd:(aE r).getD j d0=(aE r)[j]:=by rw [List.getD_eq_getElem?_getD,List.getElem?_eq_getElem jl];rfl
   have dm:(aE r)[j].2.2.length≤1:=by
    cases r with
    | fin p=>exact absurd jl (Nat.not_lt_zero _)
    | doors k' ds=>exact (ro.2.2.2 _ (List.getElem_mem jl)).1
   rw [gd] at h
   obtain ⟨d,hd⟩:∃d,d=(aE r)[j]:=⟨_,rfl⟩
   rw [←hd] at h dm
   walk_at "vc"
   refine ⟨k,_,_,Sum.inl (i:Int),_,rfl,hk,rfl,dg, ?_⟩
   refine (aD (d:= .lst ((aE r).map drG)) rfl (Dq jl) ?_:fIx (.lst ((aE r).map drG)) (.int (j:Int)) _ _)
   rw [←hd]
   have sz:∀{z:Nat},z≤1000→z≤sizeLine:=fun h=>Nat.le_trans h (by decide)
   refine ⟨⟨fun z=>(nomatch z),sz ?_⟩,sz (by decide), ?_⟩
   ·simp;omega
   have e2:drG (d.1,d.2.1,d.2.2++[(1,1)])= .tup ((.int d.1::frD d.2.1::d.2.2.map frD)++[.tup [.int 1, .int 1]]):=by
    unfold drG;rw [List.map_append];rfl
   have h:q (.lst [drG (d.1,d.2.1,d.2.2++[(1,1)])]) M:=h
   rw [e2] at h
   exact h
  | false=>
   refine ⟨fun z=>(nomatch z),fun _=> ?_⟩
   have e:gJ acc i r=aE r:=by unfold gJ;rw [dk.oth i r hi hh]
   rw [e] at h
   exact h
def uq(A:Addr):DF:=fun as M q _=>∃share rows,as=[aP A share rows]∧rows.length≤12∧(∀r∈rows,fh r)∧q (.lst ((eu rows).map frD)) M
theorem kS:au ["floor"] ["floor"] (ae bu):=⟨rfl,rfl,rfl,by decide+kernel,rfl,by decide+kernel,by decide+kernel⟩
theorem j3{f:Addr}{fd:FuncData}(F:Fun K "first_means" "first_means" bu f fd)(E:Ev K mg Cn CN CF Ca Cj Ce Cf Ci Ck Cb Cd Cl){fFloorSize:Addr}{dFloorSize:FuncData}(c_FloorSize:fM P w K mg base 1 Cn "size" ["self"] (oq Cn) fFloorSize dFloorSize){fFloorPay:Addr}{dFloorPay:FuncData}(c_FloorPay:fM P w K mg base 2 Cn "pay" ["self","place"] (BH Cn) fFloorPay dFloorPay):bC P w K mg base (CX1 P w) 3 f fd ["floor"] (spD K (uq Cn)):=by
 refine F.okD kS (fun ds M q x h=> ?_) (fun cdv A outer s H E' hr=>⟨_,(ah (av (wR (ys:=["floor"]) (caps:=[0]) ⟨rfl,by decide+kernel,by decide+kernel,rfl,(by show∀p:Str×NameKind,p∈_→p.2=NameKind.free→List.lookup p.1 (ae bu).names=some .cell;decide+kernel),by decide+kernel,(by show∀q:Str×Nat,q∈_→(["floor"]:List Str)[q.2]? =some q.1∧List.lookup q.1 (ae bu).names=some .cell∧_;decide+kernel),rfl⟩ (bG E.n_range (aa (iD c_FloorSize hr ak (jv 0)) af (hs:=bI))) (fun C s H fp=>(vn (AD (bY c_FloorPay hr (fw (P:=P) (w:=w)) (jv 1) (aa (jv 0) af (hs:=aj))) yp) (ff (aa ay (aa ay af (hs:=cy)) (hs:=cy))) (bY c_FloorPay hr (fw (P:=P) (w:=w)) (jv 1) (aa (jv 0) af (hs:=aj)))))))),fun ds M q x h=> ?_⟩)
 ·obtain ⟨share,rows,rfl,_⟩:=h;rfl
 ·obtain ⟨share,rows,rfl,l12,ro,h⟩:=h
  have sz:∀{z:Nat},z≤1000→z≤sizeLine:=fun h=>Nat.le_trans h (by decide)
  walk_at "vc"
  dsimp only [vN]
  walk_at "vc"
  refine ⟨⟨_,_, .inl rfl,rfl⟩,share,rows,rfl, ?_⟩
  refine ⟨⟨by omega,by omega⟩,by rw [cB];exact sz (by omega), ?_⟩
  refine fU (f:=fun x=>match x with | .int j=>frD ((eu rows).getD j.toNat (0,1)) | _=> .non) _ _ (fun x hxm q' hq=> ?_) ?_
  ·obtain ⟨j,hj,rfl⟩:=fP hxm
   have hj:j < rows.length:=by omega
   rw [Int.zero_add] at hq⊢
   have hi:rows[j]? =some rows[j]:=List.getElem?_eq_getElem hj
   have e:(eu rows).getD j (0,1)=match rows[j] with | .fin p=>p | .doors _ _=>(0,1):=by
    unfold eu
    rw [List.getD_eq_getElem?_getD,List.getElem?_map,hi];rfl
   have hq:q' (frD ((eu rows).getD j (0,1))) M:=hq
   rw [e] at hq
   have rj:=ro _ (List.getElem_mem hj)
   generalize rows[j]=r at *
   walk_at "vc"
   refine ⟨⟨_,_, .inl rfl,rfl⟩,share,rows,j,r,rfl,hi,rj, ?_⟩
   cases r with
   | fin p=>
    refine ⟨fun z=>(nomatch z),fun _=> ?_⟩
    exact ⟨⟨_,_, .inl rfl,rfl⟩,share,rows,j, .fin p,rfl,hi,rj,hq⟩
   | doors k ds=>exact ⟨fun _=>⟨sz (by decide),hq⟩,fun z=>(nomatch z)⟩
  ·have fl:(eu rows).length=rows.length:=by unfold eu;simp
   have:=qW (eu rows) (0,1) frD
   rw [fl] at this
   rw [List.nil_append,show ((rows.length:Int)).toNat=rows.length by omega]
   rw [←this] at h
   exact h
def yV(A:Addr):DF:=fun as M q _=>∃share rows k acc tb E B F C,as=[aP A share rows, .loc k, .lst (tb.map frD)]∧M[k]? =some (dP acc)∧zd rows acc∧Fl share rows E B∧Gr F C∧Tb rows (E * F) C tb∧q (.loc M.length) (M++[.lst ((fB share rows acc tb).map frD)])
theorem fm:au ["floor","doors","means","told","place"] ["floor","doors","means"] (ae cD):=⟨rfl,rfl,rfl,by decide+kernel,rfl,by decide+kernel,by decide+kernel⟩
theorem lg{f:Addr}{fd:FuncData}(F:Fun K "more_means" "more_means" cD f fd)(E:Ev K mg Cn CN CF Ca Cj Ce Cf Ci Ck Cb Cd Cl){fFloorSize:Addr}{dFloorSize:FuncData}(c_FloorSize:fM P w K mg base 1 Cn "size" ["self"] (oq Cn) fFloorSize dFloorSize){fFloorShown:Addr}{dFloorShown:FuncData}(c_FloorShown:fM P w K mg base 4 Cn "shown" ["self","place","door","table"] (pG Cn) fFloorShown dFloorShown){fFloorLook:Addr}{dFloorLook:FuncData}(c_FloorLook:fM P w K mg base 6 Cn "look" ["self","place","table"] (yX Cn) fFloorLook dFloorLook):bC P w K mg base (CX1 P w) 7 f fd ["floor","doors","means"] (spD K (yV Cn)):=by
 refine F.okD fm (fun ds M q x h=> ?_) (fun cdv A outer s H E' hr=>⟨_,(ag (ax (i:=3) fm.nd rfl (Or.inl rfl) (lO af))
   (ag (iB (bG E.n_range (aa (iD c_FloorSize hr ak (jv 0)) af (hs:=bI))) (aK (i:=4) fm.nd rfl (Or.inl rfl)) cp (ah (bc (AH hr (jv 4) (jv 1)) (ah (fG (fb (jv 3) (aa (bY c_FloorShown hr ak (jv 0) (aa (jv 4) (aa (cW hr (jv 1) (jv 4)) (aa (jv 2) af (hs:=aj)) (hs:=cg)) (hs:=aj))) af (hs:=bI))))) (ah (fG (fb (jv 3) (aa (bY c_FloorLook hr ak (jv 0) (aa (jv 4) (aa (jv 2) af (hs:=aj)) (hs:=aj))) af (hs:=bI))))))))
   (ah (av (jv 3))))),fun ds M q x h=> ?_⟩)
 ·obtain ⟨share,rows,k,acc,tb,E,B,F,C,rfl,_⟩:=h;rfl
 ·obtain ⟨share,rows,k,acc,tb,Ep,B,Ft,C,rfl,hk,dk,fl,g,ht,h⟩:=h
  have l12:=fl.pl.len
  refine ⟨by decide, ?_⟩
  walk_at "vc"
  refine ⟨⟨_,_, .inl rfl,rfl⟩,share,rows,rfl, ?_⟩
  refine ⟨⟨by omega,by omega⟩, ?_⟩
  rw [show ((rows.length:Int)).toNat=rows.length by omega]
  have ml:(fB share rows acc tb).length=rows.length:=by unfold fB;simp
  refine cX (fun zs ρ' M'=>∃(i m:Nat) (o4:Option Dt),zs=gk (i:Int) m∧i+m=rows.length∧M'=M++[.lst (((fB share rows acc tb).take i).map frD)]∧ρ'=[some (aP Cn share rows),some (.loc k),some (.lst (tb.map frD)),some (.loc M.length),o4]) (fun x zs ρ' M' hj nxt=> ?_) (fun ρ' M' hj=> ?_) _ _ _ ⟨0,rows.length,none,rfl,by omega,rfl,rfl⟩
  ·obtain ⟨i,m,o4,ex,im,rfl,rfl⟩:=hj
   obtain ⟨m',rfl,rfl,rfl⟩:=cN ex
   have il:i < rows.length:=by omega
   have hi:rows[i]? =some rows[i]:=List.getElem?_eq_getElem il
   generalize hr0:rows[i]=r at *
   have rm:r∈rows:=List.mem_of_getElem? hi
   have ro:=(fl.pl.row r rm).1
   have mi:(fB share rows acc tb)[i]? =some (match bq acc i with | some j=>cf share tb ((aE r).getD j.toNat d0) | none=>qe share tb r):=by
    unfold fB
    rw [List.getElem?_map,List.getElem?_range il]
    show some (match rows[i]? with | some r=>_ | none=>_)=_
    rw [hi]
   have tk:(fB share rows acc tb).take (i+1)=(fB share rows acc tb).take i++[match bq acc i with | some j=>cf share tb ((aE r).getD j.toNat d0) | none=>qe share tb r]:=by
    rw [List.take_succ,mi];rfl
   have hk':(M++[MO.lst (((fB share rows acc tb).take i).map frD)])[k]? =some (dP acc):=eQ hk
   have app:∀v,v=(match bq acc i with | some j=>cf share tb ((aE r).getD j.toNat d0) | none=>qe share tb r)→∀Dn:fW,(∀o4,Dn.nx [some (aP Cn share rows),some (.loc k),some (.lst (tb.map frD)),some (.loc M.length),o4] (M++[.lst (((fB share rows acc tb).take (i+1)).map frD)]))→True:=fun _ _ _ _=>trivial
   refine ⟨k,_,_,Sum.inl (i:Int),rfl,hk',rfl, ?_⟩
   rw [A1]
   have lt:(((fB share rows acc tb).take i).map frD).length < sizeLine:=by
    rw [List.length_map,List.length_take];exact Nat.lt_of_le_of_lt (show _≤12 by omega) (by decide)
   have fin:=fun o4=>nxt [some (aP Cn share rows),some (.loc k),some (.lst (tb.map frD)),some (.loc M.length),o4] (M++[.lst (((fB share rows acc tb).take (i+1)).map frD)]) ⟨i+1,m',o4,by rw [Int.natCast_add];rfl,by omega,rfl,rfl⟩
   rw [tk,List.map_append] at fin
   clear app tk
   cases hh:az (kindOf r) with
   | true=>
    obtain ⟨j,hj,jl⟩:=dk.hand i r hi hh
    rw [hj] at fin⊢
    refine ⟨fun _=> ?_,fun z=>(nomatch z)⟩
    cases r with
    | fin p=>exact absurd jl (Nat.not_lt_zero _)
    | doors kd ds=>
     have dg:aT (kP acc) (vP acc) (Sum.inl (i:Int))=some (.int (j:Int)):=by rw [lU,hj];rfl
     have jl:j < ds.length:=jl
     have gd:ds.getD j d0=ds[j]:=by rw [List.getD_eq_getElem?_getD,List.getElem?_eq_getElem jl];rfl
     refine ⟨⟨_,_,rfl,cR⟩, ?_⟩
     refine ⟨⟨_,_, .inl rfl,rfl⟩, ?_⟩
     walk_at "vc"
     refine ⟨k,_,_,Sum.inl (i:Int),_,rfl,hk',rfl,dg, ?_⟩
     refine ⟨share,rows,tb,i,j,kd,ds,ds[j],Ep,B,Ft,C,rfl,hi,List.getElem?_eq_getElem jl,fl,g,ht, ?_⟩
     refine ⟨M.length,_,_,rfl,rfl,cR,lt, ?_⟩
     rw [fk]
     have fin:∀o4,_:=fin
     have e:cf share tb ((aE (.doors kd ds)).getD ((j:Int)).toNat d0)=cf share tb ds[j]:=by
      show cf share tb (ds.getD ((j:Int)).toNat d0)=_
      rw [Int.toNat_natCast,gd]
     have f2:=fin (some (.int (i:Int)))
     dsimp only at f2
     rw [e] at f2
     exact f2
   | false=>
    have hn:=dk.oth i r hi hh
    rw [hn] at fin⊢
    refine ⟨fun z=>(nomatch z),fun _=> ?_⟩
    have kd:kindOf r="chance"∨kindOf r="end":=by
     cases r with
     | fin p=>exact .inr rfl
     | doors k' ds=>
      rcases (aU fl.pl rm).kd with z | ⟨_,z,_⟩
      ·have hh:az k'=false:=hh
       rw [z] at hh;cases hh
      ·exact .inl z
    refine ⟨⟨_,_,rfl,cR⟩, ?_⟩
    refine ⟨⟨_,_, .inl rfl,rfl⟩, ?_⟩
    walk_at "vc"
    refine ⟨share,rows,tb,i,r,Ep,B,Ft,C,rfl,hi,kd,fl,g,ht, ?_⟩
    refine ⟨M.length,_,_,rfl,rfl,cR,lt, ?_⟩
    rw [fk]
    exact fin (some (.int (i:Int)))
  ·obtain ⟨i,m,o4,ex,im,rfl,rfl⟩:=hj
   have m0:m=0:=by
    have:=congrArg List.length ex
    rw [cB] at this;exact this.symm
   have:i=rows.length:=by omega
   subst this
   rw [←ml,List.take_length]
   exact h
end
end Pg
set_option maxRecDepth 100000
set_option maxHeartbeats 4000000
namespace Pg
open PySem L2 Fr0 Tx
theorem pN(p q:Fr):bV p q=bV q p:=by
 unfold bV
 rw [Int.mul_comm p.1,Int.mul_comm p.2]
theorem zw{M:Ms}{k:Nat}{xs:List Dt}(h:M[k]? =some (MO.lst xs)):qA M (.loc k)=some xs:=by
 show (match M[k]? with | some (MO.lst xs)=>some xs | _=>none)=some xs
 rw [h]
theorem wU{n p:Nat}(h:p < n):ixN n (p:Int)=some p:=by
 unfold ixN
 rw [if_pos (by omega),if_pos (by omega),Int.toNat_natCast]
theorem oH{α:Type}(a:α):∀u:Nat,(List.replicate u [a]).flatten=List.replicate u a
 | 0=>rfl
 | u+1=>by rw [List.replicate_succ,List.flatten_cons,oH a u];rfl
structure Br(rows:List Rw)(B:Int)(w:DrG):Prop where
 ex:∃(t:Nat) (c:Fr),w.1=(t:Int)∧t < rows.length∧w.2.2=[c]∧Ch B c
theorem Bl{B:Int}:Ch B (1,1):=⟨by decide,⟨B,by simp⟩,⟨by decide,by decide⟩,hW (k:=2) ⟨by decide,by decide,by decide⟩ (by decide)⟩
theorem xm{share:Fr}{rows:List Rw}{E B:Int}{acc:Pl}(fl:Fl share rows E B)(dk:zd rows acc){i:Nat}{r:Rw}(hi:rows[i]? =some r)(hk:kindOf r≠"end"):(gJ acc i r).length≤6∧∀w∈gJ acc i r,Br rows B w:=by
 have rm:r∈rows:=List.mem_of_getElem? hi
 cases r with
 | fin p=>exact absurd rfl hk
 | doors k ds=>
  have dr:=aU fl.pl rm
  cases hh:az k with
  | true=>
   obtain ⟨j,hj,jl⟩:=dk.hand i _ hi hh
   have jl:j < ds.length:=jl
   have gd:ds.getD j d0=ds[j]:=by rw [List.getD_eq_getElem?_getD,List.getElem?_eq_getElem jl];rfl
   have e:gJ acc i (.doors k ds)=[(ds[j].1,ds[j].2.1,ds[j].2.2++[(1,1)])]:=by
    unfold gJ
    rw [hj]
    show [((ds.getD ((j:Int)).toNat d0).1,(ds.getD ((j:Int)).toNat d0).2.1,(ds.getD ((j:Int)).toNat d0).2.2++[(1,1)])]=_
    rw [Int.toNat_natCast,gd]
   rw [e]
   refine ⟨by simp,fun w hw=> ?_⟩
   rw [List.mem_singleton.mp hw]
   obtain ⟨t0,t1⟩:=dr.to _ (List.getElem_mem jl)
   refine ⟨⟨ds[j].1.toNat,(1,1),(Int.toNat_of_nonneg t0).symm,by omega, ?_,Bl⟩⟩
   show ds[j].2.2++[(1,1)]=_
   rw [fl.hnd k ds rm hh _ (List.getElem_mem jl)];rfl
  | false=>
   have hc:k="chance":=by
    rcases dr.kd with z | ⟨_,z,_⟩
    ·rw [z] at hh;cases hh
    ·exact z
   subst hc
   have e:gJ acc i (.doors "chance" ds)=ds:=by
    unfold gJ
    rw [dk.oth i _ hi hh];rfl
   rw [e]
   refine ⟨dr.l6,fun w hw=> ?_⟩
   obtain ⟨t0,t1⟩:=dr.to w hw
   refine ⟨⟨w.1.toNat,aw w,(Int.toNat_of_nonneg t0).symm,by omega,((dr.ro.2.2.1 rfl).1 w hw),fl.chs rm _ (List.mem_map.mpr ⟨w,hw,rfl⟩)⟩⟩
theorem tq{P:Fr→Prop}{l:List Fr}{j:Nat}{v:Fr}(h:∀t∈l,P t)(hv:P v):∀t∈l.set j v,P t:=fun t ht=>by
 rcases List.mem_or_eq_of_mem_set ht with z | z
 ·exact h t z
 ·rw [z];exact hv
section
variable{P:Program}{w:World}{K:PySem.W.Frag}{mg:Str→Option Value}{base:Heap}{Cn CN CF Ca Cj Ce Cf Ci Ck Cb Cd Cl:Addr}
def yU(A:Addr):DF:=fun as M q _=>∃(share:Fr) (rows:List Rw) (k:Nat) (acc:Pl) (cs:List Fr) (E0 B E C:Int),as=[aP A share rows, .loc k, .lst (cs.map frD)]∧M[k]? =some (dP acc)∧zd rows acc∧Fl share rows E0 B∧cs.length=rows.length∧(∀c∈cs,Nb E C c)∧0 < E∧E < 2 ^ 1000∧0≤C∧C < 2 ^ 200∧
 ∀cs':List Fr,cs'.length=rows.length→(∀c∈cs',Nb (B * E) (100 * C) c)→q (.loc M.length) (M++[.lst (cs'.map frD)])
theorem bW:au ["floor","doors","chances","told","place","chance","way"] ["floor","doors","chances"] (ae bO):=⟨rfl,rfl,rfl,by decide+kernel,rfl,by decide+kernel,by decide+kernel⟩
theorem iZ{f:Addr}{fd:FuncData}(F:Fun K "chances_next" "chances_next" bO f fd)(E:Ev K mg Cn CN CF Ca Cj Ce Cf Ci Ck Cb Cd Cl){fFloorSize:Addr}{dFloorSize:FuncData}(c_FloorSize:fM P w K mg base 1 Cn "size" ["self"] (oq Cn) fFloorSize dFloorSize){fFloorKind:Addr}{dFloorKind:FuncData}(c_FloorKind:fM P w K mg base 1 Cn "kind" ["self","place"] (mC Cn) fFloorKind dFloorKind){fPlus:Addr}{dPlus:FuncData}(c_Plus:aR P w K mg base 3 "plus" ["one","other"] uk fPlus dPlus){fWaysFrom:Addr}{dWaysFrom:FuncData}(c_WaysFrom:aR P w K mg base 3 "ways_from" ["floor","place","doors"] (yS Cn) fWaysFrom dWaysFrom){fTimes:Addr}{dTimes:FuncData}(c_Times:aR P w K mg base 3 "times" ["one","other"] mB fTimes dTimes):bC P w K mg base (CX1 P w) 4 f fd ["floor","doors","chances"] (spD K (yU Cn)):=by
 refine F.okD bW (fun ds M q x h=> ?_) (fun cdv A outer s H E' hr=>⟨_,(ag (ax (i:=3) bW.nd rfl (Or.inl rfl) (AM (iE 3 (d:= .lst [.tup [.int 0, .int 1]]) (by rfl)) (iD c_FloorSize hr ak (jv 0))))
   (ag (eI (sF E.n_enumerate (aa (jv 2) af (hs:=aj))) (kY rfl (cv (aK (i:=4) bW.nd rfl (Or.inl rfl)) (cv (aK (i:=5) bW.nd rfl (Or.inl rfl)) ij))) sX (ag (bc (dR hr (bY c_FloorKind hr ak (jv 0) (aa (jv 4) af (hs:=aj))) gG) (ag (oW (jv 3) (jv 4) (bR c_Plus hr ak (aa (aY (jv 3) (jv 4)) (aa (jv 5) af (hs:=aj)) (hs:=cg))))
   (ah iC)) aB)
   (ah (eI (ef (gM (bR c_WaysFrom hr ak (aa (jv 0) (aa (jv 4) (aa (jv 1) af (hs:=aj)) (hs:=aj)) (hs:=aj))))) (aK (i:=6) bW.nd rfl (Or.inl rfl)) cp (ah (oW (jv 3) (aY (jv 6) ay) (bR c_Plus hr ak (aa (aY (jv 3) (aY (jv 6) ay)) (aa (bR c_Times hr ak (aa (jv 5) (aa (aY (jv 6) ay) af (hs:=cg)) (hs:=aj))) af (hs:=bI)) (hs:=cg)))))))))
   (ah (av (jv 3))))),fun ds M q x h=> ?_⟩)
 ·obtain ⟨share,rows,k,acc,cs,E0,B,E,C,rfl,_⟩:=h;rfl
 ·obtain ⟨share,rows,k,acc,cs,E0,B,Ec,C,rfl,hk,dk,fl,cl,hcs,e0,e1,c0,c1,h⟩:=h
  have l12:=fl.pl.len
  have sz:∀{z:Nat},z≤1000→z≤sizeLine:=fun h=>Nat.le_trans h (by decide)
  obtain ⟨be0,be1⟩:=aX fl.b0 fl.b1 e0 e1
  have be1:B * Ec < 2 ^ 2200:=Int.lt_of_lt_of_le be1 (by decide)
  have bd:∀n:Nat,n≤100→Bd (B * Ec) (n * C):=fun n hn=>by
   have a:(n:Int) * C≤100 * C:=Int.mul_le_mul_of_nonneg_right (by omega) c0
   have b:0≤(n:Int) * C:=Int.mul_nonneg (by omega) c0
   exact ⟨be0,be1,b,by omega⟩
  have add:∀(n:Nat) (t v:Fr),n+1≤100→Nb (B * Ec) (n * C) t→Nb (B * Ec) C v→Nb (B * Ec) ((n+1:Nat) * C) (ft t v):=fun n t v hn ht hv=>by
   have e:((n+1:Nat):Int) * C=n * C+C:=by rw [Int.natCast_add,Int.add_mul];simp
   have b:=bd (n+1) hn
   rw [e] at b⊢
   exact nE ht hv b
  walk_at "vc"
  refine ⟨⟨_,_, .inl rfl,rfl⟩,share,rows,rfl, ?_⟩
  refine ⟨[.tup [.int 0, .int 1]],(rows.length:Int),rfl,rfl,by omega,by omega, ?_, ?_⟩
  ·show 1 * ((rows.length:Int)).toNat≤sizeLine
   exact sz (by omega)
  rw [show ((rows.length:Int)).toNat=rows.length by omega,oH,show List.replicate rows.length (Dt.tup [.int 0, .int 1])=(List.replicate rows.length ((0,1):Fr)).map frD by rw [List.map_replicate];rfl]
  refine ⟨.lst (cs.map frD),cs.map frD,fun _=>True,rfl,rfl, ?_⟩
  refine dW (fun xs ρ M'=>∃(n:Nat) (rest:List Fr) (tl:List Fr) (o4 o5 o6:Option Dt),xs=iL n (rest.map frD)∧n+rest.length=rows.length∧(∀c∈rest,Nb Ec C c)∧tl.length=rows.length∧(∀t∈tl,Nb (B * Ec) ((6 * n:Nat) * C) t)∧M'=M++[.lst (tl.map frD)]∧ρ=[some (aP Cn share rows),some (.loc k),some (.lst (cs.map frD)),some (.loc M.length),o4,o5,o6]) (fun xs ρ M' hj=>trivial) (fun x xs ρ M' hj nxt=> ?_) (fun ρ M' hj=> ?_) _ _ _ ⟨0,cs,List.replicate rows.length (0,1),none,none,none,rfl,by omega,hcs,by simp,fun t ht=> ?_,rfl,rfl⟩
  ·obtain ⟨n,rest,tl,o4,o5,o6,ex,nl,hrest,tll,htl,rfl,rfl⟩:=hj
   cases rest with
   | nil=>cases ex
   | cons c rest=>
    cases ex
    have nl:n+(rest.length+1)=rows.length:=nl
    have il:n < rows.length:=by omega
    have hc:=hrest c List.mem_cons_self
    have hi:rows[n]? =some rows[n]:=List.getElem?_eq_getElem il
    generalize hr0:rows[n]=r at *
    have rm:r∈rows:=List.mem_of_getElem? hi
    have ro:=(fl.pl.row r rm).1
    have wider:∀m:Nat,6 * n≤m→m≤6 * (n+1)→∀tl':List Fr,(∀t∈tl',Nb (B * Ec) ((m:Nat) * C) t)→∀t∈tl',Nb (B * Ec) ((6 * (n+1):Nat) * C) t:=fun m h1 h2 tl' ht t htt=>j6 (ht t htt) (Int.mul_le_mul_of_nonneg_right (by omega) c0)
    refine ⟨⟨_,_, .inl rfl,rfl⟩,share,rows,n,r,rfl,hi, ?_⟩
    have hk':∀tl':List Fr,(M++[MO.lst (tl'.map frD)])[k]? =some (dP acc):=fun tl'=>eQ hk
    have rd:∀(tl':List Fr) (j:Nat),j < tl'.length→∀q:DQ,q (frD (tl'.getD j (0,1))) (M++[MO.lst (tl'.map frD)])→fIx (.loc M.length) (.int (j:Int)) (M++[MO.lst (tl'.map frD)]) q:=fun tl' j hj q hq=>by
     refine aD (d:= .loc M.length) (zw cR) (A5 hj) ?_
     rwa [List.getD_eq_getElem?_getD,List.getElem?_eq_getElem hj] at hq
    have gm:∀(tl':List Fr) (j:Nat),j < tl'.length→tl'.getD j (0,1)∈tl':=fun tl' j hj=>by rw [List.getD_eq_getElem?_getD,List.getElem?_eq_getElem hj];exact List.getElem_mem _
    refine ⟨fun z=> ?_,fun z=> ?_⟩
    ·have hcB:Nb (B * Ec) C c:=by rw [Int.mul_comm];exact lF B hc
     walk_at "vc"
     dsimp only [qS]
     walk_at "vc"
     refine rd tl n (by omega) _ ?_
     refine ⟨tl.getD n (0,1),c,2600,2600,rfl,(htl _ (gm tl n (by omega))).sz,hc.sz,by decide, ?_⟩
     refine ⟨M.length,(n:Int),_,n,rfl,rfl,cR,by rw [List.length_map];exact wU (by omega), ?_⟩
     rw [fk,show ((tl.map frD).set n (frD (ft (tl.getD n (0,1)) c)))=(tl.set n (ft (tl.getD n (0,1)) c)).map frD by rw [List.map_set]]
     refine nxt _ _ ⟨n+1,rest,_,_,_,_,rfl,by omega,fun c hc=>hrest c (List.mem_cons_of_mem _ hc),by rw [List.length_set];exact tll, ?_,rfl,rfl⟩
     exact wider (6 * n+1) (by omega) (by omega) _ (tq (fun t ht=>j6 (htl t ht) (Int.mul_le_mul_of_nonneg_right (by omega) c0)) (add (6 * n) _ _ (by omega) (htl _ (gm tl n (by omega))) hcB))
    ·have hne:kindOf r≠"end":=of_decide_eq_false z
     obtain ⟨w6,wok⟩:=xm fl dk hi hne
     dsimp only [xA,iG,dFz]
     walk_at "vc"
     refine ⟨share,rows,n,r,k,acc,rfl,hk' tl,hi,ro,dk,tj (dY _) ?_⟩
     refine dW (fun xs ρ M'=>∃(ws:List DrG) (m:Nat) (tl:List Fr) (o6:Option Dt),xs=ws.map drG∧m+ws.length≤6∧(∀w∈ws,Br rows B w)∧tl.length=rows.length∧(∀t∈tl,Nb (B * Ec) ((6 * n+m:Nat) * C) t)∧M'=M++[.lst (tl.map frD)]∧ρ=[some (aP Cn share rows),some (.loc k),some (.lst (cs.map frD)),some (.loc M.length),some (.int (n:Int)),some (frD c),o6]) (fun xs ρ M' hj=>trivial) (fun x xs ρ M' hj nxt2=> ?_) (fun ρ M' hj=> ?_) _ _ _ ⟨gJ acc n r,0,tl,o6,rfl,by omega,wok,tll,htl,rfl,rfl⟩
     ·obtain ⟨ws,m,tl,o6,ex,ml,hws,tll,htl,rfl,rfl⟩:=hj
      cases ws with
      | nil=>cases ex
      | cons v ws=>
       cases ex
       rw [List.length_cons] at ml
       obtain ⟨t,ch,et,tlt,ech,hch⟩:=(hws v List.mem_cons_self).ex
       have i2:∀(M:Ms) (q:DQ),q (frD ch) M→fIx (drG v) (.int 2) M q:=fun M q hq=>aD (xs:= .int v.1::frD v.2.1::v.2.2.map frD) rfl (aG (j:=2) (by rw [ech];rfl)) hq
       have tv:Nb (B * Ec) C (bV c ch):=by rw [pN];exact gZ hch.pos hch.he hch.u hc (by have:=bd 1 (by decide);rwa [Int.natCast_one,Int.one_mul] at this)
       walk_at "vc"
       dsimp only [qS]
       walk_at "vc"
       refine yG ?_
       rw [et]
       refine rd tl t (by omega) _ ?_
       refine i2 _ _ ?_
       refine ⟨c,ch,2600,300,rfl,hc.sz,hch.sz,by decide, ?_⟩
       refine ⟨tl.getD t (0,1),bV c ch,2600,2600,rfl,(htl _ (gm tl t (by omega))).sz,tv.sz,by decide, ?_⟩
       refine yG ?_
       rw [et]
       refine ⟨M.length,(t:Int),_,t,rfl,rfl,cR,by rw [List.length_map];exact wU (by omega), ?_⟩
       rw [fk,show ((tl.map frD).set t (frD (ft (tl.getD t (0,1)) (bV c ch))))=(tl.set t (ft (tl.getD t (0,1)) (bV c ch))).map frD by rw [List.map_set]]
       refine nxt2 _ _ ⟨ws,m+1,_,_,rfl,by omega,fun w hw=>hws w (List.mem_cons_of_mem _ hw),by rw [List.length_set];exact tll, ?_,rfl,rfl⟩
       exact tq (fun t ht=>j6 (htl t ht) (Int.mul_le_mul_of_nonneg_right (by omega) c0)) (add (6 * n+m) _ _ (by omega) (htl _ (gm tl t (by omega))) tv)
     ·obtain ⟨ws,m,tl,o6,ex,ml,hws,tll,htl,rfl,rfl⟩:=hj
      exact nxt _ _ ⟨n+1,rest,tl,_,_,_,rfl,by omega,fun c hc=>hrest c (List.mem_cons_of_mem _ hc),tll,wider (6 * n+m) (by omega) (by omega) _ htl,rfl,rfl⟩
  ·obtain ⟨n,rest,tl,o4,o5,o6,ex,nl,hrest,tll,htl,rfl,rfl⟩:=hj
   cases rest with
   | cons c rest=>cases ex
   | nil=>
    have nl:n+0=rows.length:=nl
    exact h tl tll fun t ht=>j6 (htl t ht) (Int.mul_le_mul_of_nonneg_right (by omega) c0)
  ·rw [List.eq_of_mem_replicate ht]
   show Nb (B * Ec) ((6 * 0:Nat) * C) (0,1)
   rw [show ((6 * 0:Nat):Int) * C=0 by simp]
   exact An
end
end Pg
set_option maxRecDepth 100000
set_option maxHeartbeats 4000000
namespace Pg
open PySem L2 Fr0 Tx
section
variable{share:Fr}{rows:List Rw}{E B F C:Int}{tb:List Fr}{acc:Pl}
theorem ye(fl:Fl share rows E B)(g:Gr F C)(ht:Tb rows (E * F) C tb)(dk:zd rows acc):Tb rows (E * (F * (share.2 * B))) (6 * (10 ^ 30+C)) (fB share rows acc tb):=by
 have c0:=g.c0
 refine ⟨by unfold fB;simp,fun t ht'=> ?_⟩
 unfold fB at ht'
 obtain ⟨i,hi,rfl⟩:=List.mem_map.mp ht'
 have il:=List.mem_range.mp hi
 have hi:rows[i]? =some rows[i]:=List.getElem?_eq_getElem il
 rw [hi]
 generalize rows[i]=r at *
 have rm:r∈rows:=List.mem_of_getElem? hi
 dsimp only
 cases hh:az (kindOf r) with
 | true=>
  obtain ⟨j,hj,jl⟩:=dk.hand i r hi hh
  rw [hj]
  cases r with
  | fin p=>exact absurd jl (Nat.not_lt_zero _)
  | doors k ds=>
   have jl:j < ds.length:=jl
   have gd:ds.getD j d0=ds[j]:=by rw [List.getD_eq_getElem?_getD,List.getElem?_eq_getElem jl];rfl
   show Nb _ _ (cf share tb (ds.getD ((j:Int)).toNat d0))
   rw [Int.toNat_natCast,gd]
   have:=lF B (jN fl g ht rm (List.getElem_mem jl))
   rw [show E * F * share.2 * B=E * (F * (share.2 * B)) by grind] at this
   exact j6 this (by omega)
 | false=>
  rw [dk.oth i r hi hh]
  refine yg fl g ht rm ?_
  cases r with
  | fin p=>exact .inr rfl
  | doors k' ds=>
   rcases (aU fl.pl rm).kd with z | ⟨_,z,_⟩
   ·have hh:az k'=false:=hh
    rw [z] at hh;cases hh
   ·exact .inl z
theorem vC(fl:Fl share rows E B):Tb rows (E * 1) (10 ^ 30) (eu rows):=by
 refine ⟨by unfold eu;simp,fun t ht=> ?_⟩
 unfold eu at ht
 obtain ⟨r,hr,rfl⟩:=List.mem_map.mp ht
 rw [Int.mul_one]
 cases r with
 | fin p=>exact fl.fin p hr
 | doors k ds=>exact j6 An (by decide)
end
section
variable{P:Program}{w:World}{K:PySem.W.Frag}{mg:Str→Option Value}{base:Heap}{Cn CN CF Ca Cj Ce Cf Ci Ck Cb Cd Cl:Addr}
def yW(A CP:Addr):DF:=fun as M q x=>∃(share:Fr) (rows:List Rw) (k1 k2:Nat) (p1 p2:Pl) (pl tn:Nat) (E B:Int),as=[aP A share rows, .loc k1, .loc k2, .int (pl:Nat), .int (tn:Nat)]∧M[k1]? =some (dP p1)∧M[k2]? =some (dP p2)∧pl < rows.length∧tn≤3∧Fl share rows E B∧
 ((∀i,i < rows.length→aZ rows p1 p2 i=true)→∀(E':Ms) (f:Fr) (cs:List Fr),q (.tup [frD f, .lst (cs.map frD)]) (M++E'))∧
 ∀j,j < rows.length→aZ rows p1 p2 j=false→(∀i,i < j→aZ rows p1 p2 i=true)→∀E',x CP [("place", .int (j:Int))] (M++E')
theorem dI:au ["floor","plan_one","plan_other","place","turns","doors","means","chances","turn"] ["floor","plan_one","plan_other","place","turns"] (ae eC):=⟨rfl,rfl,rfl,by decide+kernel,rfl,by decide+kernel,by decide+kernel⟩
theorem rS{f:Addr}{fd:FuncData}(F:Fun K "mean_of" "mean_of" eC f fd)(E:Ev K mg Cn CN CF Ca Cj Ce Cf Ci Ck Cb Cd Cl){fDoorsOf:Addr}{dDoorsOf:FuncData}(c_DoorsOf:aR P w K mg base 4 "doors_of" ["floor","plans"] (kB Cn Cj) fDoorsOf dDoorsOf){fFirstMeans:Addr}{dFirstMeans:FuncData}(c_FirstMeans:aR P w K mg base 3 "first_means" ["floor"] (uq Cn) fFirstMeans dFirstMeans){fFloorSize:Addr}{dFloorSize:FuncData}(c_FloorSize:fM P w K mg base 1 Cn "size" ["self"] (oq Cn) fFloorSize dFloorSize){fMoreMeans:Addr}{dMoreMeans:FuncData}(c_MoreMeans:aR P w K mg base 7 "more_means" ["floor","doors","means"] (yV Cn) fMoreMeans dMoreMeans){fChancesNext:Addr}{dChancesNext:FuncData}(c_ChancesNext:aR P w K mg base 4 "chances_next" ["floor","doors","chances"] (yU Cn) fChancesNext dChancesNext):bC P w K mg base (CX1 P w) 8 f fd ["floor","plan_one","plan_other","place","turns"] (spD K (yW Cn Cj)):=by
 refine F.okD dI (fun ds M q x h=> ?_) (fun cdv A outer s H E' hr=>⟨_,(ag (ax (i:=5) dI.nd rfl (Or.inl rfl) (bR c_DoorsOf hr ak (aa (jv 0) (aa (nN (jv 1) (jv 2)) af) (hs:=aj))))
   (ag (ax (i:=6) dI.nd rfl (Or.inl rfl) (bR c_FirstMeans hr ak (aa (jv 0) af (hs:=aj))))
   (ag (jy (i:=7) dI.nd rfl (Or.inl rfl) (ys:=["place"]) (caps:=[3]) ⟨rfl,by decide+kernel,by decide+kernel,rfl,(by show∀p:Str×NameKind,p∈_→p.2=NameKind.free→List.lookup p.1 (ae eC).names=some .cell;decide+kernel),by decide+kernel,(by show∀q:Str×Nat,q∈_→(["floor","plan_one","plan_other","place","turns","doors","means","chances","turn"]:List Str)[q.2]? =some q.1∧List.lookup q.1 (ae eC).names=some .cell∧_;decide+kernel),rfl⟩ (bG E.n_range (aa (iD c_FloorSize hr ak (jv 0)) af (hs:=bI))) (fun C s H fp=>(vn (dR hr (jv 0) (jv 1)) (ff (aa ay (aa ay af (hs:=cy)) (hs:=cy))) (ff (aa ay (aa ay af (hs:=cy)) (hs:=cy))))))
   (ag (iB (bG E.n_range (aa (jv 4) af (hs:=aj))) (aK (i:=8) dI.nd rfl (Or.inl rfl)) cp (ag (ax (i:=6) dI.nd rfl (Or.inl rfl) (gM (bR c_MoreMeans hr ak (aa (jv 0) (aa (jv 5) (aa (jv 6) af (hs:=aj)) (hs:=aj)) (hs:=aj)))))
   (ah (ax (i:=7) dI.nd rfl (Or.inl rfl) (gM (bR c_ChancesNext hr ak (aa (jv 0) (aa (jv 5) (aa (jv 7) af (hs:=aj)) (hs:=aj)) (hs:=aj))))))))
   (ah (av (ff (aa (aY (jv 6) (jv 3)) (aa (jv 7) af (hs:=aj)) (hs:=cg))))))))),fun ds M q x h=> ?_⟩)
 ·obtain ⟨share,rows,k1,k2,p1,p2,pl,tn,E,B,rfl,_⟩:=h;rfl
 ·obtain ⟨share,rows,k1,k2,p1,p2,pl,tn,Ep,B,rfl,h1,h2,pll,tn3,fl,hg,hb⟩:=h
  have l12:=fl.pl.len
  have sz:∀{z:Nat},z≤1000→z≤sizeLine:=fun h=>Nat.le_trans h (by decide)
  obtain ⟨s0,s1,su⟩:=gT fl.pl.sh
  have ro:∀r∈rows,fh r:=fun r hr=>(fl.pl.row r hr).1
  refine ⟨share,rows,M.length,p1,p2,rfl,⟨k1,k2,cR,eQ h1,eQ h2⟩,fl.pl,fun gd=> ?_,fun j jl bj gj E'=> ?_⟩
  ·have dk:=Dp gd
   generalize hacc:iQ rows p1 p2 rows.length=acc at *
   generalize hM1:M++[MO.dct [Sum.inr "one",Sum.inr "other"] [.loc k1, .loc k2]]=M1 at *
   refine ⟨share,rows,rfl,l12,ro, ?_⟩
   dsimp only [vN]
   walk_at "vc"
   refine ⟨⟨_,_, .inl rfl,rfl⟩,share,rows,rfl, ?_⟩
   refine ⟨⟨by omega,by omega⟩,by rw [cB];exact sz (by omega), ?_⟩
   refine fU (f:=fun x=>match x with | .int j=>frD (if j=(pl:Int) then (1,1) else (0,1)) | _=> .non) _ _ (fun x hxm q' hq=> ?_) ?_
   ·obtain ⟨j,hj,rfl⟩:=fP hxm
    rw [Int.zero_add] at hq⊢
    have hq:q' (frD (if (j:Int)=(pl:Int) then (1,1) else (0,1))) _:=hq
    refine ⟨fun z=> ?_,fun z=> ?_⟩
    ·have z:(j:Int)=(pl:Int):=of_decide_eq_true z
     rw [if_pos z] at hq
     exact ⟨sz (by decide),hq⟩
    ·have z:¬(j:Int)=(pl:Int):=of_decide_eq_false z
     rw [if_neg z] at hq
     exact ⟨sz (by decide),hq⟩
   obtain ⟨cs,hcs⟩:∃cs:List Fr,cs=(List.range rows.length).map fun j:Nat=>if (j:Int)=(pl:Int) then ((1,1):Fr) else (0,1):=⟨_,rfl⟩
   have er:∀g:Dt→Dt,(∀c:Nat,g (.int (0+(c:Int)))=frD (if (c:Int)=(pl:Int) then ((1,1):Fr) else (0,1)))→(gk 0 ((rows.length:Int)).toNat).map g=cs.map frD:=fun g hg=>by
    rw [show ((rows.length:Int)).toNat=rows.length by omega,hcs]
    unfold gk
    rw [List.map_map,List.map_map]
    exact List.map_congr_left fun c hc=>hg c
   rw [List.nil_append,er _ fun c=>by show frD (if (0+(c:Int))=(pl:Int) then (1,1) else (0,1))=_;rw [Int.zero_add]]
   have csl:cs.length=rows.length:=by rw [hcs];simp
   have csn:∀c∈cs,Nb 1 1 c:=fun c hc=>by
    rw [hcs] at hc
    obtain ⟨j,_,rfl⟩:=List.mem_map.mp hc
    split
    ·exact ⟨by decide,⟨1,by decide⟩,⟨by decide,by decide⟩,hW (k:=2) ⟨by decide,by decide,by decide⟩ (by decide)⟩
    ·exact j6 An (by decide)
   clear er hcs
   refine ⟨by omega, ?_⟩
   rw [show ((tn:Int)).toNat=tn by omega]
   have hk:∀M2,M2=M1++[dP acc]→M2[M1.length]? =some (dP acc):=fun M2 e=>by rw [e];exact cR
   refine cX (fun zs ρ' M'=>∃(i m:Nat) (tb cs:List Fr) (Ft C Ec Cc:Int) (o8:Option Dt),zs=gk (i:Int) m∧i+m=tn∧M'=M1++[dP acc]∧Tb rows (Ep * Ft) C tb∧0 < Ft∧Ft < 2 ^ (260 * i+1)∧0≤C∧C≤2 ^ (100+10 * i)∧cs.length=rows.length∧(∀c∈cs,Nb Ec Cc c)∧0 < Ec∧Ec < 2 ^ (250 * i+1)∧0≤Cc∧Cc≤2 ^ (10 * i)∧ρ'=[some (aP Cn share rows),some (.loc k1),some (.loc k2),some (.int (pl:Int)),some (.int (tn:Int)),some (.loc M1.length),some (.lst (tb.map frD)),some (.lst (cs.map frD)),o8]) (fun x zs ρ' M' hj nxt=> ?_) (fun ρ' M' hj=> ?_) _ _ _ ⟨0,tn,eu rows,cs,1,10 ^ 30,1,1,none,rfl,by omega,rfl,vC fl,by decide,by decide,by decide,by decide,csl,csn,by decide,by decide,by decide,by decide,rfl⟩
   ·obtain ⟨i,m,tb,cs,Ft,C,Ec,Cc,o8,ex,im,rfl,ht,f0,f1,c0,c1,csl,csn,ec0,ec1,cc0,cc1,rfl⟩:=hj
    obtain ⟨m',rfl,rfl,rfl⟩:=cN ex
    have i2:i≤2:=by omega
    have p1:∀{a b:Nat},a≤b→(2:Int) ^ a≤2 ^ b:=fun {a b} h=>by
     have:=Nat.pow_le_pow_right (show 0 < 2 by decide) h
     exact_mod_cast this
    have g:Gr Ft C:=⟨f0,Int.lt_of_lt_of_le f1 (p1 (by omega)),c0,Int.lt_of_le_of_lt c1 (Int.lt_of_le_of_lt (p1 (show 100+10 * i≤130 by omega)) (by decide))⟩
    refine ⟨share,rows,M1.length,acc,tb,Ep,B,Ft,C,rfl,cR,dk,fl,g,ht,fS (kl _) ?_⟩
    refine ⟨share,rows,M1.length,acc,cs,Ep,B,Ec,Cc,rfl,cR,dk,fl,csl,csn,ec0,Int.lt_of_lt_of_le ec1 (p1 (by omega)),cc0,Int.lt_of_le_of_lt cc1 (Int.lt_of_le_of_lt (p1 (show 10 * i≤20 by omega)) (by decide)),fun cs' cl' cn'=>fS (kl _) ?_⟩
    obtain ⟨sb0,sb1⟩:=aX s0 (show share.2 < 2 ^ 10 by omega) fl.b0 fl.b1
    obtain ⟨ff0,ff1⟩:=aX f0 f1 sb0 sb1
    obtain ⟨be0,be1⟩:=aX fl.b0 fl.b1 ec0 ec1
    refine nxt _ _ ⟨i+1,m',_,cs',Ft * (share.2 * B),6 * (10 ^ 30+C),B * Ec,100 * Cc,_,by rw [Int.natCast_add];rfl,by omega,rfl,ye fl g ht dk,ff0, ?_,by omega, ?_,cl',cn',be0, ?_,by omega, ?_,rfl⟩
    ·exact Int.lt_of_lt_of_le ff1 (p1 (by omega))
    ·have e:(2:Int) ^ (100+10 * (i+1))=2 ^ (100+10 * i) * 1024:=by
      rw [show 100+10 * (i+1)=100+10 * i+10 by omega,Int.pow_add];rfl
     have x:(2:Int) ^ 100≤2 ^ (100+10 * i):=p1 (by omega)
     rw [e]
     generalize (2:Int) ^ (100+10 * i)=X at *
     omega
    ·exact Int.lt_of_lt_of_le be1 (p1 (by omega))
    ·have e:(2:Int) ^ (10 * (i+1))=2 ^ (10 * i) * 1024:=by
      rw [show 10 * (i+1)=10 * i+10 by omega,Int.pow_add];rfl
     rw [e]
     generalize (2:Int) ^ (10 * i)=X at *
     omega
   ·obtain ⟨i,m,tb,cs,Ft,C,Ec,Cc,o8,ex,im,rfl,ht,f0,f1,c0,c1,csl,csn,ec0,ec1,cc0,cc1,rfl⟩:=hj
    have tl:pl < tb.length:=by rw [ht.len];exact pll
    walk_at "vc"
    refine (aD (d:= .lst (tb.map frD)) rfl (A5 tl) ?_:fIx (.lst (tb.map frD)) (.int (pl:Int)) _ _)
    refine ⟨sz (by decide), ?_⟩
    rw [←hM1,List.append_assoc]
    exact hg gd _ _ cs
  ·rw [List.append_assoc]
   exact hb j jl bj gj _
end
end Pg
set_option maxRecDepth 100000
set_option maxHeartbeats 4000000
namespace Pg
open PySem L2 Fr0 Tx
def St3(M:Ms)(p1 p2:Pl):Ms:=M++[dP p1,dP p2, .dct [Sum.inr "one",Sum.inr "other"] [.loc M.length, .loc (M.length+1)]]
theorem mQ(M:Ms)(p1 p2:Pl):Two (St3 M p1 p2) (M.length+2) p1 p2:=by
 refine ⟨M.length,M.length+1, ?_, ?_, ?_⟩ <;> unfold St3
 ·rw [List.getElem?_append_right (by omega),show M.length+2 - M.length=2 by omega];rfl
 ·rw [List.getElem?_append_right (by omega),Nat.sub_self];rfl
 ·rw [List.getElem?_append_right (by omega),show M.length+1 - M.length=1 by omega];rfl
theorem xr(M:Ms)(p1 p2:Pl)(E:Ms):(St3 M p1 p2++E)[M.length+2]? =some (.dct [Sum.inr "one",Sum.inr "other"] [.loc M.length, .loc (M.length+1)]):=by
 rw [List.getElem?_append_left (by unfold St3;simp)];unfold St3
 rw [List.getElem?_append_right (by omega),show M.length+2 - M.length=2 by omega];rfl
theorem B4(M:Ms)(p1 p2:Pl)(E:Ms):(St3 M p1 p2++E)[M.length]? =some (dP p1):=by
 rw [List.getElem?_append_left (by unfold St3;simp)];unfold St3
 rw [List.getElem?_append_right (by omega),Nat.sub_self];rfl
theorem B3(M:Ms)(p1 p2:Pl)(E:Ms):(St3 M p1 p2++E)[M.length+1]? =some (dP p2):=by
 rw [List.getElem?_append_left (by unfold St3;simp)];unfold St3
 rw [List.getElem?_append_right (by omega),show M.length+1 - M.length=1 by omega];rfl
theorem uM(M:Ms)(p1 p2 p:Pl)(E:Ms):(St3 M p1 p2++E).set M.length (dP p)=St3 M p p2++E:=by
 unfold St3;rw [List.append_assoc,List.append_assoc,List.set_append_right (h:=Nat.le_refl _),Nat.sub_self];rfl
theorem uL(M:Ms)(p1 p2 p:Pl)(E:Ms):(St3 M p1 p2++E).set (M.length+1) (dP p)=St3 M p1 p++E:=by
 unfold St3;rw [List.append_assoc,List.append_assoc,List.set_append_right (h:=by omega),show M.length+1 - M.length=1 by omega];rfl
def on1(k:Str)(f:Pl→Pl)(p:Pl):Pl:=if k="one" then f p else p
def on2(k:Str)(f:Pl→Pl)(p:Pl):Pl:=if k="one" then p else f p
theorem wq(M:Ms)(p1 p2:Pl)(E:Ms){k:Str}(h:az k=true):∃(k':Nat) (p:Pl),aT [Sum.inr "one",Sum.inr "other"] [Dt.loc M.length,Dt.loc (M.length+1)] (Sum.inr k)=some (.loc k')∧(St3 M p1 p2++E)[k']? =some (dP p)∧aW p1 p2 k=some p∧∀f:Pl→Pl,(St3 M p1 p2++E).set k' (dP (f p))=St3 M (on1 k f p1) (on2 k f p2)++E:=by
 unfold az at h
 rw [Bool.or_eq_true,beq_iff_eq,beq_iff_eq] at h
 rcases h with rfl | rfl
 ·exact ⟨M.length,p1,rfl,B4 M p1 p2 E,rfl,fun f=>uM M p1 p2 (f p1) E⟩
 ·exact ⟨M.length+1,p2,rfl,B3 M p1 p2 E,rfl,fun f=>uL M p1 p2 (f p2) E⟩
theorem rG{p1 p2:Pl}{k k':Str}{f:Pl→Pl}(h:az k=true):aW (on1 k f p1) (on2 k f p2) k'=if k'=k then (aW p1 p2 k').map f else aW p1 p2 k':=by
 unfold az at h
 rw [Bool.or_eq_true,beq_iff_eq,beq_iff_eq] at h
 unfold aW on1 on2
 rcases h with rfl | rfl
 ·rw [if_pos rfl,if_pos rfl]
  by_cases e:k'="one"
  ·subst e;rfl
  ·rw [if_neg e,if_neg e,if_neg e]
 ·have hne:¬(Str.ofString "other"=Str.ofString "one"):=by decide
  have hne':¬(Str.ofString "one"=Str.ofString "other"):=by decide
  rw [if_neg hne,if_neg hne]
  by_cases e:k'="one"
  ·subst e
   rw [if_pos rfl,if_neg hne',if_pos rfl]
  ·rw [if_neg e,if_neg e]
   by_cases e':k'="other"
   ·subst e'
    rw [if_pos rfl,if_pos rfl,if_pos rfl];rfl
   ·rw [if_neg e',if_neg e',if_neg e']
theorem sT{rows:List Rw}{p1 p2:Pl}{k:Str}{f:Pl→Pl}{i:Nat}(h:az k=true)(hf:∀p j,j≠(i:Int)→bq (f p) j=bq p j){j:Nat}(hj:j≠i):aZ rows (on1 k f p1) (on2 k f p2) j=aZ rows p1 p2 j:=by
 unfold aZ
 cases hr:rows[j]? with
 | none=>rfl
 | some r=>
  show eL (on1 k f p1) (on2 k f p2) j r=eL p1 p2 j r
  unfold eL
  rw [rG h]
  by_cases e:kindOf r=k
  ·rw [if_pos e]
   cases hp:aW p1 p2 (kindOf r) with
   | none=>rfl
   | some p=>
    show br (f p) j _=br p j _
    unfold br
    rw [hf p j (by omega)]
  ·rw [if_neg e]
theorem wY{rows:List Rw}{p1 p2:Pl}{f:Pl→Pl}{i:Nat}{r:Rw}{p:Pl}(hi:rows[i]? =some r)(h:az (kindOf r)=true)(hp:aW p1 p2 (kindOf r)=some p):aZ rows (on1 (kindOf r) f p1) (on2 (kindOf r) f p2) i=br (f p) i (aE r).length:=by
 unfold aZ
 rw [hi]
 show eL _ _ i r=_
 unfold eL
 rw [rG h,if_pos rfl,hp];rfl
theorem Ak{p1 p2:Pl}{k:Str}{f:Pl→Pl}(h1:NdP p1)(h2:NdP p2)(hf:∀p,NdP p→NdP (f p)):NdP (on1 k f p1)∧NdP (on2 k f p2):=by
 unfold on1 on2
 split
 ·exact ⟨hf _ h1,h2⟩
 ·exact ⟨h1,hf _ h2⟩
theorem jS{r:Rw}{M:Ms}{q:DQ}(h:q (.str (kindOf r)) M):fIx (cz r) (.int 0) M q:=by
 obtain ⟨e,er⟩:=wu (r:=r)
 rw [er]
 exact aD (xs:=[.str (kindOf r),e]) rfl d8 h
theorem jo{rows:List Rw}{i:Nat}{r:Rw}(hi:rows[i]? =some r){M:Ms}{q:DQ}(h:q (cz r) M):fIx (.lst (rows.map cz)) (.int (i:Int)) M q:=aD (xs:=rows.map cz) rfl (aG (ie hi)) h
theorem rZ{k:Str}(h1:k≠"one")(h2:k≠"other"):az k=false:=by
 unfold az
 rw [Bool.or_eq_false_iff,beq_eq_false_iff_ne,beq_eq_false_iff_ne];exact ⟨h1,h2⟩
section
variable{P:Program}{w:World}{K:PySem.W.Frag}{mg:Str→Option Value}{base:Heap}{Cn CN CF Ca Cj Ce Cf Ci Ck Cb Cd Cl:Addr}
def um:DF:=fun as M q _=>∃(ns:List Int) (rows:List Rw),as=[.scr ns, .lst (rows.map cz), .int 34]∧rows.length≤12∧(∀k ds,Rw.doors k ds∈rows→1≤ds.length)∧∀p1 p2,NdP p1→NdP p2→p1.length≤12→p2.length≤12→(∀i,i < rows.length→aZ rows p1 p2 i=true)→q (.loc (M.length+2)) (St3 M p1 p2)
theorem eU:au ["_law_script","_law_rows_here","_law_at","_law_found","_law_place","_law_kind"] ["_law_script","_law_rows_here","_law_at"] (ae df):=⟨rfl,rfl,rfl,by decide+kernel,rfl,by decide+kernel,by decide+kernel⟩
theorem ny{f:Addr}{fd:FuncData}(F:Fun K "_law_plans" "_law_plans" df f fd)(E:Ev K mg Cn CN CF Ca Cj Ce Cf Ci Ck Cb Cd Cl){fLawNumber:Addr}{dLawNumber:FuncData}(c_LawNumber:aR P w K mg base 2 "_law_number" ["_law_script","_law_k"] uo fLawNumber dLawNumber):bC P w K mg base (CX1 P w) 3 f fd ["_law_script","_law_rows_here","_law_at"] (spD K um):=by
 refine F.okD eU (fun ds M q x h=> ?_) (fun cdv A outer s H E' hr=>⟨_,(ag (ax (i:=3) eU.nd rfl (Or.inl rfl) (nN sJ sJ))
   (ag (iB (bG E.n_range (aa (eJ E.n_len (aa (jv 1) af (hs:=aj))) af (hs:=bI))) (aK (i:=4) eU.nd rfl (Or.inl rfl)) cp (ag (ax (i:=5) eU.nd rfl (Or.inl rfl) (aY (aY (jv 1) (jv 4)) ay))
   (ah (bc (JW.jt (fF (dR hr (jv 5) gG) (eG (dR hr (jv 5) gG)))) (ah (nM hr (cW hr (jv 3) (jv 5)) (jv 4) (bX (bR c_LawNumber hr ak (aa (jv 0) (aa (cU (jv 2) (jv 4)) af (hs:=bQ)) (hs:=aj))) (eJ E.n_len (aa (aY (aY (jv 1) (jv 4)) ay) af (hs:=cg)))))) aB))))
   (ah (av (jv 3))))),fun ds M q x h=> ?_⟩)
 ·obtain ⟨ns,rows,rfl,_⟩:=h;rfl
 ·obtain ⟨ns,rows,rfl,l12,hdr,h⟩:=h
  walk_at "vc"
  refine (aQ (d:= .lst (rows.map cz)) (xs:=rows.map cz) rfl ?_:mG [.lst (rows.map cz)] _ _)
  rw [List.length_map]
  refine ⟨by omega, ?_⟩
  rw [show ((rows.length:Int)).toNat=rows.length by omega]
  have pl_len:∀{p1 p2:Pl} {k:Str} {n:Nat} {v:Int} {i:Int},p1.length≤n→p2.length≤n→(on1 k (fun p=>jq p i v) p1).length≤n+1∧(on2 k (fun p=>jq p i v) p2).length≤n+1:=fun {p1 p2 k n v i} h1 h2=>by
   have pp:∀p:Pl,p.length≤n→(jq p i v).length≤n+1:=fun p hp=>by
    unfold jq
    split
    ·rw [List.length_map];omega
    ·rw [List.length_append];exact Nat.succ_le_succ hp
   unfold on1 on2
   split
   ·exact ⟨pp _ h1,by omega⟩
   ·exact ⟨by omega,pp _ h2⟩
  refine cX (fun zs ρ' M'=>∃(i m:Nat) (p1 p2:Pl) (o4 o5:Option Dt),zs=gk (i:Int) m∧i+m=rows.length∧NdP p1∧NdP p2∧p1.length≤i∧p2.length≤i∧(∀j,j < i→aZ rows p1 p2 j=true)∧M'=St3 M p1 p2∧ρ'=[some (.scr ns),some (.lst (rows.map cz)),some (.int 34),some (.loc (M.length+2)),o4,o5]) (fun x zs ρ' M' hj nxt=> ?_) (fun ρ' M' hj=> ?_) _ _ _ ⟨0,rows.length,[],[],none,none,rfl,by omega,List.nodup_nil,List.nodup_nil,by simp,by simp,fun j hj=>absurd hj (Nat.not_lt_zero _),by unfold St3;simp [kP,vP],by simp⟩
  ·obtain ⟨i,m,p1,p2,o4,o5,ex,im,n1,n2,pl1,pl2,gd,rfl,rfl⟩:=hj
   obtain ⟨m',rfl,rfl,rfl⟩:=cN ex
   have il:i < rows.length:=by omega
   have hi:rows[i]? =some rows[i]:=List.getElem?_eq_getElem il
   generalize hr0:rows[i]=r at *
   have rm:r∈rows:=List.mem_of_getElem? hi
   walk_at "vc"
   refine jo hi (jS ?_)
   refine ⟨fun z=>⟨fun _=> ?_,fun y=>(nomatch y)⟩,fun z=>⟨fun z'=> ?_,fun z'=> ?_⟩⟩
   rotate_left 2
   ·have hh:=rZ (of_decide_eq_false z) (of_decide_eq_false z')
    refine nxt _ _ ⟨i+1,m',p1,p2,_,_,by rw [Int.natCast_add];rfl,by omega,n1,n2,by omega,by omega,fun j hj=> ?_,rfl,rfl⟩
    by_cases ej:j=i
    ·rw [ej];unfold aZ;rw [hi]
     show eL p1 p2 i r=true
     unfold eL;rw [iH hh]
    ·exact gd j (by omega)
   all_goals
    have hh:az (kindOf r)=true:=by
     first
     | (have z':kindOf r="other":=of_decide_eq_true z';rw [z'];decide)
     | (have z:kindOf r="one":=of_decide_eq_true z;rw [z];decide)
    obtain ⟨k',p,g1,g2,g3,g4⟩:=wq M p1 p2 [] hh
    rw [List.append_nil] at g2 g4
    cases r with
    | fin p=>exact absurd hh (by show¬az (Str.ofString "end")=true;decide)
    | doors k ds=>
     have d1:=hdr k ds rm
     dsimp only [oG,vM]
     walk_at "vc"
     refine ⟨ns,34+(i:Int),rfl,by omega,by omega,fun n hn=> ?_⟩
     refine jo hi (xB ?_)
     refine (aQ (d:= .lst (ds.map drG)) (xs:=ds.map drG) rfl ?_:mG [.lst (ds.map drG)] _ _)
     rw [List.length_map]
     refine ⟨by omega, ?_⟩
     have v0:=Int.emod_nonneg n (show (ds.length:Int)≠0 by omega)
     have v1:=Int.emod_lt_of_pos n (show 0 < (ds.length:Int) by omega)
     generalize n % (ds.length:Int)=v at *
     have dd:=xr M p1 p2 []
     rw [List.append_nil] at dd
     refine ⟨M.length+2,_,_,Sum.inr k,_,rfl,dd,rfl,g1, ?_⟩
     have plen:p.length≤i:=by
      have g3:aW p1 p2 k=some p:=g3
      unfold aW at g3
      split at g3
      ·rw [←Option.some.inj g3];exact pl1
      ·split at g3
       ·rw [←Option.some.inj g3];exact pl2
       ·cases g3
     refine ⟨k',_,_,Sum.inl (i:Int),rfl,g2,rfl,by unfold kP;rw [List.length_map];omega, ?_⟩
     rw [xF (v:=v),xG]
     have g5:=g4 fun p=>jq p i v
     rw [List.append_nil] at g5
     rw [g5]
     obtain ⟨q1,q2⟩:=Ak (k:=kindOf (.doors k ds)) (f:=fun p=>jq p i v) n1 n2 fun p hp=>wJ hp
     obtain ⟨l1,l2⟩:=pl_len (k:=kindOf (.doors k ds)) (v:=v) (i:=(i:Int)) pl1 pl2
     refine nxt _ _ ⟨i+1,m',_,_,_,_,by rw [Int.natCast_add];rfl,by omega,q1,q2,l1,l2,fun j hj=> ?_,rfl,rfl⟩
     by_cases ej:j=i
     ·rw [ej,wY hi hh g3]
      unfold br
      rw [iI,if_pos rfl]
      show (decide (0≤v)&&decide (v < (ds.length:Int)))=true
      rw [decide_eq_true v0,decide_eq_true v1];rfl
     ·rw [sT hh (fun p j hj=>by rw [iI,if_neg hj]) ej];exact gd j (by omega)
  ·obtain ⟨i,m,p1,p2,o4,o5,ex,im,n1,n2,pl1,pl2,gd,rfl,rfl⟩:=hj
   have m0:m=0:=by
    have:=congrArg List.length ex
    rw [cB] at this;exact this.symm
   have:i=rows.length:=by omega
   subst this
   exact h p1 p2 n1 n2 (by omega) (by omega) gd
end
end Pg
set_option maxRecDepth 100000
set_option maxHeartbeats 4000000
namespace Pg
open PySem L2 Fr0 Tx
def ntD(n:Nat):Dt:= .int n
abbrev rw0:Rw:= .fin (0,1)
theorem j8{M:Ms}{k:Nat}{xs:List Dt}(h:M[k]? =some (MO.lst xs)):uv M (.loc k)=some xs:=by
 show (match M[k]? with | some (MO.lst xs)=>some xs | _=>none)=some xs
 rw [h]
theorem vW{l:List Nat}{f:Nat→Bool}(h:∀j,f j=true):l.all f=true:=List.all_eq_true.mpr fun j _=>h j
theorem tJ{M:Ms}{n:Nat}{d e:Dt}{ds:List Dt}(h1:uv M d=some ds)(h2:uv M e=some ds)(h:∀d∈ds,EqM M n d d true):EqM M (n+1) d e true:=by
 have:=EqM.lst (M:=M) (n:=n) (d:=d) (e:=e) (f:=fun _=>true) h1 h2 rfl fun j d e h1 h2=>by
  rw [h1] at h2;cases h2;exact h d (List.mem_of_getElem? h1)
 rwa [vW fun _=>rfl] at this
theorem xw{a b c d m:Int}{M:Ms}{q:DQ}(h0:0≤m)(h4:m < 4)(hn:m≠0)(h:∀v:Int,v=b∨v=c∨v=d→q (.int v) M):fIx (.lst [.int a, .int b, .int c, .int d]) (.int m) M q:=by
 have:m=((1:Nat):Int)∨m=((2:Nat):Int)∨m=((3:Nat):Int):=by omega
 rcases this with e | e | e <;> rw [e]
 ·exact aD (d:= .lst [.int a, .int b, .int c, .int d]) rfl (aG (j:=1) rfl) (h _ (.inl rfl))
 ·exact aD (d:= .lst [.int a, .int b, .int c, .int d]) rfl (aG (j:=2) rfl) (h _ (.inr (.inl rfl)))
 ·exact aD (d:= .lst [.int a, .int b, .int c, .int d]) rfl (aG (j:=3) rfl) (h _ (.inr (.inr rfl)))
theorem E5:uA 10 30:=⟨by decide,by decide,by decide⟩
def hs(rows:List Rw):List Nat:=(List.range rows.length).filter fun j=>az (kindOf (rows.getD j rw0))
theorem A2{rows:List Rw}{b:Nat}(h:b∈hs rows):∃k ds,rows[b]? =some (.doors k ds)∧az k=true:=by
 unfold hs at h
 obtain ⟨h1,h2⟩:=List.mem_filter.mp h
 have bl:=List.mem_range.mp h1
 have hi:rows[b]? =some rows[b]:=List.getElem?_eq_getElem bl
 rw [List.getD_eq_getElem?_getD,hi] at h2
 have h2:az (kindOf rows[b])=true:=h2
 rw [hi]
 generalize rows[b]=r at *
 cases r with
 | fin p=>exact absurd h2 (by show¬az (Str.ofString "end")=true;decide)
 | doors k ds=>exact ⟨k,ds,rfl,h2⟩
theorem jM(M:Ms)(p1 p2:Pl):(St3 M p1 p2).length=M.length+3:=by unfold St3;simp
section
variable{P:Program}{w:World}{K:PySem.W.Frag}{mg:Str→Option Value}{base:Heap}{Cn CN CF Ca Cj Ce Cf Ci Ck Cb Cd Cl:Addr}
structure Spl(rows:List Rw)(s1 s2:Pl)(bs:List Nat):Prop where
 n1:NdP s1
 n2:NdP s2
 good:∀i,i < rows.length→aZ rows s1 s2 i= !decide (i∈bs)
 lt:∀b∈bs,b < rows.length
def oo:DF:=fun as M q _=>∃(ns:List Int) (rows:List Rw) (k:Nat) (p1 p2:Pl),as=[.scr ns, .lst (rows.map cz), .loc k]∧Two M k p1 p2∧rows.length≤12∧(∀k ds,Rw.doors k ds∈rows→1≤ds.length∧ds.length≤6)∧NdP p1∧NdP p2∧p1.length≤12∧p2.length≤12∧(∀i,i < rows.length→aZ rows p1 p2 i=true)∧
 ∀s1 s2 bs,Spl rows s1 s2 bs→q (.tup [.loc (M.length+2), .loc (M.length+3)]) (St3 M s1 s2++[.lst (bs.map ntD)])
theorem bt:au ["_law_script","_law_rows_here","_law_plans_here","_law_found","_law_bad","_law_hands","_law_k","_law_number_here","_law_place","_law_kind"] ["_law_script","_law_rows_here","_law_plans_here"] (ae bK):=⟨rfl,rfl,rfl,by decide+kernel,rfl,by decide+kernel,by decide+kernel⟩
theorem lh{f:Addr}{fd:FuncData}(F:Fun K "_law_spoilt" "_law_spoilt" bK f fd)(E:Ev K mg Cn CN CF Ca Cj Ce Cf Ci Ck Cb Cd Cl){fLawNumber:Addr}{dLawNumber:FuncData}(c_LawNumber:aR P w K mg base 2 "_law_number" ["_law_script","_law_k"] uo fLawNumber dLawNumber):bC P w K mg base (CX1 P w) 3 f fd ["_law_script","_law_rows_here","_law_plans_here"] (spD K oo):=by
 refine F.okD bt (fun ds M q x h=> ?_) (fun cdv A outer s H E' hr=>⟨_,(ag (ax (i:=3) bt.nd rfl (Or.inl rfl) (nN (wQ E.n_dict (aa (cW hr (jv 2) gG) af (hs:=cg))) (wQ E.n_dict (aa (cW hr (jv 2) gG) af (hs:=cg)))))
   (ag (ax (i:=4) bt.nd rfl (Or.inl rfl) (lO af))
   (ag (lN (i:=5) bt.nd rfl (Or.inl rfl) (ys:=["_law_rows_here"]) (caps:=[1]) ⟨rfl,by decide+kernel,by decide+kernel,(by show∀x:Str,x∈(["_law_place"]:List Str)→_;decide+kernel),(by show∀p:Str×NameKind,p∈_→p.2=NameKind.free→List.lookup p.1 (ae bK).names=some .cell;decide+kernel),by decide+kernel,(by show∀q:Str×Nat,q∈_→(["_law_script","_law_rows_here","_law_plans_here","_law_found","_law_bad","_law_hands","_law_k","_law_number_here","_law_place","_law_kind"]:List Str)[q.2]? =some q.1∧List.lookup q.1 (ae bK).names=some .cell∧_;decide+kernel),rfl⟩ (CO (bG E.n_range (aa (eJ E.n_len (aa (jv 1) af (hs:=aj))) af (hs:=bI)))) (fun C s H fp=>(JW.jt (fF (dR hr (aY (aY (jv 1) (jv 0)) ay) gG) (eG (dR hr (aY (aY (jv 1) (jv 0)) ay) gG))))) (fun C s H fp=>(jv 0)))
   (ag (iB (bG E.n_range (aa (bX (bR c_LawNumber hr ak (aa (jv 0) (aa ay af (hs:=cy)) (hs:=aj))) ay) af (hs:=bQ))) (aK (i:=6) bt.nd rfl (Or.inl rfl)) cp (ah (bc (AB 1 hr (jv 5) (lP af)) (ag (ax (i:=7) bt.nd rfl (Or.inl rfl) (bR c_LawNumber hr ak (aa (jv 0) (aa (cU ay (jv 6)) af (hs:=bQ)) (hs:=aj))))
   (ag (ax (i:=8) bt.nd rfl (Or.inl rfl) (aY (jv 5) (bX (jv 7) (eJ E.n_len (aa (jv 5) af (hs:=aj))))))
   (ag (ax (i:=9) bt.nd rfl (Or.inl rfl) (aY (aY (jv 1) (jv 8)) ay))
   (ag (fG (fb (jv 4) (aa (jv 8) af (hs:=aj))))
   (ah (bc (dR hr (bX (dU (jv 7) ay) ay) ay) (ah (fG (yq (cW hr (jv 3) (jv 9)) (jv 8) yp))) (ah (nM hr (cW hr (jv 3) (jv 9)) (jv 8) (aY (lP (aa ay (aa (sH (AN ay) (bX (dU (jv 7) ay) ay)) (aa (eJ E.n_len (aa (aY (aY (jv 1) (jv 8)) ay) af (hs:=cg))) (aa (i7 ay ay) af (hs:=bQ)) (hs:=bI)) (hs:=bQ)) (hs:=cy))) (bX (dU (jv 7) ay) ay)))))))))) aB)))
   (ah (av (ff (aa (jv 3) (aa (jv 4) af (hs:=aj)) (hs:=aj))))))))),fun ds M q x h=> ?_⟩)
 ·obtain ⟨ns,rows,k,p1,p2,rfl,_⟩:=h;rfl
 ·obtain ⟨ns,rows,k,p1,p2,rfl,⟨k1,k2,a,b,c⟩,l12,hdr,n1,n2,pl1,pl2,gd,h⟩:=h
  have sz:∀{z:Nat},z≤1000→z≤sizeLine:=fun h=>Nat.le_trans h (by decide)
  walk_at "vc"
  refine ⟨k,_,_,Sum.inr "one",_,rfl,a,rfl,rfl, ?_⟩
  refine ⟨k1,_,_,rfl,b, ?_⟩
  refine ⟨k,_,_,Sum.inr "other",_,rfl,eQ a,rfl,rfl, ?_⟩
  refine ⟨k2,_,_,rfl,eQ c, ?_⟩
  refine ⟨by decide, ?_⟩
  have e3:M++[dP p1]++[dP p2]++[MO.dct [Sum.inr "one",Sum.inr "other"] [Dt.loc M.length,Dt.loc (M++[dP p1]).length]]=St3 M p1 p2:=by unfold St3;simp
  rw [e3,jM]
  dsimp only [xh,kOf]
  walk_at "vc"
  refine (aQ (d:= .lst (rows.map cz)) (xs:=rows.map cz) rfl ?_:mG [.lst (rows.map cz)] _ _)
  rw [List.length_map]
  refine ⟨by omega,by rw [cB];exact sz (by omega), ?_⟩
  refine eP trivial (fun x=>match x with | .int j=>az (kindOf (rows.getD j.toNat rw0)) | _=>false) (fun x=>x) _ _ (fun x hx q' p' h1 h2=> ?_) ?_
  ·obtain ⟨j,hj,rfl⟩:=fP hx
   have hj:j < rows.length:=by omega
   have hi:rows[j]? =some rows[j]:=List.getElem?_eq_getElem hj
   have e0:rows.getD (0+(j:Int)).toNat rw0=rows[j]:=by
    rw [show (0+(j:Int)).toNat=j by omega,List.getD_eq_getElem?_getD,hi];rfl
   have h1:az (kindOf (rows.getD (0+(j:Int)).toNat rw0))=true→q' (.int (0+(j:Int))) _:=h1
   have h2:az (kindOf (rows.getD (0+(j:Int)).toNat rw0))=false→p' _:=h2
   rw [e0] at h1 h2
   rw [Int.zero_add] at h1⊢
   generalize rows[j]=r at *
   walk_at "vc"
   refine jo hi (jS ?_)
   refine ⟨fun z=> ?_,fun z=> ?_⟩
   ·have z:kindOf r="one":=of_decide_eq_true z
    exact h1 (by rw [z];decide)
   ·have z:kindOf r≠"one":=of_decide_eq_false z
    have key:fIx (.lst (rows.map cz)) (.int (j:Int)) (St3 M p1 p2++[MO.lst []]) (fun d1 M1=>fIx d1 (.int 0) M1 fun d1 M1=>A9 d1 (.str (Str.ofString "other")) M1 fun d M1=>match d with | .bl b=>(match b with | true=>q' (.int (j:Int)) M1 | false=>p' M1) | _=>False):=by
     refine jo hi (jS ?_)
     show (match decide (kindOf r=Str.ofString "other") with | true=>q' (.int (j:Int)) _ | false=>p' _)
     cases hd:decide (kindOf r=Str.ofString "other") with
     | true=>
      have hd:kindOf r="other":=of_decide_eq_true hd
      exact h1 (by rw [hd];decide)
     | false=>exact h2 (rZ z (of_decide_eq_false hd))
    exact key
  have hh:∀b:Dt→Bool,(∀j:Nat,b (.int (0+(j:Int)))=az (kindOf (rows.getD j rw0)))→((gk 0 ((rows.length:Int)).toNat).filter b).map (fun x=>x)=(hs rows).map ntD:=fun b hb=>by
   rw [show ((rows.length:Int)).toNat=rows.length by omega,List.map_id']
   unfold gk hs
   rw [List.filter_map]
   have e:(List.range rows.length).filter (b ∘ fun i:Nat=>Dt.int (0+(i:Int)))=(List.range rows.length).filter fun j=>az (kindOf (rows.getD j rw0)):=List.filter_congr fun j _=>hb j
   rw [e]
   exact List.map_congr_left fun j _=>by show Dt.int (0+(j:Int))=Dt.int (j:Int);rw [Int.zero_add]
  rw [List.nil_append,hh _ fun j=>by show az (kindOf (rows.getD (0+(j:Int)).toNat rw0))=_;rw [show (0+(j:Int)).toNat=j by omega]]
  have e2:(M++[MO.dct (kP p1) (vP p1)]++[MO.dct (kP p2) (vP p2)]).length=M.length+2:=by simp
  rw [e2]
  refine ⟨ns,40,rfl,by decide,by decide,fun n0 hn0=>⟨by decide, ?_⟩⟩
  have q0:=Int.emod_nonneg n0 (show (4:Int)≠0 by decide)
  have q4:=Int.emod_lt_of_pos n0 (show (0:Int) < 4 by decide)
  generalize n0 % 4=tn at *
  refine ⟨by omega, ?_⟩
  have atb:∀(s1 s2:Pl) (l:List Dt),(St3 M s1 s2++[MO.lst l])[M.length+3]? =some (MO.lst l):=fun s1 s2 l=>by
   have:=cR (M:=St3 M s1 s2) (o:=MO.lst l)
   rwa [jM] at this
  have stb:∀(s1 s2:Pl) (l l':List Dt),(St3 M s1 s2++[MO.lst l]).set (M.length+3) (MO.lst l')=St3 M s1 s2++[MO.lst l']:=fun s1 s2 l l'=>by
   have:=fk (M:=St3 M s1 s2) (a:=MO.lst l) (c:=MO.lst l')
   rwa [jM] at this
  refine cX (fun zs ρ' M'=>∃(i m:Nat) (s1 s2:Pl) (bs:List Nat) (o6 o7 o8 o9:Option Dt),zs=gk (i:Int) m∧i+m=tn.toNat∧bs.length≤i∧s1.length≤12+i∧s2.length≤12+i∧Spl rows s1 s2 bs∧M'=St3 M s1 s2++[.lst (bs.map ntD)]∧ρ'=[some (.scr ns),some (.lst (rows.map cz)),some (.loc k),some (.loc (M.length+2)),some (.loc (M.length+3)),some (.lst ((hs rows).map ntD)),o6,o7,o8,o9]) (fun x zs ρ' M' hj nxt=> ?_) (fun ρ' M' hj=> ?_) _ _ _ ⟨0,tn.toNat,p1,p2,[],none,none,none,none,rfl,by omega,by simp,by omega,by omega,⟨n1,n2,fun i hi=>by rw [gd i hi];simp,fun b hb=>nomatch hb⟩,rfl,rfl⟩
  ·obtain ⟨i,m,s1,s2,bs,o6,o7,o8,o9,ex,im,bl,sl1,sl2,sp,rfl,rfl⟩:=hj
   obtain ⟨m',rfl,rfl,rfl⟩:=cN ex
   have i3:i < 3:=by omega
   cases hhs:hs rows with
   | nil=>
    refine ⟨by decide,true, .inr ⟨_,rfl⟩, .inr ⟨_,rfl⟩,tJ (ds:=[]) rfl rfl (fun d hd=>nomatch hd),fun z=>(nomatch z),fun _=> ?_⟩
    exact nxt _ _ ⟨i+1,m',s1,s2,bs,_,_,_,_,by rw [Int.natCast_add];rfl,by omega,by omega,by omega,by omega,sp,rfl,by rw [hhs];rfl⟩
   | cons h0 ht=>
    have hl:(hs rows).length=ht.length+1:=by rw [hhs];rfl
    rw [←hhs]
    refine ⟨by decide,false, .inr ⟨_,rfl⟩, .inr ⟨_,rfl⟩,EqM.len (ds:=(hs rows).map ntD) (es:=[]) rfl rfl (by rw [List.length_map,hl];simp),fun _=> ?_,fun z=>(nomatch z)⟩
    walk_at "vc"
    refine ⟨ns,41+(i:Int),rfl,by omega,by omega,fun n hn=> ?_⟩
    refine (aQ (d:= .lst ((hs rows).map ntD)) (xs:=(hs rows).map ntD) rfl ?_:mG [.lst ((hs rows).map ntD)] _ _)
    rw [List.length_map]
    refine ⟨by omega, ?_⟩
    have m0:=Int.emod_nonneg n (show ((hs rows).length:Int)≠0 by omega)
    have m1:=Int.emod_lt_of_pos n (show 0 < ((hs rows).length:Int) by omega)
    obtain ⟨y,hy,ey⟩:=yQ (xs:=(hs rows).map ntD) m0 (by rw [List.length_map];exact m1)
    obtain ⟨b,hb,rfl⟩:=List.mem_map.mp hy
    refine aD (d:= .lst ((hs rows).map ntD)) rfl ey ?_
    obtain ⟨kd,ds,hi,hk⟩:=A2 hb
    have bl12:b < rows.length:=(List.getElem?_eq_some_iff.mp hi).1
    have rm:Rw.doors kd ds∈rows:=List.mem_of_getElem? hi
    obtain ⟨d1,d6⟩:=hdr kd ds rm
    show fIx (.lst (rows.map cz)) (.int (b:Int)) _ _
    refine jo hi (jS ?_)
    refine ⟨⟨_,_,rfl,atb s1 s2 _⟩,M.length+3,_,_,rfl,rfl,atb s1 s2 _,by rw [List.length_map];exact Nat.lt_of_le_of_lt (show bs.length≤10 by omega) (by decide), ?_⟩
    rw [stb,show bs.map ntD++[ntD b]=(bs++[b]).map ntD by rw [List.map_append];rfl]
    obtain ⟨k',p,g1,g2,g3,g4⟩:=wq M s1 s2 [MO.lst ((bs++[b]).map ntD)] (k:=kindOf (.doors kd ds)) hk
    have c0:=Int.emod_nonneg (n / 6) (show (4:Int)≠0 by decide)
    have c4:=Int.emod_lt_of_pos (n / 6) (show (0:Int) < 4 by decide)
    have plen:p.length≤12+i:=by
     unfold aW at g3
     split at g3
     ·rw [←Option.some.inj g3];exact sl1
     ·split at g3
      ·rw [←Option.some.inj g3];exact sl2
      ·cases g3
    have fin:∀f:Pl→Pl,(∀p,NdP p→NdP (f p))→(∀p j,j≠(b:Int)→bq (f p) j=bq p j)→(∀p:Pl,(f p).length≤p.length+1)→br (f p) b ds.length=false→∀o6 o7 o8 o9,_:=fun f f1 f2 f3 f4 o6 o7 o8 o9=>nxt [some (.scr ns),some (.lst (rows.map cz)),some (.loc k),some (.loc (M.length+2)),some (.loc (M.length+3)),some (.lst ((hs rows).map ntD)),o6,o7,o8,o9] (St3 M (on1 (kindOf (.doors kd ds)) f s1) (on2 (kindOf (.doors kd ds)) f s2)++[.lst ((bs++[b]).map ntD)]) (by
     obtain ⟨q1,q2⟩:=Ak (k:=kindOf (.doors kd ds)) (f:=f) sp.n1 sp.n2 f1
     have ll:(on1 (kindOf (.doors kd ds)) f s1).length≤12+(i+1)∧(on2 (kindOf (.doors kd ds)) f s2).length≤12+(i+1):=by
      have a1:=f3 s1
      have a2:=f3 s2
      unfold on1 on2
      split
      ·exact ⟨by omega,by omega⟩
      ·exact ⟨by omega,by omega⟩
     refine ⟨i+1,m',_,_,bs++[b],o6,o7,o8,o9,by rw [Int.natCast_add];rfl,by omega,by rw [List.length_append];exact Nat.succ_le_succ bl,ll.1,ll.2,⟨q1,q2,fun j hj=> ?_,fun c hc=> ?_⟩,rfl,rfl⟩
     ·by_cases ej:j=b
      ·rw [ej,wY hi hk g3]
       rw [decide_eq_true (show b∈bs++[b] by simp)]
       exact f4
      ·rw [sT (k:=kindOf (.doors kd ds)) hk f2 ej,sp.good j hj]
       congr 1
       apply decide_eq_decide.mpr
       simp [ej]
     ·rcases List.mem_append.mp hc with z | z
      ·exact sp.lt c z
      ·have:c=b:=by simpa using z
       rw [this];exact bl12)
    refine ⟨⟨by decide,bg (k:=40) (by decide)⟩,by decide,fun z=> ?_,fun z=> ?_⟩
    ·dsimp only [xg]
     walk_at "vc"
     refine ⟨M.length+2,_,_,Sum.inr kd,_,rfl,xr M s1 s2 _,rfl,g1,⟨k',_,_,rfl,g2⟩,k',_,_,Sum.inl (b:Int),rfl,g2,rfl,fun v hv=> ?_,fun hv=> ?_⟩
     ·rw [Bg,Bh,g4 fun p=>vK p b]
      exact fin _ (fun p hp=>Al hp) (fun p j hj=>by rw [nP,if_neg hj]) (fun p=>Nat.le_succ_of_le (List.length_filter_le _ _)) (by unfold br;rw [nP,if_pos rfl]) _ _ _ _
     ·have hv:bq p b=none:=by
       rw [lU] at hv
       cases hg:bq p b with
       | none=>rfl
       | some v=>rw [hg] at hv;cases hv
      have e:St3 M s1 s2=St3 M (on1 (kindOf (.doors kd ds)) id s1) (on2 (kindOf (.doors kd ds)) id s2):=by
       unfold on1 on2;split <;> rfl
      rw [e]
      exact fin id (fun p hp=>hp) (fun p j hj=>rfl) (fun p=>Nat.le_succ _) (by unfold br;show (match bq p b with | some v=>_ | none=>false)=false;rw [hv]) _ _ _ _
    ·have z:¬n / 6 % 4=0:=of_decide_eq_false z
     dsimp only [oG,vM]
     walk_at "vc"
     refine ⟨⟨by decide,bg (k:=40) (by decide)⟩,by decide, ?_⟩
     dsimp only [BD]
     show fIx (.lst (rows.map cz)) (.int (b:Int)) _ _
     refine jo hi (xB ?_)
     refine (aQ (d:= .lst (ds.map drG)) (xs:=ds.map drG) rfl ?_:mG [.lst (ds.map drG)] _ _)
     rw [List.length_map]
     refine ⟨E5,sz (show 4≤1000 by decide),⟨by decide,bg (k:=40) (by decide)⟩,by decide, ?_⟩
     have w0:=Int.emod_nonneg (n / 24) (show (3:Int)≠0 by decide)
     refine xw c0 c4 z fun v hv=> ?_
     have vb:v < 0∨(ds.length:Int)≤v:=by
      rcases hv with e | e | e
      ·left;rw [e];omega
      ·right;rw [e];exact Int.le_refl _
      ·right;rw [e]
       have t30:Int.toNat 30=30:=rfl
       rw [t30];omega
     refine ⟨M.length+2,_,_,Sum.inr kd,_,rfl,xr M s1 s2 _,rfl,g1, ?_⟩
     refine ⟨k',_,_,Sum.inl (b:Int),rfl,g2,rfl,by unfold kP;rw [List.length_map];omega, ?_⟩
     rw [xF (v:=v),xG,g4 fun p=>jq p b v]
     refine fin _ (fun p hp=>wJ hp) (fun p j hj=>by rw [iI,if_neg hj]) (fun p=> ?_) ?_ _ _ _ _
     ·unfold jq
      split
      ·rw [List.length_map];omega
      ·rw [List.length_append];exact Nat.le_refl _
     ·unfold br
      rw [iI,if_pos rfl]
      show (decide (0≤v)&&decide (v < (ds.length:Int)))=false
      rcases vb with y | y
      ·rw [decide_eq_false (show¬0≤v by omega)];rfl
      ·rw [decide_eq_false (show¬v < (ds.length:Int) by omega),Bool.and_false]
  ·obtain ⟨i,m,s1,s2,bs,o6,o7,o8,o9,ex,im,bl,sl1,sl2,sp,rfl,rfl⟩:=hj
   exact ⟨sz (show 2≤1000 by decide),h s1 s2 bs sp⟩
end
end Pg
set_option maxRecDepth 100000
set_option maxHeartbeats 4000000
namespace Pg
open PySem L2 Fr0 Tx
def iX:List Int→Int
 | []=>1
 | a::l=>a * iX l
theorem gW:∀{l:List Int},(∀a∈l,0 < a)→0 < iX l
 | [],_=>by decide
 | a::l,h=>Int.mul_pos (h a List.mem_cons_self) (gW fun b hb=>h b (List.mem_cons_of_mem _ hb))
theorem nc:∀{l:List Int},(∀a∈l,0 < a∧a≤1000000)→iX l≤1000000 ^ l.length
 | [],_=>by decide
 | a::l,h=>by
  have i:=nc fun b hb=>h b (List.mem_cons_of_mem _ hb)
  have p:=gW (l:=l) fun b hb=>(h b (List.mem_cons_of_mem _ hb)).1
  have h0:=h a List.mem_cons_self
  show a * iX l≤_
  rw [List.length_cons,Int.pow_succ,Int.mul_comm a]
  exact Int.mul_le_mul i h0.2 (Int.le_of_lt h0.1) (Int.pow_nonneg (by decide))
theorem gX:∀{l:List Int} {a:Int},a∈l→a∣iX l
 | b::l,a,h=>by
  rcases List.mem_cons.mp h with e | e
  ·rw [e];exact ⟨iX l,rfl⟩
  ·obtain ⟨c,hc⟩:=gX e
   exact ⟨b * c,by show b * iX l=_;rw [hc];grind⟩
def kZ:Rw→List Fr
 | .fin p=>[p]
 | .doors _ ds=>ds.map (·.2.1)
def xW:List Rw→List Fr
 | []=>[]
 | r::rs=>kZ r++xW rs
def chB:Rw→Int
 | .fin _=>1
 | .doors k ds=>if k="chance" then gu (ds.map aw) else 1
theorem nj{r:Rw}{p:Fr}(hp:p∈kZ r):∀{rows:List Rw},r∈rows→p∈xW rows
 | s::rs,h=>by
  rcases List.mem_cons.mp h with e | e
  ·subst e;exact List.mem_append_left _ hp
  ·exact List.mem_append_right _ (nj hp e)
theorem oP:∀{rows:List Rw},(∀r∈rows,(kZ r).length≤6)→(xW rows).length≤6 * rows.length
 | [],_=>Nat.le_refl _
 | r::rs,h=>by
  have i:=oP fun s hs=>h s (List.mem_cons_of_mem _ hs)
  have:=h r List.mem_cons_self
  show (kZ r++xW rs).length≤_
  rw [List.length_append,List.length_cons];omega
theorem oQ{Q:Fr→Prop}:∀{rows:List Rw},(∀r∈rows,∀p∈kZ r,Q p)→∀p∈xW rows,Q p
 | [],_,p,hp=>by cases hp
 | r::rs,h,p,hp=>by
  rcases List.mem_append.mp hp with z | z
  ·exact h r List.mem_cons_self p z
  ·exact oQ (fun s hs=>h s (List.mem_cons_of_mem _ hs)) p z
theorem pb{p:Fr}{E:Int}(h:p.2∣E):kF p E:=by
 obtain ⟨k,e⟩:=h
 exact ⟨p.1 * k,by rw [e];grind⟩
theorem jf:∀{l:List Int} {a:Int},(∀b∈l,0 < b)→a∈l→a≤l.sum
 | b::l,a,h,ha=>by
  have ih:∀{l:List Int},(∀b∈l,0 < b)→0≤l.sum:=fun {l}=>by
   induction l with
   | nil=>intro _;exact Int.le_refl _
   | cons c l ih=>
    intro h
    have:=ih fun d hd=>h d (List.mem_cons_of_mem _ hd)
    have:=h c List.mem_cons_self
    rw [List.sum_cons];omega
  rw [List.sum_cons]
  have h0:=h b List.mem_cons_self
  rcases List.mem_cons.mp ha with e | e
  ·have:=ih fun d hd=>h d (List.mem_cons_of_mem _ hd)
   omega
  ·have:=jf (fun d hd=>h d (List.mem_cons_of_mem _ hd)) e
   omega
theorem yN{cs:List Fr}(o:DP cs){c:Fr}(hc:c∈cs):0 < c.2∧c.2∣gu cs∧jE c∧Sz 300 c:=by
 obtain ⟨a,b,d⟩:=o.ok3.2 c hc
 have B0:=o.b0
 obtain ⟨_,_,hB⟩:=g8 cs 1 0 (by decide) (Int.dvd_zero _) fun c hc=>⟨(o.ok3.2 c hc).1,Int.dvd_zero _⟩
 have dv:c.2∣gu cs:=hB c hc
 have le:=jf (l:=cs.map (Bw (gu cs))) (fun b hb=>by
  obtain ⟨x,hx,rfl⟩:=List.mem_map.mp hb
  exact o.pos x hx) (List.mem_map.mpr ⟨c,hc,rfl⟩)
 rw [o.sum] at le
 have wp:=o.pos c hc
 unfold Bw at le wp
 obtain ⟨m,em⟩:=dv
 have em':gu cs / c.2=m:=by rw [em];exact Int.mul_ediv_cancel_left m (by omega)
 rw [em'] at le wp
 have m0:0 < m:=by
  rw [em] at B0
  rcases Int.lt_or_le 0 m with z | z
  ·exact z
  ·have:=Int.mul_le_mul_of_nonneg_left z (Int.le_of_lt a)
   omega
 have c0:0≤c.1:=by
  rcases Int.lt_or_le c.1 0 with z | z
  ·have:=Int.mul_le_mul_of_nonneg_right (Int.le_of_lt z) (Int.le_of_lt m0)
   omega
  ·exact z
 have c1:c.1≤c.2:=by
  rw [em] at le
  exact Int.le_of_mul_le_mul_right le m0
 refine ⟨a,⟨m,em⟩,⟨c0,c1⟩,hW (k:=200) ⟨d,a, ?_⟩ (by decide)⟩
 have:(c.2.natAbs:Int) < ((2 ^ 200:Nat):Int):=by rw [Int.natAbs_of_nonneg (Int.le_of_lt a)];exact b
 exact Int.ofNat_lt.mp this
theorem wK{E:Int}{p:Fr}(hp:aS p=true)(p0:0 < p.2)(hd:p.2∣E):Nb E (10 ^ 30) p:=by
 refine ⟨p0,pb hd, ?_,hW (zv hp p0) (by decide)⟩
 unfold aS at hp
 rw [Bool.and_eq_true,decide_eq_true_iff,decide_eq_true_iff] at hp
 have h1:=hp.1
 have:10 ^ 30≤p.2 * 10 ^ 30:=by
  have:=Int.mul_le_mul_of_nonneg_right (show 1≤p.2 by omega) (show (0:Int)≤10 ^ 30 by decide)
  omega
 unfold gQ
 split at h1 <;> exact ⟨by omega,by omega⟩
theorem C5{share:Fr}{rows:List Rw}(hs:bf share=true)(r6:rows.length≤6)(hg:∀r∈rows,RwG rows.length r):∃E B,Fl share rows E B:=by
 have pl:Bt share rows:=⟨hs,by omega,fun r hr=>(hg r hr).1⟩
 have pr:∀r∈rows,∀p∈kZ r,aS p=true∧0 < p.2:=fun r hr p hp=>by
  cases r with
  | fin p'=>
   have:p=p':=by simpa [kZ] using hp
   subst this
   exact ⟨(hg _ hr).1.2,(hg _ hr).1.1⟩
  | doors k ds=>
   obtain ⟨d,hd,rfl⟩:=List.mem_map.mp hp
   exact (aU pl hr).py d hd
 have prl:∀r∈rows,(kZ r).length≤6:=fun r hr=>by
  cases r with
  | fin p=>show 1≤6;decide
  | doors k ds=>show (ds.map _).length≤6;rw [List.length_map];exact (aU pl hr).l6
 have pa:=oQ pr
 have pa2:∀a∈(xW rows).map (·.2),0 < a∧a≤1000000:=fun a ha=>by
  obtain ⟨p,hp,rfl⟩:=List.mem_map.mp ha
  obtain ⟨f,p0⟩:=pa p hp
  unfold aS at f
  rw [Bool.and_eq_true,decide_eq_true_iff,decide_eq_true_iff] at f
  exact ⟨p0,f.2⟩
 have cb:∀a∈rows.map chB,0 < a∧a≤1000000:=fun a ha=>by
  obtain ⟨r,hr,rfl⟩:=List.mem_map.mp ha
  cases r with
  | fin p=>exact ⟨show (0:Int) < 1 by decide,show (1:Int)≤1000000 by decide⟩
  | doors k ds=>
   show 0 < (if k="chance" then gu (ds.map aw) else 1)∧(if k="chance" then gu (ds.map aw) else 1)≤1000000
   by_cases hk:k="chance"
   ·rw [if_pos hk]
    subst hk
    rcases (aU pl hr).kd with z | ⟨_,_,o⟩
    ·exact absurd z (by decide)
    ·exact ⟨o.b0,o.b1⟩
   ·rw [if_neg hk];exact ⟨by decide,by decide⟩
 have pw:∀{a b:Nat},a≤b→(1000000:Int) ^ a≤1000000 ^ b:=fun {a b} h=>by
  have h:=Nat.pow_le_pow_right (show 0 < 1000000 by decide) h
  have:((1000000 ^ a:Nat):Int)≤((1000000 ^ b:Nat):Int):=Int.ofNat_le.mpr h
  rw [Int.natCast_pow,Int.natCast_pow] at this
  exact this
 refine ⟨iX ((xW rows).map (·.2)),iX (rows.map chB),pl,gW fun a ha=>(pa2 a ha).1, ?_,gW fun a ha=>(cb a ha).1, ?_,fun k ds hm d hd=> ?_,fun p hm=> ?_,fun k ds hm hk d hd=>(hg _ hm).2 k ds rfl hk d hd,fun ds hm d hd=> ?_⟩
 ·have l:=oP prl
  have:=nc pa2
  rw [List.length_map] at this
  exact Int.lt_of_le_of_lt (Int.le_trans this (pw (show _≤36 by omega))) (by decide)
 ·have:=nc cb
  rw [List.length_map] at this
  exact Int.lt_of_le_of_lt (Int.le_trans this (pw r6)) (by decide)
 ·obtain ⟨f,p0⟩:=(aU pl hm).py d hd
  exact wK f p0 (gX (List.mem_map.mpr ⟨_,nj (r:= .doors k ds) (List.mem_map.mpr ⟨d,hd,rfl⟩) hm,rfl⟩))
 ·obtain ⟨f,p0⟩:=pr _ hm p List.mem_cons_self
  exact wK f p0 (gX (List.mem_map.mpr ⟨_,nj (r:= .fin p) List.mem_cons_self hm,rfl⟩))
 ·rcases (aU pl hm).kd with z | ⟨_,_,o⟩
  ·exact absurd z (by decide)
  ·obtain ⟨a,b,c,e⟩:=yN o (List.mem_map.mpr ⟨d,hd,rfl⟩)
   refine ⟨a,pb (Int.dvd_trans b ?_),c,e⟩
   have:chB (.doors "chance" ds)∣iX (rows.map chB):=gX (List.mem_map.mpr ⟨_,hm,rfl⟩)
   exact this
end Pg
set_option maxRecDepth 100000
set_option maxHeartbeats 4000000
namespace Pg
open PySem L2 Fr0 Tx
theorem gP:bootBuiltins "ValueError"=some (.type "ValueError"):=by decide+kernel
theorem yw{i:Nat}{x:Addr}{d:Dt}{Dn:fW}{ρ ρ':En}{M:Ms}(e:(ρ.set i none).map (rpl x d)=ρ')(h:Dn.nx ρ' M):(vv i x d Dn).nx ρ M:=by
 show Dn.nx ((ρ.set i none).map (rpl x d)) M
 rw [e];exact h
section
variable{P:Program}{w:World}{K:PySem.W.Frag}{mg:Str→Option Value}{base:Heap}{Cn CN CF Ca Cj Ce Cf Ci Ck Cb Cd Cl:Addr}
def yT(A CP:Addr):DF:=fun as M q _=>∃(share:Fr) (rows:List Rw) (k:Nat) (p1 p2:Pl) (pl tn:Nat) (E B:Int),as=[aP A share rows, .loc k, .int (pl:Nat), .int (tn:Nat)]∧Two M k p1 p2∧pl < rows.length∧tn≤3∧Fl share rows E B∧
 ((∀i,i < rows.length→aZ rows p1 p2 i=true)→∀(E':Ms) (f:Fr) (cs:List Fr),q (.tup [.tup [frD f, .lst (cs.map frD)], .non]) (M++E'))∧
 ∀j,j < rows.length→aZ rows p1 p2 j=false→(∀i,i < j→aZ rows p1 p2 i=true)→∀E',q (.tup [.non, .exc CP ["place"] [.int (j:Int)]]) (M++E')
theorem da:au ["_law_floor","_law_plans_here","_law_place","_law_turns","_law_error","_law_found","e"] ["_law_floor","_law_plans_here","_law_place","_law_turns"] (ae eX):=⟨rfl,rfl,rfl,by decide+kernel,rfl,by decide+kernel,by decide+kernel⟩
theorem pW{f:Addr}{fd:FuncData}(F:Fun K "_law_told" "_law_told" eX f fd)(E:Ev K mg Cn CN CF Ca Cj Ce Cf Ci Ck Cb Cd Cl){fMeanOf:Addr}{dMeanOf:FuncData}(c_MeanOf:aR P w K mg base 8 "mean_of" ["floor","plan_one","plan_other","place","turns"] (yW Cn Cj) fMeanOf dMeanOf):bC P w K mg base (CX1 P w) 9 f fd ["_law_floor","_law_plans_here","_law_place","_law_turns"] (spD K (yT Cn Cj)):=by
 refine F.okD da (fun ds M q x h=> ?_) (fun cdv A outer s H E' hr=>⟨_,(ag (ax (i:=4) da.nd rfl (Or.inl rfl) yp)
   (ag (ax (i:=5) da.nd rfl (Or.inl rfl) yp)
   (ag (yo (i:=6) da.nd rfl E.eDuelError (by decide+kernel) E.mDuelError (fun R pins=>(ah (ax (i:=5) da.nd rfl (Or.inl rfl) (bR c_MeanOf hr xX (aa (jv 0) (aa (cW hr (jv 1) gG) (aa (cW hr (jv 1) gG) (aa (jv 2) (aa (jv 3) af (hs:=aj)) (hs:=aj)) (hs:=cg)) (hs:=cg)) (hs:=aj)))))) (fun x pn=>(ah (ax (i:=4) da.nd rfl (Or.inl rfl) (jv 6)))))
   (ah (av (ff (aa (jv 5) (aa (jv 4) af (hs:=aj)) (hs:=aj)))))))),fun ds M q x h=> ?_⟩)
 ·obtain ⟨share,rows,k,p1,p2,pl,tn,E,B,rfl,_⟩:=h;rfl
 ·obtain ⟨share,rows,k,p1,p2,pl,tn,Ep,B,rfl,⟨k1,k2,a,b,c⟩,pll,tn3,fl,hg,hb⟩:=h
  have sz:∀{z:Nat},z≤1000→z≤sizeLine:=fun h=>Nat.le_trans h (by decide)
  walk_at "vc"
  dsimp only [zz]
  walk_at "vc"
  refine ⟨k,_,_,Sum.inr "one",_,rfl,a,rfl,rfl, ?_⟩
  refine ⟨k,_,_,Sum.inr "other",_,rfl,a,rfl,rfl, ?_⟩
  refine ⟨share,rows,k1,k2,p1,p2,pl,tn,Ep,B,rfl,b,c,pll,tn3,fl,fun gd E' f cs=> ?_,fun j jl bj gj E'=> ?_⟩
  ·exact ⟨sz (show 2≤1000 by decide),hg gd E' f cs⟩
  ·refine ⟨E.sNoPlan,fun x=> ?_⟩
   show (vv 6 x _ _).nx [some (aP Cn share rows),some (.loc k),some (.int (pl:Int)),some (.int (tn:Int)),some (.ref x),some .non,some (.ref x)] _
   refine yw (ρ':=[some (aP Cn share rows),some (.loc k),some (.int (pl:Int)),some (.int (tn:Int)),some (.exc Cj ["place"] [.int (j:Int)]),some .non,none]) ?_ ?_
   ·show [some (aP Cn share rows),some (.loc k),some (.int (pl:Int)),some (.int (tn:Int)),(if x=x then some (.exc Cj ["place"] [.int (j:Int)]) else some (.ref x)),some .non,none]=_
    rw [if_pos rfl]
   exact ⟨sz (show 2≤1000 by decide),hb j jl bj gj E'⟩
def ky(CP:Addr):DF:=fun as M q _=>∃j d:Int,as=[.exc CP ["place"] [.int j], .int d]∧q (.bl (decide (j=d))) M
theorem kO:au ["_law_error","_law_due"] ["_law_error","_law_due"] (ae ck):=⟨rfl,rfl,rfl,by decide+kernel,rfl,by decide+kernel,by decide+kernel⟩
theorem jX{f:Addr}{fd:FuncData}(F:Fun K "_law_refused" "_law_refused" ck f fd)(E:Ev K mg Cn CN CF Ca Cj Ce Cf Ci Ck Cb Cd Cl):bC P w K mg base (CX1 P w) 1 f fd ["_law_error","_law_due"] (spD K (ky Cj)):=by
 refine F.okD kO (fun ds M q x h=> ?_) (fun cdv A outer s H E' hr=>⟨_,(ag (bc (JW.jt (fF (iA (bE (gv K E.n_isinstance (aa (jv 0) (aa (fi E.mNoPlan) af (hs:=aj)) (hs:=aj))))) (eG (iA (bE (gv K E.n_isinstance (aa (jv 0) (aa (BB E.n_ValueError gP) af (hs:=aj)) (hs:=aj)))))))) (ah (av jbl)) aB)
   (ag (bc (JW.jt (fF (bE (gv K E.n_isinstance (aa (jv 0) (aa (fi E.mNoNumber) af (hs:=aj)) (hs:=aj)))) (fF (bE (gv K E.n_isinstance (aa (jv 0) (aa (fi E.mNoText) af (hs:=aj)) (hs:=aj)))) (eG (bE (gv K E.n_isinstance (aa (jv 0) (aa (fi E.mNoName) af (hs:=aj)) (hs:=aj)))))))) (ah (av jbl)) aB)
   (ag (bc (JW.jt (fF (bE (gv K E.n_isinstance (aa (jv 0) (aa (fi E.mNoFloor) af (hs:=aj)) (hs:=aj)))) (fF (bE (gv K E.n_isinstance (aa (jv 0) (aa (fi E.mNoPlace) af (hs:=aj)) (hs:=aj)))) (eG (bE (gv K E.n_isinstance (aa (jv 0) (aa (fi E.mNoGoal) af (hs:=aj)) (hs:=aj)))))))) (ah (av jbl)) aB)
   (ag (bc (JW.jt (fF (bE (gv K E.n_isinstance (aa (jv 0) (aa (fi E.mNoAnswer) af (hs:=aj)) (hs:=aj)))) (fF (bE (gv K E.n_isinstance (aa (jv 0) (aa (fi E.mManyAnswers) af (hs:=aj)) (hs:=aj)))) (eG (bE (gv K E.n_isinstance (aa (jv 0) (aa (fi E.mNoRow) af (hs:=aj)) (hs:=aj)))))))) (ah (av jbl)) aB)
   (ah (av (eh (gv K E.n_isinstance (aa (sG K (jv 0)) (aa (BB E.n_int ua) af (hs:=aj)))) (eh (AK (gv K E.n_isinstance (aa (sG K (jv 0)) (aa (BB E.n_bool qw) af (hs:=aj))))) (fR (Ej hr (sG K (jv 0)) (jv 1))))))))))),fun ds M q x h=> ?_⟩)
 ·obtain ⟨j,d,rfl,_⟩:=h;rfl
 ·obtain ⟨j,d,rfl,h⟩:=h
  refine Or.inl ⟨Cj,_,_,_,_,true,rfl,E.tNoPlan,rfl,yj,fun z=>(nomatch z),fun _=> ?_⟩
  refine Or.inl ⟨Cj,_,_,_,_,true,rfl,E.tNoPlan,rfl,E.kv_NoPlan,fun z=>(nomatch z),fun _=> ?_⟩
  refine Or.inl ⟨Cj,_,_,_,_,false,rfl,E.tNoPlan,rfl,E.kx_NoPlan_NoNumber,fun z=>(nomatch z),fun _=> ?_⟩
  refine Or.inl ⟨Cj,_,_,_,_,false,rfl,E.tNoPlan,rfl,E.kx_NoPlan_NoText,fun z=>(nomatch z),fun _=> ?_⟩
  refine Or.inl ⟨Cj,_,_,_,_,false,rfl,E.tNoPlan,rfl,E.kx_NoPlan_NoName,fun z=>(nomatch z),fun _=> ?_⟩
  refine Or.inl ⟨Cj,_,_,_,_,false,rfl,E.tNoPlan,rfl,E.kx_NoPlan_NoFloor,fun z=>(nomatch z),fun _=> ?_⟩
  refine Or.inl ⟨Cj,_,_,_,_,false,rfl,E.tNoPlan,rfl,E.kx_NoPlan_NoPlace,fun z=>(nomatch z),fun _=> ?_⟩
  refine Or.inl ⟨Cj,_,_,_,_,false,rfl,E.tNoPlan,rfl,E.kx_NoPlan_NoGoal,fun z=>(nomatch z),fun _=> ?_⟩
  refine Or.inl ⟨Cj,_,_,_,_,false,rfl,E.tNoPlan,rfl,E.kx_NoPlan_NoAnswer,fun z=>(nomatch z),fun _=> ?_⟩
  refine Or.inl ⟨Cj,_,_,_,_,false,rfl,E.tNoPlan,rfl,E.kx_NoPlan_ManyAnswers,fun z=>(nomatch z),fun _=> ?_⟩
  refine Or.inl ⟨Cj,_,_,_,_,false,rfl,E.tNoPlan,rfl,E.kx_NoPlan_NoRow,fun z=>(nomatch z),fun _=> ?_⟩
  refine ⟨Cj,_,_,_,rfl,E.tNoPlan,E.x_NoPlan_place,rfl, ?_⟩
  refine Or.inr ⟨_,_,_,_,true,rfl,rfl,rfl,so,fun _=> ?_,fun z=>(nomatch z)⟩
  refine ⟨Cj,_,_,_,rfl,E.tNoPlan,E.x_NoPlan_place,rfl, ?_⟩
  refine Or.inr ⟨_,_,_,_,false,rfl,rfl,rfl,E.ib,fun _=> ?_,fun z=>(nomatch z)⟩
  refine ⟨Cj,_,_,_,rfl,E.tNoPlan,E.x_NoPlan_place,rfl, ?_⟩
  exact h
end
end Pg
set_option maxRecDepth 100000
set_option maxHeartbeats 4000000
namespace Pg
open PySem L2 Fr0 Tx
theorem oM{M:Ms}:∀rs:List Rw,Paired (iT M) (rs.map cz) rs
 | []=> .nil
 | r::rs=> .cons (xD _ r) (oM rs)
theorem vx{M:Ms}{q:DQ}{A:Addr}{share:Fr}{rows:List Rw}(h:q (aP A share rows) M):frzU M q (.loc M.length) ((M++[MO.ins A [] []]).set M.length (.ins A ["kept_share","kept_rows"] [frD share, .lst (rows.map cz)])):=by
 rw [fk]
 exact tm (d':=aP A share rows) (.newO (Nat.le_refl _) (by simp) (.cons (.old (lW share)) (.cons (.old (gU rows)) .nil))) h
theorem yE{rows:List Rw}{s1 s2 p1 p2:Pl}(n1:NdP s1)(n2:NdP s2)(h1:eqP s1 p1=true)(h2:eqP s2 p2=true)(j:Nat):aZ rows s1 s2 j=aZ rows p1 p2 j:=by
 have same:∀{s p:Pl},NdP s→eqP s p=true→∀i,bq s i=bq p i:=fun {s p} nd h i=>by
  cases hg:bq s i with
  | none=>exact (vE nd h hg).symm
  | some v=>exact (tI h hg).symm
 unfold aZ
 cases hr:rows[j]? with
 | none=>rfl
 | some r=>
  show eL s1 s2 j r=eL p1 p2 j r
  unfold eL aW
  by_cases e:kindOf r="one"
  ·rw [if_pos e,if_pos e]
   show br s1 j _=br p1 j _
   unfold br
   rw [same n1 h1]
  ·rw [if_neg e,if_neg e]
   by_cases e':kindOf r="other"
   ·rw [if_pos e',if_pos e']
    show br s2 j _=br p2 j _
    unfold br
    rw [same n2 h2]
   ·rw [if_neg e',if_neg e']
theorem yJ{i:Nat}{ρ:En}{M:Ms}{q:DQ}{x:DX}{xs:List Dt}(h:ρ[i]? =some (some (.lst xs)))(hq:q (.int xs.length) M):dFn mG (jd (oa i) vY) ρ M q x:=by
 unfold dFn jd oa vY
 rw [h]
 exact aQ (d:= .lst xs) rfl hq
theorem EX{i j:Nat}{ρ:En}{M:Ms}{a b:Dt}{q:List Dt→(Ms→Prop)→Ms→Prop}{x:DX}(h1:ρ[i]? =some (some a))(h2:ρ[j]? =some (some b))(hq:q [a,b,a] (fun _=>True) M):iG (BG (jd (oa i) (jd (oa j) (jd (oa i) vY)))) ρ M q x:=by
 unfold iG BG jd oa vY
 rw [h1,h2]
 exact ⟨by show 3≤sizeLine;decide,hq⟩
theorem sg{i:Nat}{ρ:En}{M:Ms}{a b:Dt}{q:Bool→Ms→Prop}{x:DX}(h:ρ[i]? =some (some (.tup [a,b])))(hq:q false M):jK (dOp BE (dFn mG (jd (oa i) vY)) (dC (.int 2))) ρ M q x:=by
 unfold jK dOp dFn jd oa vY dC
 rw [h]
 exact aQ (d:= .tup [a,b]) rfl hq
theorem xu{ti:DK}{g:Dt→En→(En→Prop)→Prop}{tb u:DS}{Dn:fW}{ρ:En}{M:Ms}(h:ti ρ M (fun xs ok M1=>uw g tb {Dn with nx:=u Dn} ok xs ρ M1) Dn.x):B6 (xA ti g tb) u Dn ρ M:=h
section
variable{P:Program}{w:World}{K:PySem.W.Frag}{mg:Str→Option Value}{base:Heap}{Cn CN CF Ca Cj Ce Cf Ci Ck Cb Cd Cl:Addr}
theorem h9:au ["_law_script","_law_rows_here","_law_floor","_law_plans_here","_law_spoilt_here","_law_bad","_law_place","_law_turns","_law_asked","_law_found","_law_error"] ["_law_script"] (ae uQ):=⟨rfl,rfl,rfl,by decide+kernel,rfl,by decide+kernel,by decide+kernel⟩
theorem Ai {f:Addr} {fd:FuncData} (F:Fun K "law" "law" uQ f fd) (E:Ev K mg Cn CN CF Ca Cj Ce Cf Ci Ck Cb Cd Cl) {fLawRows:Addr} {dLawRows:FuncData} (c_LawRows:aR P w K mg base 5 "_law_rows" ["_law_script","_law_most","_law_wide"] uj fLawRows dLawRows) {fFloorInit:Addr} {dFloorInit:FuncData} (c_FloorInit:DM P w K mg base 5 "Floor" Cn ["self","share","rows"] (yY Cn) fFloorInit dFloorInit) {fLawShare:Addr} {dLawShare:FuncData} (c_LawShare:aR P w K mg base 2 "_law_share" ["_law_number_here"] ot fLawShare dLawShare) {fLawNumber:Addr} {dLawNumber:FuncData} (c_LawNumber:aR P w K mg base 2 "_law_number" ["_law_script","_law_k"] uo fLawNumber dLawNumber) {fLawPlans:Addr} {dLawPlans:FuncData} (c_LawPlans:aR P w K mg base 3 "_law_plans" ["_law_script","_law_rows_here","_law_at"] um fLawPlans dLawPlans) {fLawSpoilt:Addr} {dLawSpoilt:FuncData} (c_LawSpoilt:aR P w K mg base 3 "_law_spoilt" ["_law_script","_law_rows_here","_law_plans_here"] oo fLawSpoilt dLawSpoilt) {fLawTold:Addr} {dLawTold:FuncData} (c_LawTold:aR P w K mg base 9 "_law_told" ["_law_floor","_law_plans_here","_law_place","_law_turns"] (yT Cn Cj) fLawTold dLawTold) {fLawRefused:Addr} {dLawRefused:FuncData} (c_LawRefused:aR P w K mg base 1 "_law_refused" ["_law_error","_law_due"] (ky Cj) fLawRefused dLawRefused):bC P w K mg base (CX1 P w) 10 f fd ["_law_script"] (spD K DD):=by
 refine F.okD h9 (fun ds M q x h=> ?_) (fun cdv A outer s H E' hr=>⟨_,(ag (ax (i:=1) h9.nd rfl (Or.inl rfl) (gM (bR c_LawRows hr ak (aa (jv 0) (aa ay (aa ay af (hs:=cy)) (hs:=cy)) (hs:=aj)))))
   (ag (ax (i:=2) h9.nd rfl (Or.inl rfl) (gM (AQ c_FloorInit hr ak (aa (bR c_LawShare hr ak (aa (bR c_LawNumber hr ak (aa (jv 0) (aa ay af (hs:=cy)) (hs:=aj))) af (hs:=bI))) (aa (gM (sI E.n_list (aa (jv 1) af (hs:=aj)))) af (hs:=bI)) (hs:=bI)))))
   (ag (ax (i:=3) h9.nd rfl (Or.inl rfl) (bR c_LawPlans hr ak (aa (jv 0) (aa (jv 1) (aa ay af (hs:=cy)) (hs:=aj)) (hs:=aj))))
   (ag (sy (bR c_LawSpoilt hr ak (aa (jv 0) (aa (jv 1) (aa (jv 3) af (hs:=aj)) (hs:=aj)) (hs:=aj))) (kY rfl (cv (aK (i:=4) h9.nd rfl (Or.inl rfl)) (cv (aK (i:=5) h9.nd rfl (Or.inl rfl)) ij))))
   (ag (ax (i:=6) h9.nd rfl (Or.inl rfl) (bX (bR c_LawNumber hr ak (aa (jv 0) (aa ay af (hs:=cy)) (hs:=aj))) (eJ E.n_len (aa (jv 1) af (hs:=aj)))))
   (ag (ax (i:=7) h9.nd rfl (Or.inl rfl) (bX (bR c_LawNumber hr ak (aa (jv 0) (aa ay af (hs:=cy)) (hs:=aj))) ay))
   (ag (eI (ef (lP (aa (jv 4) (aa (jv 3) (aa (jv 4) af (hs:=aj)) (hs:=aj)) (hs:=aj)))) (aK (i:=8) h9.nd rfl (Or.inl rfl)) cp (ag (sy (bR c_LawTold hr ak (aa (jv 2) (aa (jv 8) (aa (jv 6) (aa (jv 7) af (hs:=aj)) (hs:=aj)) (hs:=aj)) (hs:=aj))) (kY rfl (cv (aK (i:=9) h9.nd rfl (Or.inl rfl)) (cv (aK (i:=10) h9.nd rfl (Or.inl rfl)) ij))))
   (ah (bc (JW.jt (fF (AG 2 hr (jv 8) (jv 3)) (eG (AF 1 hr (jv 5) (lP af))))) (ah (bc (JW.jt (fF (sv (jv 10) yp) (fF (iA (bE (AS K E.n_isinstance (aa (jv 9) (aa (BB E.n_tuple og) af (hs:=aj)) (hs:=aj))))) (eG (yn hr (eJ E.n_len (aa (jv 9) af (hs:=aj))) ay))))) (ah (av jbl)) aB)) (ah (bc (JW.jt (fF (sv (jv 9) yp) (eG (iA (bE (bR c_LawRefused hr ak (aa (jv 10) (aa (AO E.n_min (aa (jv 5) af (hs:=aj))) af (hs:=bI)) (hs:=aj)))))))) (ah (av jbl)) aB))))))
   (ah (av jbl))))))))),fun ds M q x h=> ?_⟩)
 ·obtain ⟨ns,rfl,_⟩:=h;rfl
 ·obtain ⟨ns,rfl,hl,hq⟩:=h
  have sz:∀{z:Nat},z≤1000→z≤sizeLine:=fun h=>Nat.le_trans h (by decide)
  refine ⟨ns,rfl,fun rows r1 r6 hg=>fS (gU rows) ?_⟩
  have hg1:∀r∈rows,fh r∧dX r rows.length=true:=fun r hr=>(hg r hr).1
  refine ⟨ns,1,rfl,by decide,by decide,fun n1 hn1=>⟨n1,rfl,fun share hs=> ?_⟩⟩
  have f:Bt share rows:=⟨hs,by omega,hg1⟩
  obtain ⟨Ep,B,fl⟩:=C5 hs r6 hg
  walk_at "vc"
  refine yx (gU rows) ?_
  refine ⟨M.length, .lst (rows.map cz),share,rows.map cz,rows,fun _=>True,rfl,cR,rfl,oM rows,hs,r1,by omega,hg1,rfl,vx ?_⟩
  refine ⟨ns,rows,rfl,by omega,fun k ds hm=>(aU f hm).l1,fun p1 p2 np1 np2 pl1 pl2 gd=> ?_⟩
  refine ⟨ns,rows,M.length+2,p1,p2,rfl,mQ M p1 p2,by omega,fun k ds hm=>⟨(aU f hm).l1,(aU f hm).l6⟩,np1,np2,pl1,pl2,gd,fun s1 s2 bs sp=> ?_⟩
  obtain ⟨ks,hks⟩:∃ks,ks=(St3 M p1 p2).length+2:=⟨_,rfl⟩
  obtain ⟨kb,hkb⟩:∃kb,kb=(St3 M p1 p2).length+3:=⟨_,rfl⟩
  obtain ⟨kp,hkp⟩:∃kp,kp=M.length+2:=⟨_,rfl⟩
  have t1:Two (St3 (St3 M p1 p2) s1 s2++[MO.lst (bs.map ntD)]) kp p1 p2:=by
   have:=(mQ M p1 p2).app (E:=[dP s1,dP s2, .dct [Sum.inr "one",Sum.inr "other"] [.loc (St3 M p1 p2).length, .loc ((St3 M p1 p2).length+1)]])
   rw [hkp]
   exact Two.app this
  have t2:Two (St3 (St3 M p1 p2) s1 s2++[MO.lst (bs.map ntD)]) ks s1 s2:=by
   rw [hks];exact (mQ (St3 M p1 p2) s1 s2).app
  have t3:(St3 (St3 M p1 p2) s1 s2++[MO.lst (bs.map ntD)])[kb]? =some (.lst (bs.map ntD)):=by
   have:=cR (M:=St3 (St3 M p1 p2) s1 s2) (o:=MO.lst (bs.map ntD))
   rw [jM] at this
   rw [hkb];exact this
  rw [←hks,←hkb,←hkp]
  generalize St3 (St3 M p1 p2) s1 s2++[MO.lst (bs.map ntD)]=M0 at *
  refine ⟨ns,32,rfl,by decide,by decide,fun n hn=> ?_⟩
  refine yJ (i:=1) rfl ?_
  rw [List.length_map]
  refine ⟨by omega, ?_⟩
  obtain ⟨pl,hi0,hi⟩:∃i:Nat,n % (rows.length:Int)=(i:Int)∧i < rows.length:=by
   have a:=Int.emod_nonneg n (show (rows.length:Int)≠0 by omega)
   have b:=Int.emod_lt_of_pos n (show (0:Int) < rows.length by omega)
   exact ⟨(n % (rows.length:Int)).toNat,by omega,by omega⟩
  rw [hi0]
  refine ⟨ns,33,rfl,by decide,by decide,fun n' hn'=>⟨by decide, ?_⟩⟩
  obtain ⟨tn,ht0,ht⟩:∃i:Nat,n' % 3=(i:Int)∧i≤3:=by
   have a:=Int.emod_nonneg n' (show (3:Int)≠0 by decide)
   have b:=Int.emod_lt_of_pos n' (show (0:Int) < 3 by decide)
   exact ⟨(n' % 3).toNat,by omega,by omega⟩
  rw [ht0]
  clear hn hn' hi0 ht0
  dsimp only
  refine xu ?_
  refine EX rfl rfl ?_
  refine dW (fun xs ρ M'=>∃(rest:List Nat) (E1:Ms) (o8 o9 o10:Option Dt),xs=rest.map Dt.loc∧(∀k∈rest,k=ks∨k=kp)∧M'=M0++E1∧ρ=[some (.scr ns),some (.lst (rows.map cz)),some (aP Cn share rows),some (.loc kp),some (.loc ks),some (.loc kb),some (.int (pl:Int)),some (.int (tn:Int)),o8,o9,o10]) (fun xs ρ M' hj=>trivial) (fun x xs ρ M' hj nxt=> ?_) (fun ρ M' hj=> ?_) _ _ _ ⟨[ks,kp,ks],[],none,none,none,rfl,fun k hk=> ?_,by rw [List.append_nil],rfl⟩
  ·obtain ⟨rest,E1,o8,o9,o10,ex,hrest,rfl,rfl⟩:=hj
   cases rest with
   | nil=>cases ex
   | cons k rest=>
    cases ex
    have hk:=hrest k List.mem_cons_self
    have next:∀E2 o9 o10,_:=fun E2 o9 o10=>nxt [some (.scr ns),some (.lst (rows.map cz)),some (aP Cn share rows),some (.loc kp),some (.loc ks),some (.loc kb),some (.int (pl:Int)),some (.int (tn:Int)),some (.loc k),o9,o10] (M0++E1++E2) ⟨rest,E1++E2,_,o9,o10,rfl,fun c hc=>hrest c (List.mem_cons_of_mem _ hc),by rw [List.append_assoc],rfl⟩
    obtain ⟨q1,q2,hq12,htw⟩:∃q1 q2,((k=kp∧q1=p1∧q2=p2)∨(q1=s1∧q2=s2))∧∀E2,Two (M0++E1++E2) k q1 q2:=by
     rcases hk with e | e
     ·exact ⟨s1,s2, .inr ⟨rfl,rfl⟩,fun E2=>by rw [e];exact (t2.app).app⟩
     ·exact ⟨p1,p2, .inl ⟨e,rfl,rfl⟩,fun E2=>by rw [e];exact (t1.app).app⟩
    have tp:∀E2,Two (M0++E1++E2) kp p1 p2:=fun E2=>(t1.app).app
    have tb:∀E2,(M0++E1++E2)[kb]? =some (.lst (bs.map ntD)):=fun E2=>eQ (eQ t3)
    have tw0:Two (M0++E1) k q1 q2:=by have:=htw [];rwa [List.append_nil] at this
    refine ⟨share,rows,k,q1,q2,pl,tn,Ep,B,rfl,tw0,hi,ht,fl,fun gq E2 fr cs=> ?_,fun j jl bj gj E2=> ?_⟩
    ·have bnil:(q1=s1∧q2=s2)→bs=[]:=fun e=>by
      cases hbs:bs with
      | nil=>rfl
      | cons b l=>
       have bm:b∈bs:=by rw [hbs];exact List.mem_cons_self
       have:=gq b (sp.lt b bm)
       rw [e.1,e.2,sp.good b (sp.lt b bm),decide_eq_true bm] at this
       cases this
     have fin:∀(Dn:fW),True:=fun _=>trivial
     refine ⟨k,kp,_,rfl,rfl,tK (htw E2) (tp E2),fun z=>⟨fun _=> ?_,fun y=>(nomatch y)⟩,fun z=> ?_⟩
     ·refine ⟨rfl,fun z=>(nomatch z),fun _=> ?_⟩
      refine ⟨_,_,_,_,true,rfl,rfl,rfl,so,fun z=>(nomatch z),fun _=> ?_⟩
      refine sg (i:=9) rfl ?_
      exact ⟨fun z=>(nomatch z),fun _=>next E2 _ _⟩
     ·have e:q1=s1∧q2=s2:=by
       rcases hq12 with ⟨_,e1,e2⟩ | e
       ·rw [e1,e2,pk np1,pk np2] at z;cases z
       ·exact e
      have hb0:=bnil e
      have lq:=j8 (tb E2)
      rw [hb0] at lq
      refine ⟨by decide,true, .inr ⟨_,lq⟩, .inr ⟨_,rfl⟩,tJ (ds:=[]) lq rfl (fun d hd=>nomatch hd),fun _=> ?_,fun z=>(nomatch z)⟩
      refine ⟨rfl,fun z=>(nomatch z),fun _=> ?_⟩
      refine ⟨_,_,_,_,true,rfl,rfl,rfl,so,fun z=>(nomatch z),fun _=> ?_⟩
      refine sg (i:=9) rfl ?_
      exact ⟨fun z=>(nomatch z),fun _=>next E2 _ _⟩
    ·have e:q1=s1∧q2=s2:=by
      rcases hq12 with ⟨_,e1,e2⟩ | e
      ·rw [e1,e2,gd j jl] at bj;cases bj
      ·exact e
     obtain ⟨e1,e2⟩:=e
     subst e1 e2
     have jb:j∈bs:=by
      have:=sp.good j jl
      rw [bj] at this
      by_cases z:j∈bs
      ·exact z
      ·rw [decide_eq_false z] at this;cases this
     refine ⟨k,kp,_,rfl,rfl,tK (htw E2) (tp E2),fun z=> ?_,fun z=> ?_⟩
     ·rw [Bool.and_eq_true] at z
      rw [yE sp.n1 sp.n2 z.1 z.2,gd j jl] at bj
      cases bj
     ·refine ⟨by decide,false, .inr ⟨_,j8 (tb E2)⟩, .inr ⟨_,rfl⟩,EqM.len (j8 (tb E2)) rfl ?_,fun z=>(nomatch z),fun _=> ?_⟩
      ·rw [List.length_map]
       exact fun z=>by
        have:=List.length_pos_of_mem jb
        have z:bs.length=0:=z
        omega
      refine ⟨rfl,fun z=>(nomatch z),fun _=> ?_⟩
      refine ⟨bs.map fun b:Nat=>(b:Int),by rw [List.map_map];exact j8 (tb E2),fun z=> ?_,fun m hm hmin=> ?_⟩
      ·have:=List.map_eq_nil_iff.mp z
       rw [this] at jb;cases jb
      obtain ⟨b,hb,rfl⟩:=List.mem_map.mp hm
      have bj':(b:Int)≤(j:Int):=hmin _ (List.mem_map.mpr ⟨j,jb,rfl⟩)
      have jb':¬b < j:=fun z=>by
       have:=gj b z
       rw [sp.good b (sp.lt b hb),decide_eq_true hb] at this
       cases this
      have ej:(j:Int)=(b:Int):=by omega
      refine ⟨(j:Int),(b:Int),rfl,fun z=> ?_,fun _=>next E2 _ _⟩
      have z:(!decide ((j:Int)=(b:Int)))=true:=z
      rw [decide_eq_true ej] at z
      cases z
  ·obtain ⟨rest,E1,o8,o9,o10,ex,hrest,rfl,rfl⟩:=hj
   exact hq _
  ·simp at hk
   rcases hk with e | e | e
   ·exact .inl e
   ·exact .inr e
   ·exact .inl e
end
end Pg
set_option maxRecDepth 100000
set_option maxHeartbeats 4000000
namespace Pg
open PySem L2 Fr0 Tx
theorem iw{P:List Value→Prop}(h:∀a0:Value,P [a0]):∀us:List Value,us.length=1→P us
 | [a0],_=>h a0
theorem dN{P:List Value→Prop}(h:∀a0 a1:Value,P [a0,a1]):∀us:List Value,us.length=2→P us
 | [a0,a1],_=>h a0 a1
theorem i4{P:List Value→Prop}(h:∀a0 a1 a2:Value,P [a0,a1,a2]):∀us:List Value,us.length=3→P us
 | [a0,a1,a2],_=>h a0 a1 a2
theorem Ap{P:List Value→Prop}(h:∀a0 a1 a2 a3:Value,P [a0,a1,a2,a3]):∀us:List Value,us.length=4→P us
 | [a0,a1,a2,a3],_=>h a0 a1 a2 a3
theorem Ao{P:List Value→Prop}(h:∀a0 a1 a2 a3 a4:Value,P [a0,a1,a2,a3,a4]):∀us:List Value,us.length=5→P us
 | [a0,a1,a2,a3,a4],_=>h a0 a1 a2 a3 a4
theorem lK{K:PySem.W.Frag}(h:PySem.W.subIn K (.type "int") (.type "bool")=some false):PySem.W.kitOne K (.type "int") (.type "bool")=some false:=by
 unfold PySem.W.kitOne PySem.W.kitCls
 rw [if_neg (by decide+kernel)]
 show (if PySem.W.kitMeta "bool"=true then _ else _)=_
 rw [if_pos (by decide+kernel)]
 exact h
theorem nK{K:PySem.W.Frag}(h:PySem.W.subIn K (.type "int") (.type "str")=some false):PySem.W.kitOne K (.type "int") (.type "str")=some false:=by
 unfold PySem.W.kitOne PySem.W.kitCls
 rw [if_neg (by decide+kernel)]
 show (if PySem.W.kitMeta "str"=true then _ else _)=_
 rw [if_pos (by decide+kernel)]
 exact h
theorem ka{K:PySem.W.Frag}(h:PySem.W.subIn K (.type "tuple") (.type "str")=some false):PySem.W.kitOne K (.type "tuple") (.type "str")=some false:=by
 unfold PySem.W.kitOne PySem.W.kitCls
 rw [if_neg (by decide+kernel)]
 show (if PySem.W.kitMeta "str"=true then _ else _)=_
 rw [if_pos (by decide+kernel)]
 exact h
theorem kc{K:PySem.W.Frag}(h:PySem.W.subIn K (.type "tuple") (.type "int")=some false):PySem.W.kitOne K (.type "tuple") (.type "int")=some false:=by
 unfold PySem.W.kitOne PySem.W.kitCls
 rw [if_neg (by decide+kernel)]
 show (if PySem.W.kitMeta "int"=true then _ else _)=_
 rw [if_pos (by decide+kernel)]
 exact h
theorem lI{K:PySem.W.Frag}(h:PySem.W.subIn K (.type "list") (.type "str")=some false):PySem.W.kitOne K (.type "list") (.type "str")=some false:=by
 unfold PySem.W.kitOne PySem.W.kitCls
 rw [if_neg (by decide+kernel)]
 show (if PySem.W.kitMeta "str"=true then _ else _)=_
 rw [if_pos (by decide+kernel)]
 exact h
theorem lJ{K:PySem.W.Frag}(h:PySem.W.subIn K (.type "list") (.type "int")=some false):PySem.W.kitOne K (.type "list") (.type "int")=some false:=by
 unfold PySem.W.kitOne PySem.W.kitCls
 rw [if_neg (by decide+kernel)]
 show (if PySem.W.kitMeta "int"=true then _ else _)=_
 rw [if_pos (by decide+kernel)]
 exact h
theorem i5{K:PySem.W.Frag}(h:PySem.W.subIn K (.type "tuple") (.type "list")=some false):PySem.W.kitOne K (.type "tuple") (.type "list")=some false:=by
 unfold PySem.W.kitOne PySem.W.kitCls
 rw [if_neg (by decide+kernel)]
 show (if PySem.W.kitMeta "list"=true then _ else _)=_
 rw [if_pos (by decide+kernel)]
 exact h
theorem i6{K:PySem.W.Frag}(h:PySem.W.subIn K (.type "list") (.type "tuple")=some false):PySem.W.kitOne K (.type "list") (.type "tuple")=some false:=by
 unfold PySem.W.kitOne PySem.W.kitCls
 rw [if_neg (by decide+kernel)]
 show (if PySem.W.kitMeta "tuple"=true then _ else _)=_
 rw [if_pos (by decide+kernel)]
 exact h
open PySem.W in
theorem Bp{l:OpenLaw}{w:World}{K:Frag}{h:Heap}{mg:Str→Option Value}{fa Cm Cg Ca Cn atHANDS Cj Ce Cf Ci Ck Cb Cd Cl f1 f2 f3 f4 f5 f6 f7 f8 f9 f10 f11 f12 f13 f14 f15 f16 f17 f18 f19 f20 f21 f22 f23 f24 f25 f26 f27 f28 f29 f30 f31 f32 f33 f34 f35 f36 f37 f38 f39 f40 f41 f42 f43 f44 f45:Addr}(X:K.In h)(G:h.Ns mainGlobals mg)(hfa:mg "law"=some (.ref fa))
  {od1 an1 od2 an2 od3 an3 od4 an4 od5 an5 od6 an6 od7 an7 od8 an8 od9 an9 od10 an10 od11 an11 od12 an12 od13 an13 od14 an14 od15 an15 od16 an16 od17 an17 od18 an18 od19 an19 od20 an20 od21 an21 od22 an22 od23 an23 od24 an24 od25 an25 od26 an26 od27 an27 od28 an28 od29 an29 od30 an30 od31 an31 od32 an32 od33 an33 od34 an34 od35 an35 od36 an36 od37 an37 od38 an38 od39 an39 od40 an40 od41 an41 od42 an42 od43 an43 od44 an44 od45 an45:Option Addr} {sl1 sl2 sl3 sl4 sl5 sl6 sl7 sl8 sl9 sl10 sl11 sl12 sl13 sl14 sl15 sl16 sl17 sl18 sl19 sl20 sl21 sl22 sl23 sl24 sl25 sl26 sl27 sl28 sl29 sl30 sl31 sl32 sl33 sl34 sl35 sl36 sl37 sl38 sl39 sl40 sl41 sl42 sl43 sl44 sl45:Array (Option Value)} {oc1 kV1 dc1 pm1 cd1 ct1 oc2 kV2 dc2 pm2 cd2 ct2 oc3 kV3 dc3 pm3 cd3 ct3 oc4 kV4 dc4 pm4 cd4 ct4 oc5 kV5 dc5 pm5 cd5 ct5 oc6 kV6 dc6 pm6 cd6 ct6 oc7 kV7 dc7 pm7 cd7 ct7 oc8 kV8 dc8 pm8 cd8 ct8 oc9 kV9 dc9 pm9 cd9 ct9 oc10 kV10 dc10 pm10 cd10 ct10 oc11 kV11 dc11 pm11 cd11 ct11 oc12 kV12 dc12 pm12 cd12 ct12 oc13 kV13 dc13 pm13 cd13 ct13 oc14 kV14 dc14 pm14 cd14 ct14 oc15 kV15 dc15 pm15 cd15 ct15 oc16 kV16 dc16 pm16 cd16 ct16 oc17 kV17 dc17 pm17 cd17 ct17 oc18 kV18 dc18 pm18 cd18 ct18 oc19 kV19 dc19 pm19 cd19 ct19 oc20 kV20 dc20 pm20 cd20 ct20 oc21 kV21 dc21 pm21 cd21 ct21 oc22 kV22 dc22 pm22 cd22 ct22 oc23 kV23 dc23 pm23 cd23 ct23 oc24 kV24 dc24 pm24 cd24 ct24 oc25 kV25 dc25 pm25 cd25 ct25 oc26 kV26 dc26 pm26 cd26 ct26 oc27 kV27 dc27 pm27 cd27 ct27 oc28 kV28 dc28 pm28 cd28 ct28 oc29 kV29 dc29 pm29 cd29 ct29 oc30 kV30 dc30 pm30 cd30 ct30 oc31 kV31 dc31 pm31 cd31 ct31 oc32 kV32 dc32 pm32 cd32 ct32 oc33 kV33 dc33 pm33 cd33 ct33 oc34 kV34 dc34 pm34 cd34 ct34 oc35 kV35 dc35 pm35 cd35 ct35 oc36 kV36 dc36 pm36 cd36 ct36 oc37 kV37 dc37 pm37 cd37 ct37 oc38 kV38 dc38 pm38 cd38 ct38 oc39 kV39 dc39 pm39 cd39 ct39 oc40 kV40 dc40 pm40 cd40 ct40 oc41 kV41 dc41 pm41 cd41 ct41 oc42 kV42 dc42 pm42 cd42 ct42 oc43 kV43 dc43 pm43 cd43 ct43 oc44 kV44 dc44 pm44 cd44 ct44 oc45 kV45 dc45 pm45 cd45 ct45:Value} {tkMOST_DOORS tkMOST_BOTTOM tkMOST_PLACES tkMOST_SHARE_BOTTOM:Tok}
  (aENoNumber:nsIn K mainGlobals "NoNumber"=some (some (.ref Cm))) (xENoNumber:excIn K Cm [.type "ValueError", .type "Exception", .type "BaseException", .type "object"] "ValueError.__new__"=true)
  (aENoFloor:nsIn K mainGlobals "NoFloor"=some (some (.ref Cg))) (xENoFloor:excIn K Cg [.type "ValueError", .type "Exception", .type "BaseException", .type "object"] "ValueError.__new__"=true)
  (aEDuelError:nsIn K mainGlobals "DuelError"=some (some (.ref Ca))) (xEDuelError:excIn K Ca [.type "ValueError", .type "Exception", .type "BaseException", .type "object"] "ValueError.__new__"=true)
  (aXNoPlan:nsIn K mainGlobals "NoPlan"=some (some (.ref Cj)))
  (aXNoText:nsIn K mainGlobals "NoText"=some (some (.ref Ce)))
  (aXNoName:nsIn K mainGlobals "NoName"=some (some (.ref Cf)))
  (aXNoPlace:nsIn K mainGlobals "NoPlace"=some (some (.ref Ci)))
  (aXNoGoal:nsIn K mainGlobals "NoGoal"=some (some (.ref Ck)))
  (aXNoAnswer:nsIn K mainGlobals "NoAnswer"=some (some (.ref Cb)))
  (aXManyAnswers:nsIn K mainGlobals "ManyAnswers"=some (some (.ref Cd)))
  (aXNoRow:nsIn K mainGlobals "NoRow"=some (some (.ref Cl)))
  (acMOST_DOORS:nsIn K mainGlobals "MOST_DOORS"=some (some (.int (6) tkMOST_DOORS)))
  (acMOST_BOTTOM:nsIn K mainGlobals "MOST_BOTTOM"=some (some (.int (1000000) tkMOST_BOTTOM)))
  (acMOST_PLACES:nsIn K mainGlobals "MOST_PLACES"=some (some (.int (12) tkMOST_PLACES)))
  (acMOST_SHARE_BOTTOM:nsIn K mainGlobals "MOST_SHARE_BOTTOM"=some (some (.int (1000) tkMOST_SHARE_BOTTOM)))
  (aCFloor:nsIn K mainGlobals "Floor"=some (some (.ref Cn))) (pgFloor:plainGet K Cn Str.empty=true) (hdFloor:hasDictIn K Cn=true) (poFloor:plainOver K Cn=true) (saFloor:findIn K (.ref Cn) "__setattr__"=some (some (.builtin "object.__setattr__"))) (mkFloor:makesIn K Cn=true) (kcFloor:keepIn K (.ref Cn)=true)
  (nf_kept_rows:findIn K (.ref Cn) "kept_rows"=some none)
  (nf_kept_share:findIn K (.ref Cn) "kept_share"=some none)
  {ttHANDS0 ttHANDS1:Tok} {otdHANDS:Option Addr} {otsHANDS:Array (Option Value)} {otnHANDS:Nat} (at_HANDS:nsIn K mainGlobals "HANDS"=some (some (.ref atHANDS))) (lt_HANDS:K.lookup atHANDS=some ⟨.type "tuple",otdHANDS, .seq #[(.str "one" ttHANDS0),(.str "other" ttHANDS1)] otnHANDS,otsHANDS⟩)
  (ks_int_bool:subIn K (.type "int") (.type "bool")=some false)
  (ks_int_str:subIn K (.type "int") (.type "str")=some false)
  (ks_tuple_str:subIn K (.type "tuple") (.type "str")=some false)
  (ks_tuple_int:subIn K (.type "tuple") (.type "int")=some false)
  (ks_list_str:subIn K (.type "list") (.type "str")=some false)
  (ks_list_int:subIn K (.type "list") (.type "int")=some false)
  (ks_tuple_list:subIn K (.type "tuple") (.type "list")=some false)
  (ks_list_tuple:subIn K (.type "list") (.type "tuple")=some false)
  (a1:nsIn K mainGlobals "_law_far"=some (some (.ref f1))) (l1:K.lookup f1=some ⟨oc1,od1, .func (fnOf "_law_far" "_law_far" (ar gh) (aq gh) (ae gh) .none kV1 dc1 pm1 an1 cd1 ct1),sl1⟩) (c1:codeIn K cd1 "_law_far"=true) (k1:keepIn K (.ref f1)=true)
  (a2:nsIn K mainGlobals "_law_number"=some (some (.ref f2))) (l2:K.lookup f2=some ⟨oc2,od2, .func (fnOf "_law_number" "_law_number" (ar cE) (aq cE) (ae cE) .none kV2 dc2 pm2 an2 cd2 ct2),sl2⟩) (c2:codeIn K cd2 "_law_number"=true) (k2:keepIn K (.ref f2)=true)
  (a3:nsIn K mainGlobals "_law_lowest"=some (some (.ref f3))) (l3:K.lookup f3=some ⟨oc3,od3, .func (fnOf "_law_lowest" "_law_lowest" (ar cF) (aq cF) (ae cF) .none kV3 dc3 pm3 an3 cd3 ct3),sl3⟩) (c3:codeIn K cd3 "_law_lowest"=true) (k3:keepIn K (.ref f3)=true)
  (a4:nsIn K mainGlobals "_law_pay"=some (some (.ref f4))) (l4:K.lookup f4=some ⟨oc4,od4, .func (fnOf "_law_pay" "_law_pay" (ar gf) (aq gf) (ae gf) .none kV4 dc4 pm4 an4 cd4 ct4),sl4⟩) (c4:codeIn K cd4 "_law_pay"=true) (k4:keepIn K (.ref f4)=true)
  (a5:nsIn K mainGlobals "_law_rest"=some (some (.ref f5))) (l5:K.lookup f5=some ⟨oc5,od5, .func (fnOf "_law_rest" "_law_rest" (ar eZ) (aq eZ) (ae eZ) .none kV5 dc5 pm5 an5 cd5 ct5),sl5⟩) (c5:codeIn K cd5 "_law_rest"=true) (k5:keepIn K (.ref f5)=true)
  (a6:nsIn K mainGlobals "_law_doors"=some (some (.ref f6))) (l6:K.lookup f6=some ⟨oc6,od6, .func (fnOf "_law_doors" "_law_doors" (ar bD) (aq bD) (ae bD) .none kV6 dc6 pm6 an6 cd6 ct6),sl6⟩) (c6:codeIn K cd6 "_law_doors"=true) (k6:keepIn K (.ref f6)=true)
  (a7:nsIn K mainGlobals "_law_rows"=some (some (.ref f7))) (l7:K.lookup f7=some ⟨oc7,od7, .func (fnOf "_law_rows" "_law_rows" (ar eY) (aq eY) (ae eY) .none kV7 dc7 pm7 an7 cd7 ct7),sl7⟩) (c7:codeIn K cd7 "_law_rows"=true) (k7:keepIn K (.ref f7)=true)
  (a8:nsIn K mainGlobals "fits_share"=some (some (.ref f8))) (l8:K.lookup f8=some ⟨oc8,od8, .func (fnOf "fits_share" "fits_share" (ar cJ) (aq cJ) (ae cJ) .none kV8 dc8 pm8 an8 cd8 ct8),sl8⟩) (c8:codeIn K cd8 "fits_share"=true) (k8:keepIn K (.ref f8)=true)
  (a9:nsIn K mainGlobals "fits_pay"=some (some (.ref f9))) (l9:K.lookup f9=some ⟨oc9,od9, .func (fnOf "fits_pay" "fits_pay" (ar e7) (aq e7) (ae e7) .none kV9 dc9 pm9 an9 cd9 ct9),sl9⟩) (c9:codeIn K cd9 "fits_pay"=true) (k9:keepIn K (.ref f9)=true)
  (a10:nsIn K mainGlobals "fits_door"=some (some (.ref f10))) (l10:K.lookup f10=some ⟨oc10,od10, .func (fnOf "fits_door" "fits_door" (ar dt) (aq dt) (ae dt) .none kV10 dc10 pm10 an10 cd10 ct10),sl10⟩) (c10:codeIn K cd10 "fits_door"=true) (k10:keepIn K (.ref f10)=true)
  (a11:nsIn K mainGlobals "fits_doors"=some (some (.ref f11))) (l11:K.lookup f11=some ⟨oc11,od11, .func (fnOf "fits_doors" "fits_doors" (ar bN) (aq bN) (ae bN) .none kV11 dc11 pm11 an11 cd11 ct11),sl11⟩) (c11:codeIn K cd11 "fits_doors"=true) (k11:keepIn K (.ref f11)=true)
  (a12:nsIn K mainGlobals "common_divisor"=some (some (.ref f12))) (l12:K.lookup f12=some ⟨oc12,od12, .func (fnOf "common_divisor" "common_divisor" (ar bo) (aq bo) (ae bo) .none kV12 dc12 pm12 an12 cd12 ct12),sl12⟩) (c12:codeIn K cd12 "common_divisor"=true) (k12:keepIn K (.ref f12)=true)
  (a13:nsIn K mainGlobals "common_bottom"=some (some (.ref f13))) (l13:K.lookup f13=some ⟨oc13,od13, .func (fnOf "common_bottom" "common_bottom" (ar bA) (aq bA) (ae bA) .none kV13 dc13 pm13 an13 cd13 ct13),sl13⟩) (c13:codeIn K cd13 "common_bottom"=true) (k13:keepIn K (.ref f13)=true)
  (a14:nsIn K mainGlobals "fits_chances"=some (some (.ref f14))) (l14:K.lookup f14=some ⟨oc14,od14, .func (fnOf "fits_chances" "fits_chances" (ar aN) (aq aN) (ae aN) .none kV14 dc14 pm14 an14 cd14 ct14),sl14⟩) (c14:codeIn K cd14 "fits_chances"=true) (k14:keepIn K (.ref f14)=true)
  (a15:nsIn K mainGlobals "fits_row"=some (some (.ref f15))) (l15:K.lookup f15=some ⟨oc15,od15, .func (fnOf "fits_row" "fits_row" (ar cV) (aq cV) (ae cV) .none kV15 dc15 pm15 an15 cd15 ct15),sl15⟩) (c15:codeIn K cd15 "fits_row"=true) (k15:keepIn K (.ref f15)=true)
  (a16:nsIn K mainGlobals "copied_row"=some (some (.ref f16))) (l16:K.lookup f16=some ⟨oc16,od16, .func (fnOf "copied_row" "copied_row" (ar cK) (aq cK) (ae cK) .none kV16 dc16 pm16 an16 cd16 ct16),sl16⟩) (c16:codeIn K cd16 "copied_row"=true) (k16:keepIn K (.ref f16)=true)
  (a17:findIn K (.ref Cn) "__init__"=some (some (.ref f17))) (i17:isFn K (.ref f17)=true) (l17:K.lookup f17=some ⟨oc17,od17, .func (fnOf "__init__" "Floor.__init__" (ar bM) (aq bM) (ae bM) .none kV17 dc17 pm17 an17 cd17 ct17),sl17⟩) (c17:codeIn K cd17 "Floor.__init__"=true) (k17:keepIn K (.ref f17)=true)
  (a18:nsIn K mainGlobals "_law_share"=some (some (.ref f18))) (l18:K.lookup f18=some ⟨oc18,od18, .func (fnOf "_law_share" "_law_share" (ar de) (aq de) (ae de) .none kV18 dc18 pm18 an18 cd18 ct18),sl18⟩) (c18:codeIn K cd18 "_law_share"=true) (k18:keepIn K (.ref f18)=true)
  (a19:nsIn K mainGlobals "_law_plans"=some (some (.ref f19))) (l19:K.lookup f19=some ⟨oc19,od19, .func (fnOf "_law_plans" "_law_plans" (ar df) (aq df) (ae df) .none kV19 dc19 pm19 an19 cd19 ct19),sl19⟩) (c19:codeIn K cd19 "_law_plans"=true) (k19:keepIn K (.ref f19)=true)
  (a20:nsIn K mainGlobals "_law_spoilt"=some (some (.ref f20))) (l20:K.lookup f20=some ⟨oc20,od20, .func (fnOf "_law_spoilt" "_law_spoilt" (ar bK) (aq bK) (ae bK) .none kV20 dc20 pm20 an20 cd20 ct20),sl20⟩) (c20:codeIn K cd20 "_law_spoilt"=true) (k20:keepIn K (.ref f20)=true)
  (a21:findIn K (.ref Cn) "size"=some (some (.ref f21))) (i21:isFn K (.ref f21)=true) (l21:K.lookup f21=some ⟨oc21,od21, .func (fnOf "size" "Floor.size" (ar cG) (aq cG) (ae cG) .none kV21 dc21 pm21 an21 cd21 ct21),sl21⟩) (c21:codeIn K cd21 "Floor.size"=true) (k21:keepIn K (.ref f21)=true)
  (a22:findIn K (.ref Cn) "kind"=some (some (.ref f22))) (i22:isFn K (.ref f22)=true) (l22:K.lookup f22=some ⟨oc22,od22, .func (fnOf "kind" "Floor.kind" (ar cH) (aq cH) (ae cH) .none kV22 dc22 pm22 an22 cd22 ct22),sl22⟩) (c22:codeIn K cd22 "Floor.kind"=true) (k22:keepIn K (.ref f22)=true)
  (a23:findIn K (.ref Cn) "doors"=some (some (.ref f23))) (i23:isFn K (.ref f23)=true) (l23:K.lookup f23=some ⟨oc23,od23, .func (fnOf "doors" "Floor.doors" (ar cn) (aq cn) (ae cn) .none kV23 dc23 pm23 an23 cd23 ct23),sl23⟩) (c23:codeIn K cd23 "Floor.doors"=true) (k23:keepIn K (.ref f23)=true)
  (a24:nsIn K mainGlobals "has_door"=some (some (.ref f24))) (l24:K.lookup f24=some ⟨oc24,od24, .func (fnOf "has_door" "has_door" (ar e6) (aq e6) (ae e6) .none kV24 dc24 pm24 an24 cd24 ct24),sl24⟩) (c24:codeIn K cd24 "has_door"=true) (k24:keepIn K (.ref f24)=true)
  (a25:findIn K (.ref Cj) "__init__"=some (some (.ref f25))) (i25:isFn K (.ref f25)=true) (l25:K.lookup f25=some ⟨oc25,od25, .func (fnOf "__init__" "NoPlan.__init__" (ar cj) (aq cj) (ae cj) .none kV25 dc25 pm25 an25 cd25 ct25),sl25⟩) (c25:codeIn K cd25 "NoPlan.__init__"=true) (k25:keepIn K (.ref f25)=true)
  (a26:nsIn K mainGlobals "doors_of"=some (some (.ref f26))) (l26:K.lookup f26=some ⟨oc26,od26, .func (fnOf "doors_of" "doors_of" (ar e9) (aq e9) (ae e9) .none kV26 dc26 pm26 an26 cd26 ct26),sl26⟩) (c26:codeIn K cd26 "doors_of"=true) (k26:keepIn K (.ref f26)=true)
  (a27:findIn K (.ref Cn) "pay"=some (some (.ref f27))) (i27:isFn K (.ref f27)=true) (l27:K.lookup f27=some ⟨oc27,od27, .func (fnOf "pay" "Floor.pay" (ar dq) (aq dq) (ae dq) .none kV27 dc27 pm27 an27 cd27 ct27),sl27⟩) (c27:codeIn K cd27 "Floor.pay"=true) (k27:keepIn K (.ref f27)=true)
  (a28:nsIn K mainGlobals "first_means"=some (some (.ref f28))) (l28:K.lookup f28=some ⟨oc28,od28, .func (fnOf "first_means" "first_means" (ar bu) (aq bu) (ae bu) .none kV28 dc28 pm28 an28 cd28 ct28),sl28⟩) (c28:codeIn K cd28 "first_means"=true) (k28:keepIn K (.ref f28)=true)
  (a29:nsIn K mainGlobals "fraction"=some (some (.ref f29))) (l29:K.lookup f29=some ⟨oc29,od29, .func (fnOf "fraction" "fraction" (ar dj) (aq dj) (ae dj) .none kV29 dc29 pm29 an29 cd29 ct29),sl29⟩) (c29:codeIn K cd29 "fraction"=true) (k29:keepIn K (.ref f29)=true)
  (a30:nsIn K mainGlobals "plus"=some (some (.ref f30))) (l30:K.lookup f30=some ⟨oc30,od30, .func (fnOf "plus" "plus" (ar pT) (aq pT) (ae pT) .none kV30 dc30 pm30 an30 cd30 ct30),sl30⟩) (c30:codeIn K cd30 "plus"=true) (k30:keepIn K (.ref f30)=true)
  (a31:nsIn K mainGlobals "times"=some (some (.ref f31))) (l31:K.lookup f31=some ⟨oc31,od31, .func (fnOf "times" "times" (ar jj) (aq jj) (ae jj) .none kV31 dc31 pm31 an31 cd31 ct31),sl31⟩) (c31:codeIn K cd31 "times"=true) (k31:keepIn K (.ref f31)=true)
  (a32:findIn K (.ref Cn) "shown"=some (some (.ref f32))) (i32:isFn K (.ref f32)=true) (l32:K.lookup f32=some ⟨oc32,od32, .func (fnOf "shown" "Floor.shown" (ar cm) (aq cm) (ae cm) .none kV32 dc32 pm32 an32 cd32 ct32),sl32⟩) (c32:codeIn K cd32 "Floor.shown"=true) (k32:keepIn K (.ref f32)=true)
  (a33:nsIn K mainGlobals "weighed"=some (some (.ref f33))) (l33:K.lookup f33=some ⟨oc33,od33, .func (fnOf "weighed" "weighed" (ar eW) (aq eW) (ae eW) .none kV33 dc33 pm33 an33 cd33 ct33),sl33⟩) (c33:codeIn K cd33 "weighed"=true) (k33:keepIn K (.ref f33)=true)
  (a34:findIn K (.ref Cn) "all_shown"=some (some (.ref f34))) (i34:isFn K (.ref f34)=true) (l34:K.lookup f34=some ⟨oc34,od34, .func (fnOf "all_shown" "Floor.all_shown" (ar aM) (aq aM) (ae aM) .none kV34 dc34 pm34 an34 cd34 ct34),sl34⟩) (c34:codeIn K cd34 "Floor.all_shown"=true) (k34:keepIn K (.ref f34)=true)
  (a35:nsIn K mainGlobals "under"=some (some (.ref f35))) (l35:K.lookup f35=some ⟨oc35,od35, .func (fnOf "under" "under" (ar ji) (aq ji) (ae ji) .none kV35 dc35 pm35 an35 cd35 ct35),sl35⟩) (c35:codeIn K cd35 "under"=true) (k35:keepIn K (.ref f35)=true)
  (a36:nsIn K mainGlobals "greatest"=some (some (.ref f36))) (l36:K.lookup f36=some ⟨oc36,od36, .func (fnOf "greatest" "greatest" (ar dh) (aq dh) (ae dh) .none kV36 dc36 pm36 an36 cd36 ct36),sl36⟩) (c36:codeIn K cd36 "greatest"=true) (k36:keepIn K (.ref f36)=true)
  (a37:nsIn K mainGlobals "least"=some (some (.ref f37))) (l37:K.lookup f37=some ⟨oc37,od37, .func (fnOf "least" "least" (ar jk) (aq jk) (ae jk) .none kV37 dc37 pm37 an37 cd37 ct37),sl37⟩) (c37:codeIn K cd37 "least"=true) (k37:keepIn K (.ref f37)=true)
  (a38:findIn K (.ref Cn) "look"=some (some (.ref f38))) (i38:isFn K (.ref f38)=true) (l38:K.lookup f38=some ⟨oc38,od38, .func (fnOf "look" "Floor.look" (ar bL) (aq bL) (ae bL) .none kV38 dc38 pm38 an38 cd38 ct38),sl38⟩) (c38:codeIn K cd38 "Floor.look"=true) (k38:keepIn K (.ref f38)=true)
  (a39:nsIn K mainGlobals "more_means"=some (some (.ref f39))) (l39:K.lookup f39=some ⟨oc39,od39, .func (fnOf "more_means" "more_means" (ar cD) (aq cD) (ae cD) .none kV39 dc39 pm39 an39 cd39 ct39),sl39⟩) (c39:codeIn K cd39 "more_means"=true) (k39:keepIn K (.ref f39)=true)
  (a40:nsIn K mainGlobals "ways_from"=some (some (.ref f40))) (l40:K.lookup f40=some ⟨oc40,od40, .func (fnOf "ways_from" "ways_from" (ar dc) (aq dc) (ae dc) .none kV40 dc40 pm40 an40 cd40 ct40),sl40⟩) (c40:codeIn K cd40 "ways_from"=true) (k40:keepIn K (.ref f40)=true)
  (a41:nsIn K mainGlobals "chances_next"=some (some (.ref f41))) (l41:K.lookup f41=some ⟨oc41,od41, .func (fnOf "chances_next" "chances_next" (ar bO) (aq bO) (ae bO) .none kV41 dc41 pm41 an41 cd41 ct41),sl41⟩) (c41:codeIn K cd41 "chances_next"=true) (k41:keepIn K (.ref f41)=true)
  (a42:nsIn K mainGlobals "mean_of"=some (some (.ref f42))) (l42:K.lookup f42=some ⟨oc42,od42, .func (fnOf "mean_of" "mean_of" (ar eC) (aq eC) (ae eC) .none kV42 dc42 pm42 an42 cd42 ct42),sl42⟩) (c42:codeIn K cd42 "mean_of"=true) (k42:keepIn K (.ref f42)=true)
  (a43:nsIn K mainGlobals "_law_told"=some (some (.ref f43))) (l43:K.lookup f43=some ⟨oc43,od43, .func (fnOf "_law_told" "_law_told" (ar eX) (aq eX) (ae eX) .none kV43 dc43 pm43 an43 cd43 ct43),sl43⟩) (c43:codeIn K cd43 "_law_told"=true) (k43:keepIn K (.ref f43)=true)
  (a44:nsIn K mainGlobals "_law_refused"=some (some (.ref f44))) (l44:K.lookup f44=some ⟨oc44,od44, .func (fnOf "_law_refused" "_law_refused" (ar ck) (aq ck) (ae ck) .none kV44 dc44 pm44 an44 cd44 ct44),sl44⟩) (c44:codeIn K cd44 "_law_refused"=true) (k44:keepIn K (.ref f44)=true)
  (a45:nsIn K mainGlobals "law"=some (some (.ref f45))) (l45:K.lookup f45=some ⟨oc45,od45, .func (fnOf "law" "law" (ar uQ) (aq uQ) (ae uQ) .none kV45 dc45 pm45 an45 cd45 ct45),sl45⟩) (c45:codeIn K cd45 "law"=true) (k45:keepIn K (.ref f45)=true)
  (z_len:nsIn K mainGlobals "len"=some none)
  (z_abs:nsIn K mainGlobals "abs"=some none)
  (z_isinstance:nsIn K mainGlobals "isinstance"=some none)
  (z_int:nsIn K mainGlobals "int"=some none)
  (z_bool:nsIn K mainGlobals "bool"=some none)
  (z_str:nsIn K mainGlobals "str"=some none)
  (z_tuple:nsIn K mainGlobals "tuple"=some none)
  (z_list:nsIn K mainGlobals "list"=some none)
  (z_range:nsIn K mainGlobals "range"=some none)
  (z_enumerate:nsIn K mainGlobals "enumerate"=some none)
  (z_any:nsIn K mainGlobals "any"=some none)
  (z_all:nsIn K mainGlobals "all"=some none)
  (z_sum:nsIn K mainGlobals "sum"=some none)
  (z_zip:nsIn K mainGlobals "zip"=some none)
  (z_max:nsIn K mainGlobals "max"=some none)
  (z_min:nsIn K mainGlobals "min"=some none)
  (z_ValueError:nsIn K mainGlobals "ValueError"=some none)
  (z_dict:nsIn K mainGlobals "dict"=some none)
  (iD_sp:specialIn K (.ref Ca) "__getattribute__"=some (some (.builtin "type.__getattribute__")))
  (iD_rd:readsIn K Ca (.type "type")=true)
  (iD_fd:findCls K (.ref Ca) (.type "type") "__init__"=some (.val (.builtin "ValueError.__init__")))
  (tNoPlan_cls:isClsIn K Cj=true)
  (tNoPlan_ga:findIn K (.ref Cj) "__getattribute__"=some (some (.builtin "BaseException.__getattribute__")))
  (tNoPlan_gt:findIn K (.ref Cj) "__getattr__"=some none)
  (tNoPlan_cl:findIn K (.ref Cj) "__class__"=some (some (.builtin "object.__class__")))
  (tNoPlan_ob:mroIn K Cj (.type "object")=some true)
  (tNoPlan_be:subIn K (.ref Cj) (.type "BaseException")=some true)
  (sNoPlan:subIn K (.ref Cj) (.ref Ca)=some true)
  (kv_NoPlan:kitOne K (.ref Cj) (.type "ValueError")=some true)
  (hdNoPlan:hasDictIn K Cj=true)
  (tk_NoPlan_place:takerIn K Cj "place"=some none)
  (nf_NoPlan_place:findIn K (.ref Cj) "place"=some none)
  (kx_NoPlan_NoNumber:kitOne K (.ref Cj) (.ref Cm)=some false)
  (kx_NoPlan_NoFloor:kitOne K (.ref Cj) (.ref Cg)=some false)
  (kx_NoPlan_NoText:kitOne K (.ref Cj) (.ref Ce)=some false)
  (kx_NoPlan_NoName:kitOne K (.ref Cj) (.ref Cf)=some false)
  (kx_NoPlan_NoPlace:kitOne K (.ref Cj) (.ref Ci)=some false)
  (kx_NoPlan_NoGoal:kitOne K (.ref Cj) (.ref Ck)=some false)
  (kx_NoPlan_NoAnswer:kitOne K (.ref Cj) (.ref Cb)=some false)
  (kx_NoPlan_ManyAnswers:kitOne K (.ref Cj) (.ref Cd)=some false)
  (kx_NoPlan_NoRow:kitOne K (.ref Cj) (.ref Cl)=some false)
  (oINoPlan:L2.tG K Cj [.type "ValueError", .type "Exception", .type "BaseException", .type "object"] "ValueError.__new__" f25=true)
  (saNoPlan:findIn K (.ref Cj) "__setattr__"=some (some (.builtin "object.__setattr__")))
  (ovNoPlan:excOver K Cj=true)
  :∃fd:FuncData,(∀(s:Shared) (v:Value),BindsTo s fd ⟨[v],[]⟩ [("_law_script",v)])∧∀base:Heap,K.In base→base.Ns mainGlobals mg→bC l.prog w K mg base CX0 10 fa fd ["_law_script"] (qN K):=by
 have e:=hfa.symm.trans (mg_of X G a45)
 cases e
 have mENoNumber:=mg_of X G aENoNumber
 have ENoNumber:dG K Cm _ _:=⟨xENoNumber⟩
 have mENoFloor:=mg_of X G aENoFloor
 have ENoFloor:dG K Cg _ _:=⟨xENoFloor⟩
 have mEDuelError:=mg_of X G aEDuelError
 have EDuelError:dG K Ca _ _:=⟨xEDuelError⟩
 have mcMOST_DOORS:=mg_of X G acMOST_DOORS
 have mcMOST_BOTTOM:=mg_of X G acMOST_BOTTOM
 have mcMOST_PLACES:=mg_of X G acMOST_PLACES
 have mcMOST_SHARE_BOTTOM:=mg_of X G acMOST_SHARE_BOTTOM
 have F1:=aC (st:=gh) l1 c1 k1
 have m1:=mg_of X G a1
 have b1:=F1.binds (ps:=["_law_script","_law_k"]) fun _ _ _ _ _ _=>dN fun _ _=>rfl
 have F2:=aC (st:=cE) l2 c2 k2
 have m2:=mg_of X G a2
 have b2:=F2.binds (ps:=["_law_script","_law_k"]) fun _ _ _ _ _ _=>dN fun _ _=>rfl
 have F3:=aC (st:=cF) l3 c3 k3
 have m3:=mg_of X G a3
 have b3:=F3.binds (ps:=["_law_top","_law_bottom"]) fun _ _ _ _ _ _=>dN fun _ _=>rfl
 have F4:=aC (st:=gf) l4 c4 k4
 have m4:=mg_of X G a4
 have b4:=F4.binds (ps:=["_law_number_here"]) fun _ _ _ _ _ _=>iw fun _=>rfl
 have F5:=aC (st:=eZ) l5 c5 k5
 have m5:=mg_of X G a5
 have b5:=F5.binds (ps:=["_law_script","_law_k"]) fun _ _ _ _ _ _=>dN fun _ _=>rfl
 have F6:=aC (st:=bD) l6 c6 k6
 have m6:=mg_of X G a6
 have b6:=F6.binds (ps:=["_law_script","_law_at","_law_kind","_law_many","_law_size"]) fun _ _ _ _ _ _=>Ao fun _ _ _ _ _=>rfl
 have F7:=aC (st:=eY) l7 c7 k7
 have m7:=mg_of X G a7
 have b7:=F7.binds (ps:=["_law_script","_law_most","_law_wide"]) fun _ _ _ _ _ _=>i4 fun _ _ _=>rfl
 have F8:=aC (st:=cJ) l8 c8 k8
 have m8:=mg_of X G a8
 have b8:=F8.binds (ps:=["share"]) fun _ _ _ _ _ _=>iw fun _=>rfl
 have F9:=aC (st:=e7) l9 c9 k9
 have m9:=mg_of X G a9
 have b9:=F9.binds (ps:=["pay"]) fun _ _ _ _ _ _=>iw fun _=>rfl
 have F10:=aC (st:=dt) l10 c10 k10
 have m10:=mg_of X G a10
 have b10:=F10.binds (ps:=["door","size"]) fun _ _ _ _ _ _=>dN fun _ _=>rfl
 have F11:=aC (st:=bN) l11 c11 k11
 have m11:=mg_of X G a11
 have b11:=F11.binds (ps:=["doors","size"]) fun _ _ _ _ _ _=>dN fun _ _=>rfl
 have F12:=aC (st:=bo) l12 c12 k12
 have m12:=mg_of X G a12
 have b12:=F12.binds (ps:=["one","other"]) fun _ _ _ _ _ _=>dN fun _ _=>rfl
 have F13:=aC (st:=bA) l13 c13 k13
 have m13:=mg_of X G a13
 have b13:=F13.binds (ps:=["chances"]) fun _ _ _ _ _ _=>iw fun _=>rfl
 have F14:=aC (st:=aN) l14 c14 k14
 have m14:=mg_of X G a14
 have b14:=F14.binds (ps:=["chances"]) fun _ _ _ _ _ _=>iw fun _=>rfl
 have F15:=aC (st:=cV) l15 c15 k15
 have m15:=mg_of X G a15
 have b15:=F15.binds (ps:=["row","size"]) fun _ _ _ _ _ _=>dN fun _ _=>rfl
 have F16:=aC (st:=cK) l16 c16 k16
 have m16:=mg_of X G a16
 have b16:=F16.binds (ps:=["row"]) fun _ _ _ _ _ _=>iw fun _=>rfl
 have F17:=aC (st:=bM) l17 c17 k17
 have b17:=F17.binds (ps:=["self","share","rows"]) fun _ _ _ _ _ _=>i4 fun _ _ _=>rfl
 have F18:=aC (st:=de) l18 c18 k18
 have m18:=mg_of X G a18
 have b18:=F18.binds (ps:=["_law_number_here"]) fun _ _ _ _ _ _=>iw fun _=>rfl
 have F19:=aC (st:=df) l19 c19 k19
 have m19:=mg_of X G a19
 have b19:=F19.binds (ps:=["_law_script","_law_rows_here","_law_at"]) fun _ _ _ _ _ _=>i4 fun _ _ _=>rfl
 have F20:=aC (st:=bK) l20 c20 k20
 have m20:=mg_of X G a20
 have b20:=F20.binds (ps:=["_law_script","_law_rows_here","_law_plans_here"]) fun _ _ _ _ _ _=>i4 fun _ _ _=>rfl
 have F21:=aC (st:=cG) l21 c21 k21
 have b21:=F21.binds (ps:=["self"]) fun _ _ _ _ _ _=>iw fun _=>rfl
 have F22:=aC (st:=cH) l22 c22 k22
 have b22:=F22.binds (ps:=["self","place"]) fun _ _ _ _ _ _=>dN fun _ _=>rfl
 have F23:=aC (st:=cn) l23 c23 k23
 have b23:=F23.binds (ps:=["self","place"]) fun _ _ _ _ _ _=>dN fun _ _=>rfl
 have F24:=aC (st:=e6) l24 c24 k24
 have m24:=mg_of X G a24
 have b24:=F24.binds (ps:=["floor","plan","place"]) fun _ _ _ _ _ _=>i4 fun _ _ _=>rfl
 have F25:=aC (st:=cj) l25 c25 k25
 have b25:=F25.binds (ps:=["self","place"]) fun _ _ _ _ _ _=>dN fun _ _=>rfl
 have F26:=aC (st:=e9) l26 c26 k26
 have m26:=mg_of X G a26
 have b26:=F26.binds (ps:=["floor","plans"]) fun _ _ _ _ _ _=>dN fun _ _=>rfl
 have F27:=aC (st:=dq) l27 c27 k27
 have b27:=F27.binds (ps:=["self","place"]) fun _ _ _ _ _ _=>dN fun _ _=>rfl
 have F28:=aC (st:=bu) l28 c28 k28
 have m28:=mg_of X G a28
 have b28:=F28.binds (ps:=["floor"]) fun _ _ _ _ _ _=>iw fun _=>rfl
 have F29:=aC (st:=dj) l29 c29 k29
 have m29:=mg_of X G a29
 have b29:=F29.binds (ps:=["top","bottom"]) fun _ _ _ _ _ _=>dN fun _ _=>rfl
 have F30:=aC (st:=pT) l30 c30 k30
 have m30:=mg_of X G a30
 have b30:=F30.binds (ps:=["one","other"]) fun _ _ _ _ _ _=>dN fun _ _=>rfl
 have F31:=aC (st:=jj) l31 c31 k31
 have m31:=mg_of X G a31
 have b31:=F31.binds (ps:=["one","other"]) fun _ _ _ _ _ _=>dN fun _ _=>rfl
 have F32:=aC (st:=cm) l32 c32 k32
 have b32:=F32.binds (ps:=["self","place","door","table"]) fun _ _ _ _ _ _=>Ap fun _ _ _ _=>rfl
 have F33:=aC (st:=eW) l33 c33 k33
 have m33:=mg_of X G a33
 have b33:=F33.binds (ps:=["chances","numbers"]) fun _ _ _ _ _ _=>dN fun _ _=>rfl
 have F34:=aC (st:=aM) l34 c34 k34
 have b34:=F34.binds (ps:=["self","place","table"]) fun _ _ _ _ _ _=>i4 fun _ _ _=>rfl
 have F35:=aC (st:=ji) l35 c35 k35
 have m35:=mg_of X G a35
 have b35:=F35.binds (ps:=["one","other"]) fun _ _ _ _ _ _=>dN fun _ _=>rfl
 have F36:=aC (st:=dh) l36 c36 k36
 have m36:=mg_of X G a36
 have b36:=F36.binds (ps:=["numbers"]) fun _ _ _ _ _ _=>iw fun _=>rfl
 have F37:=aC (st:=jk) l37 c37 k37
 have m37:=mg_of X G a37
 have b37:=F37.binds (ps:=["numbers"]) fun _ _ _ _ _ _=>iw fun _=>rfl
 have F38:=aC (st:=bL) l38 c38 k38
 have b38:=F38.binds (ps:=["self","place","table"]) fun _ _ _ _ _ _=>i4 fun _ _ _=>rfl
 have F39:=aC (st:=cD) l39 c39 k39
 have m39:=mg_of X G a39
 have b39:=F39.binds (ps:=["floor","doors","means"]) fun _ _ _ _ _ _=>i4 fun _ _ _=>rfl
 have F40:=aC (st:=dc) l40 c40 k40
 have m40:=mg_of X G a40
 have b40:=F40.binds (ps:=["floor","place","doors"]) fun _ _ _ _ _ _=>i4 fun _ _ _=>rfl
 have F41:=aC (st:=bO) l41 c41 k41
 have m41:=mg_of X G a41
 have b41:=F41.binds (ps:=["floor","doors","chances"]) fun _ _ _ _ _ _=>i4 fun _ _ _=>rfl
 have F42:=aC (st:=eC) l42 c42 k42
 have m42:=mg_of X G a42
 have b42:=F42.binds (ps:=["floor","plan_one","plan_other","place","turns"]) fun _ _ _ _ _ _=>Ao fun _ _ _ _ _=>rfl
 have F43:=aC (st:=eX) l43 c43 k43
 have m43:=mg_of X G a43
 have b43:=F43.binds (ps:=["_law_floor","_law_plans_here","_law_place","_law_turns"]) fun _ _ _ _ _ _=>Ap fun _ _ _ _=>rfl
 have F44:=aC (st:=ck) l44 c44 k44
 have m44:=mg_of X G a44
 have b44:=F44.binds (ps:=["_law_error","_law_due"]) fun _ _ _ _ _ _=>dN fun _ _=>rfl
 have F45:=aC (st:=uQ) l45 c45 k45
 have m45:=mg_of X G a45
 have n_len:=mg_none_of X G z_len
 have n_abs:=mg_none_of X G z_abs
 have n_isinstance:=mg_none_of X G z_isinstance
 have n_int:=mg_none_of X G z_int
 have n_bool:=mg_none_of X G z_bool
 have n_str:=mg_none_of X G z_str
 have n_tuple:=mg_none_of X G z_tuple
 have n_list:=mg_none_of X G z_list
 have n_range:=mg_none_of X G z_range
 have n_enumerate:=mg_none_of X G z_enumerate
 have n_any:=mg_none_of X G z_any
 have n_all:=mg_none_of X G z_all
 have n_sum:=mg_none_of X G z_sum
 have n_zip:=mg_none_of X G z_zip
 have n_max:=mg_none_of X G z_max
 have n_min:=mg_none_of X G z_min
 have n_ValueError:=mg_none_of X G z_ValueError
 have n_dict:=mg_none_of X G z_dict
 have E:Ev K mg Cn Cm Cg Ca Cj Ce Cf Ci Ck Cb Cd Cl:={n_len:=n_len,n_abs:=n_abs,n_isinstance:=n_isinstance,n_int:=n_int,n_bool:=n_bool,n_str:=n_str,n_tuple:=n_tuple,n_list:=n_list,n_range:=n_range,n_enumerate:=n_enumerate,n_any:=n_any,n_all:=n_all,n_sum:=n_sum,n_zip:=n_zip,n_max:=n_max,n_min:=n_min,n_ValueError:=n_ValueError,ib:=lK ks_int_bool,kis:=nK ks_int_str,kts:=ka ks_tuple_str,kti:=kc ks_tuple_int,kls:=lI ks_list_str,kli:=lJ ks_list_int,ktl:=i5 ks_tuple_list,klt:=i6 ks_list_tuple,mNoNumber:=mENoNumber,mNoFloor:=mENoFloor,mDuelError:=mEDuelError,mNoPlan:=mg_of X G aXNoPlan,mNoText:=mg_of X G aXNoText,mNoName:=mg_of X G aXNoName,mNoPlace:=mg_of X G aXNoPlace,mNoGoal:=mg_of X G aXNoGoal,mNoAnswer:=mg_of X G aXNoAnswer,mManyAnswers:=mg_of X G aXManyAnswers,mNoRow:=mg_of X G aXNoRow,eNoNumber:=ENoNumber,eNoFloor:=ENoFloor,eDuelError:=EDuelError,iDuelError:=⟨iD_sp,iD_rd,iD_fd,by decide⟩,tNoPlan:=⟨tNoPlan_cls,tNoPlan_ga,tNoPlan_gt,tNoPlan_cl,tNoPlan_ob,tNoPlan_be⟩,sNoPlan:=sNoPlan,kv_NoPlan:=kv_NoPlan,k_NoPlan_place:=⟨tk_NoPlan_place⟩,x_NoPlan_place:=⟨nf_NoPlan_place,hdNoPlan⟩,kx_NoPlan_NoNumber:=kx_NoPlan_NoNumber,kx_NoPlan_NoFloor:=kx_NoPlan_NoFloor,kx_NoPlan_NoText:=kx_NoPlan_NoText,kx_NoPlan_NoName:=kx_NoPlan_NoName,kx_NoPlan_NoPlace:=kx_NoPlan_NoPlace,kx_NoPlan_NoGoal:=kx_NoPlan_NoGoal,kx_NoPlan_NoAnswer:=kx_NoPlan_NoAnswer,kx_NoPlan_ManyAnswers:=kx_NoPlan_ManyAnswers,kx_NoPlan_NoRow:=kx_NoPlan_NoRow,clsFloor:=⟨pgFloor,hdFloor,poFloor,saFloor⟩,na_kept_rows:=nf_kept_rows,na_kept_share:=nf_kept_share,n_dict:=n_dict,mHANDS:=⟨_,_,_,_,mg_of X G at_HANDS,lt_HANDS,rfl,rfl,(by show 2≤sizeLine;decide), .cons ⟨_,rfl⟩ (.cons ⟨_,rfl⟩ .nil)⟩,mMOST_DOORS:=⟨_,mcMOST_DOORS⟩,mMOST_BOTTOM:=⟨_,mcMOST_BOTTOM⟩,mMOST_PLACES:=⟨_,mcMOST_PLACES⟩,mMOST_SHARE_BOTTOM:=⟨_,mcMOST_SHARE_BOTTOM⟩}
 refine ⟨fnOf "law" "law" (ar uQ) (aq uQ) (ae uQ) .none kV45 dc45 pm45 an45 cd45 ct45,fun s v=> .of_eq rfl,fun base _ _=> ?_⟩
 have c_LawFar:aR l.prog w K mg base 1 "_law_far" ["_law_script","_law_k"] BI _ _:=⟨rV F1 E,b1,m1,k1⟩
 have c_LawNumber:aR l.prog w K mg base 2 "_law_number" ["_law_script","_law_k"] uo _ _:=⟨lj F2 E c_LawFar,b2,m2,k2⟩
 have c_LawLowest:aR l.prog w K mg base 1 "_law_lowest" ["_law_top","_law_bottom"] Bs _ _:=⟨lr F3 E,b3,m3,k3⟩
 have c_LawPay:aR l.prog w K mg base 2 "_law_pay" ["_law_number_here"] vZ _ _:=⟨rT F4 E c_LawLowest,b4,m4,k4⟩
 have c_LawRest:aR l.prog w K mg base 3 "_law_rest" ["_law_script","_law_k"] uo _ _:=⟨pY F5 E c_LawNumber c_LawFar,b5,m5,k5⟩
 have c_LawDoors:aR l.prog w K mg base 4 "_law_doors" ["_law_script","_law_at","_law_kind","_law_many","_law_size"] ou _ _:=⟨nz F6 E c_LawNumber c_LawPay c_LawRest c_LawLowest,b6,m6,k6⟩
 have c_LawRows:aR l.prog w K mg base 5 "_law_rows" ["_law_script","_law_most","_law_wide"] uj _ _:=⟨pX F7 E c_LawNumber c_LawPay c_LawDoors,b7,m7,k7⟩
 have c_FitsShare:aR l.prog w K mg base 1 "fits_share" ["share"] gC _ _:=⟨lB F8 E,b8,m8,k8⟩
 have c_FitsPay:aR l.prog w K mg base 1 "fits_pay" ["pay"] hG _ _:=⟨p7 F9 E,b9,m9,k9⟩
 have c_FitsDoor:aR l.prog w K mg base 2 "fits_door" ["door","size"] iR _ _:=⟨nD F10 E c_FitsPay,b10,m10,k10⟩
 have c_FitsDoors:aR l.prog w K mg base 3 "fits_doors" ["doors","size"] gD _ _:=⟨lC F11 E c_FitsDoor,b11,m11,k11⟩
 have c_CommonDivisor:aR l.prog w K mg base 1 "common_divisor" ["one","other"] zc _ _:=⟨gL F12 E,b12,m12,k12⟩
 have c_CommonBottom:aR l.prog w K mg base 2 "common_bottom" ["chances"] d9 _ _:=⟨ip F13 E c_CommonDivisor,b13,m13,k13⟩
 have c_FitsChances:aR l.prog w K mg base 3 "fits_chances" ["chances"] eR _ _:=⟨iY F14 E c_CommonBottom,b14,m14,k14⟩
 have c_FitsRow:aR l.prog w K mg base 4 "fits_row" ["row","size"] kz _ _:=⟨p5 F15 E c_FitsPay c_FitsDoors c_FitsChances,b15,m15,k15⟩
 have c_CopiedRow:aR l.prog w K mg base 1 "copied_row" ["row"] gE _ _:=⟨lD F16 E,b16,m16,k16⟩
 have c_FloorInit:DM l.prog w K mg base 5 "Floor" Cn ["self","share","rows"] (yY Cn) _ _:=⟨lA F17 E c_FitsShare c_FitsRow c_CopiedRow,b17,⟨mkFloor,a17,i17,kcFloor⟩,mg_of X G aCFloor⟩
 have c_LawShare:aR l.prog w K mg base 2 "_law_share" ["_law_number_here"] ot _ _:=⟨nv F18 E c_LawLowest,b18,m18,k18⟩
 have c_LawPlans:aR l.prog w K mg base 3 "_law_plans" ["_law_script","_law_rows_here","_law_at"] um _ _:=⟨ny F19 E c_LawNumber,b19,m19,k19⟩
 have c_LawSpoilt:aR l.prog w K mg base 3 "_law_spoilt" ["_law_script","_law_rows_here","_law_plans_here"] oo _ _:=⟨lh F20 E c_LawNumber,b20,m20,k20⟩
 have c_FloorSize:fM l.prog w K mg base 1 Cn "size" ["self"] (oq Cn) _ _:=⟨lu F21 E,b21,⟨pgFloor,hdFloor,poFloor,saFloor⟩,⟨a21,i21,k21⟩⟩
 have c_FloorKind:fM l.prog w K mg base 1 Cn "kind" ["self","place"] (mC Cn) _ _:=⟨lz F22 E,b22,⟨pgFloor,hdFloor,poFloor,saFloor⟩,⟨a22,i22,k22⟩⟩
 have c_FloorDoors:fM l.prog w K mg base 2 Cn "doors" ["self","place"] (jF Cn) _ _:=⟨jZ F23 E c_FloorKind,b23,⟨pgFloor,hdFloor,poFloor,saFloor⟩,⟨a23,i23,k23⟩⟩
 have c_HasDoor:aR l.prog w K mg base 3 "has_door" ["floor","plan","place"] (DG Cn) _ _:=⟨pZ F24 E c_FloorDoors,b24,m24,k24⟩
 have c_NoplanInit:XcD l.prog w K mg base 1 "NoPlan" Cj VB "ValueError.__new__" ["self","place"] TNp _ _:=⟨jW F25 E ⟨oINoPlan,i25,saNoPlan,ovNoPlan⟩,b25,⟨oINoPlan,i25,saNoPlan,ovNoPlan⟩,mg_of X G aXNoPlan⟩
 have c_DoorsOf:aR l.prog w K mg base 4 "doors_of" ["floor","plans"] (kB Cn Cj) _ _:=⟨p9 F26 E c_FloorSize c_FloorKind c_HasDoor c_NoplanInit,b26,m26,k26⟩
 have c_FloorPay:fM l.prog w K mg base 2 Cn "pay" ["self","place"] (BH Cn) _ _:=⟨nC F27 E c_FloorKind,b27,⟨pgFloor,hdFloor,poFloor,saFloor⟩,⟨a27,i27,k27⟩⟩
 have c_FirstMeans:aR l.prog w K mg base 3 "first_means" ["floor"] (uq Cn) _ _:=⟨j3 F28 E c_FloorSize c_FloorPay,b28,m28,k28⟩
 have c_Fraction:aR l.prog w K mg base 2 "fraction" ["top","bottom"] (qx Cm) _ _:=⟨nB F29 E c_CommonDivisor,b29,m29,k29⟩
 have c_Plus:aR l.prog w K mg base 3 "plus" ["one","other"] uk _ _:=⟨x6 F30 E c_Fraction,b30,m30,k30⟩
 have c_Times:aR l.prog w K mg base 3 "times" ["one","other"] mB _ _:=⟨ve F31 E c_Fraction,b31,m31,k31⟩
 have c_FloorShown:fM l.prog w K mg base 4 Cn "shown" ["self","place","door","table"] (pG Cn) _ _:=⟨jY F32 E c_Plus c_Times,b32,⟨pgFloor,hdFloor,poFloor,saFloor⟩,⟨a32,i32,k32⟩⟩
 have c_Weighed:aR l.prog w K mg base 4 "weighed" ["chances","numbers"] ku _ _:=⟨pV F33 E c_Plus c_Times,b33,m33,k33⟩
 have c_FloorAllShown:fM l.prog w K mg base 5 Cn "all_shown" ["self","place","table"] (iS Cn) _ _:=⟨gK F34 E c_FloorDoors c_FloorShown,b34,⟨pgFloor,hdFloor,poFloor,saFloor⟩,⟨a34,i34,k34⟩⟩
 have c_Under:aR l.prog w K mg base 1 "under" ["one","other"] uy _ _:=⟨vd F35 E,b35,m35,k35⟩
 have c_Greatest:aR l.prog w K mg base 2 "greatest" ["numbers"] uy _ _:=⟨nA F36 E c_Under,b36,m36,k36⟩
 have c_Least:aR l.prog w K mg base 2 "least" ["numbers"] uy _ _:=⟨vf F37 E c_Under,b37,m37,k37⟩
 have c_FloorLook:fM l.prog w K mg base 6 Cn "look" ["self","place","table"] (yX Cn) _ _:=⟨ly F38 E c_FloorKind c_FloorPay c_Weighed c_FloorAllShown c_FloorDoors c_Greatest c_Least,b38,⟨pgFloor,hdFloor,poFloor,saFloor⟩,⟨a38,i38,k38⟩⟩
 have c_MoreMeans:aR l.prog w K mg base 7 "more_means" ["floor","doors","means"] (yV Cn) _ _:=⟨lg F39 E c_FloorSize c_FloorShown c_FloorLook,b39,m39,k39⟩
 have c_WaysFrom:aR l.prog w K mg base 3 "ways_from" ["floor","place","doors"] (yS Cn) _ _:=⟨nr F40 E c_FloorDoors c_FloorKind,b40,m40,k40⟩
 have c_ChancesNext:aR l.prog w K mg base 4 "chances_next" ["floor","doors","chances"] (yU Cn) _ _:=⟨iZ F41 E c_FloorSize c_FloorKind c_Plus c_WaysFrom c_Times,b41,m41,k41⟩
 have c_MeanOf:aR l.prog w K mg base 8 "mean_of" ["floor","plan_one","plan_other","place","turns"] (yW Cn Cj) _ _:=⟨rS F42 E c_DoorsOf c_FirstMeans c_FloorSize c_MoreMeans c_ChancesNext,b42,m42,k42⟩
 have c_LawTold:aR l.prog w K mg base 9 "_law_told" ["_law_floor","_law_plans_here","_law_place","_law_turns"] (yT Cn Cj) _ _:=⟨pW F43 E c_MeanOf,b43,m43,k43⟩
 have c_LawRefused:aR l.prog w K mg base 1 "_law_refused" ["_law_error","_law_due"] (ky Cj) _ _:=⟨jX F44 E,b44,m44,k44⟩
 exact Aq (Ai F45 E c_LawRows c_FloorInit c_LawShare c_LawNumber c_LawPlans c_LawSpoilt c_LawTold c_LawRefused)
theorem EG{l:PySem.W.OpenLaw}{q:Program}{loose:List Str}{XP:(Str→Option Value)→Heap→Prop}{YP:World→Heap→Prop}{d:DefRec}{K:Params→PySem.W.Frag}(hn:l.most=some 63)(hdf:d.params.defaults=[])
  (hY:∀(w:World) (h:Heap),YP w h→(K w.params).In h)
  (F:∀(w:World) (mg:Str→Option Value) (fa:Addr) (h:Heap),(K w.params).In h→h.Ns mainGlobals mg→mg d.name=some (.ref fa)→
   ∃fd:FuncData,(∀(s:Shared) (u:Value),BindsTo s fd ⟨[u],[]⟩ [("_law_script",u)])∧∀base:Heap,(K w.params).In base→base.Ns mainGlobals mg→bC l.prog w (K w.params) mg base CX0 10 fa fd ["_law_script"] (qN (K w.params))):
  PySem.W.WalkO q loose XP YP l.row.toRowW d [] (fun f vs=>PySem.call f vs):=
 L2.mL (n:=63) (k:=10) (x:="_law_script") (CX:=fun _=>CX0) (sp:=fun w=>qN (K w.params)) hn (by decide) hdf ⟨rfl,by decide,by decide⟩ hY F (fun _ _ a ns hl _ hS=>⟨a,ns,rfl,hS,hl,fun _=>rfl⟩) fun _ _ _ _ _ z=>z
end Pg
open PySem PySem.W PyProof.Rows
set_option maxRecDepth 100000 in
set_option maxHeartbeats 0 in
theorem PySem.Challenge.cw_chanceduel_k65_no_plan_for_a_mean_holds : PySem.Challenge.rw_chanceduel_k65_no_plan_for_a_mean.Holds := by
 w_on;o_law
 refine holds_open (q:=Hd.q) (loose:=[]) (Xt:=Hd.Xt) (XP:=XL Hd.q [])
  (Yf:=Hd.H.obs) (Ya:=Hd.H.val) (YP:=Hd.H.says) Hd.left Hd.H.of Hd.H.keeps
  (fun s e=>xl_of s (Bool.and_eq_true_iff.mp e).1) XL.keeps (by rfl) (by rfl) (by rfl)
  (fun s e=>recFacts_of (Bool.and_eq_true_iff.mp e).2) (by rfl) (by assumption) (by decide+kernel)
  ⟨rfl,rfl,rfl,rfl,rfl,by decide+kernel⟩ ?hw ?hc
 (case hw=>w_witness2)
 refine Pg.EG (l:=PySem.Challenge.rw_chanceduel_k65_no_plan_for_a_mean) rfl rfl (fun w h Y=>PySem.W.kIn_of Y) ?F
 case F=>
  k_fill
  intro w mg fa h KX G hmg
  refine' Pg.Bp KX G hmg ?_ ?_ ?_ ?_ ?_ ?_ ?_ ?_ ?_ ?_ ?_ ?_ ?_ ?_ ?_ ?_ ?_ ?_ ?_ ?_ ?_ ?_ ?_ ?_ ?_ ?_ ?_ ?_ ?_ ?_ ?_ ?_ ?_ ?_ ?_ ?_ ?_ ?_ ?_ ?_ ?_ ?_ ?_ ?_ ?_ ?_ ?_ ?_ ?_ ?_ ?_ ?_ ?_ ?_ ?_ ?_ ?_ ?_ ?_ ?_ ?_ ?_ ?_ ?_ ?_ ?_ ?_ ?_ ?_ ?_ ?_ ?_ ?_ ?_ ?_ ?_ ?_ ?_ ?_ ?_ ?_ ?_ ?_ ?_ ?_ ?_ ?_ ?_ ?_ ?_ ?_ ?_ ?_ ?_ ?_ ?_ ?_ ?_ ?_ ?_ ?_ ?_ ?_ ?_ ?_ ?_ ?_ ?_ ?_ ?_ ?_ ?_ ?_ ?_ ?_ ?_ ?_ ?_ ?_ ?_ ?_ ?_ ?_ ?_ ?_ ?_ ?_ ?_ ?_ ?_ ?_ ?_ ?_ ?_ ?_ ?_ ?_ ?_ ?_ ?_ ?_ ?_ ?_ ?_ ?_ ?_ ?_ ?_ ?_ ?_ ?_ ?_ ?_ ?_ ?_ ?_ ?_ ?_ ?_ ?_ ?_ ?_ ?_ ?_ ?_ ?_ ?_ ?_ ?_ ?_ ?_ ?_ ?_ ?_ ?_ ?_ ?_ ?_ ?_ ?_ ?_ ?_ ?_ ?_ ?_ ?_ ?_ ?_ ?_ ?_ ?_ ?_ ?_ ?_ ?_ ?_ ?_ ?_ ?_ ?_ ?_ ?_ ?_ ?_ ?_ ?_ ?_ ?_ ?_ ?_ ?_ ?_ ?_ ?_ ?_ ?_ ?_ ?_ ?_ ?_ ?_ ?_ ?_ ?_ ?_ ?_ ?_ ?_ ?_ ?_ ?_ ?_ ?_ ?_ ?_ ?_ ?_ ?_ ?_ ?_ ?_ ?_ ?_ ?_ ?_ ?_ ?_ ?_ ?_ ?_ ?_ ?_ ?_ ?_ ?_ ?_ ?_ ?_ ?_ ?_ ?_ ?_ ?_ ?_ ?_ ?_ ?_ ?_ ?_ ?_
  all_goals try first | k_is | k_exc | kernel_rfl
